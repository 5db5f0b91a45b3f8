import Derived.Test.YtolgebdmffcemaaGreatDoorQ02
import Derived.Test.YtolgebdmffcemaaGreatDoorQ03
set_option linter.all false
set_option maxHeartbeats 20000000
set_option maxRecDepth 1000000
open Go.World renaming ask→eR,freeze→eU
open Bool renaming false_eq_true→eL,not_true→eN,and_false→iA
open Nat renaming add_zero→eS,add_assoc→eT,le_trans→eQ,le_refl→eP,le_of_eq→eX
open Go.Frame renaming enter→eW,finish→iB,raise→iD,round→iF,ofRow→iG
open List renaming mem_cons_self→eY,mem_cons_of_mem→hU,mem_cons→iC,mem_singleton→iE
open Array renaming foldl_toList→eZ
open Option renaming map_eq_some_iff→iH
namespace Go.Proofs.YtolgebdmffcemaaGreatDoor
open Go
def ZB (w:World)(T:Nat→Question→Nat)(d n:Nat):Prop:=∀k q,k<n→T (d+k) q=w.tape (w.drawn+k) q
theorem yV (w:World):ZE w w.tape w.drawn:=fun _ _=>rfl
theorem qg {α:Type}(P:Program)(s:Sem α)(w:World)(es:Array Event):(zB (s.runT P w es).1).tape=w.tape∧w.drawn≤(zB (s.runT P w es).1).drawn:=
 let h:=KU P s w es w.tape w.drawn (yV w)
 ⟨h.1,h.2.1⟩
theorem ZB.later {w v:World}{T:Nat→Question→Nat}{d n:Nat}(h:ZB w T d (n-w.drawn))(ht:v.tape=w.tape)(hd:w.drawn≤v.drawn):ZB v T (d+(v.drawn-w.drawn)) (n-v.drawn):=fun k q hk=>by
 have:=h (v.drawn-w.drawn+k) q (by omega);rw[ht];rw[show d+(v.drawn-w.drawn)+k=d+(v.drawn-w.drawn+k)by omega,this];congr 1
 omega
theorem Fb {α:Type}(s:Ask α)(w:World):(w.ask s).2.tape=w.tape∧w.drawn≤(w.ask s).2.drawn:=
 let h:=UM s w w.tape w.drawn (yV w)
 ⟨h.1,h.2.1⟩
theorem Ge {α:Type}:∀(s:Ask α) (w:World) (T:Nat→Question→Nat) (d n:Nat),(w.ask s).2.drawn≤n→ZB w T d (n-w.drawn)→(re w T d).ask s=((w.ask s).1,re (w.ask s).2 T (d+((w.ask s).2.drawn-w.drawn)))
 | .done a,w,T,d,n,_,_=>by simp[eR]
 | .ask what range k,w,T,d,n,hn,h=>by
  by_cases hf:(Question.extern what range).forced=true
  ·simp only[eR,hf,if_true]at hn⊢
   exact Ge (k 0) w T d n hn h
  ·simp only[eR,hf,if_false,eL]at hn⊢
   have hk:=(Fb (k ((Question.extern what range).cut (w.tape w.drawn (.extern what range)))) {w with drawn:=w.drawn+1}).2;simp only at hk;have h0:=h 0 (.extern what range) (by omega);simp only[eS]at h0;have hT:ZB {w with drawn:=w.drawn+1} T (d+1) (n-(w.drawn+1)):=fun j q hj=>by
    have:=h (1+j) q (by omega);simpa[eT]using this
   have h3:=Ge (k ((Question.extern what range).cut (w.tape w.drawn (.extern what range)))) {w with drawn:=w.drawn+1} T (d+1) n hn hT;show eR {(re w T d)with drawn:=d+1} (k ((Question.extern what range).cut (T d (.extern what range))))=_;rw[h0];rw[show({(re w T d)with drawn:=d+1}:World)=re {w with drawn:=w.drawn+1} T (d+1)from rfl,h3];simp only at hk⊢;congr 2
   omega
theorem bX (w:World)(c:Sys)(T:Nat→Question→Nat)(d n:Nat)(hb:(w.sys c).1≠ .wouldBlock)(hn:(w.sys c).2.drawn≤n)(h:ZB w T d (n-w.drawn)):(re w T d).sys c=((w.sys c).1,re (w.sys c).2 T (d+((w.sys c).2.drawn-w.drawn))):=by
 unfold World.sys at hb hn⊢;have h2:=Ge (Kernel.perform c w.os) w T d n;rw[show(re w T d).os=w.os from rfl];generalize hx:w.ask (Kernel.perform c w.os)=x at h2 hb hn⊢;obtain⟨⟨r,os⟩,w'⟩:=x;simp only at h2 hb hn⊢
 cases r<;>first|exact absurd rfl hb|(rw[h2 hn h];rfl)
def bF {α:Type}:Result α→Prop
 | .ok _ _=>True
 | .halt h _=>¬QH h
theorem Cx {α:Type}{F:α→Prop}(P:Program):∀(s:Sem α),Zq P F s→∀(w:World) (es:Array Event) (T:Nat→Question→Nat) (d n:Nat),bF (s.runT P w es).1→(zB (s.runT P w es).1).drawn≤n→ZB w T d (n-w.drawn)→
  s.runT P (re w T d) es=(reR T d w.drawn (s.runT P w es).1,(s.runT P w es).2):=by
 intro s;induction s with
 |pure a=>intro _ w es T d n _ _ h;simp[Sem.runT,reR]
 |load m a k ih=>
  intro hs w es T d n hg hn h;simp only[Sem.runT]at hg hn⊢;rw[show(re w T d).cell? a=w.cell? a from rfl,show(re w T d).farLoad P a (m== .atomic)=w.farLoad P a (m== .atomic)from rfl]
  cases hc:w.cell? a with
  |some v=>rw[hc]at hg hn;exact ih v (hs v) w _ T d n hg hn h
  |none=>
   rw[hc]at hg hn
   cases hf:w.farLoad P a (m== .atomic)with
   |ok r=>rw[hf]at hg hn;exact ih r.1 (hs r.1) w _ T d n hg hn h
   |error e=>simp[reR]
 |store m a v k ih=>
  intro hs w es T d n hg hn h;by_cases hv:(∃x,v= .agg x)∨∃x,v= .tuple x
  ·rcases hv with⟨x,rfl⟩|⟨x,rfl⟩<;>simp[Sem.runT,reR]
  ·have e:∀u:World,(Sem.store m a v k).runT P u es=match u.cell? a with
     |some _=>if u.frozen? a then(.halt (.unsupported (.unsafePointer "a write to bytes that a string shares")) u,es)else k.runT P (u.setCell a v) (es.push ⟨.cell a,true,m== .atomic⟩)
     |none=>match u.farStore P a v (m== .atomic)with
      | .ok (u',touched)=>k.runT P u' (es++touched.toArray.map (⟨.cell ·,true,m== .atomic⟩))
      | .error h=>(.halt h u,es):=by
    intro u
    cases v<;>first|rfl|(exfalso;exact hv (.inl ⟨_,rfl⟩))|(exfalso;exact hv (.inr ⟨_,rfl⟩))
   rw[e w]at hg hn;rw[e w,e (re w T d)];rw[show(re w T d).cell? a=w.cell? a from rfl,show(re w T d).frozen? a=w.frozen? a from rfl]
   cases hc:w.cell? a with
   |some x=>
    rw[hc]at hg hn;by_cases hf:w.frozen? a=true
    ·simp only[hf,if_true];simp[reR]
    ·simp only[hf,if_false,eL]at hg hn⊢
     exact ih hs (w.setCell a v) _ T d n hg hn h
   |none=>
    rw[hc]at hg hn;obtain⟨f1,f2⟩:=Kr P w a v (m== .atomic) T d;rw[f1]
    cases hx:w.farStore P a v (m== .atomic)with
    |ok r=>
     obtain⟨w',l⟩:=r;rw[hx]at hg hn;obtain⟨g1,g2⟩:=f2 w' l hx;have hT:ZB w' T d (n-w'.drawn):=fun j q hj=>by rw[g1,g2];exact h j q (by omega)
     have:=ih hs w' (es++l.toArray.map (⟨.cell ·,true,m== .atomic⟩)) T d n hg hn hT;simp only[Except.map];rw[g2]at this;exact this
    |error e=>simp[reR,Except.map]
 |new o k ih=>intro hs w es T d n hg hn h;exact ih w.heap.size (hs _) {w with heap:=w.heap.push o} es T d n hg hn h
 |shape r k ih=>intro hs w es T d n hg hn h;exact ih (w.shape? r) (hs _) w es T d n hg hn h
 |freeze a m k ih=>
  intro hs w es T d n hg hn h;have e:(re w T d).freeze a m=re (w.freeze a m) T d:=by
   unfold eU re;split<;>rfl
  have e2:(w.freeze a m).tape=w.tape:=by unfold eU;split<;>rfl
  have e3:(w.freeze a m).drawn=w.drawn:=by unfold eU;split<;>rfl
  have:=ih hs (w.freeze a m) es T d n hg hn (fun j q hj=>by rw[e2,e3];exact h j q (by omega));simp only[Sem.runT,e];rw[e3]at this;exact this
 |frozen a k ih=>intro hs w es T d n hg hn h;exact ih (w.frozen? a) (hs _) w es T d n hg hn h
 |getObj r k ih=>
  intro hs w es T d n hg hn h;simp only[Sem.runT]at hg hn⊢;rw[show(re w T d).heap=w.heap from rfl]
  cases hc:w.heap[r]? with
  |none=>simp[reR]
  |some o=>
   rw[hc]at hg hn
   cases o<;>first|(simp[reR];done)|exact ih _ (hs _) w _ T d n hg hn h
 |setObj r o k ih=>
  intro hs w es T d n hg hn h;simp only[Sem.runT]at hg hn⊢;rw[show(re w T d).heap=w.heap from rfl]
  cases hc:w.heap[r]? with
  |none=>simp[reR]
  |some x=>
   rw[hc]at hg hn
   cases x<;>first|(simp[reR];done)|exact ih hs {w with heap:=w.heap.setIfInBounds r o} _ T d n hg hn h
 |choose q k ih=>
  intro hs w es T d n hg hn h;by_cases hf:q.forced=true
  ·simp only[Sem.runT,hf,if_true]at hg hn⊢
   exact ih 0 (hs 0) w es T d n hg hn h
  ·simp only[Sem.runT,hf,if_false,eL]at hg hn⊢
   have hk:=(qg P (k (q.cut (w.tape w.drawn q))) {w with drawn:=w.drawn+1} es).2;simp only at hk;have h0:=h 0 q (by omega);simp only[eS]at h0;have hT:ZB {w with drawn:=w.drawn+1} T (d+1) (n-(w.drawn+1)):=fun j q hj=>by
    have:=h (1+j) q (by omega);simpa[eT]using this
   have h3:=ih (q.cut (w.tape w.drawn q)) (hs _) {w with drawn:=w.drawn+1} es T (d+1) n hg hn hT;show Sem.runT P (k (q.cut (T d q))) {(re w T d)with drawn:=d+1} es=_;rw[h0,show({(re w T d)with drawn:=d+1}:World)=re {w with drawn:=w.drawn+1} T (d+1)from rfl,h3,JU T d w.drawn _ hk]
 |sys c k ih=>
  intro hs w es T d n hg hn h;obtain⟨⟨x,a1,a2⟩,a0⟩:=hs;simp only[Sem.runT]at hg hn⊢;have hb:(w.sys c).1≠ .wouldBlock:=fun hb=>by
   rw[hb,a1]at hg;exact hg a2
  have hk:=(qg P (k (w.sys c).1) (w.sys c).2 (es.push ⟨.output,true,false⟩)).2;have hd:=(uQ w c w.tape w.drawn (yV w)).2.1;have ht:=(uQ w c w.tape w.drawn (yV w)).1;rw[bX w c T d n hb (by omega) h];have:=ih (w.sys c).1 (a0 _) (w.sys c).2 (es.push ⟨.output,true,false⟩) T (d+((w.sys c).2.drawn-w.drawn)) n hg hn (h.later ht hd);rw[this,JV T d hd hk]
 |program k ih=>intro hs w es T d n hg hn h;exact ih P hs w es T d n hg hn h
 |mark m k ih=>intro hs w es T d n hg hn h;exact ih hs w _ T d n hg hn h
 |halt x=>intro _ w es T d n _ _ h;simp[Sem.runT,reR]
def goodG:GStep→Prop
 | .go g _ _=>g.status= .running∧g.dying=none
 | .comm .. | .coroswitch .. =>True
 |_=>False
def GBd (T:Nat→Question→Nat)(d n:Nat)(w:World)(x y:GStep):Prop:=
 goodG x→(ZN x).drawn≤n→y=uW x (re (ZN x) T (d+((ZN x).drawn-w.drawn)))
section
variable {T:Nat→Question→Nat}{d n:Nat}{w:World}{P:Program}
theorem GBd.here {x y:GStep}(h1:ZN x=w)(h2:y=uW x (re w T d)):GBd T d n w x y:=by
 intro _ _;rw[h1,Nat.sub_self,eS];exact h2
theorem GBd.bad {x y:GStep}(h:¬goodG x):GBd T d n w x y:=fun hg=>absurd hg h
theorem GBd.later {v:World}{x y:GStep}(hd:w.drawn≤v.drawn)(hx:goodG x→v.drawn≤(ZN x).drawn)(h:GBd T (d+(v.drawn-w.drawn)) n v x y):GBd T d n w x y:=by
 intro hg hn;rw[h hg hn];congr 2
 have:=hx hg;omega
theorem zJ {x:GStep}(es:Array Event):goodG (GStep.after es x)↔goodG x:=by cases x<;>exact Iff.rfl
theorem zp {x:GStep}(es:Array Event):ZN (GStep.after es x)=ZN x:=by cases x<;>rfl
theorem GBd.after {x y:GStep}(h:GBd T d n w x y)(es:Array Event):GBd T d n w (GStep.after es x) (GStep.after es y):=by
 intro hg hn;rw[zJ]at hg;rw[zp]at hn⊢;rw[h hg hn]
 cases x<;>rfl
theorem GBd.ite {c:Prop} [Decidable c] {x y x' y' :GStep}(h1:c→GBd T d n w x y)(h2:¬c→GBd T d n w x' y'):GBd T d n w (if c then x else x') (if c then y else y'):=by
 by_cases h:c
 ·rw[if_pos h,if_pos h];exact h1 h
 ·rw[if_neg h,if_neg h];exact h2 h
theorem qR {α:Type}{F:α→Prop}{s:Sem α}(hs:Zq P F s)(hT:ZB w T d (n-w.drawn)){r:Result α}{es:Array Event}(he:s.runT P w #[]=(r,es)):
  w.drawn≤(zB r).drawn∧ZB (zB r) T (d+((zB r).drawn-w.drawn)) (n-(zB r).drawn)∧(bF r→(zB r).drawn≤n→s.runT P (re w T d) #[]=(reW r T (d+((zB r).drawn-w.drawn)),es)):=by
 have hk:=qg P s w #[];have hb:=Cx P s hs w #[] T d n;rw[he]at hk hb;refine⟨hk.2,hT.later hk.1 hk.2,fun h1 h2=>(hb h1 h2 hT).trans ?_⟩
 cases r<;>rfl
theorem Kt (fr:Frame)(cs:List Frame)(dy:Option Dying)(g:Nat)(w:World):w.drawn≤(ZN (early P fr cs dy g w)).drawn:=(Ox (yV w) P fr cs dy g).2.1
theorem GO {c:Prop} [Decidable c] {x y:GStep}(hx:¬goodG x)(hy:¬goodG y):¬goodG (if c then x else y):=by
 split
 ·exact hx
 ·exact hy
theorem uG (fr:Frame)(l:List ByteArray)(m:String)(b:Bool)(w:World):¬goodG (dieOf fr l m b w):=by
 unfold dieOf;exact fun h=>by cases h.2
theorem y6 (fr:Frame)(m:String)(w:World):¬goodG (endThrow fr m w):=by
 unfold endThrow;first|exact uG _ _ _ _ _|exact fun h=>by cases h.2
theorem KQ (p:Program)(fr:Frame)(v:Value)(w:World):¬goodG (endPrinting p fr v w):=by
 unfold endPrinting;simp only;split
 ·exact y6 _ _ _
 ·exact fun h=>h
theorem xz (p:Program)(fr:Frame)(cs:List Frame)(dy:Option Dying)(m:String)(w:World):¬goodG (endFatal p fr cs dy m w):=by
 unfold endFatal;extract_lets chain raw shown
 clear_value shown
 cases shown.run p w with
 |ok x v=>exact uG _ _ _ _ _
 |halt h v=>cases h<;>exact fun h=>h
theorem Vt (fn:Func)(tmps:Array Value):z4 P Any (results fn tmps):=by
 unfold results;refine z4.bind0 (z4.mapMArray _ (fun r=> ?_) _) (fun _=>trivial)
 cases r with
 |tmp t=>exact trivial
 |cell a t=>exact z4.bind0 (YT _) fun _=>ql _ _
theorem Qg (main:Bool)(fr:Frame)(cs:List Frame)(dy:Option Dying)(v:Value):GBd T d n w (doReturn P main fr cs dy v w) (doReturn P main fr cs dy v (re w T d)):=by
 unfold doReturn;repeat' split
 all_goals exact GBd.here rfl rfl
theorem Yf (main:Bool)(fr:Frame)(cs:List Frame)(dy:Option Dying)(v:Value)(w:World):ZN (doReturn P main fr cs dy v w)=w:=by
 unfold doReturn;repeat' split
 all_goals rfl
theorem cW (hT:ZB w T d (n-w.drawn))(fr:Frame)(cs:List Frame)(dy:Option Dying)(g:Nat):GBd T d n w (early P fr cs dy g w) (early P fr cs dy g (re w T d)):=by
 have hn:∀(v:World) (e:Nat),GBd T e n v (match v.heap[g]? with
   |some (.pending c elem)=>GStep.go {frame:=fr,callers:=cs,status:= .running,dying:=dy} {v with heap:=v.heap.setIfInBounds g (.cells c elem)}
   |_=> .ended (.stuck "early: the variable does not wait" (fr.pos P)) v) (match(re v T e).heap[g]? with
   |some (.pending c elem)=>GStep.go {frame:=fr,callers:=cs,status:= .running,dying:=dy} {(re v T e)with heap:=(re v T e).heap.setIfInBounds g (.cells c elem)}
   |_=> .ended (.stuck "early: the variable does not wait" (fr.pos P)) (re v T e)):=by
  intro v e;rw[show(re v T e).heap=v.heap from rfl]
  cases v.heap[g]? with
  |none=>exact GBd.here rfl rfl
  |some o=>cases o<;>first|exact GBd.here rfl rfl|(intro _ _;simp[uW,ZN,re])
 have ht:∀(v:World) (e:Nat) (f:FuncId),GBd T e n v (GStep.go {frame:=eW P f #[] .early,callers:=(if(P.code? f).any P.plainData then(P.brought v (2*P.funcs.size+1) [f] []).drop 1 else []).map (eW P · #[] .early)++fr::cs,status:= .running,dying:=dy} v)
   (GStep.go {frame:=eW P f #[] .early,callers:=(if(P.code? f).any P.plainData then(P.brought (re v T e) (2*P.funcs.size+1) [f] []).drop 1 else []).map (eW P · #[] .early)++fr::cs,status:= .running,dying:=dy} (re v T e)):=by
  intro v e f;rw[vW];exact GBd.here rfl rfl
 unfold early;simp only;by_cases c1:(!P.follows .staticDataAhead)=true
 ·simp only[c1,if_true];exact hn w d
 simp only[c1,if_false,eL]
 cases P.stepOf g with
 |none=>exact GBd.here rfl rfl
 |some f=>
  simp only;by_cases c2:(P.code? f).any P.atRunTime=true
  ·simp only[c2,if_true];exact hn w d
  simp only[c2,if_false,eL];rw[show(re w T d).shape? =w.shape? from rfl];by_cases c3:(((P.code? f).bind fun c=>(readies c).getLast?).bind w.shape?).isSome=true
  ·simp only[c3,if_true];exact hn w d
  simp only[c3,if_false,eL];rw[J6]
  cases P.found w P.funcs.size f with
  |unknown=>exact GBd.here rfl rfl
  |notYet=>cases fr.kind==CallKind.early<;>first|exact GBd.here rfl rfl|exact hn w d
  |either=>
   cases fr.kind==CallKind.early with
   |true=>exact ht w d f
   |false=>
    simp only;by_cases c4:(P.code? f).any P.plainData=true
    ·have:=ht w d f
     simp only[c4,if_true]at this⊢;exact this
    by_cases c5:(!(P.code? f).any P.bareCopy)=true
    ·simp only[c4,c5,if_true,if_false,eL];exact hn w d
    have hf:(Question.early g).forced=false:=rfl;have h4:=ht {w with drawn:=w.drawn+1} (d+1) f;have h5:=hn {w with drawn:=w.drawn+1} (d+1);simp only[c4,c5,choose,Sem.run,hf,if_false,eL]at h4⊢;intro hg a0;have a1:w.drawn+1≤n:=by
     refine eQ ?_ a0
     cases hc:(Question.early g).cut (w.tape w.drawn (.early g))with
     |zero=>
      simp only
      cases w.heap[g]? with
      |none=>exact eP _
      |some o=>cases o<;>exact eP _
     |succ k=>exact eP _
    have h0:=hT 0 (.early g) (by omega);simp only[eS]at h0;rw[show(re w T d).tape (re w T d).drawn (.early g)=w.tape w.drawn (.early g)from h0];revert hg a0
    refine GBd.later (v:={w with drawn:=w.drawn+1}) (Nat.le_succ _) ?_ ?_
    ·intro _
     cases hc:(Question.early g).cut (w.tape w.drawn (.early g))with
     |zero=>
      simp only
      cases w.heap[g]? with
      |none=>exact eP _
      |some o=>cases o<;>exact eP _
     |succ k=>exact eP _
    ·rw[show d+(({w with drawn:=w.drawn+1}:World).drawn-w.drawn)=d+1 by simp]
     cases hc:(Question.early g).cut (w.tape w.drawn (.early g))with
     |zero=>exact h5
     |succ k=>exact h4
theorem X_ (hT:ZB w T d (n-w.drawn))(fr:Frame)(cs:List Frame)(dy:Option Dying)(s:Sem Next)(hs:Zq P KX s):GBd T d n w (stepG.apply P true fr cs dy s w) (stepG.apply P true fr cs dy s (re w T d)):=by
 unfold stepG.apply;simp only[if_true];generalize hx:s.runT P w #[]=x;obtain⟨r,es⟩:=x;obtain⟨h1,h2,h3⟩:=qR hs hT hx
 cases r with
 |ok nx v=>
  by_cases hv:v.drawn≤n
  ·rw[h3 trivial hv]
   refine GBd.later h1 ?_ (GBd.after ?_ _)
   ·rw[zJ,zp]
    cases nx with
    |callThen a b c e=>simp only;split<;>exact fun _=>eP _
    |row a b=>simp only;split<;>exact fun _=>eP _
    |stack a b=>simp only;split<;>exact fun _=>eP _
    |recover=>simp only;split<;>exact fun _=>eP _
    |spawn c=>exact fun hg=>absurd hg (GO (y6 _ _ _) (fun h=>h))
    |_=>exact fun _=>eP _
   ·cases nx with
    |callThen a b c e=>simp only[reW,zB];split<;>exact GBd.here rfl rfl
    |row a b=>simp only[reW,zB];split<;>exact GBd.here rfl rfl
    |stack a b=>simp only[reW,zB];split<;>exact GBd.here rfl rfl
    |recover=>simp only[reW,zB];split<;>exact GBd.here rfl rfl
    |spawn c=>exact GBd.ite (fun _=>GBd.here rfl rfl) (fun _=>GBd.here rfl rfl)
    |_=>exact GBd.here rfl rfl
  ·intro hg hn
   rw[zp]at hn;rw[zJ]at hg;revert hg hn
   cases nx with
   |callThen a b c e=>simp only;split<;>exact fun _ hn=>absurd hn hv
   |row a b=>simp only;split<;>exact fun _ hn=>absurd hn hv
   |stack a b=>simp only;split<;>exact fun _ hn=>absurd hn hv
   |recover=>simp only;split<;>exact fun _ hn=>absurd hn hv
   |spawn c=>exact fun hg _=>absurd hg (GO (y6 _ _ _) (fun h=>h))
   |_=>exact fun _ hn=>absurd hn hv
 |halt h v=>
  by_cases hb:QH h
  ·refine GBd.bad ?_
   rw[zJ]
   cases h with
   |stuck s=>exact fun h=>h
   |unsupported u=>cases u<;>first|exact hb.elim|exact fun h=>h
   |_=>exact hb.elim
  ·by_cases hv:v.drawn≤n
   ·rw[h3 hb hv]
    cases h with
    |fatal m=>exact GBd.bad (by rw[zJ];exact xz _ _ _ _ _ _)
    |throw m=>exact GBd.bad (by rw[zJ];exact y6 _ _ _)
    |unsupported u=>
     cases u with
     |initOrder g=>
      refine GBd.later h1 ?_ (GBd.after (cW h2 fr cs dy g) _);rw[zp];exact fun _=>Kt _ _ _ _ _
     |_=>exact absurd trivial hb
    |stuck s=>exact absurd trivial hb
    |_=>exact GBd.later h1 (by rw[zp];exact fun _=>eP _) (GBd.after (GBd.here rfl rfl) _)
   ·intro hg hn
    rw[zp]at hn;rw[zJ]at hg;revert hg hn
    cases h with
    |fatal m=>exact fun hg _=>absurd hg (xz _ _ _ _ _ _)
    |throw m=>exact fun hg _=>absurd hg (y6 _ _ _)
    |unsupported u=>
     cases u with
     |initOrder g=>exact fun _ hn=>absurd (eQ (Kt _ _ _ _ _) hn) hv
     |_=>exact absurd trivial hb
    |stuck s=>exact absurd trivial hb
    |_=>exact fun _ hn=>absurd hn hv
end
def Xq:Item→Prop
 | .extern row _=>row= "runtime.print$piece"
 | .call .. =>False
 |_=>True
def zM (fr:Frame):Prop:=∀x∈fr.todo,Xq x
theorem jC:Extern.next "runtime.print$piece" =some (Extern.PrintPieces.piece #[] #[]):=by rfl
section
variable {T:Nat→Question→Nat}{d n:Nat}{w:World}{P:Program}
theorem KP (hP:zH P)(hT:ZB w T d (n-w.drawn))(fr:Frame)(cs:List Frame)(dy:Option Dying)(c:Deferred):GBd T d n w (callDeferred P fr cs dy c w) (callDeferred P fr cs dy c (re w T d)):=by
 unfold callDeferred;refine GBd.ite (fun _=>GBd.here rfl rfl) (fun _=> ?_);generalize hx:(invoke c.target c.args).runT P w #[]=x;obtain⟨r,es⟩:=x;obtain⟨h1,h2,h3⟩:=qR (ZU hP c.target c.args).1 hT hx
 cases r with
 |ok a v=>
  by_cases hv:v.drawn≤n
  ·rw[h3 trivial hv]
   refine GBd.later h1 ?_ (GBd.after ?_ _)
   ·rw[zJ,zp]
    cases a with
    |recover=>simp only;split<;>exact fun _=>eP _
    |alone b x=>cases b<;>exact fun _=>eP _
    |coroswitch b x=>cases x<;>exact fun _=>eP _
    |_=>exact fun _=>eP _
   ·cases a with
    |recover=>simp only[reW,zB];split<;>exact GBd.here rfl rfl
    |alone b x=>cases b<;>exact GBd.here rfl rfl
    |coroswitch b x=>cases x<;>exact GBd.here rfl rfl
    |_=>exact GBd.here rfl rfl
  ·intro hg hn
   simp only[zp]at hn;simp only[zJ]at hg;revert hn
   revert hg
   cases a with
   |recover=>simp only;split<;>exact fun _ hn=>absurd hn hv
   |alone b x=>cases b<;>exact fun _ hn=>absurd hn hv
   |coroswitch b x=>cases x<;>exact fun _ hn=>absurd hn hv
   |_=>exact fun _ hn=>absurd hn hv
 |halt h v=>
  by_cases hb:QH h
  ·refine GBd.bad ?_
   simp only[zJ]
   cases h with
   |stuck s=>exact fun h=>h
   |unsupported u=>cases u<;>first|exact hb.elim|exact fun h=>h
   |_=>exact hb.elim
  ·by_cases hv:v.drawn≤n
   ·rw[h3 hb hv]
    cases h with
    |fatal m=>exact GBd.bad (by simp only[zJ];exact xz _ _ _ _ _ _)
    |throw m=>exact GBd.bad (by simp only[zJ];exact y6 _ _ _)
    |_=>exact GBd.later h1 (by simp only[zp];exact fun _=>eP _) (GBd.after (GBd.here rfl rfl) _)
   ·intro hg hn
    simp only[zp]at hn;simp only[zJ]at hg;revert hn
    revert hg
    cases h with
    |fatal m=>exact fun hg _=>absurd hg (xz _ _ _ _ _ _)
    |throw m=>exact fun hg _=>absurd hg (y6 _ _ _)
    |_=>exact fun _ hn=>absurd hn hv
theorem GX (hP:zH P)(hT:ZB w T d (n-w.drawn))(main:Bool)(fr:Frame)(cs:List Frame):GBd T d n w (unwind P main fr cs none w) (unwind P main fr cs none (re w T d)):=by
 unfold unwind;split
 ·rename_i block ds _ _
  generalize hx:(Instr.takeDeferred block).runT P w #[]=x;obtain⟨r,es⟩:=x;obtain⟨h1,h2,h3⟩:=qR (Y5 block).fair hT hx
  cases r with
  |ok a v=>
   by_cases hv:v.drawn≤n
   ·rw[h3 trivial hv];exact GBd.later h1 (by simp only[zp];exact fun _=>eP _) (GBd.after (GBd.here rfl rfl) _)
   ·intro hg hn;simp only[zp]at hn;exact absurd hn hv
  |halt h v=>exact GBd.bad (by simp only[zJ];exact fun h=>h)
 ·exact KP hP hT _ _ _ _
 ·split
  ·exact GBd.here rfl rfl
  ·rename_i a0 _
   split
   ·exact GBd.here rfl rfl
   ·split
    ·exact GBd.here rfl rfl
    ·split
     ·split
      ·exact GBd.here rfl rfl
      ·refine GBd.bad ?_
       cases(reportChain a0 false).run P w with
       |ok t v=>exact fun h=>by cases h.2
       |halt h v=>cases h<;>exact fun h=>h
     ·split
      ·exact GBd.bad (KQ _ _ _ _)
      ·exact GBd.here rfl rfl
  ·split
   ·exact Qg _ _ _ _ _
   ·rename_i fn _
    generalize hx:(results fn fr.tmps).runT P w #[]=x;obtain⟨r,es⟩:=x;obtain⟨h1,h2,h3⟩:=qR (Vt fn fr.tmps).fair hT hx
    cases r with
    |ok a v=>
     by_cases hv:v.drawn≤n
     ·rw[h3 trivial hv];exact GBd.later h1 (by simp only[zp,Yf];exact fun _=>eP _) (GBd.after (Qg _ _ _ _ _) _)
     ·intro hg hn;simp only[zp,Yf]at hn;exact absurd hn hv
    |halt h v=>
     by_cases hb:QH h
     ·refine GBd.bad ?_
      simp only[zJ]
      cases h with
      |stuck s=>exact fun h=>h
      |unsupported u=>cases u<;>first|exact hb.elim|exact fun h=>h
      |_=>exact hb.elim
     ·by_cases hv:v.drawn≤n
      ·rw[h3 hb hv]
       cases h<;>exact GBd.later h1 (by simp only[zp];exact fun _=>eP _) (GBd.after (GBd.here rfl rfl) _)
      ·intro hg hn
       simp only[zp]at hn;revert hn
       revert hg
       cases h<;>exact fun _ hn=>absurd hn hv
theorem CP (hP:zH P)(hT:ZB w T d (n-w.drawn))(fr:Frame)(cs:List Frame)(dy:Option Dying):GBd T d n w (stepG.oper P true fr cs dy w) (stepG.oper P true fr cs dy (re w T d)):=by
 unfold stepG.oper;split
 ·exact GBd.here rfl rfl
 ·split
  ·refine X_ hT _ _ _ _ (z4.fair (z4.mono (F:=Xp) (fun _=>vx) ?_))
   exact z4.bind0 (ZZ _ _ _) fun _=>z4.bind0 (Y6 _ _) fun _=>trivial
  ·exact X_ hT _ _ _ _ (K4 hP _ _).1
theorem VM (hT:ZB w T d (n-w.drawn))(main:Bool)(fr:Frame)(cs:List Frame)(dy:Option Dying)(a0:Option Code)(c:Prop) [Decidable c]:
  GBd T d n w (match fr.roundOf with
   |none=>if c then GStep.go {frame:={fr with mode:= .returning},callers:=cs,status:= .running,dying:=dy} w else .ended (.stuck "exit, goto: no such block or label" (fr.pos P)) w
   |some l=>GStep.after (seen P fr.fn ((Instr.endRound l a0).runT P w #[]).2) (match((Instr.endRound l a0).runT P w #[]).1 with
    | .ok v w=>doReturn P main fr cs dy v w
    | .halt _ w=> .ended (.stuck "range over a function: no such loop" (fr.pos P)) w))
   (match fr.roundOf with
   |none=>if c then GStep.go {frame:={fr with mode:= .returning},callers:=cs,status:= .running,dying:=dy} (re w T d)else .ended (.stuck "exit, goto: no such block or label" (fr.pos P)) (re w T d)
   |some l=>GStep.after (seen P fr.fn ((Instr.endRound l a0).runT P (re w T d) #[]).2) (match((Instr.endRound l a0).runT P (re w T d) #[]).1 with
    | .ok v w=>doReturn P main fr cs dy v w
    | .halt _ w=> .ended (.stuck "range over a function: no such loop" (fr.pos P)) w)):=by
 cases fr.roundOf with
 |none=>exact GBd.ite (fun _=>GBd.here rfl rfl) (fun _=>GBd.here rfl rfl)
 |some l=>
  simp only;generalize hx:(Instr.endRound l a0).runT P w #[]=x;obtain⟨r,es⟩:=x;obtain⟨h1,h2,h3⟩:=qR (xk l a0).fair hT hx
  cases r with
  |ok a v=>
   intro hg hn;have hv:v.drawn≤n:=by
    refine eQ ?_ hn;simp only[zp];exact eX (by rw[Yf]<;>rfl)
   rw[h3 trivial hv];refine GBd.later h1 (fun _=> ?_) (GBd.after ?_ _) hg hn
   ·simp only[zp]
    exact eX (by rw[Yf]<;>rfl)
   ·exact Qg _ _ _ _ _
  |halt h v=>exact GBd.bad (by simp only[zJ];exact fun h=>h)
theorem Kv (fr:Frame)(cs:List Frame)(dy:Option Dying)(s:Sem Next)(w:World):w.drawn≤(ZN (stepG.apply P true fr cs dy s w)).drawn:=(xW (yV w) P fr cs dy s).2.1
theorem bi (hP:zH P)(hT:ZB w T d (n-w.drawn))(main:Bool)(fr:Frame)(hr:zM fr)(cs:List Frame)(dy:Option Dying):GBd T d n w (stepG.exec P main true fr cs dy w) (stepG.exec P main true fr cs dy (re w T d)):=by
 unfold stepG.exec;simp only;split
 ·exact VM hT _ _ _ _ _ _
 ·exact VM hT _ _ _ _ _ _
 ·exact GBd.here rfl rfl
 ·exact GBd.here rfl rfl
 ·exact GBd.here rfl rfl
 ·exact GBd.here rfl rfl
 ·exact GBd.here rfl rfl
 ·split
  all_goals
   exact GBd.here rfl rfl
 ·exact GBd.here rfl rfl
 ·exact GBd.here rfl rfl
 ·exact GBd.here rfl rfl
 ·exact GBd.here rfl rfl
 ·rename_i id k _
  cases exitTo id k with
  |none=>exact VM hT _ _ _ _ _ _
  |some t=>exact GBd.here rfl rfl
 ·rename_i l k _
  cases gotoIn l k with
  |none=>exact VM hT _ _ _ _ _ _
  |some t=>exact GBd.here rfl rfl
 ·rename_i f params assign body k _
  generalize hx:(Instr.enterLoop fr.fn fr.tmps params assign body fr.roundOf).runT P w #[]=x;obtain⟨r,es⟩:=x;obtain⟨h1,h2,h3⟩:=qR (YV fr.fn fr.tmps params assign body fr.roundOf).fair hT hx
  cases r with
  |ok a v=>
   intro hg hn;have hv:v.drawn≤n:=by
    refine eQ ?_ hn;simp only[zp];exact Kv _ _ _ _ _
   rw[h3 trivial hv];refine GBd.later h1 (fun _=> ?_) (GBd.after ?_ _) hg hn
   ·simp only[zp]
    exact Kv _ _ _ _ _
   ·exact X_ h2 _ _ _ _ (ki.bind (ZZ _ _ _) fun d=>ZU hP _ _).1
  |halt h v=>exact GBd.bad (by simp only[zJ];exact fun h=>h)
 ·exact GBd.here rfl rfl
 ·refine X_ hT _ _ _ _ (z4.fair (z4.mono (F:=Xp) (fun _=>vx) ?_))
  refine z4.bind0 ?_ (fun _=> ?_)
  case refine_2=>exact trivial
  cases fr.roundOf with
  |none=>exact trivial
  |some l=>exact Yp l
 ·rename_i l k _
  generalize hx:(Instr.endLoop l).runT P w #[]=x;obtain⟨r,es⟩:=x;obtain⟨h1,h2,h3⟩:=qR (xQ l).fair hT hx
  cases r with
  |ok a v=>
   intro hg hn;have hv:v.drawn≤n:=by
    refine eQ ?_ hn;simp only[zp];exact eP _
   rw[h3 trivial hv];refine GBd.later h1 (fun _=> ?_) (GBd.after ?_ _) hg hn
   ·simp only[zp]
    exact eP _
   ·exact GBd.here rfl rfl
  |halt h v=>
     cases h with
     |panic x=>
      intro hg hn;rw[h3 (fun h=>h) hn];exact GBd.later h1 (fun _=>eP _) (GBd.after (GBd.here rfl rfl) _) hg hn
     |_=>exact GBd.bad (by simp only[zJ];exact fun h=>h)
 ·exact GBd.here rfl rfl
 ·exact X_ hT _ _ _ _ (ZU hP _ _).1
 ·rename_i row args k hk
  have:row= "runtime.print$piece" :=hr (.extern row args) (by rw[hk];exact eY ..);subst this;rw[jC];exact X_ hT _ _ _ _ (vP _)
 ·rename_i id ops a0 k _
  refine GBd.ite (fun _=>GBd.here rfl rfl) (fun _=> ?_);have hf:(Question.order fr.fn id).forced=false:=rfl;simp only[choose,Sem.run,hf,if_false,eL];intro hg hn;have h0:=hT 0 (.order fr.fn id) (by have:w.drawn+1≤n:=hn;omega);simp only[eS]at h0;rw[show(re w T d).tape (re w T d).drawn (.order fr.fn id)=w.tape w.drawn (.order fr.fn id)from h0];simp[uW,ZN,re]
 ·exact GBd.here rfl rfl
 ·exact GBd.ite (fun _=>CP hP hT _ _ _) (fun _=>GBd.here rfl rfl)
theorem jq (hP:zH P)(hT:ZB w T d (n-w.drawn))(main:Bool)(g:Goroutine)(hd:g.dying=none)(hr:zM g.frame):GBd T d n w (stepG P main g w) (stepG P main g (re w T d)):=by
 obtain⟨fr,cs,st,dy,of⟩:=g;simp only at hd hr;subst hd;unfold stepG;simp only;split
 ·rename_i h;cases h
 ·exact bi hP hT _ _ hr _ _
 ·exact GX hP hT _ _ _
end
def yj:Frame→List Frame→CallKind
 |fr,[]=>fr.kind
 |_,c::cs=>yj c cs
theorem kg {a b:Frame}(h:a.kind=b.kind)(cs:List Frame):yj a cs=yj b cs:=by cases cs<;>first|exact h|rfl
def Rep (dy:Option Dying)(fr:Frame)(cs:List Frame):Prop:=∀d,dy=some d→d.calling=true→yj fr cs= .report
def okG (g:Goroutine):Prop:=zM g.frame∧(∀f∈g.callers,zM f)∧Rep g.dying g.frame g.callers
def zu (dy:Option Dying):GStep→Prop
 | .go g _ es=>okG g∧(dy≠none→g.dying≠none)∧(g.dying=none→g.status= .running→evens #[] es)∧∀t,g.status≠ .sleeping t
 | .comm g _ _ _ _ es=>okG g∧g.dying=dy∧g.status= .running∧evens #[] es
 | .coroswitch g _ e _ es=>okG g∧g.dying=dy∧g.status= .running∧e=true∧evens #[] es
 | .spawn .. | .ended .. =>True
 |_=>False
def xd (es:Array Event):Prop:=∀e∈es,e.loc= .mark .disable∨e.loc= .mark .enable→e.sync=true
theorem xd.push {es:Array Event}{e:Event}(h:xd es)(he:e.loc= .mark .disable∨e.loc= .mark .enable→e.sync=true):xd (es.push e):=by
 intro x hx hl;rcases Array.mem_push.1 hx with h1|rfl
 ·exact h x h1 hl
 ·exact he hl
theorem xd.append {es:Array Event}{l:List Addr}{wr sy:Bool}(h:xd es):xd (es++(l.toArray.map (fun a=>(⟨.cell a,wr,sy⟩:Event)))):=by
 intro x hx hl;rcases Array.mem_append.1 hx with h1|h1
 ·exact h x h1 hl
 ·obtain⟨a,_,rfl⟩:=Array.mem_map.1 h1
  rcases hl with hl|hl<;>cases hl
theorem yl {α:Type}(P:Program):∀(s:Sem α) (w:World) (es:Array Event),xd es→xd (s.runT P w es).2:=by
 intro s;induction s with
 |pure a=>exact fun w es h=>h
 |load m a k ih=>
  intro w es h;simp only[Sem.runT]
  cases w.cell? a with
  |some v=>exact ih v w _ (h.push (by rintro(h|h)<;>cases h))
  |none=>
   cases w.farLoad P a (m== .atomic)with
   |ok r=>exact ih r.1 w _ h.append
   |error e=>exact h
 |store m a v k ih=>
  intro w es h;by_cases hv:(∃x,v= .agg x)∨∃x,v= .tuple x
  ·rcases hv with⟨x,rfl⟩|⟨x,rfl⟩<;>exact h
  ·have e:(Sem.store m a v k).runT P w es=match w.cell? a with
     |some _=>if w.frozen? a then(.halt (.unsupported (.unsafePointer "a write to bytes that a string shares")) w,es)else k.runT P (w.setCell a v) (es.push ⟨.cell a,true,m== .atomic⟩)
     |none=>match w.farStore P a v (m== .atomic)with
      | .ok (u',touched)=>k.runT P u' (es++touched.toArray.map (⟨.cell ·,true,m== .atomic⟩))
      | .error h=>(.halt h w,es):=by
    cases v<;>first|rfl|(exfalso;exact hv (.inl ⟨_,rfl⟩))|(exfalso;exact hv (.inr ⟨_,rfl⟩))
   rw[e]
   cases w.cell? a with
   |some x=>
    by_cases hf:w.frozen? a=true
    ·simp only[hf,if_true];exact h
    ·simp only[hf,if_false,eL]
     exact ih _ _ (h.push (by rintro(h|h)<;>cases h))
   |none=>
    cases w.farStore P a v (m== .atomic)with
    |ok r=>exact ih _ _ h.append
    |error e=>exact h
 |new o k ih=>exact fun w es h=>ih _ _ _ h
 |shape r k ih=>exact fun w es h=>ih _ _ _ h
 |freeze a n k ih=>exact fun w es h=>ih _ _ h
 |frozen a k ih=>exact fun w es h=>ih _ _ _ h
 |getObj r k ih=>
  intro w es h;simp only[Sem.runT]
  cases w.heap[r]? with
  |none=>exact h
  |some o=>cases o<;>first|exact h|exact ih _ _ _ (h.push (by rintro(h|h)<;>cases h))
 |setObj r o k ih=>
  intro w es h;simp only[Sem.runT]
  cases w.heap[r]? with
  |none=>exact h
  |some x=>cases x<;>first|exact h|exact ih _ _ (h.push (by rintro(h|h)<;>cases h))
 |choose q k ih=>
  intro w es h;simp only[Sem.runT];split
  all_goals
   exact ih _ _ _ h
 |sys c k ih=>exact fun w es h=>ih _ _ _ (h.push (by rintro(h|h)<;>cases h))
 |program k ih=>exact fun w es h=>ih P _ _ h
 |mark m k ih=>exact fun w es h=>ih _ _ (h.push (fun _=>rfl))
 |halt x=>exact fun w es h=>h
theorem QI (d:Nat)(es:Array Event)(e:Event):deafBehind d (es.push e)=match e.loc with| .mark .disable=>deafBehind d es+1| .mark .enable=>deafBehind d es-1|_=>deafBehind d es:=by
 unfold deafBehind;rw[Array.foldl_push];obtain⟨a0,wr,sy⟩:=e
 cases a0 with
 |mark m=>cases m<;>rfl
 |_=>rfl
theorem gt {P:Program}{fn:FuncId}{es:Array Event}(h:xd es)(d:Nat):deafBehind d (seen P fn es)=deafBehind d es:=by
 unfold seen;dsimp only;suffices H:∀(l:List Event) (b:Bool) (a0:Array Event),(∀e∈l,e.loc= .mark .disable∨e.loc= .mark .enable→e.sync=true)→
   deafBehind d (l.foldl (fun(x:Bool×Array Event) e=>match e.loc with
    | .mark (.extern f)=>((P.funcs[f]?).any (·.norace),x.2)
    |_=>(x.1,if(x.1&& !e.sync)=true then x.2 else x.2.push e)) (b,a0)).2=l.foldl (fun n e=>match e.loc with| .mark .disable=>n+1| .mark .enable=>n-1|_=>n) (deafBehind d a0)by
  have h1:=H es.toList ((P.funcs[fn]?).any (·.norace)) #[] (fun e he=>h e (Array.mem_toList_iff.1 he));rw[←eZ];refine Eq.trans h1 ?_;have e:deafBehind d es=es.toList.foldl (fun n e=>match e.loc with| .mark .disable=>n+1| .mark .enable=>n-1|_=>n) d:=by
   unfold deafBehind;rw[←eZ];rfl
  rw[e];rfl
 intro l;induction l with
 |nil=>intro b a0 _;rfl
 |cons e l ih=>
  intro b a0 hl;simp only[List.foldl_cons];obtain⟨a2,wr,sy⟩:=e;have a1 :∀e∈l,e.loc= .mark .disable∨e.loc= .mark .enable→e.sync=true:=fun e he=>hl e (hU _ he)
  have h0:=hl ⟨a2,wr,sy⟩ (eY ..);simp only at h0;have key:∀(c:Bool),deafBehind d (if c=true then a0 else a0.push ⟨a2,wr,sy⟩)=(if c=true then deafBehind d a0 else deafBehind d (a0.push ⟨a2,wr,sy⟩)):=by intro c;cases c<;>rfl
  cases a2 with
  |mark m=>
   cases m with
   |extern f=>exact ih _ _ a1
   |disable=>
    rw[ih _ _ a1,h0 (.inl rfl)];simp only[eN,iA,eL,if_false,QI]
   |enable=>
    rw[ih _ _ a1,h0 (.inr rfl)];simp only[eN,iA,eL,if_false,QI]
   |_=>rw[ih _ _ a1,key,QI];simp only;split<;>rfl
  |_=>rw[ih _ _ a1,key,QI];simp only;split<;>rfl
theorem Zs {P:Program}{fn:FuncId}{es:Array Event}(h:xd es)(he:evens #[] es):evens #[] (seen P fn es):=fun d=>(gt h d).trans (he d)
theorem ZX:xd #[]:=fun _ h=>by simp at h
theorem xH:evens #[] #[]:=fun _=>rfl
theorem OG (d:Nat)(a b:Array Event):deafBehind d (a++b)=deafBehind (deafBehind d a) b:=by
 unfold deafBehind;rw[Array.foldl_append]
theorem kX {a b:Array Event}(ha:evens #[] a)(hb:evens #[] b):evens #[] (a++b):=fun d=>by
 rw[OG,ha d];exact hb d
theorem zu.after {dy:Option Dying}{es:Array Event}{x:GStep}(he:evens #[] es)(h:zu dy x):zu dy (GStep.after es x):=by
 cases x with
 |go g w a0 =>exact⟨h.1,h.2.1,(fun hd hr=>kX he (h.2.2.1 hd hr)),h.2.2.2⟩
 |comm g c b s w a0 =>exact⟨h.1,h.2.1,h.2.2.1,kX he h.2.2.2⟩
 |coroswitch g c e w a0 =>exact⟨h.1,h.2.1,h.2.2.1,h.2.2.2.1,kX he h.2.2.2.2⟩
 |spawn g c w a0 =>exact trivial
 |ended o w a0 =>exact trivial
 |_=>exact h.elim
theorem zu.after' {dy:Option Dying}{es:Array Event}{g:Goroutine}{w:World}{a0 :Array Event}(h1:okG g)(h2:dy≠none→g.dying≠none)(h3:g.dying=none→g.status≠ .running)(h4:∀t,g.status≠ .sleeping t:=by intro t h;cases h):zu dy (GStep.after es (.go g w a0)):=⟨h1,h2,(fun hd hr=>absurd hr (h3 hd)),h4⟩
theorem kW {P:Program}{α:Type}{F:α→Prop}:∀{s:Sem α},Zq P F s→∀(w:World) (es:Array Event) (a:α) (w' :World),(s.runT P w es).1= .ok a w' →F a:=by
 intro s;induction s with
 |pure a=>intro h w es a w' e;cases e;exact h
 |load m a k ih=>
  intro h w es b w' e;simp only[Sem.runT]at e
  cases hc:w.cell? a with
  |some v=>rw[hc]at e;exact ih v (h v) w _ b w' e
  |none=>
   rw[hc]at e
   cases hf:w.farLoad P a (m== .atomic)with
   |ok r=>rw[hf]at e;exact ih r.1 (h r.1) w _ b w' e
   |error x=>rw[hf]at e;cases e
 |store m a v k ih=>
  intro h w es b w' e;by_cases hv:(∃x,v= .agg x)∨∃x,v= .tuple x
  ·rcases hv with⟨x,rfl⟩|⟨x,rfl⟩<;>cases e
  ·have e2:(Sem.store m a v k).runT P w es=match w.cell? a with
     |some _=>if w.frozen? a then(.halt (.unsupported (.unsafePointer "a write to bytes that a string shares")) w,es)else k.runT P (w.setCell a v) (es.push ⟨.cell a,true,m== .atomic⟩)
     |none=>match w.farStore P a v (m== .atomic)with
      | .ok (u',touched)=>k.runT P u' (es++touched.toArray.map (⟨.cell ·,true,m== .atomic⟩))
      | .error h=>(.halt h w,es):=by
    cases v<;>first|rfl|(exfalso;exact hv (.inl ⟨_,rfl⟩))|(exfalso;exact hv (.inr ⟨_,rfl⟩))
   rw[e2]at e
   cases hc:w.cell? a with
   |some x=>
    rw[hc]at e;by_cases hf:w.frozen? a=true
    ·simp only[hf,if_true]at e;cases e
    ·simp only[hf,if_false,eL]at e
     exact ih h _ _ b w' e
   |none=>
    rw[hc]at e
    cases hf:w.farStore P a v (m== .atomic)with
    |ok r=>rw[hf]at e;exact ih h _ _ b w' e
    |error x=>rw[hf]at e;cases e
 |new o k ih=>exact fun h w es b w' e=>ih _ (h _) _ _ b w' e
 |shape r k ih=>exact fun h w es b w' e=>ih _ (h _) _ _ b w' e
 |freeze a n k ih=>exact fun h w es b w' e=>ih h _ _ b w' e
 |frozen a k ih=>exact fun h w es b w' e=>ih _ (h _) _ _ b w' e
 |getObj r k ih=>
  intro h w es b w' e;simp only[Sem.runT]at e
  cases hc:w.heap[r]? with
  |none=>rw[hc]at e;cases e
  |some o=>rw[hc]at e;cases o<;>first|(cases e;done)|exact ih _ (h _) _ _ b w' e
 |setObj r o k ih=>
  intro h w es b w' e;simp only[Sem.runT]at e
  cases hc:w.heap[r]? with
  |none=>rw[hc]at e;cases e
  |some x=>rw[hc]at e;cases x<;>first|(cases e;done)|exact ih h _ _ b w' e
 |choose q k ih=>
  intro h w es b w' e;simp only[Sem.runT]at e;split at e
  all_goals
   exact ih _ (h _) _ _ b w' e
 |sys c k ih=>exact fun h w es b w' e=>ih _ (h.2 _) _ _ b w' e
 |program k ih=>exact fun h w es b w' e=>ih P h _ _ b w' e
 |mark m k ih=>exact fun h w es b w' e=>ih h _ _ b w' e
 |halt x=>intro h w es a w' e;cases e
theorem u4 (w:World)(a:Addr)(s:String):kz (w.noCell a s):=by
 unfold World.noCell;split<;>trivial
theorem G4 {P:Program}{w:World}{a:Addr}{b:Bool}{h:Halt}(hx:w.farLoad P a b= .error h):kz h:=by
 unfold World.farLoad at hx;split at hx
 ·split at hx
  ·cases hx
  ·cases hx;trivial
 ·cases hx;exact u4 _ _ _
theorem Ot {P:Program}{w:World}{a:Addr}{x:Value}{b:Bool}{h:Halt}(hx:w.farStore P a x b= .error h):kz h:=by
 unfold World.farStore at hx;split at hx
 ·split at hx
  ·cases hx
  ·cases hx;trivial
 ·cases hx;exact u4 _ _ _
theorem uu {P:Program}{α:Type}{F:α→Prop}:∀{s:Sem α},Zq P F s→∀(w:World) (es:Array Event) (b:Halt) (w' :World),(s.runT P w es).1= .halt b w' →kz b∨b= .blocked:=by
 intro s;induction s with
 |pure a=>intro h w es a w' e;cases e
 |load m a k ih=>
  intro h w es b w' e;simp only[Sem.runT]at e
  cases hc:w.cell? a with
  |some v=>rw[hc]at e;exact ih v (h v) w _ b w' e
  |none=>
   rw[hc]at e
   cases hf:w.farLoad P a (m== .atomic)with
   |ok r=>rw[hf]at e;exact ih r.1 (h r.1) w _ b w' e
   |error x=>rw[hf]at e;cases e;exact .inl (G4 hf)
 |store m a v k ih=>
  intro h w es b w' e;by_cases hv:(∃x,v= .agg x)∨∃x,v= .tuple x
  ·rcases hv with⟨x,rfl⟩|⟨x,rfl⟩<;>(cases e;exact .inl trivial)
  ·have e2:(Sem.store m a v k).runT P w es=match w.cell? a with
     |some _=>if w.frozen? a then(.halt (.unsupported (.unsafePointer "a write to bytes that a string shares")) w,es)else k.runT P (w.setCell a v) (es.push ⟨.cell a,true,m== .atomic⟩)
     |none=>match w.farStore P a v (m== .atomic)with
      | .ok (u',touched)=>k.runT P u' (es++touched.toArray.map (⟨.cell ·,true,m== .atomic⟩))
      | .error h=>(.halt h w,es):=by
    cases v<;>first|rfl|(exfalso;exact hv (.inl ⟨_,rfl⟩))|(exfalso;exact hv (.inr ⟨_,rfl⟩))
   rw[e2]at e
   cases hc:w.cell? a with
   |some x=>
    rw[hc]at e;by_cases hf:w.frozen? a=true
    ·simp only[hf,if_true]at e;cases e;exact .inl trivial
    ·simp only[hf,if_false,eL]at e
     exact ih h _ _ b w' e
   |none=>
    rw[hc]at e
    cases hf:w.farStore P a v (m== .atomic)with
    |ok r=>rw[hf]at e;exact ih h _ _ b w' e
    |error x=>rw[hf]at e;cases e;exact .inl (Ot hf)
 |new o k ih=>exact fun h w es b w' e=>ih _ (h _) _ _ b w' e
 |shape r k ih=>exact fun h w es b w' e=>ih _ (h _) _ _ b w' e
 |freeze a n k ih=>exact fun h w es b w' e=>ih h _ _ b w' e
 |frozen a k ih=>exact fun h w es b w' e=>ih _ (h _) _ _ b w' e
 |getObj r k ih=>
  intro h w es b w' e;simp only[Sem.runT]at e
  cases hc:w.heap[r]? with
  |none=>rw[hc]at e;cases e;exact .inl trivial
  |some o=>rw[hc]at e;cases o<;>first|(cases e;exact .inl trivial;done)|exact ih _ (h _) _ _ b w' e
 |setObj r o k ih=>
  intro h w es b w' e;simp only[Sem.runT]at e
  cases hc:w.heap[r]? with
  |none=>rw[hc]at e;cases e;exact .inl trivial
  |some x=>rw[hc]at e;cases x<;>first|(cases e;exact .inl trivial;done)|exact ih h _ _ b w' e
 |choose q k ih=>
  intro h w es b w' e;simp only[Sem.runT]at e;split at e
  all_goals
   exact ih _ (h _) _ _ b w' e
 |sys c k ih=>exact fun h w es b w' e=>ih _ (h.2 _) _ _ b w' e
 |program k ih=>exact fun h w es b w' e=>ih P h _ _ b w' e
 |mark m k ih=>exact fun h w es b w' e=>ih h _ _ b w' e
 |halt x=>intro h w es a w' e;cases e;exact h
section
variable {P:Program}
theorem Zu {fr:Frame}(h:zM fr)(v:Value):zM (fr.finish v):=by
 unfold iB;unfold zM at h⊢;split<;>rename_i e<;>(try rw[e]at h)
 ·intro x hx
  rcases iC.1 hx with rfl|hx
  ·exact trivial
  ·exact h x (hU _ hx)
 ·intro x hx
  rcases iC.1 hx with rfl|hx
  ·exact trivial
  ·exact h x (hU _ hx)
 ·exact fun x hx=>h x (hU _ hx)
 ·exact(h _ (eY ..)).elim
 ·exact fun x hx=>h x (hU _ hx)
 ·exact h
theorem Y4 {fr:Frame}(h:zM fr)(c:List PanicEntry):zM (fr.raise c):=by
 unfold iD;split<;>exact h
theorem yn (f:FuncId)(args:Array Value)(k:CallKind):zM (eW P f args k):=by
 intro x hx;unfold eW at hx;rcases iE.1 hx with rfl
 exact trivial
theorem Kd (l:Nat)(f:FuncId)(tmps:Array Value)(a b:Code)(k:CallKind):zM (iF l f tmps a b k):=by
 intro x hx;unfold iF at hx;simp only[iC,List.not_mem_nil,or_false]at hx;rcases hx with rfl|rfl|rfl<;>exact trivial
theorem Ke (args:Array Value)(k:CallKind):zM (iG P "runtime.print$piece" args k):=by
 intro x hx;unfold iG at hx;rcases iE.1 hx with rfl
 exact rfl
theorem vQ {id:Nat}:∀{k k' :List Item},exitTo id k=some k' →∀x∈k',x∈k
 |[],_,h=>by cases h
 |y::k,k',h=>by
  intro x hx
  cases y<;>first
   |exact hU _ (vQ (k:=k) h x hx)
   |(simp only[exitTo]at h
     split at h
     ·cases h;exact hU _ hx
     ·exact hU _ (vQ (k:=k) h x hx))
theorem vN {l:Nat}:∀{k k' :List Item},gotoIn l k=some k' →∀x∈k',x∈k∨Xq x
 |[],_,h=>by cases h
 |y::k,k',h=>by
  intro x hx
  cases y<;>first
   |exact(vN (k:=k) h x hx).imp (hU _) id
   |(simp only[gotoIn]at h
     split at h
     ·cases h
      rcases iC.1 hx with rfl|hx
      ·exact .inr trivial
      ·rcases iC.1 hx with rfl|hx
       ·exact .inr trivial
       ·exact .inl (hU _ hx)
     ·exact(vN (k:=k) h x hx).imp (hU _) id)
theorem yM:∀{cs:List Frame} {fr:Frame} {v:Value} {a0 :List Frame},tryRecover fr cs=some (v,a0)→(∀f∈cs,zM f)→∀f∈a0,zM f
 |[],fr,v,a0,h,_=>by
  unfold tryRecover at h;split at h<;>first|cases h|(rename_i e;cases e)
 |c::cs,fr,v,a0,h,hc=>by
  unfold tryRecover at h;split at h
  ·rename_i e
   cases e
   split at h
   ·cases h
    intro f hf;rcases iC.1 hf with rfl|hf
    ·exact hc c (eY ..)
    ·exact hc f (hU _ hf)
   ·cases h
  ·rename_i e
   cases e
   obtain⟨⟨v1,a1⟩,h1,h2⟩:=iH.1 h
   cases h2
   intro f hf;rcases iC.1 hf with rfl|hf
   ·exact hc _ (eY ..)
   ·exact yM h1 (fun f hf=>hc f (hU _ hf)) f hf
  ·cases h
theorem yf:∀{cs:List Frame} {l:Nat} {v:Value} {a0 :List Frame},tryRecoverLoop l cs=some (v,a0)→(∀f∈cs,zM f)→∀f∈a0,zM f
 |[],l,v,a0,h,_=>by cases h
 |c::cs,l,v,a0,h,hc=>by
  unfold tryRecoverLoop at h;obtain⟨⟨v1,a2⟩,h1,h2⟩:=iH.1 h
  cases h2
  have a1 :∀f∈cs,zM f:=fun f hf=>hc f (hU _ hf)
  have h3:∀f∈a2,zM f:=by
   split at h1
   ·exact yf h1 a1
   ·split at h1
    ·exact yM h1 a1
    ·exact yf h1 a1
   ·exact yf h1 a1
  intro f hf;rcases iC.1 hf with rfl|hf
  ·exact hc _ (eY ..)
  ·exact h3 f hf
theorem Oq (fr:Frame)(v:Value):(fr.finish v).kind=fr.kind:=by
 unfold iB;split<;>rfl
theorem gE (fr:Frame)(c:List PanicEntry):(fr.raise c).kind=fr.kind:=by
 unfold iD;split<;>rfl
theorem yy:∀{cs:List Frame} {fr:Frame} {v:Value} {a0 :List Frame},tryRecover fr cs=some (v,a0)→∀f0,yj f0 a0 =yj f0 cs
 |[],fr,v,a0,h,_=>by
  unfold tryRecover at h;split at h<;>first|cases h|(rename_i e;cases e)
 |c::cs,fr,v,a0,h,f0=>by
  unfold tryRecover at h;split at h
  ·rename_i e
   cases e
   split at h
   ·cases h
    show yj _ cs=yj c cs;exact kg (by rfl) cs
   ·cases h
  ·rename_i e
   cases e
   obtain⟨⟨v1,a1⟩,h1,h2⟩:=iH.1 h
   cases h2
   exact yy h1 c
  ·cases h
theorem y5:∀{cs:List Frame} {l:Nat} {v:Value} {a0 :List Frame},tryRecoverLoop l cs=some (v,a0)→∀f0,yj f0 a0 =yj f0 cs
 |[],l,v,a0,h,_=>by cases h
 |c::cs,l,v,a0,h,f0=>by
  unfold tryRecoverLoop at h;obtain⟨⟨v1,a1⟩,h1,h2⟩:=iH.1 h
  cases h2
  show yj c a1=yj c cs;split at h1
  ·exact y5 h1 c
  ·split at h1
   ·exact yy h1 c
   ·exact y5 h1 c
  ·exact y5 h1 c
theorem Rep.same {dy:Option Dying}{a b:Frame}{cs:List Frame}(h:Rep dy b cs)(hk:a.kind=b.kind):Rep dy a cs:=fun d h1 h2=>(kg hk cs).trans (h d h1 h2)
theorem Rep.fin {dy:Option Dying}{fr:Frame}{cs:List Frame}(h:Rep dy fr cs)(v:Value):Rep dy (fr.finish v) cs:=h.same (Oq _ _)
theorem Rep.rai {dy:Option Dying}{fr:Frame}{cs:List Frame}(h:Rep dy fr cs)(v:List PanicEntry):Rep dy (fr.raise v) cs:=h.same (gE _ _)
theorem zu.go {dy:Option Dying}{fr:Frame}{cs:List Frame}{st:GoStatus}{w:World}(h1:zM fr)(h2:∀f∈cs,zM f)(h3:Rep dy fr cs)(a0:∀t,st≠ .sleeping t:=by intro t h;cases h):zu dy (.go {frame:=fr,callers:=cs,status:=st,dying:=dy} w):=⟨⟨h1,h2,h3⟩,fun h=>h,fun _ _=>xH,a0⟩
theorem qX {dy:Option Dying}(main:Bool)(fr:Frame)(a3:zM fr)(cs:List Frame)(a1:∀f∈cs,zM f)(hb:Rep dy fr cs)(a2:∀d,dy=some d→d.calling=true)(v:Value)(w:World):zu dy (doReturn P main fr cs dy v w):=by
 unfold doReturn
 cases cs with
 |cons c rest=>
  have h1:=a1 c (eY ..);have h2:∀f∈rest,zM f:=fun f hf=>a1 f (hU _ hf)
  have a0 :Rep dy c rest:=hb;simp only;split
  ·exact .go (Zu h1 _) h2 (a0.fin _)
  ·exact .go (Zu h1 _) h2 (a0.fin _)
  ·exact .go h1 h2 a0
  ·refine .go ?_ h2 ?_
   ·split
    ·split<;>exact h1
    ·exact h1
   ·refine a0.same ?_
    split
    ·split<;>rfl
    ·rfl
 |nil=>
  simp only
  cases dy with
  |some d=>
   have hk:fr.kind= .report:=hb d rfl (a2 d rfl);rw[hk]
   cases v<;>first
    |exact trivial
    |exact⟨⟨a3,a1,fun d' h1 h2=>by cases h1;cases h2⟩,(fun _ h=>by cases h),(fun h=>by cases h),(fun t h=>by cases h)⟩
  |none=>
   split
   ·rename_i e;cases e
   ·exact trivial
   ·split
    ·exact .go a3 a1 hb
    ·split
     ·exact .go (yn _ _ _) (fun _ h=>by cases h) (fun _ h=>by cases h)
     ·exact trivial
theorem F_ {dy:Option Dying}(fr:Frame)(a2:zM fr)(cs:List Frame)(a1:∀f∈cs,zM f)(hb:Rep dy fr cs)(g:Nat)(w:World):zu dy (early P fr cs dy g w):=by
 have hn:∀v:World,zu dy (match v.heap[g]? with
   |some (.pending c elem)=>GStep.go {frame:=fr,callers:=cs,status:= .running,dying:=dy} {v with heap:=v.heap.setIfInBounds g (.cells c elem)}
   |_=> .ended (.stuck "early: the variable does not wait" (fr.pos P)) v):=by
  intro v;split
  ·exact .go a2 a1 hb
  ·exact trivial
 have a0:∀(l:List FuncId) (f0:Frame),yj f0 (l.map (eW P · #[] .early)++fr::cs)=yj fr cs:=by
  intro l;induction l with
  |nil=>exact fun _=>rfl
  |cons a l ih=>exact fun f0=>ih _
 have ht:∀(v:World) (f:FuncId) (l:List FuncId),zu dy (GStep.go {frame:=eW P f #[] .early,callers:=l.map (eW P · #[] .early)++fr::cs,status:= .running,dying:=dy} v):=by
  intro v f l;refine .go (yn _ _ _) (fun x hx=> ?_) (fun d h1 h2=>(a0 _ _).trans (hb d h1 h2));rcases List.mem_append.1 hx with hx|hx
  ·obtain⟨y,_,rfl⟩:=List.mem_map.1 hx
   exact yn _ _ _
  ·rcases iC.1 hx with rfl|hx
   ·exact a2
   ·exact a1 x hx
 unfold early;simp only;repeat' (first
  |exact trivial
  |exact hn _
  |exact ht _ _ _
  |split)
end
