import Derived.RunT
import Derived.Test.YtolgebdmffcemaaGreatDoorQ01
set_option linter.all false
set_option maxHeartbeats 20000000
set_option maxRecDepth 1000000
open Go renaming World→eX,Question→iC,Program→eA,Value→eB,Event→eS,Frame→iK,Goroutine→eZ
open Nat renaming le_refl→iA,add_zero→iE,add_assoc→iF,le_trans→iB,sub_self→iJ,le_of_eq→iN
open Go.World renaming ask→iD,sys→iG,farStore→iH,freeze→iI
open Bool renaming false_eq_true→eU,not_true→eW,and_false→iR
open Go.Program renaming brought→iL
open Go.Frame renaming enter→iM,finish→iS,raise→iU,round→iW,ofRow→iX
open List renaming mem_cons_self→iO,mem_cons_of_mem→iQ,mem_cons→iT,mem_singleton→iV,mem_append→iZ
open Array renaming foldl_toList→iP
open Option renaming map_eq_some_iff→iY
namespace Go.Proofs.YtolgebdmffcemaaGreatDoor
open Go
def re (w:eX)(T:Nat→iC→Nat)(d:Nat):eX:={w with tape:=T,drawn:=d}
def ZH (w:eX)(T:Nat→iC→Nat)(d:Nat):Prop:=∀k q,T (d+k) q=w.tape (w.drawn+k) q
def reR {α:Type}(T:Nat→iC→Nat)(d b:Nat):Result α→Result α
 | .ok a w=> .ok a (re w T (d+(w.drawn-b)))
 | .halt h w=> .halt h (re w T (d+(w.drawn-b)))
def zB {α:Type}:Result α→eX
 | .ok _ w| .halt _ w=>w
theorem ZH.later {w v:eX}{T:Nat→iC→Nat}{d:Nat}(h:ZH w T d)(ht:v.tape=w.tape)(hd:w.drawn≤v.drawn):ZH v T (d+(v.drawn-w.drawn)):=fun k q=>by
 have:=h (v.drawn-w.drawn+k) q;rw[ht];rw[show d+(v.drawn-w.drawn)+k=d+(v.drawn-w.drawn+k)by omega,this];congr 1
 omega
theorem U_ {α:Type}:∀(s:Ask α) (w:eX) (T:Nat→iC→Nat) (d:Nat),ZH w T d→(w.ask s).2.tape=w.tape∧w.drawn≤(w.ask s).2.drawn∧(re w T d).ask s=((w.ask s).1,re (w.ask s).2 T (d+((w.ask s).2.drawn-w.drawn)))
 | .done a,w,T,d,_=>⟨rfl,iA _,by simp[iD]⟩
 | .ask what range k,w,T,d,h=>by
  by_cases hf:(Question.extern what range).forced=true
  ·have:=U_ (k 0) w T d h
   simp only[iD,hf,if_true];exact this
  ·have h0:=h 0 (.extern what range)
   simp only[iE]at h0;have hT:ZH {w with drawn:=w.drawn+1} T (d+1):=fun j q=>by
    have:=h (1+j) q;simpa[iF]using this
   obtain⟨h1,h2,h3⟩:=U_ (k ((Question.extern what range).cut (w.tape w.drawn (.extern what range)))) {w with drawn:=w.drawn+1} T (d+1) hT;simp only[iD,hf,if_false,eU];refine⟨h1,by have:=h2;simp only at this;omega,?_⟩;show iD {(re w T d)with drawn:=d+1} (k ((Question.extern what range).cut (T d (.extern what range))))=_;rw[h0];rw[show({(re w T d)with drawn:=d+1}:eX)=re {w with drawn:=w.drawn+1} T (d+1)from rfl,h3];simp only at h2⊢;congr 2
   omega
theorem Ud (w:eX)(c:Sys)(T:Nat→iC→Nat)(d:Nat)(h:ZH w T d):(w.sys c).2.tape=w.tape∧w.drawn≤(w.sys c).2.drawn∧(re w T d).sys c=((w.sys c).1,re (w.sys c).2 T (d+((w.sys c).2.drawn-w.drawn))):=by
 obtain⟨h1,h2,h3⟩:=U_ (Kernel.perform c w.os) w T d h;unfold iG;rw[show(re w T d).os=w.os from rfl,h3];generalize hx:w.ask (Kernel.perform c w.os)=x at h1 h2 h3⊢;obtain⟨⟨r,os⟩,w'⟩:=x;simp only at h1 h2 h3⊢
 cases r<;>first|exact⟨h1,h2,rfl⟩|exact⟨rfl,iA _,by simp[re]⟩
theorem JW {α:Type}(T:Nat→iC→Nat)(d b:Nat)(r:Result α)(h:b+1≤(zB r).drawn):reR T (d+1) (b+1) r=reR T d b r:=by
 cases r<;>simp only[reR,zB]at h⊢<;>(congr 2;omega)
theorem JX {α:Type}(T:Nat→iC→Nat)(d:Nat){b c:Nat}{r:Result α}(hb:b≤c)(h:c≤(zB r).drawn):reR T (d+(c-b)) c r=reR T d b r:=by
 cases r<;>simp only[reR,zB]at h⊢<;>(congr 2;omega)
theorem Ub (p:eA)(w:eX)(at_:Addr)(u:TypeId)(k:Addr)(v:eB)(a0:Bool)(T:Nat→iC→Nat)(d:Nat):
  (re w T d).viewStore p at_ u k v a0=(w.viewStore p at_ u k v a0).map (fun x=>(re x.1 T d,x.2))∧∀w' l,w.viewStore p at_ u k v a0= .ok (w',l)→w'.tape=w.tape∧w'.drawn=w.drawn:=by
 have hs:(re w T d).seen p at_ u k a0=w.seen p at_ u k a0:=rfl;unfold World.viewStore;rw[hs,show(re w T d).heap=w.heap from rfl];by_cases ht:(!tight p p.depth u)=true
 ·simp only[ht,if_true]
  exact⟨rfl,fun w' l e=>by cases e⟩
 simp only[ht,if_false,eU]
 cases w.seen p at_ u k a0 with
 |error e=>exact⟨rfl,fun w' l e=>by cases e⟩
 |ok x=>
  obtain⟨c,e,a1,first,a4,a3⟩:=x
  cases v.bytes? with
  |none=>exact⟨rfl,fun w' l e=>by cases e⟩
  |some a2=>
   simp only[bind,Except.bind,pure,Except.pure];split
   ·exact⟨rfl,fun w' l e=>by cases e⟩
   ·split
    ·exact⟨rfl,fun w' l e=>by cases e⟩
    ·exact⟨rfl,fun w' l e=>by cases e;exact⟨rfl,rfl⟩⟩
theorem Kv (p:eA)(w:eX)(a:Addr)(v:eB)(a0:Bool)(T:Nat→iC→Nat)(d:Nat):
  (re w T d).farStore p a v a0=(w.farStore p a v a0).map (fun x=>(re x.1 T d,x.2))∧∀w' l,w.farStore p a v a0= .ok (w',l)→w'.tape=w.tape∧w'.drawn=w.drawn:=by
 unfold iH;rw[show(re w T d).heap=w.heap from rfl];have hn:∀x,(re w T d).noCell a x=w.noCell a x:=fun _=>rfl
 cases hb:w.heap[a.block]? with
 |none=>exact⟨by simp[Except.map,hn],by simp⟩
 |some o=>
  cases o with
  |view at_ u=>
   obtain⟨h1,h2⟩:=Ub p w at_ u a v a0 T d;simp only[h1]
   cases hx:w.viewStore p at_ u a v a0 with
   |ok r=>exact⟨rfl,fun w' l e=>h2 w' l (by rw[hx];simpa using e)⟩
   |error e=>exact⟨rfl,by simp⟩
  |_=>exact⟨by simp[Except.map,hn],by simp⟩
theorem KY {α:Type}(p:eA):∀(s:Sem α) (w:eX) (es:Array eS) (T:Nat→iC→Nat) (d:Nat),ZH w T d→
  (zB (s.runT p w es).1).tape=w.tape∧w.drawn≤(zB (s.runT p w es).1).drawn∧s.runT p (re w T d) es=(reR T d w.drawn (s.runT p w es).1,(s.runT p w es).2):=by
 intro s;induction s with
 |pure a=>intro w es T d h;exact⟨rfl,iA _,by simp[Sem.runT,reR]⟩
 |load m a k ih=>
  intro w es T d h;simp only[Sem.runT];rw[show(re w T d).cell? a=w.cell? a from rfl,show(re w T d).farLoad p a (m== .atomic)=w.farLoad p a (m== .atomic)from rfl]
  cases w.cell? a with
  |some v=>exact ih v w _ T d h
  |none=>
   cases w.farLoad p a (m== .atomic)with
   |ok r=>exact ih r.1 w _ T d h
   |error e=>exact⟨rfl,iA _,by simp[reR]⟩
 |store m a v k ih=>
  intro w es T d h;by_cases hv:(∃x,v= .agg x)∨∃x,v= .tuple x
  ·rcases hv with⟨x,rfl⟩|⟨x,rfl⟩<;>exact⟨rfl,iA _,by simp[Sem.runT,reR]⟩
  ·have e:∀u:eX,(Sem.store m a v k).runT p u es=match u.cell? a with
     |some _=>if u.frozen? a then(.halt (.unsupported (.unsafePointer "a write to bytes that a string shares")) u,es)else k.runT p (u.setCell a v) (es.push ⟨.cell a,true,m== .atomic⟩)
     |none=>match u.farStore p a v (m== .atomic)with
      | .ok (u',touched)=>k.runT p u' (es++touched.toArray.map (⟨.cell ·,true,m== .atomic⟩))
      | .error h=>(.halt h u,es):=by
    intro u
    cases v<;>first|rfl|(exfalso;exact hv (.inl ⟨_,rfl⟩))|(exfalso;exact hv (.inr ⟨_,rfl⟩))
   rw[e w,e (re w T d)];rw[show(re w T d).cell? a=w.cell? a from rfl,show(re w T d).frozen? a=w.frozen? a from rfl]
   cases w.cell? a with
   |some x=>
    by_cases hf:w.frozen? a=true
    ·simp only[hf,if_true]
     exact⟨rfl,iA _,by simp[reR]⟩
    ·simp only[hf,if_false,eU]
     exact ih (w.setCell a v) _ T d h
   |none=>
    obtain⟨f1,f2⟩:=Kv p w a v (m== .atomic) T d;rw[f1]
    cases hx:w.farStore p a v (m== .atomic)with
    |ok r=>
     obtain⟨w',l⟩:=r;obtain⟨g1,g2⟩:=f2 w' l hx;have hT:ZH w' T d:=fun j q=>by rw[g1,g2];exact h j q
     have:=ih w' (es++l.toArray.map (⟨.cell ·,true,m== .atomic⟩)) T d hT;simp only[Except.map];rw[g1,g2]at this;exact this
    |error e=>exact⟨rfl,iA _,by simp[reR,Except.map]⟩
 |new o k ih=>
  intro w es T d h;exact ih w.heap.size {w with heap:=w.heap.push o} es T d h
 |shape r k ih=>
  intro w es T d h;exact ih (w.shape? r) w es T d h
 |freeze a n k ih=>
  intro w es T d h;have e:(re w T d).freeze a n=re (w.freeze a n) T d:=by
   unfold iI re;split<;>rfl
  have e2:(w.freeze a n).tape=w.tape:=by unfold iI;split<;>rfl
  have e3:(w.freeze a n).drawn=w.drawn:=by unfold iI;split<;>rfl
  have:=ih (w.freeze a n) es T d (fun j q=>by rw[e2,e3];exact h j q);simp only[Sem.runT,e];rw[e2,e3]at this;exact this
 |frozen a k ih=>
  intro w es T d h;exact ih (w.frozen? a) w es T d h
 |getObj r k ih=>
  intro w es T d h;simp only[Sem.runT];rw[show(re w T d).heap=w.heap from rfl]
  cases w.heap[r]? with
  |none=>exact⟨rfl,iA _,by simp[reR]⟩
  |some o=>cases o<;>first|exact⟨rfl,iA _,by simp[reR]⟩|exact ih _ w _ T d h
 |setObj r o k ih=>
  intro w es T d h;simp only[Sem.runT];rw[show(re w T d).heap=w.heap from rfl]
  cases w.heap[r]? with
  |none=>exact⟨rfl,iA _,by simp[reR]⟩
  |some x=>cases x<;>first|exact⟨rfl,iA _,by simp[reR]⟩|exact ih {w with heap:=w.heap.setIfInBounds r o} _ T d h
 |choose q k ih=>
  intro w es T d h;by_cases hf:q.forced=true
  ·simp only[Sem.runT,hf,if_true]
   exact ih 0 w es T d h
  ·have h0:=h 0 q
   simp only[iE]at h0;have hT:ZH {w with drawn:=w.drawn+1} T (d+1):=fun j q=>by
    have:=h (1+j) q;simpa[iF]using this
   obtain⟨h1,h2,h3⟩:=ih (q.cut (w.tape w.drawn q)) {w with drawn:=w.drawn+1} es T (d+1) hT;simp only[Sem.runT,hf,if_false,eU];refine⟨h1,by have:=h2;simp only at this;omega,?_⟩;show Sem.runT p (k (q.cut (T d q))) {(re w T d)with drawn:=d+1} es=_;rw[h0,show({(re w T d)with drawn:=d+1}:eX)=re {w with drawn:=w.drawn+1} T (d+1)from rfl,h3,JW T d w.drawn _ h2]
 |sys c k ih=>
  intro w es T d h;obtain⟨h1,h2,h3⟩:=Ud w c T d h;have hT:=h.later h1 h2;obtain⟨g1,g2,g3⟩:=ih (w.sys c).1 (w.sys c).2 (es.push ⟨.output,true,false⟩) T _ hT;simp only[Sem.runT];rw[h3];refine⟨g1.trans h1,iB h2 g2,?_⟩;rw[g3,JX T d h2 g2]
 |program k ih=>
  intro w es T d h;exact ih p w es T d h
 |mark m k ih=>
  intro w es T d h;exact ih w _ T d h
 |halt x=>intro w es T d h;exact⟨rfl,iA _,by simp[Sem.runT,reR]⟩
def ZP:GStep→eX
 | .go _ w _| .comm _ _ _ _ w _| .spawn _ _ w _| .count _ w _| .timer _ _ w _| .alone _ _ w _| .newcoro _ _ _ w _| .coroswitch _ _ _ w _| .collect _ w _| .watch _ w _| .ended _ w _=>w
def Ui (x:GStep)(v:eX):GStep:=
 match x with
 | .go g _ es=> .go g v es
 | .comm g c b s _ es=> .comm g c b s v es
 | .spawn g c _ es=> .spawn g c v es
 | .count g _ es=> .count g v es
 | .timer g o _ es=> .timer g o v es
 | .alone g o _ es=> .alone g o v es
 | .newcoro g c d _ es=> .newcoro g c d v es
 | .coroswitch g c e _ es=> .coroswitch g c e v es
 | .collect g _ es=> .collect g v es
 | .watch g _ es=> .watch g v es
 | .ended o _ es=> .ended o v es
def GRe (T:Nat→iC→Nat)(d:Nat)(w:eX)(x y:GStep):Prop:=
 (ZP x).tape=w.tape∧w.drawn≤(ZP x).drawn∧y=Ui x (re (ZP x) T (d+((ZP x).drawn-w.drawn)))
def reW {α:Type}(r:Result α)(T:Nat→iC→Nat)(d:Nat):Result α:=
 match r with
 | .ok a w=> .ok a (re w T d)
 | .halt h w=> .halt h (re w T d)
theorem GRe.here {T:Nat→iC→Nat}{d:Nat}{w:eX}{x y:GStep}(h1:ZP x=w)(h2:y=Ui x (re w T d)):GRe T d w x y:=by
 refine⟨by rw[h1],by rw[h1];exact iA _,?_⟩;rw[h1,iJ,iE];exact h2
theorem GRe.later {T:Nat→iC→Nat}{d:Nat}{w v:eX}{x y:GStep}(ht:v.tape=w.tape)(hd:w.drawn≤v.drawn)(h:GRe T (d+(v.drawn-w.drawn)) v x y):GRe T d w x y:=by
 obtain⟨h1,h2,h3⟩:=h;refine⟨h1.trans ht,iB hd h2,?_⟩;rw[h3];congr 2
 omega
theorem GRe.after {T:Nat→iC→Nat}{d:Nat}{w:eX}{x y:GStep}(h:GRe T d w x y)(es:Array eS):GRe T d w (GStep.after es x) (GStep.after es y):=by
 obtain⟨h1,h2,h3⟩:=h;subst h3
 cases x<;>exact⟨h1,h2,rfl⟩
theorem GRe.runT {α:Type}{T:Nat→iC→Nat}{d:Nat}{w:eX}(hT:ZH w T d)(p:eA)(s:Sem α)(k:Result α→Array eS→GStep)
  (hk:∀r es d',ZH (zB r) T d' →GRe T d' (zB r) (k r es) (k (reW r T d') es)):
  GRe T d w (k (s.runT p w #[]).1 (s.runT p w #[]).2) (k (s.runT p (re w T d) #[]).1 (s.runT p (re w T d) #[]).2):=by
 obtain⟨h1,h2,h3⟩:=KY p s w #[] T d hT;rw[h3];have h4:=hk (s.runT p w #[]).1 (s.runT p w #[]).2 (d+((zB (s.runT p w #[]).1).drawn-w.drawn)) (hT.later h1 h2);refine GRe.later h1 h2 ?_;have e:reR T d w.drawn (s.runT p w #[]).1=reW (s.runT p w #[]).1 T (d+((zB (s.runT p w #[]).1).drawn-w.drawn)):=by
  cases(s.runT p w #[]).1<;>rfl
 rw[e];exact h4
section
variable {T:Nat→iC→Nat}{d:Nat}{w:eX}
theorem Ql (p:eA)(main:Bool)(fr:iK)(cs:List iK)(dy:Option Dying)(v:eB):GRe T d w (doReturn p main fr cs dy v w) (doReturn p main fr cs dy v (re w T d)):=by
 unfold doReturn;repeat' split
 all_goals exact GRe.here rfl rfl
theorem Cf (fr:iK)(l:List ByteArray)(m:String)(b:Bool):GRe T d w (dieOf fr l m b w) (dieOf fr l m b (re w T d)):=GRe.here rfl rfl
theorem OM (fr:iK)(m:String):GRe T d w (endThrow fr m w) (endThrow fr m (re w T d)):=GRe.here rfl rfl
theorem Qk (p:eA)(fr:iK)(v:eB):GRe T d w (endPrinting p fr v w) (endPrinting p fr v (re w T d)):=by
 unfold endPrinting;simp only;split
 ·exact OM _ _
 ·exact GRe.here rfl rfl
theorem jy {α:Type}(hT:ZH w T d)(p:eA)(s:Sem α):(zB (s.run p w)).tape=w.tape∧w.drawn≤(zB (s.run p w)).drawn∧s.run p (re w T d)=reW (s.run p w) T (d+((zB (s.run p w)).drawn-w.drawn)):=by
 obtain⟨h1,h2,h3⟩:=KY p s w #[] T d hT;have h4:=congrArg Prod.fst h3;rw[Sem.runT_fst]at h1 h2;rw[Sem.runT_fst,Sem.runT_fst]at h4;refine⟨h1,h2,h4.trans ?_⟩
 cases s.run p w<;>rfl
theorem Kw (hT:ZH w T d)(p:eA)(fr:iK)(cs:List iK)(dy:Option Dying)(m:String):GRe T d w (endFatal p fr cs dy m w) (endFatal p fr cs dy m (re w T d)):=by
 unfold endFatal;extract_lets chain raw shown
 clear_value shown
 obtain⟨h1,h2,h3⟩:=jy hT p shown;rw[h3];refine GRe.later h1 h2 ?_
 cases shown.run p w with
 |ok x v=>exact Cf _ _ _ _
 |halt h v=>cases h<;>exact GRe.here rfl rfl
theorem Gs (hT:ZH w T d)(fd:Nat)(text:ByteArray)(o:Outcome):GRe T d w (endWith w fd text o) (endWith (re w T d) fd text o):=by
 obtain⟨h1,h2,h3⟩:=Ud w (.write fd text) T d hT;unfold endWith;rw[h3];generalize hx:w.sys (.write fd text)=x at h1 h2⊢;obtain⟨r,v⟩:=x;refine GRe.later (v:=v) h1 h2 ?_
 cases r with
 |int n=>
  simp only;generalize(n==(text.size:Int)&&decide (text.size≤65536))=c
  cases c<;>exact GRe.here rfl rfl
 |_=>exact GRe.here rfl rfl
theorem YV {α:Type}(hT:ZH w T d)(p:eA)(s:Sem α):(zB (s.runT p w #[]).1).tape=w.tape∧w.drawn≤(zB (s.runT p w #[]).1).drawn∧s.runT p (re w T d) #[]=(reW (s.runT p w #[]).1 T (d+((zB (s.runT p w #[]).1).drawn-w.drawn)),(s.runT p w #[]).2):=by
 obtain⟨h1,h2,h3⟩:=KY p s w #[] T d hT;refine⟨h1,h2,h3.trans ?_⟩
 cases(s.runT p w #[]).1<;>rfl
theorem GRe.runT2 {α:Type}(hT:ZH w T d)(p:eA)(s:Sem α)(K:Result α×Array eS→GStep)
  (hk:∀r es d',ZH (zB r) T d' →GRe T d' (zB r) (K (r,es)) (K (reW r T d',es))):GRe T d w (K (s.runT p w #[])) (K (s.runT p (re w T d) #[])):=
 GRe.runT hT p s (fun r es=>K (r,es)) hk
theorem gE (hT:ZH w T d)(p:eA)(fr:iK)(dy:Dying)(f:Fatal):GRe T d w (writeOn p fr dy f w) (writeOn p fr dy f (re w T d)):=by
 unfold writeOn;extract_lets on
 split
 ·exact GRe.here rfl rfl
 ·rename_i a0 rest _
  refine GRe.runT2 hT p _ (fun(x:Result Unit×Array eS)=>match x with
   |(.ok _ w,es)=>on .running {f with pieces:=rest,begun:=true} w es
   |(.halt .blocked w,_)=>on .blocked f w #[]
   |(.halt (.unsupported u) w,_)=> .ended (.unsupported u "") w
   |(.halt _ w,_)=> .ended (.stuck "the report of a fatal error" "") w) ?_
  intro r es d' _
  cases r with
  |ok x v=>exact GRe.here rfl rfl
  |halt h v=>cases h<;>exact GRe.here rfl rfl
theorem B_ (hT:ZH w T d)(p:eA)(fr:iK)(dy:Dying):GRe T d w (die p fr dy w) (die p fr dy (re w T d)):=by
 unfold die;split
 ·exact gE hT _ _ _ _
 ·split
  ·rw[show printLockHeld p (re w T d)=printLockHeld p w from rfl]
   split
   ·exact GRe.here rfl rfl
   ·exact Gs hT _ _ _
  ·extract_lets dd
   split
   ·exact GRe.here rfl rfl
   ·rename_i s _
    obtain⟨h1,h2,h3⟩:=jy hT p (withAddress s);rw[h3];refine GRe.later h1 h2 ?_
    cases(withAddress s).run p w<;>exact GRe.here rfl rfl
   ·rename_i t a0 name _
    obtain⟨h1,h2,h3⟩:=YV hT p (invoke (.fn (.method name) #[]) #[.iface t a0]);rw[h3];generalize(invoke (.fn (.method name) #[]) #[.iface t a0]).runT p w #[]=x at h1 h2⊢;obtain⟨r,es⟩:=x;refine GRe.after ?_ _
    cases r with
    |ok n v=>cases n<;>first|exact GRe.here rfl rfl|exact GRe.later h1 h2 (GRe.here rfl rfl)|(rename_i x;cases x<;>first|exact GRe.here rfl rfl|exact GRe.later h1 h2 (GRe.here rfl rfl))
    |halt h v=>cases h<;>first|exact GRe.here rfl rfl|exact GRe.later h1 h2 (GRe.here rfl rfl)|exact GRe.later h1 h2 (Qk _ _ _)
   ·exact GRe.here rfl rfl
theorem J6 (p:eA):∀(n:Nat) (f:FuncId),p.found (re w T d) n f=p.found w n f
 |0,_=>rfl
 |n+1,f=>by
  have ih:=J6 p n;simp only[Program.found,ih];rfl
theorem v_ (p:eA):∀(n:Nat) (a b:List FuncId),p.brought (re w T d) n a b=p.brought w n a b
 |0,_,_=>by simp only[iL]
 |n+1,[],_=>by simp only[iL]
 |n+1,f::a,b=>by
  have ih:=v_ p n;simp only[iL,ih];rfl
theorem ON (hT:ZH w T d)(p:eA)(fr:iK)(cs:List iK)(dy:Option Dying)(g:Nat):GRe T d w (early p fr cs dy g w) (early p fr cs dy g (re w T d)):=by
 have hn:∀(v:eX) (e:Nat),GRe T e v (match v.heap[g]? with
   |some (.pending c elem)=>GStep.go {frame:=fr,callers:=cs,status:= .running,dying:=dy} {v with heap:=v.heap.setIfInBounds g (.cells c elem)}
   |_=> .ended (.stuck "early: the variable does not wait" (fr.pos p)) v) (match(re v T e).heap[g]? with
   |some (.pending c elem)=>GStep.go {frame:=fr,callers:=cs,status:= .running,dying:=dy} {(re v T e)with heap:=(re v T e).heap.setIfInBounds g (.cells c elem)}
   |_=> .ended (.stuck "early: the variable does not wait" (fr.pos p)) (re v T e)):=by
  intro v e;rw[show(re v T e).heap=v.heap from rfl]
  cases v.heap[g]? with
  |none=>exact GRe.here rfl rfl
  |some o=>cases o<;>first|exact GRe.here rfl rfl|exact⟨rfl,iA _,by simp[Ui,ZP,re]⟩
 have ht:∀(v:eX) (e:Nat) (f:FuncId),GRe T e v (GStep.go {frame:=iM p f #[] .early,callers:=(if(p.code? f).any p.plainData then(p.brought v (2*p.funcs.size+1) [f] []).drop 1 else []).map (iM p · #[] .early)++fr::cs,status:= .running,dying:=dy} v)
   (GStep.go {frame:=iM p f #[] .early,callers:=(if(p.code? f).any p.plainData then(p.brought (re v T e) (2*p.funcs.size+1) [f] []).drop 1 else []).map (iM p · #[] .early)++fr::cs,status:= .running,dying:=dy} (re v T e)):=by
  intro v e f;rw[v_];exact GRe.here rfl rfl
 unfold early;simp only;by_cases c1:(!p.follows .staticDataAhead)=true
 ·simp only[c1,if_true];exact hn w d
 simp only[c1,if_false,eU]
 cases p.stepOf g with
 |none=>exact GRe.here rfl rfl
 |some f=>
  simp only;by_cases c2:(p.code? f).any p.atRunTime=true
  ·simp only[c2,if_true];exact hn w d
  simp only[c2,if_false,eU];rw[show(re w T d).shape? =w.shape? from rfl];by_cases c3:(((p.code? f).bind fun c=>(readies c).getLast?).bind w.shape?).isSome=true
  ·simp only[c3,if_true];exact hn w d
  simp only[c3,if_false,eU];rw[J6]
  cases p.found w p.funcs.size f with
  |unknown=>exact GRe.here rfl rfl
  |notYet=>cases fr.kind==CallKind.early<;>first|exact GRe.here rfl rfl|exact hn w d
  |either=>
   cases fr.kind==CallKind.early with
   |true=>exact ht w d f
   |false=>
    simp only;by_cases c4:(p.code? f).any p.plainData=true
    ·have:=ht w d f
     simp only[c4,if_true]at this⊢;exact this
    by_cases c5:(!(p.code? f).any p.bareCopy)=true
    ·simp only[c4,c5,if_true,if_false,eU];exact hn w d
    obtain⟨h1,h2,h3⟩:=jy hT p (choose (.early g));rw[h3]
    cases hr:(choose (.early g)).run p w with
    |ok n v=>
     rw[hr]at h1 h2;have h4:=ht v (d+(v.drawn-w.drawn)) f;simp only[c4,c5,if_false,eU]at h4⊢;refine GRe.later h1 h2 ?_
     cases n with
     |zero=>exact hn v _
     |succ n=>exact h4
    |halt h v=>
     rw[hr]at h1 h2;simp only[c4,c5,if_false,eU];exact GRe.later h1 h2 (GRe.here rfl rfl)
end
section
variable {T:Nat→iC→Nat}{d:Nat}{w:eX}
theorem GRe.ite {c:Prop} [Decidable c] {x y x' y' :GStep}(h1:c→GRe T d w x y)(h2:¬c→GRe T d w x' y'):GRe T d w (if c then x else x') (if c then y else y'):=by
 by_cases h:c
 ·rw[if_pos h,if_pos h];exact h1 h
 ·rw[if_neg h,if_neg h];exact h2 h
theorem KT (hT:ZH w T d)(p:eA)(fr:iK)(cs:List iK)(dy:Option Dying)(c:Deferred):GRe T d w (callDeferred p fr cs dy c w) (callDeferred p fr cs dy c (re w T d)):=by
 unfold callDeferred;refine GRe.ite (fun _=>GRe.here rfl rfl) (fun _=> ?_);obtain⟨h1,h2,h3⟩:=YV hT p (invoke c.target c.args);rw[h3];generalize(invoke c.target c.args).runT p w #[]=x at h1 h2⊢;obtain⟨r,es⟩:=x;refine GRe.later h1 h2 ?_
 cases r with
 |ok n v=>
  refine GRe.after ?_ _
  cases n with
  |recover=>simp only[reW,zB];split<;>exact GRe.here rfl rfl
  |alone b x=>cases b<;>exact GRe.here rfl rfl
  |coroswitch b x=>cases x<;>exact GRe.here rfl rfl
  |_=>exact GRe.here rfl rfl
 |halt h v=>
  cases h with
  |fatal m=>
   refine GRe.after ?_ _;exact Kw (hT.later h1 h2) p fr cs dy m
  |_=>exact GRe.after (GRe.here rfl rfl) _
theorem fu (hT:ZH w T d)(p:eA)(main:Bool)(fr:iK)(cs:List iK)(dy:Option Dying):GRe T d w (unwind p main fr cs dy w) (unwind p main fr cs dy (re w T d)):=by
 unfold unwind;split
 ·rename_i block ds _ _
  obtain⟨h1,h2,h3⟩:=YV hT p (Instr.takeDeferred block);rw[h3];generalize(Instr.takeDeferred block).runT p w #[]=x at h1 h2⊢;obtain⟨r,es⟩:=x;refine GRe.later h1 h2 (GRe.after ?_ _)
  cases r<;>exact GRe.here rfl rfl
 ·exact KT hT _ _ _ _ _
 ·split
  ·exact GRe.here rfl rfl
  ·rename_i a0 _
   split
   ·exact GRe.here rfl rfl
   ·split
    ·exact GRe.here rfl rfl
    ·split
     ·split
      ·exact GRe.here rfl rfl
      ·obtain⟨h1,h2,h3⟩:=jy hT p (reportChain a0 false)
       rw[h3];refine GRe.later h1 h2 ?_
       cases(reportChain a0 false).run p w with
       |ok t v=>exact GRe.here rfl rfl
       |halt h v=>cases h<;>exact GRe.here rfl rfl
     ·split
      ·exact Qk _ _ _
      ·exact GRe.here rfl rfl
  ·split
   ·exact Ql _ _ _ _ _ _
   ·rename_i fn _
    obtain⟨h1,h2,h3⟩:=YV hT p (results fn fr.tmps);rw[h3];generalize(results fn fr.tmps).runT p w #[]=x at h1 h2⊢;obtain⟨r,es⟩:=x;refine GRe.later h1 h2 (GRe.after ?_ _)
    cases r with
    |ok t v=>exact Ql _ _ _ _ _ _
    |halt h v=>cases h<;>exact GRe.here rfl rfl
theorem Xc (hT:ZH w T d)(p:eA)(fr:iK)(cs:List iK)(dy:Option Dying)(s:Sem Next):GRe T d w (stepG.apply p true fr cs dy s w) (stepG.apply p true fr cs dy s (re w T d)):=by
 unfold stepG.apply;simp only[if_true];obtain⟨h1,h2,h3⟩:=YV hT p s;rw[h3];generalize s.runT p w #[]=x at h1 h2⊢;obtain⟨r,es⟩:=x;refine GRe.later h1 h2 ?_
 cases r with
 |ok n v=>
  refine GRe.after ?_ _
  cases n with
  |callThen a b c e=>simp only[reW,zB];split<;>exact GRe.here rfl rfl
  |row a b=>simp only[reW,zB];split<;>exact GRe.here rfl rfl
  |stack a b=>simp only[reW,zB];split<;>exact GRe.here rfl rfl
  |recover=>simp only[reW,zB];split<;>exact GRe.here rfl rfl
  |spawn c=>exact GRe.ite (fun _=>GRe.here rfl rfl) (fun _=>GRe.here rfl rfl)
  |_=>exact GRe.here rfl rfl
 |halt h v=>
  cases h with
  |fatal m=>exact GRe.after (Kw (hT.later h1 h2) p fr cs dy m) _
  |unsupported u=>
   cases u with
   |initOrder g=>exact GRe.after (ON (hT.later h1 h2) p fr cs dy g) _
   |_=>exact GRe.after (GRe.here rfl rfl) _
  |_=>exact GRe.after (GRe.here rfl rfl) _
theorem bo (hT:ZH w T d)(p:eA)(fr:iK)(cs:List iK)(dy:Option Dying):GRe T d w (stepG.oper p true fr cs dy w) (stepG.oper p true fr cs dy (re w T d)):=by
 unfold stepG.oper;split
 ·exact GRe.here rfl rfl
 ·split
  ·exact Xc hT _ _ _ _ _
  ·exact Xc hT _ _ _ _ _
theorem VU (hT:ZH w T d)(p:eA)(main:Bool)(fr:iK)(cs:List iK)(dy:Option Dying)(a0:Option Code)(c:Prop) [Decidable c]:
  GRe T d w (match fr.roundOf with
   |none=>if c then GStep.go {frame:={fr with mode:= .returning},callers:=cs,status:= .running,dying:=dy} w else .ended (.stuck "exit, goto: no such block or label" (fr.pos p)) w
   |some l=>GStep.after (seen p fr.fn ((Instr.endRound l a0).runT p w #[]).2) (match((Instr.endRound l a0).runT p w #[]).1 with
    | .ok v w=>doReturn p main fr cs dy v w
    | .halt _ w=> .ended (.stuck "range over a function: no such loop" (fr.pos p)) w))
   (match fr.roundOf with
   |none=>if c then GStep.go {frame:={fr with mode:= .returning},callers:=cs,status:= .running,dying:=dy} (re w T d)else .ended (.stuck "exit, goto: no such block or label" (fr.pos p)) (re w T d)
   |some l=>GStep.after (seen p fr.fn ((Instr.endRound l a0).runT p (re w T d) #[]).2) (match((Instr.endRound l a0).runT p (re w T d) #[]).1 with
    | .ok v w=>doReturn p main fr cs dy v w
    | .halt _ w=> .ended (.stuck "range over a function: no such loop" (fr.pos p)) w)):=by
 cases fr.roundOf with
 |none=>exact GRe.ite (fun _=>GRe.here rfl rfl) (fun _=>GRe.here rfl rfl)
 |some l=>
  obtain⟨h1,h2,h3⟩:=YV hT p (Instr.endRound l a0);simp only[h3];generalize(Instr.endRound l a0).runT p w #[]=x at h1 h2⊢;obtain⟨r,es⟩:=x;refine GRe.later h1 h2 (GRe.after ?_ _)
  cases r with
  |ok t v=>exact Ql _ _ _ _ _ _
  |halt h v=>exact GRe.here rfl rfl
theorem bL (hT:ZH w T d)(p:eA)(main:Bool)(fr:iK)(cs:List iK)(dy:Option Dying):GRe T d w (stepG.exec p main true fr cs dy w) (stepG.exec p main true fr cs dy (re w T d)):=by
 unfold stepG.exec;simp only;split
 ·exact VU hT _ _ _ _ _ _ _
 ·exact VU hT _ _ _ _ _ _ _
 ·exact GRe.here rfl rfl
 ·exact GRe.here rfl rfl
 ·exact GRe.here rfl rfl
 ·exact GRe.here rfl rfl
 ·exact GRe.here rfl rfl
 ·split
  all_goals
   exact GRe.here rfl rfl
 ·exact GRe.here rfl rfl
 ·exact GRe.here rfl rfl
 ·exact GRe.here rfl rfl
 ·exact GRe.here rfl rfl
 ·rename_i id k _
  cases exitTo id k with
  |none=>exact VU hT _ _ _ _ _ _ _
  |some t=>exact GRe.here rfl rfl
 ·rename_i l k _
  cases gotoIn l k with
  |none=>exact VU hT _ _ _ _ _ _ _
  |some t=>exact GRe.here rfl rfl
 ·rename_i f params assign body k _
  obtain⟨h1,h2,h3⟩:=YV hT p (Instr.enterLoop fr.fn fr.tmps params assign body fr.roundOf);rw[h3];generalize(Instr.enterLoop fr.fn fr.tmps params assign body fr.roundOf).runT p w #[]=x at h1 h2⊢;obtain⟨r,es⟩:=x;refine GRe.later h1 h2 (GRe.after ?_ _)
  cases r with
  |ok t v=>exact Xc (hT.later h1 h2) _ _ _ _ _
  |halt h v=>exact GRe.here rfl rfl
 ·exact GRe.here rfl rfl
 ·exact Xc hT _ _ _ _ _
 ·rename_i l k _
  obtain⟨h1,h2,h3⟩:=YV hT p (Instr.endLoop l);rw[h3];generalize(Instr.endLoop l).runT p w #[]=x at h1 h2⊢;obtain⟨r,es⟩:=x;refine GRe.later h1 h2 (GRe.after ?_ _)
  cases r with
  |ok t v=>exact GRe.here rfl rfl
  |halt h v=>cases h<;>exact GRe.here rfl rfl
 ·exact GRe.here rfl rfl
 ·exact Xc hT _ _ _ _ _
 ·rename_i row args k _
  cases Extern.next row with
  |none=>exact GRe.here rfl rfl
  |some e=>exact Xc hT _ _ _ _ _
 ·rename_i id ops a0 k _
  refine GRe.ite (fun _=>GRe.here rfl rfl) (fun _=> ?_);obtain⟨h1,h2,h3⟩:=jy hT p (choose (.order fr.fn id));rw[h3];refine GRe.later h1 h2 ?_
  cases(choose (.order fr.fn id)).run p w<;>exact GRe.here rfl rfl
 ·exact GRe.here rfl rfl
 ·exact GRe.ite (fun _=>bo hT _ _ _ _) (fun _=>GRe.here rfl rfl)
theorem FT (hT:ZH w T d)(p:eA)(main:Bool)(g:eZ):GRe T d w (stepG p main g w) (stepG p main g (re w T d)):=by
 unfold stepG;simp only;split
 ·exact B_ hT _ _ _
 ·exact bL hT _ _ _ _ _
 ·exact fu hT _ _ _ _ _
end
def ZE (w:eX)(T:Nat→iC→Nat)(d n:Nat):Prop:=∀k q,k<n→T (d+k) q=w.tape (w.drawn+k) q
theorem Y3 (w:eX):ZH w w.tape w.drawn:=fun _ _=>rfl
theorem qk {α:Type}(P:eA)(s:Sem α)(w:eX)(es:Array eS):(zB (s.runT P w es).1).tape=w.tape∧w.drawn≤(zB (s.runT P w es).1).drawn:=
 let h:=KY P s w es w.tape w.drawn (Y3 w)
 ⟨h.1,h.2.1⟩
theorem ZE.later {w v:eX}{T:Nat→iC→Nat}{d n:Nat}(h:ZE w T d (n-w.drawn))(ht:v.tape=w.tape)(hd:w.drawn≤v.drawn):ZE v T (d+(v.drawn-w.drawn)) (n-v.drawn):=fun k q hk=>by
 have:=h (v.drawn-w.drawn+k) q (by omega);rw[ht];rw[show d+(v.drawn-w.drawn)+k=d+(v.drawn-w.drawn+k)by omega,this];congr 1
 omega
theorem Fv {α:Type}(s:Ask α)(w:eX):(w.ask s).2.tape=w.tape∧w.drawn≤(w.ask s).2.drawn:=
 let h:=U_ s w w.tape w.drawn (Y3 w)
 ⟨h.1,h.2.1⟩
theorem GA {α:Type}:∀(s:Ask α) (w:eX) (T:Nat→iC→Nat) (d n:Nat),(w.ask s).2.drawn≤n→ZE w T d (n-w.drawn)→(re w T d).ask s=((w.ask s).1,re (w.ask s).2 T (d+((w.ask s).2.drawn-w.drawn)))
 | .done a,w,T,d,n,_,_=>by simp[iD]
 | .ask what range k,w,T,d,n,hn,h=>by
  by_cases hf:(Question.extern what range).forced=true
  ·simp only[iD,hf,if_true]at hn⊢
   exact GA (k 0) w T d n hn h
  ·simp only[iD,hf,if_false,eU]at hn⊢
   have hk:=(Fv (k ((Question.extern what range).cut (w.tape w.drawn (.extern what range)))) {w with drawn:=w.drawn+1}).2;simp only at hk;have h0:=h 0 (.extern what range) (by omega);simp only[iE]at h0;have hT:ZE {w with drawn:=w.drawn+1} T (d+1) (n-(w.drawn+1)):=fun j q hj=>by
    have:=h (1+j) q (by omega);simpa[iF]using this
   have h3:=GA (k ((Question.extern what range).cut (w.tape w.drawn (.extern what range)))) {w with drawn:=w.drawn+1} T (d+1) n hn hT;show iD {(re w T d)with drawn:=d+1} (k ((Question.extern what range).cut (T d (.extern what range))))=_;rw[h0];rw[show({(re w T d)with drawn:=d+1}:eX)=re {w with drawn:=w.drawn+1} T (d+1)from rfl,h3];simp only at hk⊢;congr 2
   omega
theorem Bz (w:eX)(c:Sys)(T:Nat→iC→Nat)(d n:Nat)(hb:(w.sys c).1≠ .wouldBlock)(hn:(w.sys c).2.drawn≤n)(h:ZE w T d (n-w.drawn)):(re w T d).sys c=((w.sys c).1,re (w.sys c).2 T (d+((w.sys c).2.drawn-w.drawn))):=by
 unfold iG at hb hn⊢;have h2:=GA (Kernel.perform c w.os) w T d n;rw[show(re w T d).os=w.os from rfl];generalize hx:w.ask (Kernel.perform c w.os)=x at h2 hb hn⊢;obtain⟨⟨r,os⟩,w'⟩:=x;simp only at h2 hb hn⊢
 cases r<;>first|exact absurd rfl hb|(rw[h2 hn h];rfl)
def B9 {α:Type}:Result α→Prop
 | .ok _ _=>True
 | .halt h _=>¬QK h
theorem CV {α:Type}{F:α→Prop}(P:eA):∀(s:Sem α),Zq P F s→∀(w:eX) (es:Array eS) (T:Nat→iC→Nat) (d n:Nat),B9 (s.runT P w es).1→(zB (s.runT P w es).1).drawn≤n→ZE w T d (n-w.drawn)→
  s.runT P (re w T d) es=(reR T d w.drawn (s.runT P w es).1,(s.runT P w es).2):=by
 intro s;induction s with
 |pure a=>intro _ w es T d n _ _ h;simp[Sem.runT,reR]
 |load m a k ih=>
  intro hs w es T d n hg hn h;simp only[Sem.runT]at hg hn⊢;rw[show(re w T d).cell? a=w.cell? a from rfl,show(re w T d).farLoad P a (m== .atomic)=w.farLoad P a (m== .atomic)from rfl]
  cases hc:w.cell? a with
  |some v=>rw[hc]at hg hn;exact ih v (hs v) w _ T d n hg hn h
  |none=>
   rw[hc]at hg hn
   cases hf:w.farLoad P a (m== .atomic)with
   |ok r=>rw[hf]at hg hn;exact ih r.1 (hs r.1) w _ T d n hg hn h
   |error e=>simp[reR]
 |store m a v k ih=>
  intro hs w es T d n hg hn h;by_cases hv:(∃x,v= .agg x)∨∃x,v= .tuple x
  ·rcases hv with⟨x,rfl⟩|⟨x,rfl⟩<;>simp[Sem.runT,reR]
  ·have e:∀u:eX,(Sem.store m a v k).runT P u es=match u.cell? a with
     |some _=>if u.frozen? a then(.halt (.unsupported (.unsafePointer "a write to bytes that a string shares")) u,es)else k.runT P (u.setCell a v) (es.push ⟨.cell a,true,m== .atomic⟩)
     |none=>match u.farStore P a v (m== .atomic)with
      | .ok (u',touched)=>k.runT P u' (es++touched.toArray.map (⟨.cell ·,true,m== .atomic⟩))
      | .error h=>(.halt h u,es):=by
    intro u
    cases v<;>first|rfl|(exfalso;exact hv (.inl ⟨_,rfl⟩))|(exfalso;exact hv (.inr ⟨_,rfl⟩))
   rw[e w]at hg hn;rw[e w,e (re w T d)];rw[show(re w T d).cell? a=w.cell? a from rfl,show(re w T d).frozen? a=w.frozen? a from rfl]
   cases hc:w.cell? a with
   |some x=>
    rw[hc]at hg hn;by_cases hf:w.frozen? a=true
    ·simp only[hf,if_true];simp[reR]
    ·simp only[hf,if_false,eU]at hg hn⊢
     exact ih hs (w.setCell a v) _ T d n hg hn h
   |none=>
    rw[hc]at hg hn;obtain⟨f1,f2⟩:=Kv P w a v (m== .atomic) T d;rw[f1]
    cases hx:w.farStore P a v (m== .atomic)with
    |ok r=>
     obtain⟨w',l⟩:=r;rw[hx]at hg hn;obtain⟨g1,g2⟩:=f2 w' l hx;have hT:ZE w' T d (n-w'.drawn):=fun j q hj=>by rw[g1,g2];exact h j q (by omega)
     have:=ih hs w' (es++l.toArray.map (⟨.cell ·,true,m== .atomic⟩)) T d n hg hn hT;simp only[Except.map];rw[g2]at this;exact this
    |error e=>simp[reR,Except.map]
 |new o k ih=>intro hs w es T d n hg hn h;exact ih w.heap.size (hs _) {w with heap:=w.heap.push o} es T d n hg hn h
 |shape r k ih=>intro hs w es T d n hg hn h;exact ih (w.shape? r) (hs _) w es T d n hg hn h
 |freeze a m k ih=>
  intro hs w es T d n hg hn h;have e:(re w T d).freeze a m=re (w.freeze a m) T d:=by
   unfold iI re;split<;>rfl
  have e2:(w.freeze a m).tape=w.tape:=by unfold iI;split<;>rfl
  have e3:(w.freeze a m).drawn=w.drawn:=by unfold iI;split<;>rfl
  have:=ih hs (w.freeze a m) es T d n hg hn (fun j q hj=>by rw[e2,e3];exact h j q (by omega));simp only[Sem.runT,e];rw[e3]at this;exact this
 |frozen a k ih=>intro hs w es T d n hg hn h;exact ih (w.frozen? a) (hs _) w es T d n hg hn h
 |getObj r k ih=>
  intro hs w es T d n hg hn h;simp only[Sem.runT]at hg hn⊢;rw[show(re w T d).heap=w.heap from rfl]
  cases hc:w.heap[r]? with
  |none=>simp[reR]
  |some o=>
   rw[hc]at hg hn
   cases o<;>first|(simp[reR];done)|exact ih _ (hs _) w _ T d n hg hn h
 |setObj r o k ih=>
  intro hs w es T d n hg hn h;simp only[Sem.runT]at hg hn⊢;rw[show(re w T d).heap=w.heap from rfl]
  cases hc:w.heap[r]? with
  |none=>simp[reR]
  |some x=>
   rw[hc]at hg hn
   cases x<;>first|(simp[reR];done)|exact ih hs {w with heap:=w.heap.setIfInBounds r o} _ T d n hg hn h
 |choose q k ih=>
  intro hs w es T d n hg hn h;by_cases hf:q.forced=true
  ·simp only[Sem.runT,hf,if_true]at hg hn⊢
   exact ih 0 (hs 0) w es T d n hg hn h
  ·simp only[Sem.runT,hf,if_false,eU]at hg hn⊢
   have hk:=(qk P (k (q.cut (w.tape w.drawn q))) {w with drawn:=w.drawn+1} es).2;simp only at hk;have h0:=h 0 q (by omega);simp only[iE]at h0;have hT:ZE {w with drawn:=w.drawn+1} T (d+1) (n-(w.drawn+1)):=fun j q hj=>by
    have:=h (1+j) q (by omega);simpa[iF]using this
   have h3:=ih (q.cut (w.tape w.drawn q)) (hs _) {w with drawn:=w.drawn+1} es T (d+1) n hg hn hT;show Sem.runT P (k (q.cut (T d q))) {(re w T d)with drawn:=d+1} es=_;rw[h0,show({(re w T d)with drawn:=d+1}:eX)=re {w with drawn:=w.drawn+1} T (d+1)from rfl,h3,JW T d w.drawn _ hk]
 |sys c k ih=>
  intro hs w es T d n hg hn h;obtain⟨⟨x,a1,a2⟩,a0⟩:=hs;simp only[Sem.runT]at hg hn⊢;have hb:(w.sys c).1≠ .wouldBlock:=fun hb=>by
   rw[hb,a1]at hg;exact hg a2
  have hk:=(qk P (k (w.sys c).1) (w.sys c).2 (es.push ⟨.output,true,false⟩)).2;have hd:=(Ud w c w.tape w.drawn (Y3 w)).2.1;have ht:=(Ud w c w.tape w.drawn (Y3 w)).1;rw[Bz w c T d n hb (by omega) h];have:=ih (w.sys c).1 (a0 _) (w.sys c).2 (es.push ⟨.output,true,false⟩) T (d+((w.sys c).2.drawn-w.drawn)) n hg hn (h.later ht hd);rw[this,JX T d hd hk]
 |program k ih=>intro hs w es T d n hg hn h;exact ih P hs w es T d n hg hn h
 |mark m k ih=>intro hs w es T d n hg hn h;exact ih hs w _ T d n hg hn h
 |halt x=>intro _ w es T d n _ _ h;simp[Sem.runT,reR]
def goodG:GStep→Prop
 | .go g _ _=>g.status= .running∧g.dying=none
 | .comm .. | .coroswitch .. =>True
 |_=>False
def GBd (T:Nat→iC→Nat)(d n:Nat)(w:eX)(x y:GStep):Prop:=
 goodG x→(ZP x).drawn≤n→y=Ui x (re (ZP x) T (d+((ZP x).drawn-w.drawn)))
section
variable {T:Nat→iC→Nat}{d n:Nat}{w:eX}{P:eA}
theorem GBd.here {x y:GStep}(h1:ZP x=w)(h2:y=Ui x (re w T d)):GBd T d n w x y:=by
 intro _ _;rw[h1,iJ,iE];exact h2
theorem GBd.bad {x y:GStep}(h:¬goodG x):GBd T d n w x y:=fun hg=>absurd hg h
theorem GBd.later {v:eX}{x y:GStep}(hd:w.drawn≤v.drawn)(hx:goodG x→v.drawn≤(ZP x).drawn)(h:GBd T (d+(v.drawn-w.drawn)) n v x y):GBd T d n w x y:=by
 intro hg hn;rw[h hg hn];congr 2
 have:=hx hg;omega
theorem zK {x:GStep}(es:Array eS):goodG (GStep.after es x)↔goodG x:=by cases x<;>exact Iff.rfl
theorem zq {x:GStep}(es:Array eS):ZP (GStep.after es x)=ZP x:=by cases x<;>rfl
theorem GBd.after {x y:GStep}(h:GBd T d n w x y)(es:Array eS):GBd T d n w (GStep.after es x) (GStep.after es y):=by
 intro hg hn;rw[zK]at hg;rw[zq]at hn⊢;rw[h hg hn]
 cases x<;>rfl
theorem GBd.ite {c:Prop} [Decidable c] {x y x' y' :GStep}(h1:c→GBd T d n w x y)(h2:¬c→GBd T d n w x' y'):GBd T d n w (if c then x else x') (if c then y else y'):=by
 by_cases h:c
 ·rw[if_pos h,if_pos h];exact h1 h
 ·rw[if_neg h,if_neg h];exact h2 h
theorem qX {α:Type}{F:α→Prop}{s:Sem α}(hs:Zq P F s)(hT:ZE w T d (n-w.drawn)){r:Result α}{es:Array eS}(he:s.runT P w #[]=(r,es)):
  w.drawn≤(zB r).drawn∧ZE (zB r) T (d+((zB r).drawn-w.drawn)) (n-(zB r).drawn)∧(B9 r→(zB r).drawn≤n→s.runT P (re w T d) #[]=(reW r T (d+((zB r).drawn-w.drawn)),es)):=by
 have hk:=qk P s w #[];have hb:=CV P s hs w #[] T d n;rw[he]at hk hb;refine⟨hk.2,hT.later hk.1 hk.2,fun h1 h2=>(hb h1 h2 hT).trans ?_⟩
 cases r<;>rfl
theorem Kx (fr:iK)(cs:List iK)(dy:Option Dying)(g:Nat)(w:eX):w.drawn≤(ZP (early P fr cs dy g w)).drawn:=(ON (Y3 w) P fr cs dy g).2.1
theorem fj {c:Prop} [Decidable c] {x y:GStep}(hx:¬goodG x)(hy:¬goodG y):¬goodG (if c then x else y):=by
 split
 ·exact hx
 ·exact hy
theorem uR (fr:iK)(l:List ByteArray)(m:String)(b:Bool)(w:eX):¬goodG (dieOf fr l m b w):=by
 unfold dieOf;exact fun h=>by cases h.2
theorem y9 (fr:iK)(m:String)(w:eX):¬goodG (endThrow fr m w):=by
 unfold endThrow;first|exact uR _ _ _ _ _|exact fun h=>by cases h.2
theorem KV (p:eA)(fr:iK)(v:eB)(w:eX):¬goodG (endPrinting p fr v w):=by
 unfold endPrinting;simp only;split
 ·exact y9 _ _ _
 ·exact fun h=>h
theorem xG (p:eA)(fr:iK)(cs:List iK)(dy:Option Dying)(m:String)(w:eX):¬goodG (endFatal p fr cs dy m w):=by
 unfold endFatal;extract_lets chain raw shown
 clear_value shown
 cases shown.run p w with
 |ok x v=>exact uR _ _ _ _ _
 |halt h v=>cases h<;>exact fun h=>h
theorem VA (fn:Func)(tmps:Array eB):z6 P Any (results fn tmps):=by
 unfold results;refine z6.bind0 (z6.mapMArray _ (fun r=> ?_) _) (fun _=>trivial)
 cases r with
 |tmp t=>exact trivial
 |cell a t=>exact z6.bind0 (Y_ _) fun _=>qq _ _
theorem Qm (main:Bool)(fr:iK)(cs:List iK)(dy:Option Dying)(v:eB):GBd T d n w (doReturn P main fr cs dy v w) (doReturn P main fr cs dy v (re w T d)):=by
 unfold doReturn;repeat' split
 all_goals exact GBd.here rfl rfl
theorem Yo (main:Bool)(fr:iK)(cs:List iK)(dy:Option Dying)(v:eB)(w:eX):ZP (doReturn P main fr cs dy v w)=w:=by
 unfold doReturn;repeat' split
 all_goals rfl
theorem Cd (hT:ZE w T d (n-w.drawn))(fr:iK)(cs:List iK)(dy:Option Dying)(g:Nat):GBd T d n w (early P fr cs dy g w) (early P fr cs dy g (re w T d)):=by
 have hn:∀(v:eX) (e:Nat),GBd T e n v (match v.heap[g]? with
   |some (.pending c elem)=>GStep.go {frame:=fr,callers:=cs,status:= .running,dying:=dy} {v with heap:=v.heap.setIfInBounds g (.cells c elem)}
   |_=> .ended (.stuck "early: the variable does not wait" (fr.pos P)) v) (match(re v T e).heap[g]? with
   |some (.pending c elem)=>GStep.go {frame:=fr,callers:=cs,status:= .running,dying:=dy} {(re v T e)with heap:=(re v T e).heap.setIfInBounds g (.cells c elem)}
   |_=> .ended (.stuck "early: the variable does not wait" (fr.pos P)) (re v T e)):=by
  intro v e;rw[show(re v T e).heap=v.heap from rfl]
  cases v.heap[g]? with
  |none=>exact GBd.here rfl rfl
  |some o=>cases o<;>first|exact GBd.here rfl rfl|(intro _ _;simp[Ui,ZP,re])
 have ht:∀(v:eX) (e:Nat) (f:FuncId),GBd T e n v (GStep.go {frame:=iM P f #[] .early,callers:=(if(P.code? f).any P.plainData then(P.brought v (2*P.funcs.size+1) [f] []).drop 1 else []).map (iM P · #[] .early)++fr::cs,status:= .running,dying:=dy} v)
   (GStep.go {frame:=iM P f #[] .early,callers:=(if(P.code? f).any P.plainData then(P.brought (re v T e) (2*P.funcs.size+1) [f] []).drop 1 else []).map (iM P · #[] .early)++fr::cs,status:= .running,dying:=dy} (re v T e)):=by
  intro v e f;rw[v_];exact GBd.here rfl rfl
 unfold early;simp only;by_cases c1:(!P.follows .staticDataAhead)=true
 ·simp only[c1,if_true];exact hn w d
 simp only[c1,if_false,eU]
 cases P.stepOf g with
 |none=>exact GBd.here rfl rfl
 |some f=>
  simp only;by_cases c2:(P.code? f).any P.atRunTime=true
  ·simp only[c2,if_true];exact hn w d
  simp only[c2,if_false,eU];rw[show(re w T d).shape? =w.shape? from rfl];by_cases c3:(((P.code? f).bind fun c=>(readies c).getLast?).bind w.shape?).isSome=true
  ·simp only[c3,if_true];exact hn w d
  simp only[c3,if_false,eU];rw[J6]
  cases P.found w P.funcs.size f with
  |unknown=>exact GBd.here rfl rfl
  |notYet=>cases fr.kind==CallKind.early<;>first|exact GBd.here rfl rfl|exact hn w d
  |either=>
   cases fr.kind==CallKind.early with
   |true=>exact ht w d f
   |false=>
    simp only;by_cases c4:(P.code? f).any P.plainData=true
    ·have:=ht w d f
     simp only[c4,if_true]at this⊢;exact this
    by_cases c5:(!(P.code? f).any P.bareCopy)=true
    ·simp only[c4,c5,if_true,if_false,eU];exact hn w d
    have hf:(Question.early g).forced=false:=rfl;have h4:=ht {w with drawn:=w.drawn+1} (d+1) f;have h5:=hn {w with drawn:=w.drawn+1} (d+1);simp only[c4,c5,choose,Sem.run,hf,if_false,eU]at h4⊢;intro hg a0;have a1:w.drawn+1≤n:=by
     refine iB ?_ a0
     cases hc:(Question.early g).cut (w.tape w.drawn (.early g))with
     |zero=>
      simp only
      cases w.heap[g]? with
      |none=>exact iA _
      |some o=>cases o<;>exact iA _
     |succ k=>exact iA _
    have h0:=hT 0 (.early g) (by omega);simp only[iE]at h0;rw[show(re w T d).tape (re w T d).drawn (.early g)=w.tape w.drawn (.early g)from h0];revert hg a0
    refine GBd.later (v:={w with drawn:=w.drawn+1}) (Nat.le_succ _) ?_ ?_
    ·intro _
     cases hc:(Question.early g).cut (w.tape w.drawn (.early g))with
     |zero=>
      simp only
      cases w.heap[g]? with
      |none=>exact iA _
      |some o=>cases o<;>exact iA _
     |succ k=>exact iA _
    ·rw[show d+(({w with drawn:=w.drawn+1}:eX).drawn-w.drawn)=d+1 by simp]
     cases hc:(Question.early g).cut (w.tape w.drawn (.early g))with
     |zero=>exact h5
     |succ k=>exact h4
theorem qd (hT:ZE w T d (n-w.drawn))(fr:iK)(cs:List iK)(dy:Option Dying)(s:Sem Next)(hs:Zq P j4 s):GBd T d n w (stepG.apply P true fr cs dy s w) (stepG.apply P true fr cs dy s (re w T d)):=by
 unfold stepG.apply;simp only[if_true];generalize hx:s.runT P w #[]=x;obtain⟨r,es⟩:=x;obtain⟨h1,h2,h3⟩:=qX hs hT hx
 cases r with
 |ok nx v=>
  by_cases hv:v.drawn≤n
  ·rw[h3 trivial hv]
   refine GBd.later h1 ?_ (GBd.after ?_ _)
   ·rw[zK,zq]
    cases nx with
    |callThen a b c e=>simp only;split<;>exact fun _=>iA _
    |row a b=>simp only;split<;>exact fun _=>iA _
    |stack a b=>simp only;split<;>exact fun _=>iA _
    |recover=>simp only;split<;>exact fun _=>iA _
    |spawn c=>exact fun hg=>absurd hg (fj (y9 _ _ _) (fun h=>h))
    |_=>exact fun _=>iA _
   ·cases nx with
    |callThen a b c e=>simp only[reW,zB];split<;>exact GBd.here rfl rfl
    |row a b=>simp only[reW,zB];split<;>exact GBd.here rfl rfl
    |stack a b=>simp only[reW,zB];split<;>exact GBd.here rfl rfl
    |recover=>simp only[reW,zB];split<;>exact GBd.here rfl rfl
    |spawn c=>exact GBd.ite (fun _=>GBd.here rfl rfl) (fun _=>GBd.here rfl rfl)
    |_=>exact GBd.here rfl rfl
  ·intro hg hn
   rw[zq]at hn;rw[zK]at hg;revert hg hn
   cases nx with
   |callThen a b c e=>simp only;split<;>exact fun _ hn=>absurd hn hv
   |row a b=>simp only;split<;>exact fun _ hn=>absurd hn hv
   |stack a b=>simp only;split<;>exact fun _ hn=>absurd hn hv
   |recover=>simp only;split<;>exact fun _ hn=>absurd hn hv
   |spawn c=>exact fun hg _=>absurd hg (fj (y9 _ _ _) (fun h=>h))
   |_=>exact fun _ hn=>absurd hn hv
 |halt h v=>
  by_cases hb:QK h
  ·refine GBd.bad ?_
   rw[zK]
   cases h with
   |stuck s=>exact fun h=>h
   |unsupported u=>cases u<;>first|exact hb.elim|exact fun h=>h
   |_=>exact hb.elim
  ·by_cases hv:v.drawn≤n
   ·rw[h3 hb hv]
    cases h with
    |fatal m=>exact GBd.bad (by rw[zK];exact xG _ _ _ _ _ _)
    |throw m=>exact GBd.bad (by rw[zK];exact y9 _ _ _)
    |unsupported u=>
     cases u with
     |initOrder g=>
      refine GBd.later h1 ?_ (GBd.after (Cd h2 fr cs dy g) _);rw[zq];exact fun _=>Kx _ _ _ _ _
     |_=>exact absurd trivial hb
    |stuck s=>exact absurd trivial hb
    |_=>exact GBd.later h1 (by rw[zq];exact fun _=>iA _) (GBd.after (GBd.here rfl rfl) _)
   ·intro hg hn
    rw[zq]at hn;rw[zK]at hg;revert hg hn
    cases h with
    |fatal m=>exact fun hg _=>absurd hg (xG _ _ _ _ _ _)
    |throw m=>exact fun hg _=>absurd hg (y9 _ _ _)
    |unsupported u=>
     cases u with
     |initOrder g=>exact fun _ hn=>absurd (iB (Kx _ _ _ _ _) hn) hv
     |_=>exact absurd trivial hb
    |stuck s=>exact absurd trivial hb
    |_=>exact fun _ hn=>absurd hn hv
end
def Xw:Item→Prop
 | .extern row _=>row= "runtime.print$piece"
 | .call .. =>False
 |_=>True
def zO (fr:iK):Prop:=∀x∈fr.todo,Xw x
theorem jF:Extern.next "runtime.print$piece" =some (Extern.PrintPieces.piece #[] #[]):=by rfl
section
variable {T:Nat→iC→Nat}{d n:Nat}{w:eX}{P:eA}
theorem KU (hP:zH P)(hT:ZE w T d (n-w.drawn))(fr:iK)(cs:List iK)(dy:Option Dying)(c:Deferred):GBd T d n w (callDeferred P fr cs dy c w) (callDeferred P fr cs dy c (re w T d)):=by
 unfold callDeferred;refine GBd.ite (fun _=>GBd.here rfl rfl) (fun _=> ?_);generalize hx:(invoke c.target c.args).runT P w #[]=x;obtain⟨r,es⟩:=x;obtain⟨h1,h2,h3⟩:=qX (ZW hP c.target c.args).1 hT hx
 cases r with
 |ok a v=>
  by_cases hv:v.drawn≤n
  ·rw[h3 trivial hv]
   refine GBd.later h1 ?_ (GBd.after ?_ _)
   ·rw[zK,zq]
    cases a with
    |recover=>simp only;split<;>exact fun _=>iA _
    |alone b x=>cases b<;>exact fun _=>iA _
    |coroswitch b x=>cases x<;>exact fun _=>iA _
    |_=>exact fun _=>iA _
   ·cases a with
    |recover=>simp only[reW,zB];split<;>exact GBd.here rfl rfl
    |alone b x=>cases b<;>exact GBd.here rfl rfl
    |coroswitch b x=>cases x<;>exact GBd.here rfl rfl
    |_=>exact GBd.here rfl rfl
  ·intro hg hn
   simp only[zq]at hn;simp only[zK]at hg;revert hn
   revert hg
   cases a with
   |recover=>simp only;split<;>exact fun _ hn=>absurd hn hv
   |alone b x=>cases b<;>exact fun _ hn=>absurd hn hv
   |coroswitch b x=>cases x<;>exact fun _ hn=>absurd hn hv
   |_=>exact fun _ hn=>absurd hn hv
 |halt h v=>
  by_cases hb:QK h
  ·refine GBd.bad ?_
   simp only[zK]
   cases h with
   |stuck s=>exact fun h=>h
   |unsupported u=>cases u<;>first|exact hb.elim|exact fun h=>h
   |_=>exact hb.elim
  ·by_cases hv:v.drawn≤n
   ·rw[h3 hb hv]
    cases h with
    |fatal m=>exact GBd.bad (by simp only[zK];exact xG _ _ _ _ _ _)
    |throw m=>exact GBd.bad (by simp only[zK];exact y9 _ _ _)
    |_=>exact GBd.later h1 (by simp only[zq];exact fun _=>iA _) (GBd.after (GBd.here rfl rfl) _)
   ·intro hg hn
    simp only[zq]at hn;simp only[zK]at hg;revert hn
    revert hg
    cases h with
    |fatal m=>exact fun hg _=>absurd hg (xG _ _ _ _ _ _)
    |throw m=>exact fun hg _=>absurd hg (y9 _ _ _)
    |_=>exact fun _ hn=>absurd hn hv
theorem fv (hP:zH P)(hT:ZE w T d (n-w.drawn))(main:Bool)(fr:iK)(cs:List iK):GBd T d n w (unwind P main fr cs none w) (unwind P main fr cs none (re w T d)):=by
 unfold unwind;split
 ·rename_i block ds _ _
  generalize hx:(Instr.takeDeferred block).runT P w #[]=x;obtain⟨r,es⟩:=x;obtain⟨h1,h2,h3⟩:=qX (Yd block).fair hT hx
  cases r with
  |ok a v=>
   by_cases hv:v.drawn≤n
   ·rw[h3 trivial hv];exact GBd.later h1 (by simp only[zq];exact fun _=>iA _) (GBd.after (GBd.here rfl rfl) _)
   ·intro hg hn;simp only[zq]at hn;exact absurd hn hv
  |halt h v=>exact GBd.bad (by simp only[zK];exact fun h=>h)
 ·exact KU hP hT _ _ _ _
 ·split
  ·exact GBd.here rfl rfl
  ·rename_i a0 _
   split
   ·exact GBd.here rfl rfl
   ·split
    ·exact GBd.here rfl rfl
    ·split
     ·split
      ·exact GBd.here rfl rfl
      ·refine GBd.bad ?_
       cases(reportChain a0 false).run P w with
       |ok t v=>exact fun h=>by cases h.2
       |halt h v=>cases h<;>exact fun h=>h
     ·split
      ·exact GBd.bad (KV _ _ _ _)
      ·exact GBd.here rfl rfl
  ·split
   ·exact Qm _ _ _ _ _
   ·rename_i fn _
    generalize hx:(results fn fr.tmps).runT P w #[]=x;obtain⟨r,es⟩:=x;obtain⟨h1,h2,h3⟩:=qX (VA fn fr.tmps).fair hT hx
    cases r with
    |ok a v=>
     by_cases hv:v.drawn≤n
     ·rw[h3 trivial hv];exact GBd.later h1 (by simp only[zq,Yo];exact fun _=>iA _) (GBd.after (Qm _ _ _ _ _) _)
     ·intro hg hn;simp only[zq,Yo]at hn;exact absurd hn hv
    |halt h v=>
     by_cases hb:QK h
     ·refine GBd.bad ?_
      simp only[zK]
      cases h with
      |stuck s=>exact fun h=>h
      |unsupported u=>cases u<;>first|exact hb.elim|exact fun h=>h
      |_=>exact hb.elim
     ·by_cases hv:v.drawn≤n
      ·rw[h3 hb hv]
       cases h<;>exact GBd.later h1 (by simp only[zq];exact fun _=>iA _) (GBd.after (GBd.here rfl rfl) _)
      ·intro hg hn
       simp only[zq]at hn;revert hn
       revert hg
       cases h<;>exact fun _ hn=>absurd hn hv
theorem bp (hP:zH P)(hT:ZE w T d (n-w.drawn))(fr:iK)(cs:List iK)(dy:Option Dying):GBd T d n w (stepG.oper P true fr cs dy w) (stepG.oper P true fr cs dy (re w T d)):=by
 unfold stepG.oper;split
 ·exact GBd.here rfl rfl
 ·split
  ·refine qd hT _ _ _ _ (z6.fair (z6.mono (F:=Xv) (fun _=>vz) ?_))
   exact z6.bind0 (y5 _ _ _) fun _=>z6.bind0 (Ye _ _) fun _=>trivial
  ·exact qd hT _ _ _ _ (Ka hP _ _).1
theorem VW (hT:ZE w T d (n-w.drawn))(main:Bool)(fr:iK)(cs:List iK)(dy:Option Dying)(a0:Option Code)(c:Prop) [Decidable c]:
  GBd T d n w (match fr.roundOf with
   |none=>if c then GStep.go {frame:={fr with mode:= .returning},callers:=cs,status:= .running,dying:=dy} w else .ended (.stuck "exit, goto: no such block or label" (fr.pos P)) w
   |some l=>GStep.after (seen P fr.fn ((Instr.endRound l a0).runT P w #[]).2) (match((Instr.endRound l a0).runT P w #[]).1 with
    | .ok v w=>doReturn P main fr cs dy v w
    | .halt _ w=> .ended (.stuck "range over a function: no such loop" (fr.pos P)) w))
   (match fr.roundOf with
   |none=>if c then GStep.go {frame:={fr with mode:= .returning},callers:=cs,status:= .running,dying:=dy} (re w T d)else .ended (.stuck "exit, goto: no such block or label" (fr.pos P)) (re w T d)
   |some l=>GStep.after (seen P fr.fn ((Instr.endRound l a0).runT P (re w T d) #[]).2) (match((Instr.endRound l a0).runT P (re w T d) #[]).1 with
    | .ok v w=>doReturn P main fr cs dy v w
    | .halt _ w=> .ended (.stuck "range over a function: no such loop" (fr.pos P)) w)):=by
 cases fr.roundOf with
 |none=>exact GBd.ite (fun _=>GBd.here rfl rfl) (fun _=>GBd.here rfl rfl)
 |some l=>
  simp only;generalize hx:(Instr.endRound l a0).runT P w #[]=x;obtain⟨r,es⟩:=x;obtain⟨h1,h2,h3⟩:=qX (xw l a0).fair hT hx
  cases r with
  |ok a v=>
   intro hg hn;have hv:v.drawn≤n:=by
    refine iB ?_ hn;simp only[zq];exact iN (by rw[Yo]<;>rfl)
   rw[h3 trivial hv];refine GBd.later h1 (fun _=> ?_) (GBd.after ?_ _) hg hn
   ·simp only[zq]
    exact iN (by rw[Yo]<;>rfl)
   ·exact Qm _ _ _ _ _
  |halt h v=>exact GBd.bad (by simp only[zK];exact fun h=>h)
theorem Kz (fr:iK)(cs:List iK)(dy:Option Dying)(s:Sem Next)(w:eX):w.drawn≤(ZP (stepG.apply P true fr cs dy s w)).drawn:=(Xc (Y3 w) P fr cs dy s).2.1
theorem bM (hP:zH P)(hT:ZE w T d (n-w.drawn))(main:Bool)(fr:iK)(hr:zO fr)(cs:List iK)(dy:Option Dying):GBd T d n w (stepG.exec P main true fr cs dy w) (stepG.exec P main true fr cs dy (re w T d)):=by
 unfold stepG.exec;simp only;split
 ·exact VW hT _ _ _ _ _ _
 ·exact VW hT _ _ _ _ _ _
 ·exact GBd.here rfl rfl
 ·exact GBd.here rfl rfl
 ·exact GBd.here rfl rfl
 ·exact GBd.here rfl rfl
 ·exact GBd.here rfl rfl
 ·split
  all_goals
   exact GBd.here rfl rfl
 ·exact GBd.here rfl rfl
 ·exact GBd.here rfl rfl
 ·exact GBd.here rfl rfl
 ·exact GBd.here rfl rfl
 ·rename_i id k _
  cases exitTo id k with
  |none=>exact VW hT _ _ _ _ _ _
  |some t=>exact GBd.here rfl rfl
 ·rename_i l k _
  cases gotoIn l k with
  |none=>exact VW hT _ _ _ _ _ _
  |some t=>exact GBd.here rfl rfl
 ·rename_i f params assign body k _
  generalize hx:(Instr.enterLoop fr.fn fr.tmps params assign body fr.roundOf).runT P w #[]=x;obtain⟨r,es⟩:=x;obtain⟨h1,h2,h3⟩:=qX (x5 fr.fn fr.tmps params assign body fr.roundOf).fair hT hx
  cases r with
  |ok a v=>
   intro hg hn;have hv:v.drawn≤n:=by
    refine iB ?_ hn;simp only[zq];exact Kz _ _ _ _ _
   rw[h3 trivial hv];refine GBd.later h1 (fun _=> ?_) (GBd.after ?_ _) hg hn
   ·simp only[zq]
    exact Kz _ _ _ _ _
   ·exact qd h2 _ _ _ _ (kr.bind (y5 _ _ _) fun d=>ZW hP _ _).1
  |halt h v=>exact GBd.bad (by simp only[zK];exact fun h=>h)
 ·exact GBd.here rfl rfl
 ·refine qd hT _ _ _ _ (z6.fair (z6.mono (F:=Xv) (fun _=>vz) ?_))
  refine z6.bind0 ?_ (fun _=> ?_)
  case refine_2=>exact trivial
  cases fr.roundOf with
  |none=>exact trivial
  |some l=>exact Yy l
 ·rename_i l k _
  generalize hx:(Instr.endLoop l).runT P w #[]=x;obtain⟨r,es⟩:=x;obtain⟨h1,h2,h3⟩:=qX (xW l).fair hT hx
  cases r with
  |ok a v=>
   intro hg hn;have hv:v.drawn≤n:=by
    refine iB ?_ hn;simp only[zq];exact iA _
   rw[h3 trivial hv];refine GBd.later h1 (fun _=> ?_) (GBd.after ?_ _) hg hn
   ·simp only[zq]
    exact iA _
   ·exact GBd.here rfl rfl
  |halt h v=>
     cases h with
     |panic x=>
      intro hg hn;rw[h3 (fun h=>h) hn];exact GBd.later h1 (fun _=>iA _) (GBd.after (GBd.here rfl rfl) _) hg hn
     |_=>exact GBd.bad (by simp only[zK];exact fun h=>h)
 ·exact GBd.here rfl rfl
 ·exact qd hT _ _ _ _ (ZW hP _ _).1
 ·rename_i row args k hk
  have:row= "runtime.print$piece" :=hr (.extern row args) (by rw[hk];exact iO ..);subst this;rw[jF];exact qd hT _ _ _ _ (vT _)
 ·rename_i id ops a0 k _
  refine GBd.ite (fun _=>GBd.here rfl rfl) (fun _=> ?_);have hf:(Question.order fr.fn id).forced=false:=rfl;simp only[choose,Sem.run,hf,if_false,eU];intro hg hn;have h0:=hT 0 (.order fr.fn id) (by have:w.drawn+1≤n:=hn;omega);simp only[iE]at h0;rw[show(re w T d).tape (re w T d).drawn (.order fr.fn id)=w.tape w.drawn (.order fr.fn id)from h0];simp[Ui,ZP,re]
 ·exact GBd.here rfl rfl
 ·exact GBd.ite (fun _=>bp hP hT _ _ _) (fun _=>GBd.here rfl rfl)
theorem jt (hP:zH P)(hT:ZE w T d (n-w.drawn))(main:Bool)(g:eZ)(hd:g.dying=none)(hr:zO g.frame):GBd T d n w (stepG P main g w) (stepG P main g (re w T d)):=by
 obtain⟨fr,cs,st,dy,of⟩:=g;simp only at hd hr;subst hd;unfold stepG;simp only;split
 ·rename_i h;cases h
 ·exact bM hP hT _ _ hr _ _
 ·exact fv hP hT _ _ _
end
def yq:iK→List iK→CallKind
 |fr,[]=>fr.kind
 |_,c::cs=>yq c cs
theorem km {a b:iK}(h:a.kind=b.kind)(cs:List iK):yq a cs=yq b cs:=by cases cs<;>first|exact h|rfl
def Rep (dy:Option Dying)(fr:iK)(cs:List iK):Prop:=∀d,dy=some d→d.calling=true→yq fr cs= .report
def okG (g:eZ):Prop:=zO g.frame∧(∀f∈g.callers,zO f)∧Rep g.dying g.frame g.callers
def zw (dy:Option Dying):GStep→Prop
 | .go g _ es=>okG g∧(dy≠none→g.dying≠none)∧(g.dying=none→g.status= .running→evens #[] es)∧∀t,g.status≠ .sleeping t
 | .comm g _ _ _ _ es=>okG g∧g.dying=dy∧g.status= .running∧evens #[] es
 | .coroswitch g _ e _ es=>okG g∧g.dying=dy∧g.status= .running∧e=true∧evens #[] es
 | .spawn .. | .ended .. =>True
 |_=>False
def xl (es:Array eS):Prop:=∀e∈es,e.loc= .mark .disable∨e.loc= .mark .enable→e.sync=true
theorem xl.push {es:Array eS}{e:eS}(h:xl es)(he:e.loc= .mark .disable∨e.loc= .mark .enable→e.sync=true):xl (es.push e):=by
 intro x hx hl;rcases Array.mem_push.1 hx with h1|rfl
 ·exact h x h1 hl
 ·exact he hl
theorem xl.append {es:Array eS}{l:List Addr}{wr sy:Bool}(h:xl es):xl (es++(l.toArray.map (fun a=>(⟨.cell a,wr,sy⟩:eS)))):=by
 intro x hx hl;rcases Array.mem_append.1 hx with h1|h1
 ·exact h x h1 hl
 ·obtain⟨a,_,rfl⟩:=Array.mem_map.1 h1
  rcases hl with hl|hl<;>cases hl
theorem yv {α:Type}(P:eA):∀(s:Sem α) (w:eX) (es:Array eS),xl es→xl (s.runT P w es).2:=by
 intro s;induction s with
 |pure a=>exact fun w es h=>h
 |load m a k ih=>
  intro w es h;simp only[Sem.runT]
  cases w.cell? a with
  |some v=>exact ih v w _ (h.push (by rintro(h|h)<;>cases h))
  |none=>
   cases w.farLoad P a (m== .atomic)with
   |ok r=>exact ih r.1 w _ h.append
   |error e=>exact h
 |store m a v k ih=>
  intro w es h;by_cases hv:(∃x,v= .agg x)∨∃x,v= .tuple x
  ·rcases hv with⟨x,rfl⟩|⟨x,rfl⟩<;>exact h
  ·have e:(Sem.store m a v k).runT P w es=match w.cell? a with
     |some _=>if w.frozen? a then(.halt (.unsupported (.unsafePointer "a write to bytes that a string shares")) w,es)else k.runT P (w.setCell a v) (es.push ⟨.cell a,true,m== .atomic⟩)
     |none=>match w.farStore P a v (m== .atomic)with
      | .ok (u',touched)=>k.runT P u' (es++touched.toArray.map (⟨.cell ·,true,m== .atomic⟩))
      | .error h=>(.halt h w,es):=by
    cases v<;>first|rfl|(exfalso;exact hv (.inl ⟨_,rfl⟩))|(exfalso;exact hv (.inr ⟨_,rfl⟩))
   rw[e]
   cases w.cell? a with
   |some x=>
    by_cases hf:w.frozen? a=true
    ·simp only[hf,if_true];exact h
    ·simp only[hf,if_false,eU]
     exact ih _ _ (h.push (by rintro(h|h)<;>cases h))
   |none=>
    cases w.farStore P a v (m== .atomic)with
    |ok r=>exact ih _ _ h.append
    |error e=>exact h
 |new o k ih=>exact fun w es h=>ih _ _ _ h
 |shape r k ih=>exact fun w es h=>ih _ _ _ h
 |freeze a n k ih=>exact fun w es h=>ih _ _ h
 |frozen a k ih=>exact fun w es h=>ih _ _ _ h
 |getObj r k ih=>
  intro w es h;simp only[Sem.runT]
  cases w.heap[r]? with
  |none=>exact h
  |some o=>cases o<;>first|exact h|exact ih _ _ _ (h.push (by rintro(h|h)<;>cases h))
 |setObj r o k ih=>
  intro w es h;simp only[Sem.runT]
  cases w.heap[r]? with
  |none=>exact h
  |some x=>cases x<;>first|exact h|exact ih _ _ (h.push (by rintro(h|h)<;>cases h))
 |choose q k ih=>
  intro w es h;simp only[Sem.runT];split
  all_goals
   exact ih _ _ _ h
 |sys c k ih=>exact fun w es h=>ih _ _ _ (h.push (by rintro(h|h)<;>cases h))
 |program k ih=>exact fun w es h=>ih P _ _ h
 |mark m k ih=>exact fun w es h=>ih _ _ (h.push (fun _=>rfl))
 |halt x=>exact fun w es h=>h
theorem QL (d:Nat)(es:Array eS)(e:eS):deafBehind d (es.push e)=match e.loc with| .mark .disable=>deafBehind d es+1| .mark .enable=>deafBehind d es-1|_=>deafBehind d es:=by
 unfold deafBehind;rw[Array.foldl_push];obtain⟨a0,wr,sy⟩:=e
 cases a0 with
 |mark m=>cases m<;>rfl
 |_=>rfl
theorem gP {P:eA}{fn:FuncId}{es:Array eS}(h:xl es)(d:Nat):deafBehind d (seen P fn es)=deafBehind d es:=by
 unfold seen;dsimp only;suffices H:∀(l:List eS) (b:Bool) (a0:Array eS),(∀e∈l,e.loc= .mark .disable∨e.loc= .mark .enable→e.sync=true)→
   deafBehind d (l.foldl (fun(x:Bool×Array eS) e=>match e.loc with
    | .mark (.extern f)=>((P.funcs[f]?).any (·.norace),x.2)
    |_=>(x.1,if(x.1&& !e.sync)=true then x.2 else x.2.push e)) (b,a0)).2=l.foldl (fun n e=>match e.loc with| .mark .disable=>n+1| .mark .enable=>n-1|_=>n) (deafBehind d a0)by
  have h1:=H es.toList ((P.funcs[fn]?).any (·.norace)) #[] (fun e he=>h e (Array.mem_toList_iff.1 he));rw[←iP];refine Eq.trans h1 ?_;have e:deafBehind d es=es.toList.foldl (fun n e=>match e.loc with| .mark .disable=>n+1| .mark .enable=>n-1|_=>n) d:=by
   unfold deafBehind;rw[←iP];rfl
  rw[e];rfl
 intro l;induction l with
 |nil=>intro b a0 _;rfl
 |cons e l ih=>
  intro b a0 hl;simp only[List.foldl_cons];obtain⟨a2,wr,sy⟩:=e;have a1 :∀e∈l,e.loc= .mark .disable∨e.loc= .mark .enable→e.sync=true:=fun e he=>hl e (iQ _ he)
  have h0:=hl ⟨a2,wr,sy⟩ (iO ..);simp only at h0;have key:∀(c:Bool),deafBehind d (if c=true then a0 else a0.push ⟨a2,wr,sy⟩)=(if c=true then deafBehind d a0 else deafBehind d (a0.push ⟨a2,wr,sy⟩)):=by intro c;cases c<;>rfl
  cases a2 with
  |mark m=>
   cases m with
   |extern f=>exact ih _ _ a1
   |disable=>
    rw[ih _ _ a1,h0 (.inl rfl)];simp only[eW,iR,eU,if_false,QL]
   |enable=>
    rw[ih _ _ a1,h0 (.inr rfl)];simp only[eW,iR,eU,if_false,QL]
   |_=>rw[ih _ _ a1,key,QL];simp only;split<;>rfl
  |_=>rw[ih _ _ a1,key,QL];simp only;split<;>rfl
theorem Zt {P:eA}{fn:FuncId}{es:Array eS}(h:xl es)(he:evens #[] es):evens #[] (seen P fn es):=fun d=>(gP h d).trans (he d)
theorem ZZ:xl #[]:=fun _ h=>by simp at h
theorem xN:evens #[] #[]:=fun _=>rfl
theorem OX (d:Nat)(a b:Array eS):deafBehind d (a++b)=deafBehind (deafBehind d a) b:=by
 unfold deafBehind;rw[Array.foldl_append]
theorem K0 {a b:Array eS}(ha:evens #[] a)(hb:evens #[] b):evens #[] (a++b):=fun d=>by
 rw[OX,ha d];exact hb d
theorem zw.after {dy:Option Dying}{es:Array eS}{x:GStep}(he:evens #[] es)(h:zw dy x):zw dy (GStep.after es x):=by
 cases x with
 |go g w a0 =>exact⟨h.1,h.2.1,(fun hd hr=>K0 he (h.2.2.1 hd hr)),h.2.2.2⟩
 |comm g c b s w a0 =>exact⟨h.1,h.2.1,h.2.2.1,K0 he h.2.2.2⟩
 |coroswitch g c e w a0 =>exact⟨h.1,h.2.1,h.2.2.1,h.2.2.2.1,K0 he h.2.2.2.2⟩
 |spawn g c w a0 =>exact trivial
 |ended o w a0 =>exact trivial
 |_=>exact h.elim
theorem zw.after' {dy:Option Dying}{es:Array eS}{g:eZ}{w:eX}{a0 :Array eS}(h1:okG g)(h2:dy≠none→g.dying≠none)(h3:g.dying=none→g.status≠ .running)(h4:∀t,g.status≠ .sleeping t:=by intro t h;cases h):zw dy (GStep.after es (.go g w a0)):=⟨h1,h2,(fun hd hr=>absurd hr (h3 hd)),h4⟩
theorem k_ {P:eA}{α:Type}{F:α→Prop}:∀{s:Sem α},Zq P F s→∀(w:eX) (es:Array eS) (a:α) (w' :eX),(s.runT P w es).1= .ok a w' →F a:=by
 intro s;induction s with
 |pure a=>intro h w es a w' e;cases e;exact h
 |load m a k ih=>
  intro h w es b w' e;simp only[Sem.runT]at e
  cases hc:w.cell? a with
  |some v=>rw[hc]at e;exact ih v (h v) w _ b w' e
  |none=>
   rw[hc]at e
   cases hf:w.farLoad P a (m== .atomic)with
   |ok r=>rw[hf]at e;exact ih r.1 (h r.1) w _ b w' e
   |error x=>rw[hf]at e;cases e
 |store m a v k ih=>
  intro h w es b w' e;by_cases hv:(∃x,v= .agg x)∨∃x,v= .tuple x
  ·rcases hv with⟨x,rfl⟩|⟨x,rfl⟩<;>cases e
  ·have e2:(Sem.store m a v k).runT P w es=match w.cell? a with
     |some _=>if w.frozen? a then(.halt (.unsupported (.unsafePointer "a write to bytes that a string shares")) w,es)else k.runT P (w.setCell a v) (es.push ⟨.cell a,true,m== .atomic⟩)
     |none=>match w.farStore P a v (m== .atomic)with
      | .ok (u',touched)=>k.runT P u' (es++touched.toArray.map (⟨.cell ·,true,m== .atomic⟩))
      | .error h=>(.halt h w,es):=by
    cases v<;>first|rfl|(exfalso;exact hv (.inl ⟨_,rfl⟩))|(exfalso;exact hv (.inr ⟨_,rfl⟩))
   rw[e2]at e
   cases hc:w.cell? a with
   |some x=>
    rw[hc]at e;by_cases hf:w.frozen? a=true
    ·simp only[hf,if_true]at e;cases e
    ·simp only[hf,if_false,eU]at e
     exact ih h _ _ b w' e
   |none=>
    rw[hc]at e
    cases hf:w.farStore P a v (m== .atomic)with
    |ok r=>rw[hf]at e;exact ih h _ _ b w' e
    |error x=>rw[hf]at e;cases e
 |new o k ih=>exact fun h w es b w' e=>ih _ (h _) _ _ b w' e
 |shape r k ih=>exact fun h w es b w' e=>ih _ (h _) _ _ b w' e
 |freeze a n k ih=>exact fun h w es b w' e=>ih h _ _ b w' e
 |frozen a k ih=>exact fun h w es b w' e=>ih _ (h _) _ _ b w' e
 |getObj r k ih=>
  intro h w es b w' e;simp only[Sem.runT]at e
  cases hc:w.heap[r]? with
  |none=>rw[hc]at e;cases e
  |some o=>rw[hc]at e;cases o<;>first|(cases e;done)|exact ih _ (h _) _ _ b w' e
 |setObj r o k ih=>
  intro h w es b w' e;simp only[Sem.runT]at e
  cases hc:w.heap[r]? with
  |none=>rw[hc]at e;cases e
  |some x=>rw[hc]at e;cases x<;>first|(cases e;done)|exact ih h _ _ b w' e
 |choose q k ih=>
  intro h w es b w' e;simp only[Sem.runT]at e;split at e
  all_goals
   exact ih _ (h _) _ _ b w' e
 |sys c k ih=>exact fun h w es b w' e=>ih _ (h.2 _) _ _ b w' e
 |program k ih=>exact fun h w es b w' e=>ih P h _ _ b w' e
 |mark m k ih=>exact fun h w es b w' e=>ih h _ _ b w' e
 |halt x=>intro h w es a w' e;cases e
theorem ud (w:eX)(a:Addr)(s:String):kC (w.noCell a s):=by
 unfold World.noCell;split<;>trivial
theorem Gp {P:eA}{w:eX}{a:Addr}{b:Bool}{h:Halt}(hx:w.farLoad P a b= .error h):kC h:=by
 unfold World.farLoad at hx;split at hx
 ·split at hx
  ·cases hx
  ·cases hx;trivial
 ·cases hx;exact ud _ _ _
theorem OI {P:eA}{w:eX}{a:Addr}{x:eB}{b:Bool}{h:Halt}(hx:w.farStore P a x b= .error h):kC h:=by
 unfold iH at hx;split at hx
 ·split at hx
  ·cases hx
  ·cases hx;trivial
 ·cases hx;exact ud _ _ _
theorem uE {P:eA}{α:Type}{F:α→Prop}:∀{s:Sem α},Zq P F s→∀(w:eX) (es:Array eS) (b:Halt) (w' :eX),(s.runT P w es).1= .halt b w' →kC b∨b= .blocked:=by
 intro s;induction s with
 |pure a=>intro h w es a w' e;cases e
 |load m a k ih=>
  intro h w es b w' e;simp only[Sem.runT]at e
  cases hc:w.cell? a with
  |some v=>rw[hc]at e;exact ih v (h v) w _ b w' e
  |none=>
   rw[hc]at e
   cases hf:w.farLoad P a (m== .atomic)with
   |ok r=>rw[hf]at e;exact ih r.1 (h r.1) w _ b w' e
   |error x=>rw[hf]at e;cases e;exact .inl (Gp hf)
 |store m a v k ih=>
  intro h w es b w' e;by_cases hv:(∃x,v= .agg x)∨∃x,v= .tuple x
  ·rcases hv with⟨x,rfl⟩|⟨x,rfl⟩<;>(cases e;exact .inl trivial)
  ·have e2:(Sem.store m a v k).runT P w es=match w.cell? a with
     |some _=>if w.frozen? a then(.halt (.unsupported (.unsafePointer "a write to bytes that a string shares")) w,es)else k.runT P (w.setCell a v) (es.push ⟨.cell a,true,m== .atomic⟩)
     |none=>match w.farStore P a v (m== .atomic)with
      | .ok (u',touched)=>k.runT P u' (es++touched.toArray.map (⟨.cell ·,true,m== .atomic⟩))
      | .error h=>(.halt h w,es):=by
    cases v<;>first|rfl|(exfalso;exact hv (.inl ⟨_,rfl⟩))|(exfalso;exact hv (.inr ⟨_,rfl⟩))
   rw[e2]at e
   cases hc:w.cell? a with
   |some x=>
    rw[hc]at e;by_cases hf:w.frozen? a=true
    ·simp only[hf,if_true]at e;cases e;exact .inl trivial
    ·simp only[hf,if_false,eU]at e
     exact ih h _ _ b w' e
   |none=>
    rw[hc]at e
    cases hf:w.farStore P a v (m== .atomic)with
    |ok r=>rw[hf]at e;exact ih h _ _ b w' e
    |error x=>rw[hf]at e;cases e;exact .inl (OI hf)
 |new o k ih=>exact fun h w es b w' e=>ih _ (h _) _ _ b w' e
 |shape r k ih=>exact fun h w es b w' e=>ih _ (h _) _ _ b w' e
 |freeze a n k ih=>exact fun h w es b w' e=>ih h _ _ b w' e
 |frozen a k ih=>exact fun h w es b w' e=>ih _ (h _) _ _ b w' e
 |getObj r k ih=>
  intro h w es b w' e;simp only[Sem.runT]at e
  cases hc:w.heap[r]? with
  |none=>rw[hc]at e;cases e;exact .inl trivial
  |some o=>rw[hc]at e;cases o<;>first|(cases e;exact .inl trivial;done)|exact ih _ (h _) _ _ b w' e
 |setObj r o k ih=>
  intro h w es b w' e;simp only[Sem.runT]at e
  cases hc:w.heap[r]? with
  |none=>rw[hc]at e;cases e;exact .inl trivial
  |some x=>rw[hc]at e;cases x<;>first|(cases e;exact .inl trivial;done)|exact ih h _ _ b w' e
 |choose q k ih=>
  intro h w es b w' e;simp only[Sem.runT]at e;split at e
  all_goals
   exact ih _ (h _) _ _ b w' e
 |sys c k ih=>exact fun h w es b w' e=>ih _ (h.2 _) _ _ b w' e
 |program k ih=>exact fun h w es b w' e=>ih P h _ _ b w' e
 |mark m k ih=>exact fun h w es b w' e=>ih h _ _ b w' e
 |halt x=>intro h w es a w' e;cases e;exact h
section
variable {P:eA}
theorem Zv {fr:iK}(h:zO fr)(v:eB):zO (fr.finish v):=by
 unfold iS;unfold zO at h⊢;split<;>rename_i e<;>(try rw[e]at h)
 ·intro x hx
  rcases iT.1 hx with rfl|hx
  ·exact trivial
  ·exact h x (iQ _ hx)
 ·intro x hx
  rcases iT.1 hx with rfl|hx
  ·exact trivial
  ·exact h x (iQ _ hx)
 ·exact fun x hx=>h x (iQ _ hx)
 ·exact(h _ (iO ..)).elim
 ·exact fun x hx=>h x (iQ _ hx)
 ·exact h
theorem Yc {fr:iK}(h:zO fr)(c:List PanicEntry):zO (fr.raise c):=by
 unfold iU;split<;>exact h
theorem yx (f:FuncId)(args:Array eB)(k:CallKind):zO (iM P f args k):=by
 intro x hx;unfold iM at hx;rcases iV.1 hx with rfl
 exact trivial
theorem Kh (l:Nat)(f:FuncId)(tmps:Array eB)(a b:Code)(k:CallKind):zO (iW l f tmps a b k):=by
 intro x hx;unfold iW at hx;simp only[iT,List.not_mem_nil,or_false]at hx;rcases hx with rfl|rfl|rfl<;>exact trivial
theorem Ki (args:Array eB)(k:CallKind):zO (iX P "runtime.print$piece" args k):=by
 intro x hx;unfold iX at hx;rcases iV.1 hx with rfl
 exact rfl
theorem vU {id:Nat}:∀{k k' :List Item},exitTo id k=some k' →∀x∈k',x∈k
 |[],_,h=>by cases h
 |y::k,k',h=>by
  intro x hx
  cases y<;>first
   |exact iQ _ (vU (k:=k) h x hx)
   |(simp only[exitTo]at h
     split at h
     ·cases h;exact iQ _ hx
     ·exact iQ _ (vU (k:=k) h x hx))
theorem vR {l:Nat}:∀{k k' :List Item},gotoIn l k=some k' →∀x∈k',x∈k∨Xw x
 |[],_,h=>by cases h
 |y::k,k',h=>by
  intro x hx
  cases y<;>first
   |exact(vR (k:=k) h x hx).imp (iQ _) id
   |(simp only[gotoIn]at h
     split at h
     ·cases h
      rcases iT.1 hx with rfl|hx
      ·exact .inr trivial
      ·rcases iT.1 hx with rfl|hx
       ·exact .inr trivial
       ·exact .inl (iQ _ hx)
     ·exact(vR (k:=k) h x hx).imp (iQ _) id)
theorem yV:∀{cs:List iK} {fr:iK} {v:eB} {a0 :List iK},tryRecover fr cs=some (v,a0)→(∀f∈cs,zO f)→∀f∈a0,zO f
 |[],fr,v,a0,h,_=>by
  unfold tryRecover at h;split at h<;>first|cases h|(rename_i e;cases e)
 |c::cs,fr,v,a0,h,hc=>by
  unfold tryRecover at h;split at h
  ·rename_i e
   cases e
   split at h
   ·cases h
    intro f hf;rcases iT.1 hf with rfl|hf
    ·exact hc c (iO ..)
    ·exact hc f (iQ _ hf)
   ·cases h
  ·rename_i e
   cases e
   obtain⟨⟨v1,a1⟩,h1,h2⟩:=iY.1 h
   cases h2
   intro f hf;rcases iT.1 hf with rfl|hf
   ·exact hc _ (iO ..)
   ·exact yV h1 (fun f hf=>hc f (iQ _ hf)) f hf
  ·cases h
theorem ym:∀{cs:List iK} {l:Nat} {v:eB} {a0 :List iK},tryRecoverLoop l cs=some (v,a0)→(∀f∈cs,zO f)→∀f∈a0,zO f
 |[],l,v,a0,h,_=>by cases h
 |c::cs,l,v,a0,h,hc=>by
  unfold tryRecoverLoop at h;obtain⟨⟨v1,a2⟩,h1,h2⟩:=iY.1 h
  cases h2
  have a1 :∀f∈cs,zO f:=fun f hf=>hc f (iQ _ hf)
  have h3:∀f∈a2,zO f:=by
   split at h1
   ·exact ym h1 a1
   ·split at h1
    ·exact yV h1 a1
    ·exact ym h1 a1
   ·exact ym h1 a1
  intro f hf;rcases iT.1 hf with rfl|hf
  ·exact hc _ (iO ..)
  ·exact h3 f hf
theorem OH (fr:iK)(v:eB):(fr.finish v).kind=fr.kind:=by
 unfold iS;split<;>rfl
theorem gZ (fr:iK)(c:List PanicEntry):(fr.raise c).kind=fr.kind:=by
 unfold iU;split<;>rfl
theorem yE:∀{cs:List iK} {fr:iK} {v:eB} {a0 :List iK},tryRecover fr cs=some (v,a0)→∀f0,yq f0 a0 =yq f0 cs
 |[],fr,v,a0,h,_=>by
  unfold tryRecover at h;split at h<;>first|cases h|(rename_i e;cases e)
 |c::cs,fr,v,a0,h,f0=>by
  unfold tryRecover at h;split at h
  ·rename_i e
   cases e
   split at h
   ·cases h
    show yq _ cs=yq c cs;exact km (by rfl) cs
   ·cases h
  ·rename_i e
   cases e
   obtain⟨⟨v1,a1⟩,h1,h2⟩:=iY.1 h
   cases h2
   exact yE h1 c
  ·cases h
theorem y8:∀{cs:List iK} {l:Nat} {v:eB} {a0 :List iK},tryRecoverLoop l cs=some (v,a0)→∀f0,yq f0 a0 =yq f0 cs
 |[],l,v,a0,h,_=>by cases h
 |c::cs,l,v,a0,h,f0=>by
  unfold tryRecoverLoop at h;obtain⟨⟨v1,a1⟩,h1,h2⟩:=iY.1 h
  cases h2
  show yq c a1=yq c cs;split at h1
  ·exact y8 h1 c
  ·split at h1
   ·exact yE h1 c
   ·exact y8 h1 c
  ·exact y8 h1 c
theorem Rep.same {dy:Option Dying}{a b:iK}{cs:List iK}(h:Rep dy b cs)(hk:a.kind=b.kind):Rep dy a cs:=fun d h1 h2=>(km hk cs).trans (h d h1 h2)
theorem Rep.fin {dy:Option Dying}{fr:iK}{cs:List iK}(h:Rep dy fr cs)(v:eB):Rep dy (fr.finish v) cs:=h.same (OH _ _)
theorem Rep.rai {dy:Option Dying}{fr:iK}{cs:List iK}(h:Rep dy fr cs)(v:List PanicEntry):Rep dy (fr.raise v) cs:=h.same (gZ _ _)
theorem zw.go {dy:Option Dying}{fr:iK}{cs:List iK}{st:GoStatus}{w:eX}(h1:zO fr)(h2:∀f∈cs,zO f)(h3:Rep dy fr cs)(a0:∀t,st≠ .sleeping t:=by intro t h;cases h):zw dy (.go {frame:=fr,callers:=cs,status:=st,dying:=dy} w):=⟨⟨h1,h2,h3⟩,fun h=>h,fun _ _=>xN,a0⟩
theorem Q3 {dy:Option Dying}(main:Bool)(fr:iK)(a3:zO fr)(cs:List iK)(a1:∀f∈cs,zO f)(hb:Rep dy fr cs)(a2:∀d,dy=some d→d.calling=true)(v:eB)(w:eX):zw dy (doReturn P main fr cs dy v w):=by
 unfold doReturn
 cases cs with
 |cons c rest=>
  have h1:=a1 c (iO ..);have h2:∀f∈rest,zO f:=fun f hf=>a1 f (iQ _ hf)
  have a0 :Rep dy c rest:=hb;simp only;split
  ·exact .go (Zv h1 _) h2 (a0.fin _)
  ·exact .go (Zv h1 _) h2 (a0.fin _)
  ·exact .go h1 h2 a0
  ·refine .go ?_ h2 ?_
   ·split
    ·split<;>exact h1
    ·exact h1
   ·refine a0.same ?_
    split
    ·split<;>rfl
    ·rfl
 |nil=>
  simp only
  cases dy with
  |some d=>
   have hk:fr.kind= .report:=hb d rfl (a2 d rfl);rw[hk]
   cases v<;>first
    |exact trivial
    |exact⟨⟨a3,a1,fun d' h1 h2=>by cases h1;cases h2⟩,(fun _ h=>by cases h),(fun h=>by cases h),(fun t h=>by cases h)⟩
  |none=>
   split
   ·rename_i e;cases e
   ·exact trivial
   ·split
    ·exact .go a3 a1 hb
    ·split
     ·exact .go (yx _ _ _) (fun _ h=>by cases h) (fun _ h=>by cases h)
     ·exact trivial
theorem cA {dy:Option Dying}(fr:iK)(a2:zO fr)(cs:List iK)(a1:∀f∈cs,zO f)(hb:Rep dy fr cs)(g:Nat)(w:eX):zw dy (early P fr cs dy g w):=by
 have hn:∀v:eX,zw dy (match v.heap[g]? with
   |some (.pending c elem)=>GStep.go {frame:=fr,callers:=cs,status:= .running,dying:=dy} {v with heap:=v.heap.setIfInBounds g (.cells c elem)}
   |_=> .ended (.stuck "early: the variable does not wait" (fr.pos P)) v):=by
  intro v;split
  ·exact .go a2 a1 hb
  ·exact trivial
 have a0:∀(l:List FuncId) (f0:iK),yq f0 (l.map (iM P · #[] .early)++fr::cs)=yq fr cs:=by
  intro l;induction l with
  |nil=>exact fun _=>rfl
  |cons a l ih=>exact fun f0=>ih _
 have ht:∀(v:eX) (f:FuncId) (l:List FuncId),zw dy (GStep.go {frame:=iM P f #[] .early,callers:=l.map (iM P · #[] .early)++fr::cs,status:= .running,dying:=dy} v):=by
  intro v f l;refine .go (yx _ _ _) (fun x hx=> ?_) (fun d h1 h2=>(a0 _ _).trans (hb d h1 h2));rcases iZ.1 hx with hx|hx
  ·obtain⟨y,_,rfl⟩:=List.mem_map.1 hx
   exact yx _ _ _
  ·rcases iT.1 hx with rfl|hx
   ·exact a2
   ·exact a1 x hx
 unfold early;simp only;repeat' (first
  |exact trivial
  |exact hn _
  |exact ht _ _ _
  |split)
end
section
variable {P:eA}
theorem zw.ite {dy:Option Dying}{c:Prop} [Decidable c] {x y:GStep}(h1:zw dy x)(h2:zw dy y):zw dy (if c then x else y):=by
 by_cases h:c
 ·rw[if_pos h];exact h1
 ·rw[if_neg h];exact h2
def gC:GStep→Prop
 | .go g _ _=>g.dying≠none∧okG g∧∀t,g.status≠ .sleeping t
 | .ended .. =>True
 |_=>False
theorem gC.ok {dy:Option Dying}{x:GStep}(h:gC x)(es:Array eS):zw dy (GStep.after es x):=by
 cases x with
 |go g w a0 =>exact⟨h.2.1,(fun _=>h.1),(fun hd=>absurd hd h.1),h.2.2⟩
 |ended o w a0 =>exact trivial
 |_=>exact h.elim
theorem gC.ok' {dy:Option Dying}{x:GStep}(h:gC x):zw dy x:=by
 cases x with
 |go g w a0 =>exact⟨h.2.1,(fun _=>h.1),(fun hd=>absurd hd h.1),h.2.2⟩
 |ended o w a0 =>exact trivial
 |_=>exact h.elim
theorem Jb (fr:iK)(a0:zO fr)(l:List ByteArray)(m:String)(b:Bool)(w:eX):gC (dieOf fr l m b w):=by
 unfold dieOf;exact⟨(fun h=>by cases h),⟨a0,(fun _ h=>by cases h),(fun d h1 h2=>by cases h1;cases h2)⟩,(fun t h=>by cases h)⟩
theorem yX (fr:iK)(a0:zO fr)(m:String)(w:eX):gC (endThrow fr m w):=by
 unfold endThrow;first
  |exact Jb _ a0 _ _ _ _
  |exact trivial
  |exact⟨(fun h=>by cases h),⟨a0,(fun _ h=>by cases h),(fun d h1 h2=>by cases h1;cases h2)⟩,(fun t h=>by cases h)⟩
theorem vh (p:eA)(fr:iK)(a0:zO fr)(cs:List iK)(dy:Option Dying)(m:String)(w:eX):gC (endFatal p fr cs dy m w):=by
 unfold endFatal;extract_lets chain raw shown
 clear_value shown
 cases shown.run p w with
 |ok x v=>exact Jb _ a0 _ _ _ _
 |halt h v=>cases h<;>exact trivial
theorem qb (p:eA)(fr:iK)(a0:zO fr)(v:eB)(w:eX):gC (endPrinting p fr v w):=by
 unfold endPrinting;simp only;split
 ·exact yX _ a0 _ _
 ·exact trivial
theorem XG {dy:Option Dying}(fr:iK)(a0:zO fr)(cs:List iK)(a1:∀f∈cs,zO f)(hb:Rep dy fr cs)(s:Sem Next)(hs:kr P s)(w:eX):zw dy (stepG.apply P true fr cs dy s w):=by
 have a5:∀f∈fr::cs,zO f:=fun f hf=>by
  rcases iT.1 hf with rfl|hf
  ·exact a0
  ·exact a1 f hf
 unfold stepG.apply;simp only[if_true];have hl:=k_ hs.1 w #[];have a3:=hs.2 w #[];have hy:=yv P s w #[] ZZ;generalize hx:s.runT P w #[]=x at hl a3 hy⊢;obtain⟨r,es⟩:=x;have a2:∀a4,evens #[] a4 →xl a4 →evens #[] (seen P fr.fn (if(fr.kind==CallKind.early)=true then #[]else a4)):=by
  intro a4 h1 h2;split
  ·exact Zt ZZ xN
  ·exact Zt h2 h1
 cases r with
 |ok nx v=>
  have a6:=hl nx v rfl;refine zw.after (a2 _ (a3 trivial) hy) ?_
  cases nx with
  |value x=>exact .go (Zv a0 _) a1 (hb.fin _)
  |skip=>exact .go (Zv a0 _) a1 (hb.fin _)
  |enter f args=>exact .go (yx _ _ _) a5 hb
  |round l f tmps a b=>exact .go (Kh _ _ _ _ _ _) a5 hb
  |defer c=>exact .go (Zv (fr:={fr with defers:=c::fr.defers}) a0 _) a1 (Rep.fin (fr:={fr with defers:=c::fr.defers}) (hb.same rfl) _)
  |recover=>
   simp only;split
   ·rename_i v' a9 e
    refine .go (Zv a0 _) ?_ ?_
    ·split at e
     ·split at e
      ·exact yV e a1
      ·exact ym e a1
     ·exact yV e a1
    ·refine Rep.fin (fun d h1 h2=>Eq.trans ?_ (hb d h1 h2)) _
     split at e
     ·split at e
      ·exact yE e _
      ·exact y8 e _
     ·exact yE e _
   ·exact .go (Zv a0 _) a1 (hb.fin _)
  |spawn c=>
   simp only;repeat' split
   all_goals first|exact(yX _ a0 _ _).ok' |exact trivial
  |comm cases b sh=>exact⟨⟨a0,a1,hb⟩,rfl,rfl,xN⟩
  |coroswitch c e=>exact⟨⟨a0,a1,hb⟩,rfl,rfl,a6,xN⟩
  |row row args=>
   have hr:row= "runtime.print$piece" :=a6;subst hr;simp only;split
   ·rename_i a8 a7 k e
    refine .go (fun x hx=> ?_) a1 (hb.same rfl);rcases iT.1 hx with rfl|hx
    ·exact rfl
    ·exact a0 x (by rw[e];exact iQ _ hx)
   ·exact .go (Ki _ _) a5 hb
  |_=>exact a6.elim
 |halt h v=>
  cases h with
  |panic x=>exact zw.after (a2 _ (a3 trivial) hy) (.go (Yc a0 _) a1 (hb.rai _))
  |fatal m=>exact(vh _ _ a0 _ _ _ _).ok _
  |throw m=>exact(yX _ a0 _ _).ok _
  |blocked=>exact zw.after' ⟨a0,a1,hb⟩ (fun h=>h) (fun _ h=>by cases h)
  |waiting=>exact zw.after' ⟨a0,a1,hb⟩ (fun h=>h) (fun _ h=>by cases h)
  |goexit=>exact absurd (uE hs.1 w #[] _ _ (congrArg Prod.fst hx)) (by rintro(h|h)<;>first|exact h|cases h)
  |exit c=>exact trivial
  |unsupported u=>
   cases u with
   |initOrder g=>exact zw.after (a2 _ xN ZZ) (cA fr a0 cs a1 hb g v)
   |_=>exact trivial
  |stuck s=>exact trivial
theorem bq {dy:Option Dying}(hP:zH P)(fr:iK)(a1:zO fr)(cs:List iK)(a0:∀f∈cs,zO f)(hb:Rep dy fr cs)(w:eX):zw dy (stepG.oper P true fr cs dy w):=by
 unfold stepG.oper;split
 ·exact trivial
 ·split
  ·refine XG fr a1 cs a0 hb _ (z6.tame ?_) w
   exact z6.bind0 (y5 _ _ _) fun _=>z6.bind0 (Ye _ _) fun _=>trivial
  ·exact XG fr a1 cs a0 hb _ (Ka hP _ _) w
theorem KH {dy:Option Dying}(hP:zH P)(fr:iK)(a0:zO fr)(cs:List iK)(a1:∀f∈cs,zO f)(hb:Rep dy fr cs)(c:Deferred)(w:eX):zw dy (callDeferred P fr cs dy c w):=by
 have a3:∀f∈fr::cs,zO f:=fun f hf=>by
  rcases iT.1 hf with rfl|hf
  ·exact a0
  ·exact a1 f hf
 unfold callDeferred;refine zw.ite trivial ?_
 ·have hs:=ZW hP c.target c.args
  have hl:=k_ hs.1 w #[];have hh:=uE hs.1 w #[];have a2:=hs.2 w #[];have hy:=yv P (invoke c.target c.args) w #[] ZZ;generalize(invoke c.target c.args).runT P w #[]=x at hl a2 hy hh⊢;obtain⟨r,es⟩:=x
  cases r with
  |ok nx v=>
   have a4:=hl nx v rfl;refine zw.after (Zt hy (a2 trivial)) ?_
   cases nx with
   |enter f args=>exact .go (yx _ _ _) a3 hb
   |round l f tmps a b=>exact .go (Kh _ _ _ _ _ _) a3 hb
   |row row args=>
    have hr:row= "runtime.print$piece" :=a4;subst hr;exact .go (Ki _ _) a3 hb
   |recover=>
    simp only;split
    ·rename_i v' a5 e
     exact .go a0 (yV e a1) (fun d h1 h2=>(yE e _).trans (hb d h1 h2))
    ·exact .go a0 a1 (hb.same rfl)
   |coroswitch c e=>
    have he:e=true:=a4;subst he;exact⟨⟨a0,a1,hb⟩,rfl,rfl,rfl,xN⟩
   |value x=>exact .go a0 a1 (hb.same rfl)
   |skip=>exact .go a0 a1 (hb.same rfl)
   |defer c=>exact .go a0 a1 (hb.same rfl)
   |spawn c=>exact .go a0 a1 (hb.same rfl)
   |comm a b c=>exact .go a0 a1 (hb.same rfl)
   |_=>exact a4.elim
  |halt h v=>
   cases h with
   |panic x=>exact zw.after (Zt hy (a2 trivial)) (.go (Yc a0 _) a1 (hb.rai _))
   |fatal m=>exact(vh _ _ a0 _ _ _ _).ok _
   |throw m=>exact(yX _ a0 _ _).ok _
   |blocked=>exact zw.after' ⟨a0,a1,hb.same rfl⟩ (fun h=>h) (fun _ h=>by cases h)
   |waiting=>exact zw.after' ⟨a0,a1,hb.same rfl⟩ (fun h=>h) (fun _ h=>by cases h)
   |goexit=>exact absurd (hh _ _ rfl) (by rintro(h|h)<;>first|exact h|cases h)
   |exit c=>exact trivial
   |unsupported u=>exact trivial
   |stuck s=>exact trivial
theorem fS {dy:Option Dying}(hP:zH P)(main:Bool)(fr:iK)(a1:zO fr)(cs:List iK)(a0:∀f∈cs,zO f)(hb:Rep dy fr cs)(a3:∀d,dy=some d→d.calling=true)(w:eX):zw dy (unwind P main fr cs dy w):=by
 unfold unwind;split
 ·rename_i block ds _ _
  have hy:=yv P (Instr.takeDeferred block) w #[] ZZ;have he:=(Yd (P:=P) block).evens w #[];generalize(Instr.takeDeferred block).runT P w #[]=x at hy he⊢;obtain⟨r,es⟩:=x
  cases r with
  |ok a v=>exact zw.after (Zt hy he) (.go a1 a0 (hb.same rfl))
  |halt h v=>exact trivial
 ·rename_i ds _ _
  exact KH hP {fr with defers:=ds} a1 cs a0 (hb.same rfl) _ w
 ·split
  ·exact trivial
  ·rename_i a2 _
   split
   ·exact trivial
   ·cases cs with
    |cons c rest=>exact .go (Yc (a0 c (iO ..)) _) (fun f hf=>a0 f (iQ _ hf)) (Rep.rai (fr:=c) (cs:=rest) hb _)
    |nil=>
     cases dy with
     |none=>
      simp only;refine zw.ite (.go a1 a0 (hb.same rfl)) ?_
      cases(reportChain a2 false).run P w with
      |ok t v=>exact⟨⟨a1,a0,(fun d h1 h2=>by cases h1;cases h2)⟩,(fun h=>absurd rfl h),(fun hd=>by cases hd),(fun t h=>by cases h)⟩
      |halt h v=>cases h<;>exact trivial
     |some d=>
      simp only;split
      ·exact(qb _ _ a1 _ _).ok'
      ·exact trivial
  ·split
   ·exact Q3 _ _ a1 _ a0 hb a3 _ _
   ·rename_i fn _
    have hy:=yv P (results fn fr.tmps) w #[] ZZ;have he:=(VA (P:=P) fn fr.tmps).evens w #[];generalize(results fn fr.tmps).runT P w #[]=x at hy he⊢;obtain⟨r,es⟩:=x
    cases r with
    |ok a v=>exact zw.after (Zt hy he) (Q3 _ _ a1 _ a0 hb a3 _ _)
    |halt h v=>cases h<;>first|exact trivial|exact zw.after (Zt hy he) (.go (Yc a1 _) a0 (hb.rai _))|exact zw.after (Zt hy he) (.go a1 a0 (hb.same rfl))
theorem Vx {dy:Option Dying}(main:Bool)(fr:iK)(a3:zO fr)(cs:List iK)(a2:∀f∈cs,zO f)(hb:Rep dy fr cs)(a1:∀d,dy=some d→d.calling=true)(a0:Option Code)(c:Prop) [Decidable c] (w:eX):
  zw dy (match fr.roundOf with
   |none=>if c then GStep.go {frame:={fr with mode:= .returning},callers:=cs,status:= .running,dying:=dy} w else .ended (.stuck "exit, goto: no such block or label" (fr.pos P)) w
   |some l=>GStep.after (seen P fr.fn ((Instr.endRound l a0).runT P w #[]).2) (match((Instr.endRound l a0).runT P w #[]).1 with
    | .ok v w=>doReturn P main fr cs dy v w
    | .halt _ w=> .ended (.stuck "range over a function: no such loop" (fr.pos P)) w)):=by
 cases fr.roundOf with
 |none=>exact zw.ite (.go a3 a2 (hb.same rfl)) trivial
 |some l=>
  simp only;have hy:=yv P (Instr.endRound l a0) w #[] ZZ;have he:=(xw (P:=P) l a0).evens w #[];generalize(Instr.endRound l a0).runT P w #[]=x at hy he⊢;obtain⟨r,es⟩:=x
  cases r with
  |ok a v=>exact zw.after (Zt hy he) (Q3 _ _ a3 _ a2 hb a1 _ _)
  |halt h v=>exact trivial
theorem bt {dy:Option Dying}(hP:zH P)(main:Bool)(fr:iK)(a1:zO fr)(cs:List iK)(a0:∀f∈cs,zO f)(hb:Rep dy fr cs)(a2:∀d,dy=some d→d.calling=true)(w:eX):zw dy (stepG.exec P main true fr cs dy w):=by
 have hk:∀{x:Item} {k:List Item},fr.todo=x::k→∀y∈k,Xw y:=fun e y hy=>a1 y (by rw[e];exact iQ _ hy)
 have h1:∀{x:Item} {k:List Item} (y:Item),Xw y→fr.todo=x::k→zO {fr with todo:=y::k}:=fun y hy e z hz=>by
  rcases iT.1 hz with rfl|hz
  ·exact hy
  ·exact hk e z hz
 have h2:∀{x:Item} {k:List Item} (y z:Item),Xw y→Xw z→fr.todo=x::k→zO {fr with todo:=y::z::k}:=fun y z hy hz e u hu=>by
  rcases iT.1 hu with rfl|hu
  ·exact hy
  ·rcases iT.1 hu with rfl|hu
   ·exact hz
   ·exact hk e u hu
 unfold stepG.exec;simp only;split
 ·exact Vx _ _ a1 _ a0 hb a2 _ _ _
 ·exact Vx _ _ a1 _ a0 hb a2 _ _ _
 ·rename_i e;exact .go (hk e) a0 (hb.same rfl)
 ·rename_i e;exact .go (hk e) a0 (hb.same rfl)
 ·rename_i e;exact .go (hk e) a0 (hb.same rfl)
 ·rename_i e;exact .go (hk e) a0 (hb.same rfl)
 ·rename_i e;exact .go (h2 _ _ trivial trivial e) a0 (hb.same rfl)
 ·rename_i e
  split
  ·exact .go (h1 _ trivial e) a0 (hb.same rfl)
  ·exact trivial
 ·rename_i e;exact .go (h2 _ _ trivial trivial e) a0 (hb.same rfl)
 ·rename_i e;exact .go (h2 _ _ trivial trivial e) a0 (hb.same rfl)
 ·rename_i e;exact .go (h2 _ _ trivial trivial e) a0 (hb.same rfl)
 ·rename_i e;exact .go (h2 _ _ trivial trivial e) a0 (hb.same rfl)
 ·rename_i id k e
  cases hx:exitTo id k with
  |none=>exact Vx _ _ a1 _ a0 hb a2 _ _ _
  |some t=>exact .go (fun y hy=>hk e y (vU hx y hy)) a0 (hb.same rfl)
 ·rename_i l k e
  cases hx:gotoIn l k with
  |none=>exact Vx _ _ a1 _ a0 hb a2 _ _ _
  |some t=>exact .go (fun y hy=>(vR hx y hy).elim (hk e y) id) a0 (hb.same rfl)
 ·rename_i f params assign body k e
  have hy:=yv P (Instr.enterLoop fr.fn fr.tmps params assign body fr.roundOf) w #[] ZZ;have he:=(x5 (P:=P) fr.fn fr.tmps params assign body fr.roundOf).evens w #[];generalize(Instr.enterLoop fr.fn fr.tmps params assign body fr.roundOf).runT P w #[]=x at hy he⊢;obtain⟨r,es⟩:=x
  cases r with
  |ok a v=>
   refine zw.after (Zt hy he) ?_;obtain⟨l,mk⟩:=a;exact XG {fr with todo:= .inRangeFunc l::k,defers:=mk++fr.defers} (h1 _ trivial e) cs a0 (hb.same rfl) _ (kr.bind (y5 _ _ _) fun d=>ZW hP _ _) _
  |halt h v=>exact trivial
 ·exact trivial
 ·refine XG fr a1 cs a0 hb _ (z6.tame ?_) w
  refine z6.bind0 ?_ (fun _=> ?_)
  case refine_2=>exact trivial
  cases fr.roundOf with
  |none=>exact trivial
  |some l=>exact Yy l
 ·rename_i l k e
  have hy:=yv P (Instr.endLoop l) w #[] ZZ;have he:=(xW (P:=P) l).evens w #[];generalize(Instr.endLoop l).runT P w #[]=x at hy he⊢;obtain⟨r,es⟩:=x
  cases r with
  |ok a v=>
   refine zw.after (Zt hy he) (.go (fun y hy=> ?_) a0 (hb.same rfl));rcases iZ.1 hy with hy|hy
   ·cases a with
    |none=>cases hy
    |some c=>rcases iV.1 hy with rfl;exact trivial
   ·exact hk e y hy
  |halt h v=>cases h<;>first|exact trivial|exact zw.after (Zt hy he) (.go (Yc a1 _) a0 (hb.rai _))
 ·exact trivial
 ·exact XG fr a1 cs a0 hb _ (ZW hP _ _) w
 ·rename_i row args k e
  have:row= "runtime.print$piece" :=a1 (.extern row args) (by rw[e];exact iO ..);subst this;rw[jF];exact XG fr a1 cs a0 hb _ ⟨vT _,uQ _⟩ w
 ·rename_i id ops a3 k e
  refine zw.ite (.go (h1 _ trivial e) a0 (hb.same rfl)) ?_
  cases(choose (.order fr.fn id)).run P w with
  |ok t v=>exact .go (h1 _ trivial e) a0 (hb.same rfl)
  |halt h v=>exact trivial
 ·rename_i e;exact .go (hk e) a0 (hb.same rfl)
 ·exact zw.ite (bq hP fr a1 cs a0 hb w) (.go (Zv a1 _) a0 (hb.fin _))
theorem G3 (fr:iK)(a1:zO fr)(d:Dying)(hd:d.calling=false)(f:Fatal)(w:eX):zw (some d) (writeOn P fr d f w):=by
 unfold writeOn;extract_lets on
 split
 ·exact trivial
 ·have ho:∀st f w es,(∀t,st≠GoStatus.sleeping t)→zw (some d) (on st f w es):=fun st f w es a2=>⟨⟨a1,(fun _ h=>by cases h),(fun d' h1 h2=>by cases h1;rw[show({d with fatal:=some f}:Dying).calling=d.calling from rfl,hd]at h2;cases h2)⟩,(fun _ h=>by cases h),(fun h=>by cases h),a2⟩
  rename_i a0 rest _;have H:∀x:Result Unit×Array eS,zw (some d) (match x with
   |(.ok _ w,es)=>on .running {f with pieces:=rest,begun:=true} w es
   |(.halt .blocked w,_)=>on .blocked f w #[]
   |(.halt (.unsupported u) w,_)=> .ended (.unsupported u "") w
   |(.halt _ w,_)=> .ended (.stuck "the report of a fatal error" "") w):=by
   rintro⟨r,es⟩
   cases r with
   |ok a v=>exact ho _ _ _ _ (fun t h=>by cases h)
   |halt h v=>cases h<;>first|exact ho _ _ _ _ (fun t h=>by cases h)|exact trivial
  exact H _
theorem BL (hP:zH P)(fr:iK)(a1:zO fr)(d:Dying)(hd:d.calling=false)(w:eX):zw (some d) (die P fr d w):=by
 have ho:∀(st:GoStatus) (d' :Dying) (w:eX) (es:Array eS),d'.calling=false→(∀t,st≠GoStatus.sleeping t)→zw (some d) (.go {frame:=fr,callers:=[],status:=st,dying:=some d' } w es):=fun st d' w es hc a3=>⟨⟨a1,(fun _ h=>by cases h),(fun a2 h1 h2=>by cases h1;rw[hc]at h2;cases h2)⟩,(fun _ h=>by cases h),(fun h=>by cases h),a3⟩
 unfold die;split
 ·exact G3 fr a1 d hd _ w
 ·split
  ·split
   ·exact ho _ _ _ _ hd (fun t h=>by cases h)
   ·unfold endWith
    simp only;repeat' (first|exact trivial|split)
  ·rename_i v mark rest _
   simp only;split
   ·exact ho _ _ _ _ hd (fun t h=>by cases h)
   ·rename_i s _
    cases(withAddress s).run P w with
    |ok s w=>exact ho _ _ _ _ hd (fun t h=>by cases h)
    |halt h w=>exact trivial
   ·rename_i t a0 name _
    have hs:=ZW hP (.fn (.method name) #[]) #[.iface t a0];generalize(invoke (.fn (.method name) #[]) #[.iface t a0]).runT P w #[]=x;obtain⟨r,es⟩:=x
    cases r with
    |ok n v=>
     cases n with
     |enter f args=>exact⟨⟨yx _ _ _,(fun _ h=>by cases h),fun a2 h1 h2=>rfl⟩,(fun _ h=>by cases h),(fun h=>by cases h),(fun t h=>by cases h)⟩
     |value x=>cases x<;>first|exact trivial|exact⟨⟨a1,(fun _ h=>by cases h),(fun a2 h1 h2=>by cases h1;exact absurd (hd.symm.trans h2) (by decide))⟩,(fun _ h=>by cases h),(fun h=>by cases h),(fun t h=>by cases h)⟩
     |_=>exact trivial
    |halt h v=>cases h<;>first|exact trivial|exact(qb _ _ a1 _ _).ok _
   ·exact trivial
theorem FU (hP:zH P)(main:Bool)(g:eZ)(hg:okG g)(w:eX):zw g.dying (stepG P main g w):=by
 obtain⟨fr,cs,st,dy,of⟩:=g;obtain⟨a0,a1,hb⟩:=hg;simp only at a0 a1 hb⊢;unfold stepG;simp only;split
 ·rename_i d hd
  exact BL hP fr a0 _ rfl w
 ·rename_i h1 h2
  exact bt hP _ _ a0 _ a1 hb (fun d e=>by
   subst e;obtain⟨a,b,c⟩:=d
   cases c<;>first|rfl|exact(h1 _ _ _ _ _ _ rfl).elim) _
 ·rename_i h1 h2
  exact fS hP _ _ a0 _ a1 hb (fun d e=>by
   subst e;obtain⟨a,b,c⟩:=d
   cases c<;>first|rfl|exact(h1 _ _ _ _ _ _ rfl).elim) _
end
