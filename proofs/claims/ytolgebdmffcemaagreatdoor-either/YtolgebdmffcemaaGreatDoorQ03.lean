import GoSem.Step
import Derived.RunT
set_option linter.all false
set_option maxHeartbeats 20000000
set_option maxRecDepth 1000000
open Nat renaming le_refl→eP,add_zero→eS,add_assoc→eT,le_trans→eQ
open Go.World renaming ask→eR,freeze→eU
open Bool renaming false_eq_true→eL
open Go.Program renaming brought→eV
open Go.Frame renaming enter→eW
namespace Go.Proofs.YtolgebdmffcemaaGreatDoor
open Go
def re (w:World)(T:Nat→Question→Nat)(d:Nat):World:={w with tape:=T,drawn:=d}
def ZE (w:World)(T:Nat→Question→Nat)(d:Nat):Prop:=∀k q,T (d+k) q=w.tape (w.drawn+k) q
def reR {α:Type}(T:Nat→Question→Nat)(d b:Nat):Result α→Result α
 | .ok a w=> .ok a (re w T (d+(w.drawn-b)))
 | .halt h w=> .halt h (re w T (d+(w.drawn-b)))
def zB {α:Type}:Result α→World
 | .ok _ w| .halt _ w=>w
theorem ZE.later {w v:World}{T:Nat→Question→Nat}{d:Nat}(h:ZE w T d)(ht:v.tape=w.tape)(hd:w.drawn≤v.drawn):ZE v T (d+(v.drawn-w.drawn)):=fun k q=>by
 have:=h (v.drawn-w.drawn+k) q;rw[ht];rw[show d+(v.drawn-w.drawn)+k=d+(v.drawn-w.drawn+k)by omega,this];congr 1
 omega
theorem UM {α:Type}:∀(s:Ask α) (w:World) (T:Nat→Question→Nat) (d:Nat),ZE w T d→(w.ask s).2.tape=w.tape∧w.drawn≤(w.ask s).2.drawn∧(re w T d).ask s=((w.ask s).1,re (w.ask s).2 T (d+((w.ask s).2.drawn-w.drawn)))
 | .done a,w,T,d,_=>⟨rfl,eP _,by simp[eR]⟩
 | .ask what range k,w,T,d,h=>by
  by_cases hf:(Question.extern what range).forced=true
  ·have:=UM (k 0) w T d h
   simp only[eR,hf,if_true];exact this
  ·have h0:=h 0 (.extern what range)
   simp only[eS]at h0;have hT:ZE {w with drawn:=w.drawn+1} T (d+1):=fun j q=>by
    have:=h (1+j) q;simpa[eT]using this
   obtain⟨h1,h2,h3⟩:=UM (k ((Question.extern what range).cut (w.tape w.drawn (.extern what range)))) {w with drawn:=w.drawn+1} T (d+1) hT;simp only[eR,hf,if_false,eL];refine⟨h1,by have:=h2;simp only at this;omega,?_⟩;show eR {(re w T d)with drawn:=d+1} (k ((Question.extern what range).cut (T d (.extern what range))))=_;rw[h0];rw[show({(re w T d)with drawn:=d+1}:World)=re {w with drawn:=w.drawn+1} T (d+1)from rfl,h3];simp only at h2⊢;congr 2
   omega
theorem uQ (w:World)(c:Sys)(T:Nat→Question→Nat)(d:Nat)(h:ZE w T d):(w.sys c).2.tape=w.tape∧w.drawn≤(w.sys c).2.drawn∧(re w T d).sys c=((w.sys c).1,re (w.sys c).2 T (d+((w.sys c).2.drawn-w.drawn))):=by
 obtain⟨h1,h2,h3⟩:=UM (Kernel.perform c w.os) w T d h;unfold World.sys;rw[show(re w T d).os=w.os from rfl,h3];generalize hx:w.ask (Kernel.perform c w.os)=x at h1 h2 h3⊢;obtain⟨⟨r,os⟩,w'⟩:=x;simp only at h1 h2 h3⊢
 cases r<;>first|exact⟨h1,h2,rfl⟩|exact⟨rfl,eP _,by simp[re]⟩
theorem JU {α:Type}(T:Nat→Question→Nat)(d b:Nat)(r:Result α)(h:b+1≤(zB r).drawn):reR T (d+1) (b+1) r=reR T d b r:=by
 cases r<;>simp only[reR,zB]at h⊢<;>(congr 2;omega)
theorem JV {α:Type}(T:Nat→Question→Nat)(d:Nat){b c:Nat}{r:Result α}(hb:b≤c)(h:c≤(zB r).drawn):reR T (d+(c-b)) c r=reR T d b r:=by
 cases r<;>simp only[reR,zB]at h⊢<;>(congr 2;omega)
theorem uN (p:Program)(w:World)(at_:Addr)(u:TypeId)(k:Addr)(v:Value)(a0:Bool)(T:Nat→Question→Nat)(d:Nat):
  (re w T d).viewStore p at_ u k v a0=(w.viewStore p at_ u k v a0).map (fun x=>(re x.1 T d,x.2))∧∀w' l,w.viewStore p at_ u k v a0= .ok (w',l)→w'.tape=w.tape∧w'.drawn=w.drawn:=by
 have hs:(re w T d).seen p at_ u k a0=w.seen p at_ u k a0:=rfl;unfold World.viewStore;rw[hs,show(re w T d).heap=w.heap from rfl];by_cases ht:(!tight p p.depth u)=true
 ·simp only[ht,if_true]
  exact⟨rfl,fun w' l e=>by cases e⟩
 simp only[ht,if_false,eL]
 cases w.seen p at_ u k a0 with
 |error e=>exact⟨rfl,fun w' l e=>by cases e⟩
 |ok x=>
  obtain⟨c,e,a1,first,a4,a3⟩:=x
  cases v.bytes? with
  |none=>exact⟨rfl,fun w' l e=>by cases e⟩
  |some a2=>
   simp only[bind,Except.bind,pure,Except.pure];split
   ·exact⟨rfl,fun w' l e=>by cases e⟩
   ·split
    ·exact⟨rfl,fun w' l e=>by cases e⟩
    ·exact⟨rfl,fun w' l e=>by cases e;exact⟨rfl,rfl⟩⟩
theorem Kr (p:Program)(w:World)(a:Addr)(v:Value)(a0:Bool)(T:Nat→Question→Nat)(d:Nat):
  (re w T d).farStore p a v a0=(w.farStore p a v a0).map (fun x=>(re x.1 T d,x.2))∧∀w' l,w.farStore p a v a0= .ok (w',l)→w'.tape=w.tape∧w'.drawn=w.drawn:=by
 unfold World.farStore;rw[show(re w T d).heap=w.heap from rfl];have hn:∀x,(re w T d).noCell a x=w.noCell a x:=fun _=>rfl
 cases hb:w.heap[a.block]? with
 |none=>exact⟨by simp[Except.map,hn],by simp⟩
 |some o=>
  cases o with
  |view at_ u=>
   obtain⟨h1,h2⟩:=uN p w at_ u a v a0 T d;simp only[h1]
   cases hx:w.viewStore p at_ u a v a0 with
   |ok r=>exact⟨rfl,fun w' l e=>h2 w' l (by rw[hx];simpa using e)⟩
   |error e=>exact⟨rfl,by simp⟩
  |_=>exact⟨by simp[Except.map,hn],by simp⟩
theorem KU {α:Type}(p:Program):∀(s:Sem α) (w:World) (es:Array Event) (T:Nat→Question→Nat) (d:Nat),ZE w T d→
  (zB (s.runT p w es).1).tape=w.tape∧w.drawn≤(zB (s.runT p w es).1).drawn∧s.runT p (re w T d) es=(reR T d w.drawn (s.runT p w es).1,(s.runT p w es).2):=by
 intro s;induction s with
 |pure a=>intro w es T d h;exact⟨rfl,eP _,by simp[Sem.runT,reR]⟩
 |load m a k ih=>
  intro w es T d h;simp only[Sem.runT];rw[show(re w T d).cell? a=w.cell? a from rfl,show(re w T d).farLoad p a (m== .atomic)=w.farLoad p a (m== .atomic)from rfl]
  cases w.cell? a with
  |some v=>exact ih v w _ T d h
  |none=>
   cases w.farLoad p a (m== .atomic)with
   |ok r=>exact ih r.1 w _ T d h
   |error e=>exact⟨rfl,eP _,by simp[reR]⟩
 |store m a v k ih=>
  intro w es T d h;by_cases hv:(∃x,v= .agg x)∨∃x,v= .tuple x
  ·rcases hv with⟨x,rfl⟩|⟨x,rfl⟩<;>exact⟨rfl,eP _,by simp[Sem.runT,reR]⟩
  ·have e:∀u:World,(Sem.store m a v k).runT p u es=match u.cell? a with
     |some _=>if u.frozen? a then(.halt (.unsupported (.unsafePointer "a write to bytes that a string shares")) u,es)else k.runT p (u.setCell a v) (es.push ⟨.cell a,true,m== .atomic⟩)
     |none=>match u.farStore p a v (m== .atomic)with
      | .ok (u',touched)=>k.runT p u' (es++touched.toArray.map (⟨.cell ·,true,m== .atomic⟩))
      | .error h=>(.halt h u,es):=by
    intro u
    cases v<;>first|rfl|(exfalso;exact hv (.inl ⟨_,rfl⟩))|(exfalso;exact hv (.inr ⟨_,rfl⟩))
   rw[e w,e (re w T d)];rw[show(re w T d).cell? a=w.cell? a from rfl,show(re w T d).frozen? a=w.frozen? a from rfl]
   cases w.cell? a with
   |some x=>
    by_cases hf:w.frozen? a=true
    ·simp only[hf,if_true]
     exact⟨rfl,eP _,by simp[reR]⟩
    ·simp only[hf,if_false,eL]
     exact ih (w.setCell a v) _ T d h
   |none=>
    obtain⟨f1,f2⟩:=Kr p w a v (m== .atomic) T d;rw[f1]
    cases hx:w.farStore p a v (m== .atomic)with
    |ok r=>
     obtain⟨w',l⟩:=r;obtain⟨g1,g2⟩:=f2 w' l hx;have hT:ZE w' T d:=fun j q=>by rw[g1,g2];exact h j q
     have:=ih w' (es++l.toArray.map (⟨.cell ·,true,m== .atomic⟩)) T d hT;simp only[Except.map];rw[g1,g2]at this;exact this
    |error e=>exact⟨rfl,eP _,by simp[reR,Except.map]⟩
 |new o k ih=>
  intro w es T d h;exact ih w.heap.size {w with heap:=w.heap.push o} es T d h
 |shape r k ih=>
  intro w es T d h;exact ih (w.shape? r) w es T d h
 |freeze a n k ih=>
  intro w es T d h;have e:(re w T d).freeze a n=re (w.freeze a n) T d:=by
   unfold eU re;split<;>rfl
  have e2:(w.freeze a n).tape=w.tape:=by unfold eU;split<;>rfl
  have e3:(w.freeze a n).drawn=w.drawn:=by unfold eU;split<;>rfl
  have:=ih (w.freeze a n) es T d (fun j q=>by rw[e2,e3];exact h j q);simp only[Sem.runT,e];rw[e2,e3]at this;exact this
 |frozen a k ih=>
  intro w es T d h;exact ih (w.frozen? a) w es T d h
 |getObj r k ih=>
  intro w es T d h;simp only[Sem.runT];rw[show(re w T d).heap=w.heap from rfl]
  cases w.heap[r]? with
  |none=>exact⟨rfl,eP _,by simp[reR]⟩
  |some o=>cases o<;>first|exact⟨rfl,eP _,by simp[reR]⟩|exact ih _ w _ T d h
 |setObj r o k ih=>
  intro w es T d h;simp only[Sem.runT];rw[show(re w T d).heap=w.heap from rfl]
  cases w.heap[r]? with
  |none=>exact⟨rfl,eP _,by simp[reR]⟩
  |some x=>cases x<;>first|exact⟨rfl,eP _,by simp[reR]⟩|exact ih {w with heap:=w.heap.setIfInBounds r o} _ T d h
 |choose q k ih=>
  intro w es T d h;by_cases hf:q.forced=true
  ·simp only[Sem.runT,hf,if_true]
   exact ih 0 w es T d h
  ·have h0:=h 0 q
   simp only[eS]at h0;have hT:ZE {w with drawn:=w.drawn+1} T (d+1):=fun j q=>by
    have:=h (1+j) q;simpa[eT]using this
   obtain⟨h1,h2,h3⟩:=ih (q.cut (w.tape w.drawn q)) {w with drawn:=w.drawn+1} es T (d+1) hT;simp only[Sem.runT,hf,if_false,eL];refine⟨h1,by have:=h2;simp only at this;omega,?_⟩;show Sem.runT p (k (q.cut (T d q))) {(re w T d)with drawn:=d+1} es=_;rw[h0,show({(re w T d)with drawn:=d+1}:World)=re {w with drawn:=w.drawn+1} T (d+1)from rfl,h3,JU T d w.drawn _ h2]
 |sys c k ih=>
  intro w es T d h;obtain⟨h1,h2,h3⟩:=uQ w c T d h;have hT:=h.later h1 h2;obtain⟨g1,g2,g3⟩:=ih (w.sys c).1 (w.sys c).2 (es.push ⟨.output,true,false⟩) T _ hT;simp only[Sem.runT];rw[h3];refine⟨g1.trans h1,eQ h2 g2,?_⟩;rw[g3,JV T d h2 g2]
 |program k ih=>
  intro w es T d h;exact ih p w es T d h
 |mark m k ih=>
  intro w es T d h;exact ih w _ T d h
 |halt x=>intro w es T d h;exact⟨rfl,eP _,by simp[Sem.runT,reR]⟩
def ZN:GStep→World
 | .go _ w _| .comm _ _ _ _ w _| .spawn _ _ w _| .count _ w _| .timer _ _ w _| .alone _ _ w _| .newcoro _ _ _ w _| .coroswitch _ _ _ w _| .collect _ w _| .watch _ w _| .ended _ w _=>w
def uW (x:GStep)(v:World):GStep:=
 match x with
 | .go g _ es=> .go g v es
 | .comm g c b s _ es=> .comm g c b s v es
 | .spawn g c _ es=> .spawn g c v es
 | .count g _ es=> .count g v es
 | .timer g o _ es=> .timer g o v es
 | .alone g o _ es=> .alone g o v es
 | .newcoro g c d _ es=> .newcoro g c d v es
 | .coroswitch g c e _ es=> .coroswitch g c e v es
 | .collect g _ es=> .collect g v es
 | .watch g _ es=> .watch g v es
 | .ended o _ es=> .ended o v es
def GRe (T:Nat→Question→Nat)(d:Nat)(w:World)(x y:GStep):Prop:=
 (ZN x).tape=w.tape∧w.drawn≤(ZN x).drawn∧y=uW x (re (ZN x) T (d+((ZN x).drawn-w.drawn)))
def reW {α:Type}(r:Result α)(T:Nat→Question→Nat)(d:Nat):Result α:=
 match r with
 | .ok a w=> .ok a (re w T d)
 | .halt h w=> .halt h (re w T d)
theorem GRe.here {T:Nat→Question→Nat}{d:Nat}{w:World}{x y:GStep}(h1:ZN x=w)(h2:y=uW x (re w T d)):GRe T d w x y:=by
 refine⟨by rw[h1],by rw[h1];exact eP _,?_⟩;rw[h1,Nat.sub_self,eS];exact h2
theorem GRe.later {T:Nat→Question→Nat}{d:Nat}{w v:World}{x y:GStep}(ht:v.tape=w.tape)(hd:w.drawn≤v.drawn)(h:GRe T (d+(v.drawn-w.drawn)) v x y):GRe T d w x y:=by
 obtain⟨h1,h2,h3⟩:=h;refine⟨h1.trans ht,eQ hd h2,?_⟩;rw[h3];congr 2
 omega
theorem GRe.after {T:Nat→Question→Nat}{d:Nat}{w:World}{x y:GStep}(h:GRe T d w x y)(es:Array Event):GRe T d w (GStep.after es x) (GStep.after es y):=by
 obtain⟨h1,h2,h3⟩:=h;subst h3
 cases x<;>exact⟨h1,h2,rfl⟩
theorem GRe.runT {α:Type}{T:Nat→Question→Nat}{d:Nat}{w:World}(hT:ZE w T d)(p:Program)(s:Sem α)(k:Result α→Array Event→GStep)
  (hk:∀r es d',ZE (zB r) T d' →GRe T d' (zB r) (k r es) (k (reW r T d') es)):
  GRe T d w (k (s.runT p w #[]).1 (s.runT p w #[]).2) (k (s.runT p (re w T d) #[]).1 (s.runT p (re w T d) #[]).2):=by
 obtain⟨h1,h2,h3⟩:=KU p s w #[] T d hT;rw[h3];have h4:=hk (s.runT p w #[]).1 (s.runT p w #[]).2 (d+((zB (s.runT p w #[]).1).drawn-w.drawn)) (hT.later h1 h2);refine GRe.later h1 h2 ?_;have e:reR T d w.drawn (s.runT p w #[]).1=reW (s.runT p w #[]).1 T (d+((zB (s.runT p w #[]).1).drawn-w.drawn)):=by
  cases(s.runT p w #[]).1<;>rfl
 rw[e];exact h4
section
variable {T:Nat→Question→Nat}{d:Nat}{w:World}
theorem Qf (p:Program)(main:Bool)(fr:Frame)(cs:List Frame)(dy:Option Dying)(v:Value):GRe T d w (doReturn p main fr cs dy v w) (doReturn p main fr cs dy v (re w T d)):=by
 unfold doReturn;repeat' split
 all_goals exact GRe.here rfl rfl
theorem cY (fr:Frame)(l:List ByteArray)(m:String)(b:Bool):GRe T d w (dieOf fr l m b w) (dieOf fr l m b (re w T d)):=GRe.here rfl rfl
theorem Ow (fr:Frame)(m:String):GRe T d w (endThrow fr m w) (endThrow fr m (re w T d)):=GRe.here rfl rfl
theorem Qe (p:Program)(fr:Frame)(v:Value):GRe T d w (endPrinting p fr v w) (endPrinting p fr v (re w T d)):=by
 unfold endPrinting;simp only;split
 ·exact Ow _ _
 ·exact GRe.here rfl rfl
theorem jw {α:Type}(hT:ZE w T d)(p:Program)(s:Sem α):(zB (s.run p w)).tape=w.tape∧w.drawn≤(zB (s.run p w)).drawn∧s.run p (re w T d)=reW (s.run p w) T (d+((zB (s.run p w)).drawn-w.drawn)):=by
 obtain⟨h1,h2,h3⟩:=KU p s w #[] T d hT;have h4:=congrArg Prod.fst h3;rw[Sem.runT_fst]at h1 h2;rw[Sem.runT_fst,Sem.runT_fst]at h4;refine⟨h1,h2,h4.trans ?_⟩
 cases s.run p w<;>rfl
theorem Ks (hT:ZE w T d)(p:Program)(fr:Frame)(cs:List Frame)(dy:Option Dying)(m:String):GRe T d w (endFatal p fr cs dy m w) (endFatal p fr cs dy m (re w T d)):=by
 unfold endFatal;extract_lets chain raw shown
 clear_value shown
 obtain⟨h1,h2,h3⟩:=jw hT p shown;rw[h3];refine GRe.later h1 h2 ?_
 cases shown.run p w with
 |ok x v=>exact cY _ _ _ _
 |halt h v=>cases h<;>exact GRe.here rfl rfl
theorem G6 (hT:ZE w T d)(fd:Nat)(text:ByteArray)(o:Outcome):GRe T d w (endWith w fd text o) (endWith (re w T d) fd text o):=by
 obtain⟨h1,h2,h3⟩:=uQ w (.write fd text) T d hT;unfold endWith;rw[h3];generalize hx:w.sys (.write fd text)=x at h1 h2⊢;obtain⟨r,v⟩:=x;refine GRe.later (v:=v) h1 h2 ?_
 cases r with
 |int n=>
  simp only;generalize(n==(text.size:Int)&&decide (text.size≤65536))=c
  cases c<;>exact GRe.here rfl rfl
 |_=>exact GRe.here rfl rfl
theorem YO {α:Type}(hT:ZE w T d)(p:Program)(s:Sem α):(zB (s.runT p w #[]).1).tape=w.tape∧w.drawn≤(zB (s.runT p w #[]).1).drawn∧s.runT p (re w T d) #[]=(reW (s.runT p w #[]).1 T (d+((zB (s.runT p w #[]).1).drawn-w.drawn)),(s.runT p w #[]).2):=by
 obtain⟨h1,h2,h3⟩:=KU p s w #[] T d hT;refine⟨h1,h2,h3.trans ?_⟩
 cases(s.runT p w #[]).1<;>rfl
theorem GRe.runT2 {α:Type}(hT:ZE w T d)(p:Program)(s:Sem α)(K:Result α×Array Event→GStep)
  (hk:∀r es d',ZE (zB r) T d' →GRe T d' (zB r) (K (r,es)) (K (reW r T d',es))):GRe T d w (K (s.runT p w #[])) (K (s.runT p (re w T d) #[])):=
 GRe.runT hT p s (fun r es=>K (r,es)) hk
theorem gc (hT:ZE w T d)(p:Program)(fr:Frame)(dy:Dying)(f:Fatal):GRe T d w (writeOn p fr dy f w) (writeOn p fr dy f (re w T d)):=by
 unfold writeOn;extract_lets on
 split
 ·exact GRe.here rfl rfl
 ·rename_i a0 rest _
  refine GRe.runT2 hT p _ (fun(x:Result Unit×Array Event)=>match x with
   |(.ok _ w,es)=>on .running {f with pieces:=rest,begun:=true} w es
   |(.halt .blocked w,_)=>on .blocked f w #[]
   |(.halt (.unsupported u) w,_)=> .ended (.unsupported u "") w
   |(.halt _ w,_)=> .ended (.stuck "the report of a fatal error" "") w) ?_
  intro r es d' _
  cases r with
  |ok x v=>exact GRe.here rfl rfl
  |halt h v=>cases h<;>exact GRe.here rfl rfl
theorem By (hT:ZE w T d)(p:Program)(fr:Frame)(dy:Dying):GRe T d w (die p fr dy w) (die p fr dy (re w T d)):=by
 unfold die;split
 ·exact gc hT _ _ _ _
 ·split
  ·rw[show printLockHeld p (re w T d)=printLockHeld p w from rfl]
   split
   ·exact GRe.here rfl rfl
   ·exact G6 hT _ _ _
  ·extract_lets dd
   split
   ·exact GRe.here rfl rfl
   ·rename_i s _
    obtain⟨h1,h2,h3⟩:=jw hT p (withAddress s);rw[h3];refine GRe.later h1 h2 ?_
    cases(withAddress s).run p w<;>exact GRe.here rfl rfl
   ·rename_i t a0 name _
    obtain⟨h1,h2,h3⟩:=YO hT p (invoke (.fn (.method name) #[]) #[.iface t a0]);rw[h3];generalize(invoke (.fn (.method name) #[]) #[.iface t a0]).runT p w #[]=x at h1 h2⊢;obtain⟨r,es⟩:=x;refine GRe.after ?_ _
    cases r with
    |ok n v=>cases n<;>first|exact GRe.here rfl rfl|exact GRe.later h1 h2 (GRe.here rfl rfl)|(rename_i x;cases x<;>first|exact GRe.here rfl rfl|exact GRe.later h1 h2 (GRe.here rfl rfl))
    |halt h v=>cases h<;>first|exact GRe.here rfl rfl|exact GRe.later h1 h2 (GRe.here rfl rfl)|exact GRe.later h1 h2 (Qe _ _ _)
   ·exact GRe.here rfl rfl
theorem J6 (p:Program):∀(n:Nat) (f:FuncId),p.found (re w T d) n f=p.found w n f
 |0,_=>rfl
 |n+1,f=>by
  have ih:=J6 p n;simp only[Program.found,ih];rfl
theorem vW (p:Program):∀(n:Nat) (a b:List FuncId),p.brought (re w T d) n a b=p.brought w n a b
 |0,_,_=>by simp only[eV]
 |n+1,[],_=>by simp only[eV]
 |n+1,f::a,b=>by
  have ih:=vW p n;simp only[eV,ih];rfl
theorem Ox (hT:ZE w T d)(p:Program)(fr:Frame)(cs:List Frame)(dy:Option Dying)(g:Nat):GRe T d w (early p fr cs dy g w) (early p fr cs dy g (re w T d)):=by
 have hn:∀(v:World) (e:Nat),GRe T e v (match v.heap[g]? with
   |some (.pending c elem)=>GStep.go {frame:=fr,callers:=cs,status:= .running,dying:=dy} {v with heap:=v.heap.setIfInBounds g (.cells c elem)}
   |_=> .ended (.stuck "early: the variable does not wait" (fr.pos p)) v) (match(re v T e).heap[g]? with
   |some (.pending c elem)=>GStep.go {frame:=fr,callers:=cs,status:= .running,dying:=dy} {(re v T e)with heap:=(re v T e).heap.setIfInBounds g (.cells c elem)}
   |_=> .ended (.stuck "early: the variable does not wait" (fr.pos p)) (re v T e)):=by
  intro v e;rw[show(re v T e).heap=v.heap from rfl]
  cases v.heap[g]? with
  |none=>exact GRe.here rfl rfl
  |some o=>cases o<;>first|exact GRe.here rfl rfl|exact⟨rfl,eP _,by simp[uW,ZN,re]⟩
 have ht:∀(v:World) (e:Nat) (f:FuncId),GRe T e v (GStep.go {frame:=eW p f #[] .early,callers:=(if(p.code? f).any p.plainData then(p.brought v (2*p.funcs.size+1) [f] []).drop 1 else []).map (eW p · #[] .early)++fr::cs,status:= .running,dying:=dy} v)
   (GStep.go {frame:=eW p f #[] .early,callers:=(if(p.code? f).any p.plainData then(p.brought (re v T e) (2*p.funcs.size+1) [f] []).drop 1 else []).map (eW p · #[] .early)++fr::cs,status:= .running,dying:=dy} (re v T e)):=by
  intro v e f;rw[vW];exact GRe.here rfl rfl
 unfold early;simp only;by_cases c1:(!p.follows .staticDataAhead)=true
 ·simp only[c1,if_true];exact hn w d
 simp only[c1,if_false,eL]
 cases p.stepOf g with
 |none=>exact GRe.here rfl rfl
 |some f=>
  simp only;by_cases c2:(p.code? f).any p.atRunTime=true
  ·simp only[c2,if_true];exact hn w d
  simp only[c2,if_false,eL];rw[show(re w T d).shape? =w.shape? from rfl];by_cases c3:(((p.code? f).bind fun c=>(readies c).getLast?).bind w.shape?).isSome=true
  ·simp only[c3,if_true];exact hn w d
  simp only[c3,if_false,eL];rw[J6]
  cases p.found w p.funcs.size f with
  |unknown=>exact GRe.here rfl rfl
  |notYet=>cases fr.kind==CallKind.early<;>first|exact GRe.here rfl rfl|exact hn w d
  |either=>
   cases fr.kind==CallKind.early with
   |true=>exact ht w d f
   |false=>
    simp only;by_cases c4:(p.code? f).any p.plainData=true
    ·have:=ht w d f
     simp only[c4,if_true]at this⊢;exact this
    by_cases c5:(!(p.code? f).any p.bareCopy)=true
    ·simp only[c4,c5,if_true,if_false,eL];exact hn w d
    obtain⟨h1,h2,h3⟩:=jw hT p (choose (.early g));rw[h3]
    cases hr:(choose (.early g)).run p w with
    |ok n v=>
     rw[hr]at h1 h2;have h4:=ht v (d+(v.drawn-w.drawn)) f;simp only[c4,c5,if_false,eL]at h4⊢;refine GRe.later h1 h2 ?_
     cases n with
     |zero=>exact hn v _
     |succ n=>exact h4
    |halt h v=>
     rw[hr]at h1 h2;simp only[c4,c5,if_false,eL];exact GRe.later h1 h2 (GRe.here rfl rfl)
end
section
variable {T:Nat→Question→Nat}{d:Nat}{w:World}
theorem GRe.ite {c:Prop} [Decidable c] {x y x' y' :GStep}(h1:c→GRe T d w x y)(h2:¬c→GRe T d w x' y'):GRe T d w (if c then x else x') (if c then y else y'):=by
 by_cases h:c
 ·rw[if_pos h,if_pos h];exact h1 h
 ·rw[if_neg h,if_neg h];exact h2 h
theorem KN (hT:ZE w T d)(p:Program)(fr:Frame)(cs:List Frame)(dy:Option Dying)(c:Deferred):GRe T d w (callDeferred p fr cs dy c w) (callDeferred p fr cs dy c (re w T d)):=by
 unfold callDeferred;refine GRe.ite (fun _=>GRe.here rfl rfl) (fun _=> ?_);obtain⟨h1,h2,h3⟩:=YO hT p (invoke c.target c.args);rw[h3];generalize(invoke c.target c.args).runT p w #[]=x at h1 h2⊢;obtain⟨r,es⟩:=x;refine GRe.later h1 h2 ?_
 cases r with
 |ok n v=>
  refine GRe.after ?_ _
  cases n with
  |recover=>simp only[reW,zB];split<;>exact GRe.here rfl rfl
  |alone b x=>cases b<;>exact GRe.here rfl rfl
  |coroswitch b x=>cases x<;>exact GRe.here rfl rfl
  |_=>exact GRe.here rfl rfl
 |halt h v=>
  cases h with
  |fatal m=>
   refine GRe.after ?_ _;exact Ks (hT.later h1 h2) p fr cs dy m
  |_=>exact GRe.after (GRe.here rfl rfl) _
theorem GW (hT:ZE w T d)(p:Program)(main:Bool)(fr:Frame)(cs:List Frame)(dy:Option Dying):GRe T d w (unwind p main fr cs dy w) (unwind p main fr cs dy (re w T d)):=by
 unfold unwind;split
 ·rename_i block ds _ _
  obtain⟨h1,h2,h3⟩:=YO hT p (Instr.takeDeferred block);rw[h3];generalize(Instr.takeDeferred block).runT p w #[]=x at h1 h2⊢;obtain⟨r,es⟩:=x;refine GRe.later h1 h2 (GRe.after ?_ _)
  cases r<;>exact GRe.here rfl rfl
 ·exact KN hT _ _ _ _ _
 ·split
  ·exact GRe.here rfl rfl
  ·rename_i a0 _
   split
   ·exact GRe.here rfl rfl
   ·split
    ·exact GRe.here rfl rfl
    ·split
     ·split
      ·exact GRe.here rfl rfl
      ·obtain⟨h1,h2,h3⟩:=jw hT p (reportChain a0 false)
       rw[h3];refine GRe.later h1 h2 ?_
       cases(reportChain a0 false).run p w with
       |ok t v=>exact GRe.here rfl rfl
       |halt h v=>cases h<;>exact GRe.here rfl rfl
     ·split
      ·exact Qe _ _ _
      ·exact GRe.here rfl rfl
  ·split
   ·exact Qf _ _ _ _ _ _
   ·rename_i fn _
    obtain⟨h1,h2,h3⟩:=YO hT p (results fn fr.tmps);rw[h3];generalize(results fn fr.tmps).runT p w #[]=x at h1 h2⊢;obtain⟨r,es⟩:=x;refine GRe.later h1 h2 (GRe.after ?_ _)
    cases r with
    |ok t v=>exact Qf _ _ _ _ _ _
    |halt h v=>cases h<;>exact GRe.here rfl rfl
theorem xW (hT:ZE w T d)(p:Program)(fr:Frame)(cs:List Frame)(dy:Option Dying)(s:Sem Next):GRe T d w (stepG.apply p true fr cs dy s w) (stepG.apply p true fr cs dy s (re w T d)):=by
 unfold stepG.apply;simp only[if_true];obtain⟨h1,h2,h3⟩:=YO hT p s;rw[h3];generalize s.runT p w #[]=x at h1 h2⊢;obtain⟨r,es⟩:=x;refine GRe.later h1 h2 ?_
 cases r with
 |ok n v=>
  refine GRe.after ?_ _
  cases n with
  |callThen a b c e=>simp only[reW,zB];split<;>exact GRe.here rfl rfl
  |row a b=>simp only[reW,zB];split<;>exact GRe.here rfl rfl
  |stack a b=>simp only[reW,zB];split<;>exact GRe.here rfl rfl
  |recover=>simp only[reW,zB];split<;>exact GRe.here rfl rfl
  |spawn c=>exact GRe.ite (fun _=>GRe.here rfl rfl) (fun _=>GRe.here rfl rfl)
  |_=>exact GRe.here rfl rfl
 |halt h v=>
  cases h with
  |fatal m=>exact GRe.after (Ks (hT.later h1 h2) p fr cs dy m) _
  |unsupported u=>
   cases u with
   |initOrder g=>exact GRe.after (Ox (hT.later h1 h2) p fr cs dy g) _
   |_=>exact GRe.after (GRe.here rfl rfl) _
  |_=>exact GRe.after (GRe.here rfl rfl) _
theorem CO (hT:ZE w T d)(p:Program)(fr:Frame)(cs:List Frame)(dy:Option Dying):GRe T d w (stepG.oper p true fr cs dy w) (stepG.oper p true fr cs dy (re w T d)):=by
 unfold stepG.oper;split
 ·exact GRe.here rfl rfl
 ·split
  ·exact xW hT _ _ _ _ _
  ·exact xW hT _ _ _ _ _
theorem VK (hT:ZE w T d)(p:Program)(main:Bool)(fr:Frame)(cs:List Frame)(dy:Option Dying)(a0:Option Code)(c:Prop) [Decidable c]:
  GRe T d w (match fr.roundOf with
   |none=>if c then GStep.go {frame:={fr with mode:= .returning},callers:=cs,status:= .running,dying:=dy} w else .ended (.stuck "exit, goto: no such block or label" (fr.pos p)) w
   |some l=>GStep.after (seen p fr.fn ((Instr.endRound l a0).runT p w #[]).2) (match((Instr.endRound l a0).runT p w #[]).1 with
    | .ok v w=>doReturn p main fr cs dy v w
    | .halt _ w=> .ended (.stuck "range over a function: no such loop" (fr.pos p)) w))
   (match fr.roundOf with
   |none=>if c then GStep.go {frame:={fr with mode:= .returning},callers:=cs,status:= .running,dying:=dy} (re w T d)else .ended (.stuck "exit, goto: no such block or label" (fr.pos p)) (re w T d)
   |some l=>GStep.after (seen p fr.fn ((Instr.endRound l a0).runT p (re w T d) #[]).2) (match((Instr.endRound l a0).runT p (re w T d) #[]).1 with
    | .ok v w=>doReturn p main fr cs dy v w
    | .halt _ w=> .ended (.stuck "range over a function: no such loop" (fr.pos p)) w)):=by
 cases fr.roundOf with
 |none=>exact GRe.ite (fun _=>GRe.here rfl rfl) (fun _=>GRe.here rfl rfl)
 |some l=>
  obtain⟨h1,h2,h3⟩:=YO hT p (Instr.endRound l a0);simp only[h3];generalize(Instr.endRound l a0).runT p w #[]=x at h1 h2⊢;obtain⟨r,es⟩:=x;refine GRe.later h1 h2 (GRe.after ?_ _)
  cases r with
  |ok t v=>exact Qf _ _ _ _ _ _
  |halt h v=>exact GRe.here rfl rfl
theorem bh (hT:ZE w T d)(p:Program)(main:Bool)(fr:Frame)(cs:List Frame)(dy:Option Dying):GRe T d w (stepG.exec p main true fr cs dy w) (stepG.exec p main true fr cs dy (re w T d)):=by
 unfold stepG.exec;simp only;split
 ·exact VK hT _ _ _ _ _ _ _
 ·exact VK hT _ _ _ _ _ _ _
 ·exact GRe.here rfl rfl
 ·exact GRe.here rfl rfl
 ·exact GRe.here rfl rfl
 ·exact GRe.here rfl rfl
 ·exact GRe.here rfl rfl
 ·split
  all_goals
   exact GRe.here rfl rfl
 ·exact GRe.here rfl rfl
 ·exact GRe.here rfl rfl
 ·exact GRe.here rfl rfl
 ·exact GRe.here rfl rfl
 ·rename_i id k _
  cases exitTo id k with
  |none=>exact VK hT _ _ _ _ _ _ _
  |some t=>exact GRe.here rfl rfl
 ·rename_i l k _
  cases gotoIn l k with
  |none=>exact VK hT _ _ _ _ _ _ _
  |some t=>exact GRe.here rfl rfl
 ·rename_i f params assign body k _
  obtain⟨h1,h2,h3⟩:=YO hT p (Instr.enterLoop fr.fn fr.tmps params assign body fr.roundOf);rw[h3];generalize(Instr.enterLoop fr.fn fr.tmps params assign body fr.roundOf).runT p w #[]=x at h1 h2⊢;obtain⟨r,es⟩:=x;refine GRe.later h1 h2 (GRe.after ?_ _)
  cases r with
  |ok t v=>exact xW (hT.later h1 h2) _ _ _ _ _
  |halt h v=>exact GRe.here rfl rfl
 ·exact GRe.here rfl rfl
 ·exact xW hT _ _ _ _ _
 ·rename_i l k _
  obtain⟨h1,h2,h3⟩:=YO hT p (Instr.endLoop l);rw[h3];generalize(Instr.endLoop l).runT p w #[]=x at h1 h2⊢;obtain⟨r,es⟩:=x;refine GRe.later h1 h2 (GRe.after ?_ _)
  cases r with
  |ok t v=>exact GRe.here rfl rfl
  |halt h v=>cases h<;>exact GRe.here rfl rfl
 ·exact GRe.here rfl rfl
 ·exact xW hT _ _ _ _ _
 ·rename_i row args k _
  cases Extern.next row with
  |none=>exact GRe.here rfl rfl
  |some e=>exact xW hT _ _ _ _ _
 ·rename_i id ops a0 k _
  refine GRe.ite (fun _=>GRe.here rfl rfl) (fun _=> ?_);obtain⟨h1,h2,h3⟩:=jw hT p (choose (.order fr.fn id));rw[h3];refine GRe.later h1 h2 ?_
  cases(choose (.order fr.fn id)).run p w<;>exact GRe.here rfl rfl
 ·exact GRe.here rfl rfl
 ·exact GRe.ite (fun _=>CO hT _ _ _ _) (fun _=>GRe.here rfl rfl)
theorem Fx (hT:ZE w T d)(p:Program)(main:Bool)(g:Goroutine):GRe T d w (stepG p main g w) (stepG p main g (re w T d)):=by
 unfold stepG;simp only;split
 ·exact By hT _ _ _
 ·exact bh hT _ _ _ _ _
 ·exact GW hT _ _ _ _ _
end
