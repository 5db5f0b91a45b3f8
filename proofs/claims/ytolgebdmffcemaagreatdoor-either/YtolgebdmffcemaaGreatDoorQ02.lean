import Derived.Test.YtolgebdmffcemaaGreatDoorQ01
import GoSem.ClaimLeaving
import Derived.Conc.Events
import Derived.Runnable
set_option linter.all false
set_option maxHeartbeats 20000000
set_option maxRecDepth 1000000
open Array renaming foldl_push→eK
open Bool renaming false_eq_true→eL,not_false→eM,not_true→eN
open Go.Builtin renaming printMarked→eO
open Nat renaming le_refl→eP,le_trans→eQ
namespace Go.Proofs.YtolgebdmffcemaaGreatDoor
open Go
def Xp:Next→Prop
 | .value _| .skip| .enter _ _| .round .. | .defer _| .recover| .spawn _| .comm .. =>True
 | .coroswitch _ e=>e=true
 |_=>False
def KX :Next→Prop
 | .row r _=>r= "runtime.print$piece"
 |n=>Xp n
theorem vx {n:Next}(h:Xp n):KX n:=by cases n<;>first|exact h|exact h.elim
def Zq (P:Program){α:Type}(F:α→Prop):Sem α→Prop
 | .pure a=>F a
 | .load _ _ k=>∀v,Zq P F (k v)
 | .store _ _ _ k=>Zq P F k
 | .new _ k=>∀r,Zq P F (k r)
 | .shape _ k=>∀s,Zq P F (k s)
 | .freeze _ _ k=>Zq P F k
 | .frozen _ k=>∀b,Zq P F (k b)
 | .getObj _ k=>∀o,Zq P F (k o)
 | .setObj _ _ k=>Zq P F k
 | .choose _ k=>∀n,Zq P F (k n)
 | .sys _ k=>(∃h,k .wouldBlock= .halt h∧QH h)∧∀r,Zq P F (k r)
 | .program k=>Zq P F (k P)
 | .mark _ k=>Zq P F k
 | .halt h=>kz h∨h= .blocked
section
variable {P:Program}{α β:Type}
theorem z4.fair {F:α→Prop}:∀{s:Sem α},z4 P F s→Zq P F s:=by
 intro s;induction s with
 |pure a=>exact id
 |load m a k ih=>exact fun x v=>ih v (x v)
 |store m a v k ih=>exact ih
 |new o k ih=>exact fun x v=>ih v (x v)
 |shape r k ih=>exact fun x v=>ih v (x v)
 |freeze a n k ih=>exact ih
 |frozen a k ih=>exact fun x v=>ih v (x v)
 |getObj r k ih=>exact fun x v=>ih v (x v)
 |setObj r o k ih=>exact ih
 |choose q k ih=>exact fun x v=>ih v (x v)
 |sys c k ih=>exact fun x=>⟨x.1,fun r=>ih r (x.2 r)⟩
 |program k ih=>exact ih P
 |mark m k ih=>exact fun x=>ih x.2
 |halt x=>exact .inl
theorem Zq.bind' {F:α→Prop}{G:β→Prop}{f:α→Sem β}(hf:∀a,F a→Zq P G (f a)):∀{s:Sem α},Zq P F s→Zq P G (s.bind f):=by
 intro s;induction s with
 |pure a=>exact hf a
 |load m a k ih=>exact fun x v=>ih v (x v)
 |store m a v k ih=>exact ih
 |new o k ih=>exact fun x v=>ih v (x v)
 |shape r k ih=>exact fun x v=>ih v (x v)
 |freeze a n k ih=>exact ih
 |frozen a k ih=>exact fun x v=>ih v (x v)
 |getObj r k ih=>exact fun x v=>ih v (x v)
 |setObj r o k ih=>exact ih
 |choose q k ih=>exact fun x v=>ih v (x v)
 |sys c k ih=>exact fun x=>⟨let⟨h,h1,h2⟩:=x.1;⟨h,by show(k .wouldBlock).bind f=_;rw[h1];rfl,h2⟩,fun r=>ih r (x.2 r)⟩
 |program k ih=>exact ih P
 |mark m k ih=>exact ih
 |halt x=>exact id
theorem Zq.bind {F:α→Prop}{G:β→Prop}{f:α→Sem β}{s:Sem α}(hs:Zq P F s)(hf:∀a,F a→Zq P G (f a)):Zq P G (s>>=f):=Zq.bind' hf hs
theorem z4.value {F:Next→Prop}{s:Sem Value}(h:z4 P Any s)(hv:∀v,F (.value v)):z4 P F (do pure (.value (←s))):=z4.bind0 h hv
theorem z4.unit {s:Sem Unit}(h:z4 P Any s):z4 P Xp (do s;pure .skip):=z4.bind0 h fun _=>trivial
end
section
variable {P:Program}
theorem kF (t:TypeId)(x y:Value):z4 P Any (movedNumber t x y):=by
 unfold movedNumber;repeat' (first
  |exact trivial
  |(first|with_reducible exact zj _|with_reducible exact zr _|with_reducible exact ZQ _ _ _|with_reducible exact yg _|with_reducible exact vd _ _)
  |with_reducible refine z4.bind0 ?_ (fun _=> ?_)
  |with_reducible refine z4.ite (fun _=> ?_) (fun _=> ?_)
  |split
  |dsimp only)
theorem Vu (t:TypeId)(x y:Value):z4 P Any (movedPointer t x y):=by
 unfold movedPointer;repeat' (first
  |exact trivial
  |(first|with_reducible exact v6 _|with_reducible exact zr _|with_reducible exact ZQ _ _ _)
  |with_reducible refine z4.bind0 ?_ (fun _=> ?_)
  |with_reducible refine z4.ite (fun _=> ?_) (fun _=> ?_)
  |split
  |dsimp only)
theorem Ui (op:BinOp)(t:TypeId)(x y:Operand)(a b:Value):z4 P Any (eqGuard op t x y a b):=by
 unfold eqGuard;repeat' (first
  |exact trivial
  |(first|with_reducible exact Vy _ _ _ _|with_reducible exact zr _|with_reducible exact zR)
  |with_reducible refine z4.bind0 ?_ (fun _=> ?_)
  |with_reducible refine z4.ite (fun _=> ?_) (fun _=> ?_)
  |split
  |dsimp only)
theorem gO (op:BinOp)(t:TypeId)(x y:Value):z4 P Any (binOp op t x y):=by
 unfold binOp;repeat' (first
  |exact trivial
  |(first|with_reducible exact Jw _ _ _ _ _|with_reducible exact mild_Op_intArith _ _ _ _|with_reducible exact jL _ _ _ _|with_reducible exact mild_Op_intBits _ _ _ _|with_reducible exact jM _ _ _|with_reducible exact xP _ _ _ _|with_reducible exact XG _ _ _ _|with_reducible exact Vz _ _ _ _ _ _|with_reducible exact XF _ _ _|with_reducible exact ve _ _ _|with_reducible exact zj _|with_reducible exact Vu _ _ _|with_reducible exact kF _ _ _|with_reducible exact yg _|with_reducible exact KG _ _ _|with_reducible exact KJ _ _ _|with_reducible exact KH _ _ _|with_reducible exact zr _|with_reducible exact ZJ _)
  |with_reducible refine z4.bind0 ?_ (fun _=> ?_)
  |with_reducible refine z4.ite (fun _=> ?_) (fun _=> ?_)
  |split
  |dsimp only)
theorem Uj (a1 a0:TypeId)(x:Value):z4 P Any (convert a1 a0 x):=by
 unfold convert;repeat' (first
  |exact trivial
  |(first|with_reducible exact zj _|with_reducible exact mild_Conv_intToInt _ _|with_reducible exact mild_Conv_intToFloat _ _|with_reducible exact Q0 _ _ _|with_reducible exact Yd _ _ _|with_reducible exact xR _ _ _ _|with_reducible exact mild_Conv_intToString _|with_reducible exact XN _ _|with_reducible exact XM _ _|with_reducible exact yW _|with_reducible exact XP _|with_reducible exact XO _|with_reducible exact XL _ _ _|with_reducible exact zr _|with_reducible exact ZJ _)
  |with_reducible refine z4.bind0 ?_ (fun _=> ?_)
  |with_reducible refine z4.ite (fun _=> ?_) (fun _=> ?_)
  |split
  |dsimp only)
end
structure zH (P:Program):Prop where
 count:∀(f:Nat) (fn:Func),P.funcs[f]? =some fn→(fn.name== "runtime.NumGoroutine")=false
 next:∀(f:Nat) (fn:Func),P.funcs[f]? =some fn→fn.body.isNone=true→Extern.findNext fn=none
 find:∀(f:Nat) (fn:Func) (e:Array Value→Sem Value),P.funcs[f]? =some fn→fn.body.isNone=true→Extern.find fn=some e→∀args,z4 P Any (e args)
def evens (es:Array Event)(es' :Array Event):Prop:=∀d,deafBehind d es' =deafBehind d es
def Result.good {α:Type}:Result α→Prop
 | .ok _ _| .halt (.panic _) _=>True
 |_=>False
def Bal (P:Program){α:Type}(s:Sem α):Prop:=∀w es,Result.good (s.runT P w es).1→evens es (s.runT P w es).2
section
variable {P:Program}{α β:Type}
theorem yw {es:Array Event}{e:Event}(h1:e.loc≠ .mark .disable)(h2:e.loc≠ .mark .enable):evens es (es.push e):=by
 intro d;unfold deafBehind;rw[eK];obtain⟨a0,wr,sy⟩:=e
 cases a0 with
 |mark m=>cases m<;>simp_all
 |_=>rfl
theorem evens.trans {a b c:Array Event}(h:evens a b)(h' :evens b c):evens a c:=fun d=>(h' d).trans (h d)
theorem kc {es:Array Event}{l:List Addr}{wr sy:Bool}:evens es (es++(l.toArray.map (fun a=>(⟨.cell a,wr,sy⟩:Event)))):=by
 induction l generalizing es with
 |nil=>intro d;simp
 |cons a l ih=>
  have e:es++((a::l).toArray.map (fun a=>(⟨.cell a,wr,sy⟩:Event)))=es.push ⟨.cell a,wr,sy⟩++(l.toArray.map (fun a=>(⟨.cell a,wr,sy⟩:Event))):=by
   apply Array.ext';simp
  rw[e];exact(yw (by simp) (by simp)).trans ih
theorem z4.evens {F:α→Prop}:∀{s:Sem α},z4 P F s→∀w es,Go.Proofs.YtolgebdmffcemaaGreatDoor.evens es (s.runT P w es).2:=by
 intro s;induction s with
 |pure a=>exact fun _ w es d=>rfl
 |load m a k ih=>
  intro h w es;simp only[Sem.runT]
  cases w.cell? a with
  |some v=>exact(yw (by simp) (by simp)).trans (ih v (h v) w _)
  |none=>
   cases w.farLoad P a (m== .atomic)with
   |ok r=>exact kc.trans (ih r.1 (h r.1) w _)
   |error e=>exact fun d=>rfl
 |store m a v k ih=>
  intro h w es;by_cases hv:(∃x,v= .agg x)∨∃x,v= .tuple x
  ·rcases hv with⟨x,rfl⟩|⟨x,rfl⟩<;>exact fun d=>rfl
  ·have e:(Sem.store m a v k).runT P w es=match w.cell? a with
     |some _=>if w.frozen? a then(.halt (.unsupported (.unsafePointer "a write to bytes that a string shares")) w,es)else k.runT P (w.setCell a v) (es.push ⟨.cell a,true,m== .atomic⟩)
     |none=>match w.farStore P a v (m== .atomic)with
      | .ok (u',touched)=>k.runT P u' (es++touched.toArray.map (⟨.cell ·,true,m== .atomic⟩))
      | .error h=>(.halt h w,es):=by
    cases v<;>first|rfl|(exfalso;exact hv (.inl ⟨_,rfl⟩))|(exfalso;exact hv (.inr ⟨_,rfl⟩))
   rw[e]
   cases w.cell? a with
   |some x=>
    by_cases hf:w.frozen? a=true
    ·simp only[hf,if_true];exact fun d=>rfl
    ·simp only[hf,if_false,eL]
     exact(yw (by simp) (by simp)).trans (ih h _ _)
   |none=>
    cases w.farStore P a v (m== .atomic)with
    |ok r=>exact kc.trans (ih h _ _)
    |error e=>exact fun d=>rfl
 |new o k ih=>exact fun h w es=>ih _ (h _) _ _
 |shape r k ih=>exact fun h w es=>ih _ (h _) _ _
 |freeze a n k ih=>exact fun h w es=>ih h _ _
 |frozen a k ih=>exact fun h w es=>ih _ (h _) _ _
 |getObj r k ih=>
  intro h w es;simp only[Sem.runT]
  cases w.heap[r]? with
  |none=>exact fun d=>rfl
  |some o=>cases o<;>first|exact fun d=>rfl|exact(yw (by simp) (by simp)).trans (ih _ (h _) _ _)
 |setObj r o k ih=>
  intro h w es;simp only[Sem.runT]
  cases w.heap[r]? with
  |none=>exact fun d=>rfl
  |some x=>cases x<;>first|exact fun d=>rfl|exact(yw (by simp) (by simp)).trans (ih h _ _)
 |choose q k ih=>
  intro h w es;simp only[Sem.runT];split
  all_goals
   exact ih _ (h _) _ _
 |sys c k ih=>exact fun h w es=>(yw (by simp) (by simp)).trans (ih _ (h.2 _) _ _)
 |program k ih=>exact fun h w es=>ih P h _ _
 |mark m k ih=>exact fun h w es=>(yw (fun e=>h.1.1 (by injection e)) (fun e=>h.1.2 (by injection e))).trans (ih h.2 _ _)
 |halt x=>exact fun _ w es d=>rfl
theorem z4.bal {F:α→Prop}{s:Sem α}(h:z4 P F s):Bal P s:=fun w es _=>h.evens w es
end
def ki (P:Program)(s:Sem Next):Prop:=Zq P KX s∧Bal P s
section
variable {P:Program}{α β:Type}
theorem Zq.mono {F G:α→Prop}(h:∀a,F a→G a):∀{s:Sem α},Zq P F s→Zq P G s:=by
 intro s;induction s with
 |pure a=>exact h a
 |load m a k ih=>exact fun x v=>ih v (x v)
 |store m a v k ih=>exact ih
 |new o k ih=>exact fun x v=>ih v (x v)
 |shape r k ih=>exact fun x v=>ih v (x v)
 |freeze a n k ih=>exact ih
 |frozen a k ih=>exact fun x v=>ih v (x v)
 |getObj r k ih=>exact fun x v=>ih v (x v)
 |setObj r o k ih=>exact ih
 |choose q k ih=>exact fun x v=>ih v (x v)
 |sys c k ih=>exact fun x=>⟨x.1,fun r=>ih r (x.2 r)⟩
 |program k ih=>exact ih P
 |mark m k ih=>exact ih
 |halt x=>exact id
theorem z4.tame {s:Sem Next}(h:z4 P Xp s):ki P s:=⟨h.fair.mono fun _=>vx,h.bal⟩
theorem Bal.bind {F:α→Prop}{s:Sem α}{f:α→Sem β}(hs:z4 P F s)(hf:∀a,Bal P (f a)):Bal P (s>>=f):=by
 intro w es;have h1:=hs.evens w es;have e:(s>>=f).runT P w es=_:=Sem.runT_bind' P s f w es;rw[e];generalize s.runT P w es=x at h1;obtain⟨r,a0⟩:=x
 cases r with
 |ok a w1=>exact fun h=>h1.trans (hf a w1 a0 h)
 |halt h w1=>exact fun _=>h1
theorem ki.bind {s:Sem α}{f:α→Sem Next}(hs:z4 P Any s)(hf:∀a,ki P (f a)):ki P (s>>=f):=⟨Zq.bind hs.fair fun a _=>(hf a).1,Bal.bind hs fun a=>(hf a).2⟩
end
section
variable {P:Program}
theorem Ul (b:Builtin)(h1:b≠ .print)(h2:b≠ .println)(argTypes:Array TypeId)(a1:TypeId)(a0:Array Bool)(args:Array Value):z4 P Xp (builtin b argTypes a1 a0 args):=by
 unfold builtin
 cases b with
 |print=>exact absurd rfl h1
 |println=>exact absurd rfl h2
 |append=>exact z4.value (Q2 _ _ _) fun _=>trivial
 |cap=>exact z4.value (VH _ _ _) fun _=>trivial
 |clear=>exact z4.value (QT _ _ _) fun _=>trivial
 |close=>exact z4.value (QS _ _ _) fun _=>trivial
 |complex=>exact z4.value (qK _ _ _) fun _=>trivial
 |copy=>exact z4.value (vL _ _ _) fun _=>trivial
 |delete=>exact z4.value (Q1 _ _ _) fun _=>trivial
 |imag=>exact z4.value (vK _ _ _) fun _=>trivial
 |len=>exact z4.value (yh _ _ _) fun _=>trivial
 |max=>exact z4.value (VF _ _ _) fun _=>trivial
 |min=>exact z4.value (VD _ _ _) fun _=>trivial
 |panic=>exact z4.value (XI _) fun _=>trivial
 |real=>exact z4.value (vI _ _ _) fun _=>trivial
 |unsafeAdd=>exact z4.value (ZQ _ _ _) fun _=>trivial
 |unsafeSlice=>exact z4.value (X8 _ _ _) fun _=>trivial
 |unsafeSliceData=>exact z4.value (YW _ _ _) fun _=>trivial
 |unsafeString=>exact z4.value (xS _ _ _) fun _=>trivial
 |unsafeStringData=>exact z4.value (Yw _ _ _) fun _=>trivial
 |unsafeSizeof=>exact z4.bind0 (Za _) fun _=>trivial
 |_=>exact trivial
theorem Xr (hP:zH P)(f:FuncId)(args:Array Value):z4 P Xp (callFunc f args):=by
 unfold callFunc;refine z4.bind Ug (fun p hp=> ?_);subst hp
 cases hf:p.funcs[f]? with
 |none=>exact trivial
 |some fn=>
  simp only[hP.count f fn hf,eL,if_false];refine z4.ite (fun hb=> ?_) (fun _=>trivial);have hn:=hP.next f fn hf hb;refine z4.bind0 (fv _ ⟨by simp,by simp⟩) (fun _=> ?_);simp only[hn]
  cases he:Extern.find fn with
  |some e=>exact z4.bind0 (hP.find f fn e hf hb he args) fun _=>trivial
  |none=>
   dsimp only;exact z4.ite (fun _=>trivial) (fun _=>trivial)
theorem Zl {α:Type}{F:α→Prop}(e:RuntimeError):z4 P F (runtimePanic e:Sem α):=by
 unfold runtimePanic;refine z4.bind0 zR (fun p=> ?_)
 cases e with
 |typeAssertion i c a m=>exact z4.bind0 (yu _) fun _=>z4.bind0 (Xk _ _) fun _=>trivial
 |panicNil=>exact z4.bind0 (yu _) fun _=>z4.bind0 (Xk _ _) fun _=>trivial
 |_=>exact trivial
theorem qy (hP:zH P)(a0:Value)(name:String)(args:Array Value):z4 P Xp (callMethod a0 name args):=by
 unfold callMethod;split
 ·refine z4.bind0 zR (fun _=>z4.bind0 (Kj _ _ _ _) (fun _=> ?_))
  exact Xr hP _ _
 ·exact Zl _
 ·exact trivial
theorem uc:z4 P Any Extern.PrintPieces.held:=by
 unfold Extern.PrintPieces.held;refine z4.bind0 zR (fun p=>z4.bind0 (yD _ _) (fun v=> ?_))
 cases v<;>exact trivial
theorem xy (fd:Nat)(b:ByteArray):Zq P Any (writeFd fd b):=by
 refine⟨⟨_,rfl,trivial⟩,fun r=> ?_⟩
 cases r<;>first|exact .inl trivial|exact trivial
theorem xG (m:Mark):Zq P Any (mark m):=trivial
theorem vP (args:Array Value):Zq P KX (Extern.PrintPieces.piece #[] #[] args):=by
 unfold Extern.PrintPieces.piece;split
 ·rename_i first h1
  clear h1;split
  ·rename_i p h2
   clear h2;dsimp only;generalize(args.size==2)=last;by_cases hp:p.size>65536<;>simp only[hp,if_true,if_false]
   ·exact .inl trivial
   ·cases first<;>cases last<;>simp only[eL,eM,eN,if_true,if_false]
    ·exact Zq.bind (xy _ _) fun _ _=>rfl
    ·exact Zq.bind (xy _ _) fun _ _=>Zq.bind (xG _) fun _ _=>Zq.bind zR.fair fun _ _=>Zq.bind (ZY _ _ _).fair fun _ _=>Zq.bind (xG _) fun _ _=>trivial
    ·refine Zq.bind (xG _) fun _ _=>Zq.bind uc.fair fun b _=> ?_
     cases b
     ·exact Zq.bind zR.fair fun _ _=>Zq.bind (ZY _ _ _).fair fun _ _=>Zq.bind (xG _) fun _ _=>Zq.bind (xy _ _) fun _ _=>rfl
     ·exact .inr rfl
    ·refine Zq.bind (xG _) fun _ _=>Zq.bind uc.fair fun b _=> ?_
     cases b
     ·exact Zq.bind (xG _) fun _ _=>Zq.bind (xy _ _) fun _ _=>trivial
     ·exact .inr rfl
  ·exact .inl trivial
 ·exact .inl trivial
def zX (P:Program){α:Type}(g:Nat→Nat)(s:Sem α):Prop:=∀w es,match(s.runT P w es).1 with
 | .ok _ _=>∀d,deafBehind d (s.runT P w es).2=g (deafBehind d es)
 | .halt h _=>∀v,h≠ .panic v
theorem zX.bind {α β:Type}{g h:Nat→Nat}{s:Sem α}{f:α→Sem β}(hs:zX P g s)(hf:∀a,zX P h (f a)):zX P (fun d=>h (g d)) (s>>=f):=by
 intro w es;have h1:=hs w es;have e:(s>>=f).runT P w es=_:=Sem.runT_bind' P s f w es;rw[e];generalize s.runT P w es=x at h1;obtain⟨r,a0⟩:=x
 cases r with
 |ok a w1=>
  have h2:=hf a w1 a0;simp only at h1⊢;generalize(f a).runT P w1 a0=y at h2⊢;obtain⟨r2,a1⟩:=y
  cases r2 with
  |ok b w2=>intro d;simp only at h2⊢;rw[h2 d,h1 d]
  |halt x w2=>exact h2
 |halt h w1=>exact h1
theorem zX.bal {α:Type}{s:Sem α}(h:zX P (fun d=>d) s):Bal P s:=by
 intro w es hg;have:=h w es;generalize s.runT P w es=x at this hg;obtain⟨r,a0⟩:=x
 cases r with
 |ok a w1=>exact this
 |halt h w1=>cases h<;>first|exact absurd rfl (this _)|exact hg.elim
theorem xJ:zX P (·+1) (mark .disable):=by
 intro w es;show∀d,deafBehind d (es.push _)=_
 intro d;unfold deafBehind;rw[eK]
theorem Xn:zX P (· - 1) (mark .enable):=by
 intro w es;show∀d,deafBehind d (es.push _)=_
 intro d;unfold deafBehind;rw[eK]
theorem xI:zX P (fun d=>d) (program:Sem Program):=fun _ _ _=>rfl
theorem YN {α:Type}(a:α):zX P (fun d=>d) (pure a:Sem α):=fun _ _ _=>rfl
theorem ua (w:World)(a:Addr)(s:String)(v:Value):w.noCell a s≠ .panic v:=by
 unfold World.noCell;split<;>exact fun h=>by cases h
theorem G5 {w:World}{a:Addr}{b:Bool}{h:Halt}(hx:w.farLoad P a b= .error h)(v:Value):h≠ .panic v:=by
 unfold World.farLoad at hx;split at hx
 ·split at hx
  ·cases hx
  ·cases hx;exact fun h=>by cases h
 ·cases hx;exact ua _ _ _ _
theorem Ou {w:World}{a:Addr}{x:Value}{b:Bool}{h:Halt}(hx:w.farStore P a x b= .error h)(v:Value):h≠ .panic v:=by
 unfold World.farStore at hx;split at hx
 ·split at hx
  ·cases hx
  ·cases hx;exact fun h=>by cases h
 ·cases hx;exact ua _ _ _ _
theorem JT {α:Type}{F:α→Prop}{s:Sem α}(h:z4 P F s)(hn:∀w es h w' v,(s.runT P w es).1= .halt h w' →h≠ .panic v):zX P (fun d=>d) s:=by
 intro w es;have h1:=h.evens w es;have h2:=hn w es;generalize s.runT P w es=x at h1 h2;obtain⟨r,a0⟩:=x
 cases r with
 |ok a w1=>exact h1
 |halt h w1=>exact fun v=>h2 h w1 v rfl
theorem ol (a:Addr)(m:Mode):zX P (fun d=>d) (load a m):=by
 refine JT (yD a m) fun w es h w' v=> ?_
 simp only[load,Sem.runT]
 cases w.cell? a with
 |some v=>exact fun h=>by cases h
 |none=>
  cases hx:w.farLoad P a (m== .atomic)with
  |ok r=>exact fun h=>by cases h
  |error e=>exact fun h=>by cases h;exact G5 hx v
theorem Xx (a:Addr)(b:Bool)(m:Mode):zX P (fun d=>d) (store a (.bool b) m):=by
 refine JT (ZY a (.bool b) m) fun w es h w' v=> ?_
 simp only[store,Sem.runT]
 cases w.cell? a with
 |some v=>
  dsimp only;by_cases hf:w.frozen? a=true
  ·rw[if_pos hf];intro h;cases h;exact fun h=>by cases h
  ·rw[if_neg hf];exact fun h=>by cases h
 |none=>
  cases hx:w.farStore P a (.bool b) (m== .atomic)with
  |ok r=>exact fun h=>by cases h
  |error e=>exact fun h=>by cases h;exact Ou hx v
theorem Y9 (fd:Nat)(b:ByteArray):zX P (fun d=>d) (writeFd fd b):=by
 intro w es;unfold writeFd;simp only[Sem.runT]
 cases(w.sys (.write fd b)).1<;>first|exact yw (by simp) (by simp)|exact fun v h=>by cases h
theorem K7:zX P (fun d=>d) Extern.PrintPieces.held:=by
 unfold Extern.PrintPieces.held;refine zX.bind xI (fun p=>zX.bind (ol _ _) (fun v=> ?_))
 cases v<;>first|exact YN _|exact fun _ _ _ h=>by cases h
theorem uF (args:Array Value):Bal P (Extern.PrintPieces.piece #[] #[] args):=by
 unfold Extern.PrintPieces.piece;split
 ·rename_i first h1
  clear h1;split
  ·rename_i p h2
   clear h2;dsimp only;generalize(args.size==2)=last;by_cases hp:p.size>65536<;>simp only[hp,if_true,if_false]
   ·exact z4.bal (F:=Any) trivial
   ·cases first<;>cases last<;>simp only[eL,eM,eN,if_true,if_false]
    ·exact(zX.bind (Y9 _ _) fun _=>YN _).bal
    ·exact(zX.bind (Y9 _ _) fun _=>zX.bind xJ fun _=>zX.bind xI fun _=>zX.bind (Xx _ _ _) fun _=>zX.bind Xn fun _=>YN _).bal
    ·refine zX.bal (s:=mark .disable>>=_) (zX.bind (g:=(·+1)) (h:=(· - 1)) xJ fun _=>zX.bind K7 fun b=> ?_)
     cases b
     ·exact zX.bind xI fun _=>zX.bind (Xx _ _ _) fun _=>zX.bind Xn fun _=>zX.bind (Y9 _ _) fun _=>YN _
     ·exact fun _ _ _ h=>by cases h
    ·refine zX.bal (s:=mark .disable>>=_) (zX.bind (g:=(·+1)) (h:=(· - 1)) xJ fun _=>zX.bind K7 fun b=> ?_)
     cases b
     ·exact zX.bind Xn fun _=>zX.bind (Y9 _ _) fun _=>YN _
     ·exact fun _ _ _ h=>by cases h
  ·exact z4.bal (F:=Any) trivial
 ·exact z4.bal (F:=Any) trivial
theorem jp (ln:Bool)(a0:Array Bool)(argTypes:Array TypeId)(args:Array Value):ki P (eO ln a0 argTypes args):=by
 unfold eO;refine ki.bind (QR _ _ _ _) (fun ps=> ?_);split
 ·exact z4.tame (s:=pure _) trivial
 ·exact⟨vP _,uF _⟩
theorem gL (l:Nat)(args:Array Value):z4 P Xp (Instr.yield l args):=by
 unfold Instr.yield;refine z4.bind0 (yY _) (fun r=> ?_);dsimp only;exact z4.ite (fun _=>trivial) (fun _=>trivial)
theorem Uh (f:Value)(args:Array Value):z4 P Any (Deferred.ofValue f args):=by
 unfold Deferred.ofValue;split<;>exact trivial
theorem ZZ (ρ:Operand→Value)(c:Call)(a0:TypeId):z4 P Any (resolve ρ c a0):=by
 unfold resolve;dsimp only;split
 ·exact trivial
 ·exact trivial
 ·exact Uh _ _
theorem ZU (hP:zH P)(t:Target)(args:Array Value):ki P (invoke t args):=by
 unfold invoke
 cases t with
 |nil=>exact(Zl _).tame
 |builtin b argTypes a3 a2=>
  by_cases h1:b= .print
  ·subst h1;exact jp _ _ _ _
  ·by_cases h2:b= .println
   ·subst h2;exact jp _ _ _ _
   ·exact(Ul b h1 h2 _ _ _ _).tame
 |collected r=>exact z4.tame (s:=stuck _) trivial
 |coroexit c=>exact z4.tame (s:=pure _) rfl
 |fn fn a0=>
  cases fn with
  |func f=>exact(Xr hP _ _).tame
  |method name=>
   dsimp only;split
   ·exact(qy hP _ _ _).tame
   ·exact z4.tame trivial
  |methodOf t name=>
   dsimp only;split
   ·exact ki.bind (zj _) fun _=>(qy hP _ _ _).tame
   ·exact z4.tame trivial
  |via t path f a1=>
   dsimp only;split
   ·exact ki.bind (kE _ _ _ _) fun _=>(Xr hP _ _).tame
   ·exact z4.tame trivial
  |yield l=>exact(gL _ _).tame
end
section
variable {P:Program}
theorem K4 (hP:zH P)(ρ:Operand→Value)(o:Oper):ki P (execOp ρ o):=by
 unfold execOp;dsimp only
 cases o.op with
 |move x=>exact z4.tame (s:=pure _) trivial
 |assign x=>exact z4.tame (s:=pure _) trivial
 |pick c a b=>
  refine z4.tame ?_;dsimp only;refine z4.bind0 (Km _) (fun _=> ?_);exact trivial
 |alloc a3=>exact(z4.value (kN _ _ _) fun _=>trivial).tame
 |box a3 x=>exact(z4.value (jN _ _) fun _=>trivial).tame
 |build t a2=>exact(z4.value (kM _ _) fun _=>trivial).tame
 |buildSlice t len a2=>exact(z4.value (qH _ _ _) fun _=>trivial).tame
 |insert t m k x=>exact(z4.unit (YU _ _ _ _)).tame
 |load t a=>exact(z4.value (VC _ _) fun _=>trivial).tame
 |store t a x=>exact(z4.unit (vA _ _ _)).tame
 |ready g=>exact(z4.unit (kJ _)).tame
 |waits g=>exact(z4.value (kH _) fun _=>trivial).tame
 |nilCheck x=>
  refine z4.tame ?_;dsimp only;split
  ·exact Zl _
  ·exact Zl _
  ·exact Zl _
  ·split
   ·exact Zl _
   ·refine z4.bind0 zR (fun _=>z4.bind0 (Ju _ _ _ _) (fun _=> ?_))
    exact z4.ite (fun _=>trivial) (fun _=>trivial)
   ·exact trivial
  ·exact trivial
 |binOp op t x y u=>exact(z4.value (z4.bind0 (Ui _ _ _ _ _ _) fun _=>gO _ _ _ _) fun _=>trivial).tame
 |unOp op t x=>exact(z4.value (Jv _ _) fun _=>trivial).tame
 |convert a6 a5 x=>exact(z4.value (Uj _ _ _) fun _=>trivial).tame
 |sliceToArrayPointer a4 x=>exact(z4.value (vH _ _) fun _=>trivial).tame
 |makeInterface t x=>exact(z4.value (Xt _ _) fun _=>trivial).tame
 |makeFunc fn first a0=>exact(z4.value (QO _ _ _) fun _=>trivial).tame
 |makeMap t r=>exact(z4.value (vC _ _) fun _=>trivial).tame
 |makeChan t s=>exact(z4.value (QP _ _) fun _=>trivial).tame
 |makeSlice t l c=>exact(z4.value (q_ _ _ _) fun _=>trivial).tame
 |slice t x lo hi mx=>exact(z4.value (vB _ _ _ _ _) fun _=>trivial).tame
 |fieldAddr s x f=>exact(z4.value (vF _ _ _) fun _=>trivial).tame
 |field t x f=>exact(z4.value (XK _ _ _) fun _=>trivial).tame
 |indexAddr t x ix=>exact(z4.value (vD _ _ _) fun _=>trivial).tame
 |index t x ix=>exact(z4.value (Yv _ _ _) fun _=>trivial).tame
 |lookup t x ix ok=>exact(z4.value (VA _ _ _ _) fun _=>trivial).tame
 |mapUpdate t m k x=>exact(z4.unit (YU _ _ _ _)).tame
 |mapEntry t m k=>exact(z4.value (QN _ _ _) fun _=>trivial).tame
 |entryStore t m s x=>exact(z4.unit (qG _ _ _ _)).tame
 |range t x=>exact(z4.value (kK _ _) fun _=>trivial).tame
 |next it a1=>exact(z4.value (KK _ _ _) fun _=>trivial).tame
 |entry it=>exact(z4.value (kL _) fun _=>trivial).tame
 |typeAssert x t a ok=>exact(z4.value (qD _ _ _ _) fun _=>trivial).tame
 |extract t ix=>exact(z4.value (vG _ _) fun _=>trivial).tame
 |call c=>exact ki.bind (ZZ _ _ _) fun d=>ZU hP _ _
 |go c=>
  refine z4.tame ?_;dsimp only;refine z4.bind0 (ZZ _ _ _) (fun _=> ?_);exact trivial
 |defer c=>
  refine z4.tame ?_;dsimp only;refine z4.bind0 (ZZ _ _ _) (fun _=> ?_);exact trivial
 |panic x=>exact(z4.value (XI _) fun _=>trivial).tame
 |send ch x=>exact z4.tame (s:=pure _) trivial
 |recv t ch ok=>
  refine z4.tame ?_;dsimp only;refine z4.bind0 (zj _) (fun d=> ?_)
  cases d<;>first|exact trivial|(refine z4.bind0 (yp _) (fun _=> ?_);exact trivial)
 |select cases blocking=>
  refine z4.tame ?_;dsimp only;refine z4.bind0 (z4.mapMArray _ (fun _=> ?_) _) (fun _=> ?_)
  ·refine z4.bind0 (yp _) (fun _=> ?_);exact trivial
  ·exact trivial
end
theorem YL (p:Program)(gs:Array Goroutine)(r:Option Nat)(work:List Item)(b:Bool):gs.size≤(giveWork p gs r work b).1.size:=by
 unfold giveWork;repeat' (first|split|dsimp only)
 all_goals simp
theorem uf {p:Program}{gs:Array Goroutine}{rest:Rest}{w:World}{m:Machine}(h:look p gs rest w= .next m):gs.size≤m.gs.size:=by
 unfold look at h;split at h
 ·dsimp only at h
  split at h
  ·cases h
  ·split at h
   ·cases h
   ·split at h
    ·injection h with h
     subst h;simp only;split
     ·split
      ·exact eP _
      ·exact YL _ _ _ _ _
     ·split
      ·exact YL _ _ _ _ _
      ·exact eQ (YL _ _ _ _ _) (YL _ _ _ _ _)
    ·cases h
    ·cases h
 ·cases h
theorem vO (p:Program)(gs:Array Goroutine)(h k:Nat)(v:Value):(finishPartner p gs h k v).size=gs.size:=by
 unfold finishPartner;simp
theorem kY {p:Program}{rest:Rest}{gs:Array Goroutine}{i:Nat}{g:Goroutine}{cases:Array CommCase}{b:Bool}{sh:CommShape}{w:World}{m:Machine}{ops:Array MemOp}
  (h:communicate p rest gs i g cases b sh w=(.next m,ops)):m.gs.size=gs.size:=by
 unfold communicate at h;dsimp only at h;repeat' (first
  |(injection h with h1 h2;injection h1 with h1;subst h1;simp[vO];done)
  |(injection h with h1 h2;cases h1;done)
  |split at h)
theorem oe {α:Type} [Inhabited α] (xs:Array α)(i:Nat)(v:α):(xs.swapAt! i v).2.size=xs.size:=by
 unfold Array.swapAt!;split
 ·simp[Array.swapAt]
 ·rfl
theorem fh {p:Program}{m m' :Machine}{i:Nat}{b:Bool}{ops:Array MemOp}(h:runT p m i b=(.next m',ops)):m.gs.size≤m'.gs.size:=by
 unfold runT at h;dsimp only at h;have hs:=oe m.gs i ({(default:Goroutine)with status:= .finished});generalize m.gs.swapAt! i {(default:Goroutine)with status:= .finished}=x at h hs;obtain⟨g,gs⟩:=x;simp only at h hs;rw[←hs];generalize stepG p (i==0) g m.world b=s at h
 cases s with
 |go g' w es=>
  simp only at h;injection h with h1 h2
  injection h1 with h1
  subst h1;simp only;split<;>simp
 |comm g' c bl sh w es=>
  simp only at h;generalize hx:communicate p m.rest gs i g' c bl sh w=y at h;obtain⟨r,a0⟩:=y;simp only at h;injection h with h1 h2
  subst h1;exact Nat.le_of_eq (kY hx).symm
 |spawn g' c w es=>simp only at h;injection h with h1 h2;injection h1 with h1;subst h1;simp
 |count g' w es=>
  simp only at h;injection h with h1 h2
  split at h1
  ·cases h1
  ·injection h1 with h1;subst h1;simp
 |timer g' op w es=>
  simp only at h;injection h with h1 h2
  repeat' (first
   |(injection h1 with h1;subst h1;simp;done)
   |(cases h1;done)
   |split at h1)
 |alone g' on w es=>simp only at h;injection h with h1 h2;injection h1 with h1;subst h1;simp
 |newcoro g' c d w es=>simp only at h;injection h with h1 h2;injection h1 with h1;subst h1;simp
 |coroswitch g' c e w es=>
  simp only at h;injection h with h1 h2
  repeat' (first
   |(injection h1 with h1;subst h1;simp;done)
   |(cases h1;done)
   |split at h1)
 |collect g' w es=>
  simp only at h;injection h with h1 h2
  exact eQ (by simp) (uf h1)
 |watch g' w es=>simp only at h;injection h with h1 h2;injection h1 with h1;subst h1;simp
 |ended o w es=>simp only at h;injection h with h1 h2;cases h1
theorem gr {p:Program}{m m' :Machine}{k:Nat}(h:serve p m k= .next m'):m.gs.size≤m'.gs.size:=by
 unfold serve at h;dsimp only at h;repeat' (first
  |(injection h with h1;subst h1;simp;done)
  |(cases h;done)
  |split at h)
def xM (n:Nat):Move→Prop
 | .goroutine m _=>n≤m.gs.size
 | .machine (.next m) _=>n≤m.gs.size
 |_=>True
theorem qv (p:Program)(m:Machine):xM m.gs.size (askOn p m):=by
 unfold askOn;extract_lets mono rs ds pick
 have hp:∀m' :Machine,m'.gs=m.gs→xM m.gs.size (pick m'):=by
  intro m' hm;simp only[pick];repeat' (first
   |exact trivial
   |(show m.gs.size≤m'.gs.size;rw[hm];exact eP _)
   |split)
 clear_value pick rs ds
 split
 ·exact trivial
 ·rename_i k world _
  dsimp only;split
  ·generalize hs:serve p {m with world:=world} (ds.getD k 0)=s
   cases s with
   |next m' =>exact gr (m:={m with world:=world}) hs
   |ended o w=>exact trivial
  ·cases rs with
   |nil=>
    simp only
    cases ahead {m with world:=world} false with
    |some t=>exact eP _
    |none=>
     simp only;split
     ·exact eP _
     ·generalize endWith world 2 _ _=e
      cases e<;>exact trivial
   |cons r rs=>
    simp only
    cases ahead {m with world:=world} true with
    |none=>exact hp _ rfl
    |some t=>
     simp only
     cases(choose (.extern "clock.wait" (t-mono+1))).run p world with
     |halt h w=>exact trivial
     |ok n w=>
      match n with
      |0=>exact hp _ rfl
      |1=>exact eP _
      |k+2=>exact hp _ rfl
theorem xM.mono {a b:Nat}{x:Move}(h:xM b x)(a0:a≤b):xM a x:=by
 cases x with
 |goroutine m i=>exact eQ a0 h
 |machine s ops=>cases s with
  |next m=>exact eQ a0 h
  |ended o w=>exact trivial
theorem OX (p:Program)(m:Machine):xM m.gs.size (ask p m):=by
 unfold ask;split
 ·cases(choose (.extern "collector.look" 2)).run p m.world with
  |halt h w=>exact trivial
  |ok n w=>
   match n with
   |0=>exact qv p {m with world:=w}
   |1=>
    simp only
    cases hl:look p m.gs m.rest w with
    |next m' =>exact(qv p m').mono (uf hl)
    |ended o w=>exact trivial
   |k+2=>exact qv p {m with world:=w}
 ·exact qv p m
theorem G_ {p:Program}{m m' :Machine}(h:step p m= .next m'):m.gs.size≤m'.gs.size:=by
 unfold step stepT at h;have hm:xM m.gs.size (move p m):=by
  unfold move;split
  ·split
   ·exact eP _
   ·exact trivial
  ·split
   ·split
    ·exact eP _
    ·exact OX p {m with rest:={m.rest with slice:=none}}
   ·exact OX p m
 generalize move p m=x at h hm
 cases x with
 |goroutine m1 i=>
  simp only at h;generalize hr:runT p m1 i=y at h;obtain⟨s,ops⟩:=y;simp only at h;subst h;exact eQ hm (fh hr)
 |machine s ops=>
  simp only at h;subst h;exact hm
theorem kr {p:Program}:∀{n:Nat} {m m' :Machine},runN p n m= .next m' →m.gs.size≤m'.gs.size
 |0,m,m',h=>by cases h;exact eP _
 |n+1,m,m',h=>by
  simp only[runN]at h
  cases hs:step p m with
  |next m1=>rw[hs]at h;exact eQ (G_ hs) (kr h)
  |ended o w=>rw[hs]at h;cases h
