import Derived.Test.YtolgebdmffcemaaGreatDoorQ01
import GoSem.ClaimLeaving
import Derived.Conc.Events
import Derived.Runnable
set_option linter.all false
set_option maxHeartbeats 20000000
set_option maxRecDepth 1000000
namespace Go.Proofs.YtolgebdmffcemaaGreatDoor
open Go
def x_:Next→Prop
 | .value _| .skip| .enter _ _| .round .. | .defer _| .recover| .spawn _| .comm .. =>True
 | .coroswitch _ e=>e=true
 |_=>False
def Kv :Next→Prop
 | .row r _=>r= "runtime.print$piece"
 |n=>x_ n
theorem v6 {n:Next}(h:x_ n):Kv n:=by cases n<;>first|exact h|exact h.elim
def Zn (P:Program){α:Type}(F:α→Prop):Sem α→Prop
 | .pure a=>F a
 | .load _ _ k=>∀v,Zn P F (k v)
 | .store _ _ _ k=>Zn P F k
 | .new _ k=>∀r,Zn P F (k r)
 | .shape _ k=>∀s,Zn P F (k s)
 | .freeze _ _ k=>Zn P F k
 | .frozen _ k=>∀b,Zn P F (k b)
 | .getObj _ k=>∀o,Zn P F (k o)
 | .setObj _ _ k=>Zn P F k
 | .choose _ k=>∀n,Zn P F (k n)
 | .sys _ k=>(∃h,k .wouldBlock= .halt h∧Qq h)∧∀r,Zn P F (k r)
 | .program k=>Zn P F (k P)
 | .mark _ k=>Zn P F k
 | .halt h=>VT h∨h= .blocked
section
variable {P:Program}{α β:Type}
theorem z4.fair {F:α→Prop}:∀{s:Sem α},z4 P F s→Zn P F s:=by
 intro s;induction s with
 |pure a=>exact id
 |load m a k ih=>exact fun x v=>ih v (x v)
 |store m a v k ih=>exact ih
 |new o k ih=>exact fun x v=>ih v (x v)
 |shape r k ih=>exact fun x v=>ih v (x v)
 |freeze a n k ih=>exact ih
 |frozen a k ih=>exact fun x v=>ih v (x v)
 |getObj r k ih=>exact fun x v=>ih v (x v)
 |setObj r o k ih=>exact ih
 |choose q k ih=>exact fun x v=>ih v (x v)
 |sys c k ih=>exact fun x=>⟨x.1,fun r=>ih r (x.2 r)⟩
 |program k ih=>exact ih P
 |mark m k ih=>exact fun x=>ih x.2
 |halt x=>exact .inl
theorem Zn.bind' {F:α→Prop}{G:β→Prop}{f:α→Sem β}(hf:∀a,F a→Zn P G (f a)):∀{s:Sem α},Zn P F s→Zn P G (s.bind f):=by
 intro s;induction s with
 |pure a=>exact hf a
 |load m a k ih=>exact fun x v=>ih v (x v)
 |store m a v k ih=>exact ih
 |new o k ih=>exact fun x v=>ih v (x v)
 |shape r k ih=>exact fun x v=>ih v (x v)
 |freeze a n k ih=>exact ih
 |frozen a k ih=>exact fun x v=>ih v (x v)
 |getObj r k ih=>exact fun x v=>ih v (x v)
 |setObj r o k ih=>exact ih
 |choose q k ih=>exact fun x v=>ih v (x v)
 |sys c k ih=>exact fun x=>⟨let⟨h,h1,h2⟩:=x.1;⟨h,by show(k .wouldBlock).bind f=_;rw[h1];rfl,h2⟩,fun r=>ih r (x.2 r)⟩
 |program k ih=>exact ih P
 |mark m k ih=>exact ih
 |halt x=>exact id
theorem Zn.bind {F:α→Prop}{G:β→Prop}{f:α→Sem β}{s:Sem α}(hs:Zn P F s)(hf:∀a,F a→Zn P G (f a)):Zn P G (s>>=f):=Zn.bind' hf hs
theorem z4.value {F:Next→Prop}{s:Sem Value}(h:z4 P Any s)(hv:∀v,F (.value v)):z4 P F (do pure (.value (←s))):=z4.bind0 h hv
theorem z4.unit {s:Sem Unit}(h:z4 P Any s):z4 P x_ (do s;pure .skip):=z4.bind0 h fun _=>trivial
end
section
variable {P:Program}
theorem kb (t:TypeId)(x y:Value):z4 P Any (movedNumber t x y):=by
 unfold movedNumber;repeat' (first
  |exact trivial
  |(first|with_reducible exact zj _|with_reducible exact zq _|with_reducible exact ZK _ _ _|with_reducible exact y7 _|with_reducible exact QI _ _)
  |with_reducible refine z4.bind0 ?_ (fun _=> ?_)
  |with_reducible refine z4.ite (fun _=> ?_) (fun _=> ?_)
  |split
  |dsimp only)
theorem vZ (t:TypeId)(x y:Value):z4 P Any (movedPointer t x y):=by
 unfold movedPointer;repeat' (first
  |exact trivial
  |(first|with_reducible exact QG _|with_reducible exact zq _|with_reducible exact ZK _ _ _)
  |with_reducible refine z4.bind0 ?_ (fun _=> ?_)
  |with_reducible refine z4.ite (fun _=> ?_) (fun _=> ?_)
  |split
  |dsimp only)
theorem uo (op:BinOp)(t:TypeId)(x y:Operand)(a b:Value):z4 P Any (eqGuard op t x y a b):=by
 unfold eqGuard;repeat' (first
  |exact trivial
  |(first|with_reducible exact Vc _ _ _ _|with_reducible exact zq _|with_reducible exact zQ)
  |with_reducible refine z4.bind0 ?_ (fun _=> ?_)
  |with_reducible refine z4.ite (fun _=> ?_) (fun _=> ?_)
  |split
  |dsimp only)
theorem OK (op:BinOp)(t:TypeId)(x y:Value):z4 P Any (binOp op t x y):=by
 unfold binOp;repeat' (first
  |exact trivial
  |(first|with_reducible exact jQ _ _ _ _ _|with_reducible exact mild_Op_intArith _ _ _ _|with_reducible exact j9 _ _ _ _|with_reducible exact mild_Op_intBits _ _ _ _|with_reducible exact jb _ _ _|with_reducible exact xA _ _ _ _|with_reducible exact Xq _ _ _ _|with_reducible exact Vd _ _ _ _ _ _|with_reducible exact Xp _ _ _|with_reducible exact QJ _ _ _|with_reducible exact zj _|with_reducible exact vZ _ _ _|with_reducible exact kb _ _ _|with_reducible exact y7 _|with_reducible exact Kg _ _ _|with_reducible exact Ki _ _ _|with_reducible exact Kh _ _ _|with_reducible exact zq _|with_reducible exact ZE _)
  |with_reducible refine z4.bind0 ?_ (fun _=> ?_)
  |with_reducible refine z4.ite (fun _=> ?_) (fun _=> ?_)
  |split
  |dsimp only)
theorem uq (a1 a0:TypeId)(x:Value):z4 P Any (convert a1 a0 x):=by
 unfold convert;repeat' (first
  |exact trivial
  |(first|with_reducible exact zj _|with_reducible exact mild_Conv_intToInt _ _|with_reducible exact mild_Conv_intToFloat _ _|with_reducible exact qQ _ _ _|with_reducible exact Ya _ _ _|with_reducible exact xC _ _ _ _|with_reducible exact mild_Conv_intToString _|with_reducible exact Xx _ _|with_reducible exact Xw _ _|with_reducible exact yN _|with_reducible exact Xz _|with_reducible exact Xy _|with_reducible exact Xv _ _ _|with_reducible exact zq _|with_reducible exact ZE _)
  |with_reducible refine z4.bind0 ?_ (fun _=> ?_)
  |with_reducible refine z4.ite (fun _=> ?_) (fun _=> ?_)
  |split
  |dsimp only)
end
structure zF (P:Program):Prop where
 count:∀(f:Nat) (fn:Func),P.funcs[f]? =some fn→(fn.name== "runtime.NumGoroutine")=false
 next:∀(f:Nat) (fn:Func),P.funcs[f]? =some fn→fn.body.isNone=true→Extern.findNext fn=none
 find:∀(f:Nat) (fn:Func) (e:Array Value→Sem Value),P.funcs[f]? =some fn→fn.body.isNone=true→Extern.find fn=some e→∀args,z4 P Any (e args)
def evens (es:Array Event)(es' :Array Event):Prop:=∀d,deafBehind d es' =deafBehind d es
def Result.good {α:Type}:Result α→Prop
 | .ok _ _| .halt (.panic _) _=>True
 |_=>False
def Bal (P:Program){α:Type}(s:Sem α):Prop:=∀w es,Result.good (s.runT P w es).1→evens es (s.runT P w es).2
section
variable {P:Program}{α β:Type}
theorem yp {es:Array Event}{e:Event}(h1:e.loc≠ .mark .disable)(h2:e.loc≠ .mark .enable):evens es (es.push e):=by
 intro d;unfold deafBehind;rw[Array.foldl_push];obtain⟨a0,wr,sy⟩:=e
 cases a0 with
 |mark m=>cases m<;>simp_all
 |_=>rfl
theorem evens.trans {a b c:Array Event}(h:evens a b)(h' :evens b c):evens a c:=fun d=>(h' d).trans (h d)
theorem Vx {es:Array Event}{l:List Addr}{wr sy:Bool}:evens es (es++(l.toArray.map (fun a=>(⟨.cell a,wr,sy⟩:Event)))):=by
 induction l generalizing es with
 |nil=>intro d;simp
 |cons a l ih=>
  have e:es++((a::l).toArray.map (fun a=>(⟨.cell a,wr,sy⟩:Event)))=es.push ⟨.cell a,wr,sy⟩++(l.toArray.map (fun a=>(⟨.cell a,wr,sy⟩:Event))):=by
   apply Array.ext';simp
  rw[e];exact(yp (by simp) (by simp)).trans ih
theorem z4.evens {F:α→Prop}:∀{s:Sem α},z4 P F s→∀w es,Go.Proofs.YtolgebdmffcemaaGreatDoor.evens es (s.runT P w es).2:=by
 intro s;induction s with
 |pure a=>exact fun _ w es d=>rfl
 |load m a k ih=>
  intro h w es;simp only[Sem.runT]
  cases w.cell? a with
  |some v=>exact(yp (by simp) (by simp)).trans (ih v (h v) w _)
  |none=>
   cases w.farLoad P a (m== .atomic)with
   |ok r=>exact Vx.trans (ih r.1 (h r.1) w _)
   |error e=>exact fun d=>rfl
 |store m a v k ih=>
  intro h w es;by_cases hv:(∃x,v= .agg x)∨∃x,v= .tuple x
  ·rcases hv with⟨x,rfl⟩|⟨x,rfl⟩<;>exact fun d=>rfl
  ·have e:(Sem.store m a v k).runT P w es=match w.cell? a with
     |some _=>if w.frozen? a then(.halt (.unsupported (.unsafePointer "a write to bytes that a string shares")) w,es)else k.runT P (w.setCell a v) (es.push ⟨.cell a,true,m== .atomic⟩)
     |none=>match w.farStore P a v (m== .atomic)with
      | .ok (u',touched)=>k.runT P u' (es++touched.toArray.map (⟨.cell ·,true,m== .atomic⟩))
      | .error h=>(.halt h w,es):=by
    cases v<;>first|rfl|(exfalso;exact hv (.inl ⟨_,rfl⟩))|(exfalso;exact hv (.inr ⟨_,rfl⟩))
   rw[e]
   cases w.cell? a with
   |some x=>
    by_cases hf:w.frozen? a=true
    ·simp only[hf,if_true];exact fun d=>rfl
    ·simp only[hf,if_false,Bool.false_eq_true]
     exact(yp (by simp) (by simp)).trans (ih h _ _)
   |none=>
    cases w.farStore P a v (m== .atomic)with
    |ok r=>exact Vx.trans (ih h _ _)
    |error e=>exact fun d=>rfl
 |new o k ih=>exact fun h w es=>ih _ (h _) _ _
 |shape r k ih=>exact fun h w es=>ih _ (h _) _ _
 |freeze a n k ih=>exact fun h w es=>ih h _ _
 |frozen a k ih=>exact fun h w es=>ih _ (h _) _ _
 |getObj r k ih=>
  intro h w es;simp only[Sem.runT]
  cases w.heap[r]? with
  |none=>exact fun d=>rfl
  |some o=>cases o<;>first|exact fun d=>rfl|exact(yp (by simp) (by simp)).trans (ih _ (h _) _ _)
 |setObj r o k ih=>
  intro h w es;simp only[Sem.runT]
  cases w.heap[r]? with
  |none=>exact fun d=>rfl
  |some x=>cases x<;>first|exact fun d=>rfl|exact(yp (by simp) (by simp)).trans (ih h _ _)
 |choose q k ih=>
  intro h w es;simp only[Sem.runT];split
  all_goals
   exact ih _ (h _) _ _
 |sys c k ih=>exact fun h w es=>(yp (by simp) (by simp)).trans (ih _ (h.2 _) _ _)
 |program k ih=>exact fun h w es=>ih P h _ _
 |mark m k ih=>exact fun h w es=>(yp (fun e=>h.1.1 (by injection e)) (fun e=>h.1.2 (by injection e))).trans (ih h.2 _ _)
 |halt x=>exact fun _ w es d=>rfl
theorem z4.bal {F:α→Prop}{s:Sem α}(h:z4 P F s):Bal P s:=fun w es _=>h.evens w es
end
def VF (P:Program)(s:Sem Next):Prop:=Zn P Kv s∧Bal P s
section
variable {P:Program}{α β:Type}
theorem Zn.mono {F G:α→Prop}(h:∀a,F a→G a):∀{s:Sem α},Zn P F s→Zn P G s:=by
 intro s;induction s with
 |pure a=>exact h a
 |load m a k ih=>exact fun x v=>ih v (x v)
 |store m a v k ih=>exact ih
 |new o k ih=>exact fun x v=>ih v (x v)
 |shape r k ih=>exact fun x v=>ih v (x v)
 |freeze a n k ih=>exact ih
 |frozen a k ih=>exact fun x v=>ih v (x v)
 |getObj r k ih=>exact fun x v=>ih v (x v)
 |setObj r o k ih=>exact ih
 |choose q k ih=>exact fun x v=>ih v (x v)
 |sys c k ih=>exact fun x=>⟨x.1,fun r=>ih r (x.2 r)⟩
 |program k ih=>exact ih P
 |mark m k ih=>exact ih
 |halt x=>exact id
theorem z4.tame {s:Sem Next}(h:z4 P x_ s):VF P s:=⟨h.fair.mono fun _=>v6,h.bal⟩
theorem Bal.bind {F:α→Prop}{s:Sem α}{f:α→Sem β}(hs:z4 P F s)(hf:∀a,Bal P (f a)):Bal P (s>>=f):=by
 intro w es;have h1:=hs.evens w es;have e:(s>>=f).runT P w es=_:=Sem.runT_bind' P s f w es;rw[e];generalize s.runT P w es=x at h1;obtain⟨r,a0⟩:=x
 cases r with
 |ok a w1=>exact fun h=>h1.trans (hf a w1 a0 h)
 |halt h w1=>exact fun _=>h1
theorem VF.bind {s:Sem α}{f:α→Sem Next}(hs:z4 P Any s)(hf:∀a,VF P (f a)):VF P (s>>=f):=⟨Zn.bind hs.fair fun a _=>(hf a).1,Bal.bind hs fun a=>(hf a).2⟩
end
section
variable {P:Program}
theorem ut (b:Builtin)(h1:b≠ .print)(h2:b≠ .println)(argTypes:Array TypeId)(a1:TypeId)(a0:Array Bool)(args:Array Value):z4 P x_ (builtin b argTypes a1 a0 args):=by
 unfold builtin
 cases b with
 |print=>exact absurd rfl h1
 |println=>exact absurd rfl h2
 |append=>exact z4.value (qS _ _ _) fun _=>trivial
 |cap=>exact z4.value (Vk _ _ _) fun _=>trivial
 |clear=>exact z4.value (QA _ _ _) fun _=>trivial
 |close=>exact z4.value (Qz _ _ _) fun _=>trivial
 |complex=>exact z4.value (qz _ _ _) fun _=>trivial
 |copy=>exact z4.value (vt _ _ _) fun _=>trivial
 |delete=>exact z4.value (qR _ _ _) fun _=>trivial
 |imag=>exact z4.value (vr _ _ _) fun _=>trivial
 |len=>exact z4.value (y8 _ _ _) fun _=>trivial
 |max=>exact z4.value (Vi _ _ _) fun _=>trivial
 |min=>exact z4.value (Vg _ _ _) fun _=>trivial
 |panic=>exact z4.value (Xs _) fun _=>trivial
 |real=>exact z4.value (vp _ _ _) fun _=>trivial
 |unsafeAdd=>exact z4.value (ZK _ _ _) fun _=>trivial
 |unsafeSlice=>exact z4.value (xO _ _ _) fun _=>trivial
 |unsafeSliceData=>exact z4.value (YO _ _ _) fun _=>trivial
 |unsafeString=>exact z4.value (xD _ _ _) fun _=>trivial
 |unsafeStringData=>exact z4.value (Yr _ _ _) fun _=>trivial
 |unsafeSizeof=>exact z4.bind0 (Za _) fun _=>trivial
 |_=>exact trivial
theorem Xa (hP:zF P)(f:FuncId)(args:Array Value):z4 P x_ (callFunc f args):=by
 unfold callFunc;refine z4.bind um (fun p hp=> ?_);subst hp
 cases hf:p.funcs[f]? with
 |none=>exact trivial
 |some fn=>
  simp only[hP.count f fn hf,Bool.false_eq_true,if_false];refine z4.ite (fun hb=> ?_) (fun _=>trivial);have hn:=hP.next f fn hf hb;refine z4.bind0 (Gq _ ⟨by simp,by simp⟩) (fun _=> ?_);simp only[hn]
  cases he:Extern.find fn with
  |some e=>exact z4.bind0 (hP.find f fn e hf hb he args) fun _=>trivial
  |none=>
   dsimp only;exact z4.ite (fun _=>trivial) (fun _=>trivial)
theorem Zj {α:Type}{F:α→Prop}(e:RuntimeError):z4 P F (runtimePanic e:Sem α):=by
 unfold runtimePanic;refine z4.bind0 zQ (fun p=> ?_)
 cases e with
 |typeAssertion i c a m=>exact z4.bind0 (yl _) fun _=>z4.bind0 (xX _ _) fun _=>trivial
 |panicNil=>exact z4.bind0 (yl _) fun _=>z4.bind0 (xX _ _) fun _=>trivial
 |_=>exact trivial
theorem qm (hP:zF P)(a0:Value)(name:String)(args:Array Value):z4 P x_ (callMethod a0 name args):=by
 unfold callMethod;split
 ·refine z4.bind0 zQ (fun _=>z4.bind0 (kR _ _ _ _) (fun _=> ?_))
  exact Xa hP _ _
 ·exact Zj _
 ·exact trivial
theorem Jm:z4 P Any Extern.PrintPieces.held:=by
 unfold Extern.PrintPieces.held;refine z4.bind0 zQ (fun p=>z4.bind0 (yw _ _) (fun v=> ?_))
 cases v<;>exact trivial
theorem xg (fd:Nat)(b:ByteArray):Zn P Any (writeFd fd b):=by
 refine⟨⟨_,rfl,trivial⟩,fun r=> ?_⟩
 cases r<;>first|exact .inl trivial|exact trivial
theorem xn (m:Mark):Zn P Any (mark m):=trivial
theorem vx (args:Array Value):Zn P Kv (Extern.PrintPieces.piece #[] #[] args):=by
 unfold Extern.PrintPieces.piece;split
 ·rename_i first h1
  clear h1;split
  ·rename_i p h2
   clear h2;dsimp only;generalize(args.size==2)=last;by_cases hp:p.size>65536<;>simp only[hp,if_true,if_false]
   ·exact .inl trivial
   ·cases first<;>cases last<;>simp only[Bool.false_eq_true,Bool.not_false,Bool.not_true,if_true,if_false]
    ·exact Zn.bind (xg _ _) fun _ _=>rfl
    ·exact Zn.bind (xg _ _) fun _ _=>Zn.bind (xn _) fun _ _=>Zn.bind zQ.fair fun _ _=>Zn.bind (ZQ _ _ _).fair fun _ _=>Zn.bind (xn _) fun _ _=>trivial
    ·refine Zn.bind (xn _) fun _ _=>Zn.bind Jm.fair fun b _=> ?_
     cases b
     ·exact Zn.bind zQ.fair fun _ _=>Zn.bind (ZQ _ _ _).fair fun _ _=>Zn.bind (xn _) fun _ _=>Zn.bind (xg _ _) fun _ _=>rfl
     ·exact .inr rfl
    ·refine Zn.bind (xn _) fun _ _=>Zn.bind Jm.fair fun b _=> ?_
     cases b
     ·exact Zn.bind (xn _) fun _ _=>Zn.bind (xg _ _) fun _ _=>trivial
     ·exact .inr rfl
  ·exact .inl trivial
 ·exact .inl trivial
def zW (P:Program){α:Type}(g:Nat→Nat)(s:Sem α):Prop:=∀w es,match(s.runT P w es).1 with
 | .ok _ _=>∀d,deafBehind d (s.runT P w es).2=g (deafBehind d es)
 | .halt h _=>∀v,h≠ .panic v
theorem zW.bind {α β:Type}{g h:Nat→Nat}{s:Sem α}{f:α→Sem β}(hs:zW P g s)(hf:∀a,zW P h (f a)):zW P (fun d=>h (g d)) (s>>=f):=by
 intro w es;have h1:=hs w es;have e:(s>>=f).runT P w es=_:=Sem.runT_bind' P s f w es;rw[e];generalize s.runT P w es=x at h1;obtain⟨r,a0⟩:=x
 cases r with
 |ok a w1=>
  have h2:=hf a w1 a0;simp only at h1⊢;generalize(f a).runT P w1 a0=y at h2⊢;obtain⟨r2,a1⟩:=y
  cases r2 with
  |ok b w2=>intro d;simp only at h2⊢;rw[h2 d,h1 d]
  |halt x w2=>exact h2
 |halt h w1=>exact h1
theorem zW.bal {α:Type}{s:Sem α}(h:zW P (fun d=>d) s):Bal P s:=by
 intro w es hg;have:=h w es;generalize s.runT P w es=x at this hg;obtain⟨r,a0⟩:=x
 cases r with
 |ok a w1=>exact this
 |halt h w1=>cases h<;>first|exact absurd rfl (this _)|exact hg.elim
theorem xq:zW P (·+1) (mark .disable):=by
 intro w es;show∀d,deafBehind d (es.push _)=_
 intro d;unfold deafBehind;rw[Array.foldl_push]
theorem xZ:zW P (· - 1) (mark .enable):=by
 intro w es;show∀d,deafBehind d (es.push _)=_
 intro d;unfold deafBehind;rw[Array.foldl_push]
theorem xp:zW P (fun d=>d) (program:Sem Program):=fun _ _ _=>rfl
theorem YG {α:Type}(a:α):zW P (fun d=>d) (pure a:Sem α):=fun _ _ _=>rfl
theorem Jk (w:World)(a:Addr)(s:String)(v:Value):w.noCell a s≠ .panic v:=by
 unfold World.noCell;split<;>exact fun h=>by cases h
theorem OX {w:World}{a:Addr}{b:Bool}{h:Halt}(hx:w.farLoad P a b= .error h)(v:Value):h≠ .panic v:=by
 unfold World.farLoad at hx;split at hx
 ·split at hx
  ·cases hx
  ·cases hx;exact fun h=>by cases h
 ·cases hx;exact Jk _ _ _ _
theorem oF {w:World}{a:Addr}{x:Value}{b:Bool}{h:Halt}(hx:w.farStore P a x b= .error h)(v:Value):h≠ .panic v:=by
 unfold World.farStore at hx;split at hx
 ·split at hx
  ·cases hx
  ·cases hx;exact fun h=>by cases h
 ·cases hx;exact Jk _ _ _ _
theorem J9 {α:Type}{F:α→Prop}{s:Sem α}(h:z4 P F s)(hn:∀w es h w' v,(s.runT P w es).1= .halt h w' →h≠ .panic v):zW P (fun d=>d) s:=by
 intro w es;have h1:=h.evens w es;have h2:=hn w es;generalize s.runT P w es=x at h1 h2;obtain⟨r,a0⟩:=x
 cases r with
 |ok a w1=>exact h1
 |halt h w1=>exact fun v=>h2 h w1 v rfl
theorem Uo (a:Addr)(m:Mode):zW P (fun d=>d) (load a m):=by
 refine J9 (yw a m) fun w es h w' v=> ?_
 simp only[load,Sem.runT]
 cases w.cell? a with
 |some v=>exact fun h=>by cases h
 |none=>
  cases hx:w.farLoad P a (m== .atomic)with
  |ok r=>exact fun h=>by cases h
  |error e=>exact fun h=>by cases h;exact OX hx v
theorem Xh (a:Addr)(b:Bool)(m:Mode):zW P (fun d=>d) (store a (.bool b) m):=by
 refine J9 (ZQ a (.bool b) m) fun w es h w' v=> ?_
 simp only[store,Sem.runT]
 cases w.cell? a with
 |some v=>
  dsimp only;by_cases hf:w.frozen? a=true
  ·rw[if_pos hf];intro h;cases h;exact fun h=>by cases h
  ·rw[if_neg hf];exact fun h=>by cases h
 |none=>
  cases hx:w.farStore P a (.bool b) (m== .atomic)with
  |ok r=>exact fun h=>by cases h
  |error e=>exact fun h=>by cases h;exact oF hx v
theorem Y5 (fd:Nat)(b:ByteArray):zW P (fun d=>d) (writeFd fd b):=by
 intro w es;unfold writeFd;simp only[Sem.runT]
 cases(w.sys (.write fd b)).1<;>first|exact yp (by simp) (by simp)|exact fun v h=>by cases h
theorem kH:zW P (fun d=>d) Extern.PrintPieces.held:=by
 unfold Extern.PrintPieces.held;refine zW.bind xp (fun p=>zW.bind (Uo _ _) (fun v=> ?_))
 cases v<;>first|exact YG _|exact fun _ _ _ h=>by cases h
theorem JM (args:Array Value):Bal P (Extern.PrintPieces.piece #[] #[] args):=by
 unfold Extern.PrintPieces.piece;split
 ·rename_i first h1
  clear h1;split
  ·rename_i p h2
   clear h2;dsimp only;generalize(args.size==2)=last;by_cases hp:p.size>65536<;>simp only[hp,if_true,if_false]
   ·exact z4.bal (F:=Any) trivial
   ·cases first<;>cases last<;>simp only[Bool.false_eq_true,Bool.not_false,Bool.not_true,if_true,if_false]
    ·exact(zW.bind (Y5 _ _) fun _=>YG _).bal
    ·exact(zW.bind (Y5 _ _) fun _=>zW.bind xq fun _=>zW.bind xp fun _=>zW.bind (Xh _ _ _) fun _=>zW.bind xZ fun _=>YG _).bal
    ·refine zW.bal (s:=mark .disable>>=_) (zW.bind (g:=(·+1)) (h:=(· - 1)) xq fun _=>zW.bind kH fun b=> ?_)
     cases b
     ·exact zW.bind xp fun _=>zW.bind (Xh _ _ _) fun _=>zW.bind xZ fun _=>zW.bind (Y5 _ _) fun _=>YG _
     ·exact fun _ _ _ h=>by cases h
    ·refine zW.bal (s:=mark .disable>>=_) (zW.bind (g:=(·+1)) (h:=(· - 1)) xq fun _=>zW.bind kH fun b=> ?_)
     cases b
     ·exact zW.bind xZ fun _=>zW.bind (Y5 _ _) fun _=>YG _
     ·exact fun _ _ _ h=>by cases h
  ·exact z4.bal (F:=Any) trivial
 ·exact z4.bal (F:=Any) trivial
theorem KQ (ln:Bool)(a0:Array Bool)(argTypes:Array TypeId)(args:Array Value):VF P (Builtin.printMarked ln a0 argTypes args):=by
 unfold Builtin.printMarked;refine VF.bind (Qy _ _ _ _) (fun ps=> ?_);split
 ·exact z4.tame (s:=pure _) trivial
 ·exact⟨vx _,JM _⟩
theorem OH (l:Nat)(args:Array Value):z4 P x_ (Instr.yield l args):=by
 unfold Instr.yield;refine z4.bind0 (yP _) (fun r=> ?_);dsimp only;exact z4.ite (fun _=>trivial) (fun _=>trivial)
theorem un (f:Value)(args:Array Value):z4 P Any (Deferred.ofValue f args):=by
 unfold Deferred.ofValue;split<;>exact trivial
theorem ZR (ρ:Operand→Value)(c:Call)(a0:TypeId):z4 P Any (resolve ρ c a0):=by
 unfold resolve;dsimp only;split
 ·exact trivial
 ·exact trivial
 ·exact un _ _
theorem ZM (hP:zF P)(t:Target)(args:Array Value):VF P (invoke t args):=by
 unfold invoke
 cases t with
 |nil=>exact(Zj _).tame
 |builtin b argTypes a3 a2=>
  by_cases h1:b= .print
  ·subst h1;exact KQ _ _ _ _
  ·by_cases h2:b= .println
   ·subst h2;exact KQ _ _ _ _
   ·exact(ut b h1 h2 _ _ _ _).tame
 |collected r=>exact z4.tame (s:=stuck _) trivial
 |coroexit c=>exact z4.tame (s:=pure _) rfl
 |fn fn a0=>
  cases fn with
  |func f=>exact(Xa hP _ _).tame
  |method name=>
   dsimp only;split
   ·exact(qm hP _ _ _).tame
   ·exact z4.tame trivial
  |methodOf t name=>
   dsimp only;split
   ·exact VF.bind (zj _) fun _=>(qm hP _ _ _).tame
   ·exact z4.tame trivial
  |via t path f a1=>
   dsimp only;split
   ·exact VF.bind (ka _ _ _ _) fun _=>(Xa hP _ _).tame
   ·exact z4.tame trivial
  |yield l=>exact(OH _ _).tame
end
section
variable {P:Program}
theorem kF (hP:zF P)(ρ:Operand→Value)(o:Oper):VF P (execOp ρ o):=by
 unfold execOp;dsimp only
 cases o.op with
 |move x=>exact z4.tame (s:=pure _) trivial
 |assign x=>exact z4.tame (s:=pure _) trivial
 |pick c a b=>
  refine z4.tame ?_;dsimp only;refine z4.bind0 (kU _) (fun _=> ?_);exact trivial
 |alloc a3=>exact(z4.value (kj _ _ _) fun _=>trivial).tame
 |box a3 x=>exact(z4.value (jd _ _) fun _=>trivial).tame
 |build t a2=>exact(z4.value (ki _ _) fun _=>trivial).tame
 |buildSlice t len a2=>exact(z4.value (qw _ _ _) fun _=>trivial).tame
 |insert t m k x=>exact(z4.unit (YM _ _ _ _)).tame
 |load t a=>exact(z4.value (Vf _ _) fun _=>trivial).tame
 |store t a x=>exact(z4.unit (ve _ _ _)).tame
 |ready g=>exact(z4.unit (kf _)).tame
 |waits g=>exact(z4.value (kd _) fun _=>trivial).tame
 |nilCheck x=>
  refine z4.tame ?_;dsimp only;split
  ·exact Zj _
  ·exact Zj _
  ·exact Zj _
  ·split
   ·exact Zj _
   ·refine z4.bind0 zQ (fun _=>z4.bind0 (jO _ _ _ _) (fun _=> ?_))
    exact z4.ite (fun _=>trivial) (fun _=>trivial)
   ·exact trivial
  ·exact trivial
 |binOp op t x y u=>exact(z4.value (z4.bind0 (uo _ _ _ _ _ _) fun _=>OK _ _ _ _) fun _=>trivial).tame
 |unOp op t x=>exact(z4.value (jP _ _) fun _=>trivial).tame
 |convert a6 a5 x=>exact(z4.value (uq _ _ _) fun _=>trivial).tame
 |sliceToArrayPointer a4 x=>exact(z4.value (vo _ _) fun _=>trivial).tame
 |makeInterface t x=>exact(z4.value (Xc _ _) fun _=>trivial).tame
 |makeFunc fn first a0=>exact(z4.value (Qv _ _ _) fun _=>trivial).tame
 |makeMap t r=>exact(z4.value (vg _ _) fun _=>trivial).tame
 |makeChan t s=>exact(z4.value (Qw _ _) fun _=>trivial).tame
 |makeSlice t l c=>exact(z4.value (qP _ _ _) fun _=>trivial).tame
 |slice t x lo hi mx=>exact(z4.value (vf _ _ _ _ _) fun _=>trivial).tame
 |fieldAddr s x f=>exact(z4.value (vk _ _ _) fun _=>trivial).tame
 |field t x f=>exact(z4.value (Xu _ _ _) fun _=>trivial).tame
 |indexAddr t x ix=>exact(z4.value (vh _ _ _) fun _=>trivial).tame
 |index t x ix=>exact(z4.value (Yq _ _ _) fun _=>trivial).tame
 |lookup t x ix ok=>exact(z4.value (Ve _ _ _ _) fun _=>trivial).tame
 |mapUpdate t m k x=>exact(z4.unit (YM _ _ _ _)).tame
 |mapEntry t m k=>exact(z4.value (Qu _ _ _) fun _=>trivial).tame
 |entryStore t m s x=>exact(z4.unit (qv _ _ _ _)).tame
 |range t x=>exact(z4.value (kg _ _) fun _=>trivial).tame
 |next it a1=>exact(z4.value (Kj _ _ _) fun _=>trivial).tame
 |entry it=>exact(z4.value (kh _) fun _=>trivial).tame
 |typeAssert x t a ok=>exact(z4.value (qr _ _ _ _) fun _=>trivial).tame
 |extract t ix=>exact(z4.value (vm _ _) fun _=>trivial).tame
 |call c=>exact VF.bind (ZR _ _ _) fun d=>ZM hP _ _
 |go c=>
  refine z4.tame ?_;dsimp only;refine z4.bind0 (ZR _ _ _) (fun _=> ?_);exact trivial
 |defer c=>
  refine z4.tame ?_;dsimp only;refine z4.bind0 (ZR _ _ _) (fun _=> ?_);exact trivial
 |panic x=>exact(z4.value (Xs _) fun _=>trivial).tame
 |send ch x=>exact z4.tame (s:=pure _) trivial
 |recv t ch ok=>
  refine z4.tame ?_;dsimp only;refine z4.bind0 (zj _) (fun d=> ?_)
  cases d<;>first|exact trivial|(refine z4.bind0 (yh _) (fun _=> ?_);exact trivial)
 |select cases blocking=>
  refine z4.tame ?_;dsimp only;refine z4.bind0 (z4.mapMArray _ (fun _=> ?_) _) (fun _=> ?_)
  ·refine z4.bind0 (yh _) (fun _=> ?_);exact trivial
  ·exact trivial
end
theorem YD (p:Program)(gs:Array Goroutine)(r:Option Nat)(work:List Item)(b:Bool):gs.size≤(giveWork p gs r work b).1.size:=by
 unfold giveWork;repeat' (first|split|dsimp only)
 all_goals simp
theorem Jp {p:Program}{gs:Array Goroutine}{rest:Rest}{w:World}{m:Machine}(h:look p gs rest w= .next m):gs.size≤m.gs.size:=by
 unfold look at h;split at h
 ·dsimp only at h
  split at h
  ·cases h
  ·split at h
   ·cases h
   ·split at h
    ·injection h with h
     subst h;simp only;split
     ·split
      ·exact Nat.le_refl _
      ·exact YD _ _ _ _ _
     ·split
      ·exact YD _ _ _ _ _
      ·exact Nat.le_trans (YD _ _ _ _ _) (YD _ _ _ _ _)
    ·cases h
    ·cases h
 ·cases h
theorem vw (p:Program)(gs:Array Goroutine)(h k:Nat)(v:Value):(finishPartner p gs h k v).size=gs.size:=by
 unfold finishPartner;simp
theorem kx {p:Program}{rest:Rest}{gs:Array Goroutine}{i:Nat}{g:Goroutine}{cases:Array CommCase}{b:Bool}{sh:CommShape}{w:World}{m:Machine}{ops:Array MemOp}
  (h:communicate p rest gs i g cases b sh w=(.next m,ops)):m.gs.size=gs.size:=by
 unfold communicate at h;dsimp only at h;repeat' (first
  |(injection h with h1 h2;injection h1 with h1;subst h1;simp[vw];done)
  |(injection h with h1 h2;cases h1;done)
  |split at h)
theorem Um {α:Type} [Inhabited α] (xs:Array α)(i:Nat)(v:α):(xs.swapAt! i v).2.size=xs.size:=by
 unfold Array.swapAt!;split
 ·simp[Array.swapAt]
 ·rfl
theorem Gd {p:Program}{m m' :Machine}{i:Nat}{b:Bool}{ops:Array MemOp}(h:runT p m i b=(.next m',ops)):m.gs.size≤m'.gs.size:=by
 unfold runT at h;dsimp only at h;have hs:=Um m.gs i ({(default:Goroutine)with status:= .finished});generalize m.gs.swapAt! i {(default:Goroutine)with status:= .finished}=x at h hs;obtain⟨g,gs⟩:=x;simp only at h hs;rw[←hs];generalize stepG p (i==0) g m.world b=s at h
 cases s with
 |go g' w es=>
  simp only at h;injection h with h1 h2
  injection h1 with h1
  subst h1;simp only;split<;>simp
 |comm g' c bl sh w es=>
  simp only at h;generalize hx:communicate p m.rest gs i g' c bl sh w=y at h;obtain⟨r,a0⟩:=y;simp only at h;injection h with h1 h2
  subst h1;exact Nat.le_of_eq (kx hx).symm
 |spawn g' c w es=>simp only at h;injection h with h1 h2;injection h1 with h1;subst h1;simp
 |count g' w es=>
  simp only at h;injection h with h1 h2
  split at h1
  ·cases h1
  ·injection h1 with h1;subst h1;simp
 |timer g' op w es=>
  simp only at h;injection h with h1 h2
  repeat' (first
   |(injection h1 with h1;subst h1;simp;done)
   |(cases h1;done)
   |split at h1)
 |alone g' on w es=>simp only at h;injection h with h1 h2;injection h1 with h1;subst h1;simp
 |newcoro g' c d w es=>simp only at h;injection h with h1 h2;injection h1 with h1;subst h1;simp
 |coroswitch g' c e w es=>
  simp only at h;injection h with h1 h2
  repeat' (first
   |(injection h1 with h1;subst h1;simp;done)
   |(cases h1;done)
   |split at h1)
 |collect g' w es=>
  simp only at h;injection h with h1 h2
  exact Nat.le_trans (by simp) (Jp h1)
 |watch g' w es=>simp only at h;injection h with h1 h2;injection h1 with h1;subst h1;simp
 |ended o w es=>simp only at h;injection h with h1 h2;cases h1
theorem On {p:Program}{m m' :Machine}{k:Nat}(h:serve p m k= .next m'):m.gs.size≤m'.gs.size:=by
 unfold serve at h;dsimp only at h;repeat' (first
  |(injection h with h1;subst h1;simp;done)
  |(cases h;done)
  |split at h)
def xx (n:Nat):Move→Prop
 | .goroutine m _=>n≤m.gs.size
 | .machine (.next m) _=>n≤m.gs.size
 |_=>True
theorem qj (p:Program)(m:Machine):xx m.gs.size (askOn p m):=by
 unfold askOn;extract_lets mono rs ds pick
 have hp:∀m' :Machine,m'.gs=m.gs→xx m.gs.size (pick m'):=by
  intro m' hm;simp only[pick];repeat' (first
   |exact trivial
   |(show m.gs.size≤m'.gs.size;rw[hm];exact Nat.le_refl _)
   |split)
 clear_value pick rs ds
 split
 ·exact trivial
 ·rename_i k world _
  dsimp only;split
  ·generalize hs:serve p {m with world:=world} (ds.getD k 0)=s
   cases s with
   |next m' =>exact On (m:={m with world:=world}) hs
   |ended o w=>exact trivial
  ·cases rs with
   |nil=>
    simp only
    cases ahead {m with world:=world} false with
    |some t=>exact Nat.le_refl _
    |none=>
     simp only;split
     ·exact Nat.le_refl _
     ·generalize endWith world 2 _ _=e
      cases e<;>exact trivial
   |cons r rs=>
    simp only
    cases ahead {m with world:=world} true with
    |none=>exact hp _ rfl
    |some t=>
     simp only
     cases(choose (.extern "clock.wait" (t-mono+1))).run p world with
     |halt h w=>exact trivial
     |ok n w=>
      match n with
      |0=>exact hp _ rfl
      |1=>exact Nat.le_refl _
      |k+2=>exact hp _ rfl
theorem xx.mono {a b:Nat}{x:Move}(h:xx b x)(a0:a≤b):xx a x:=by
 cases x with
 |goroutine m i=>exact Nat.le_trans a0 h
 |machine s ops=>cases s with
  |next m=>exact Nat.le_trans a0 h
  |ended o w=>exact trivial
theorem O6 (p:Program)(m:Machine):xx m.gs.size (ask p m):=by
 unfold ask;split
 ·cases(choose (.extern "collector.look" 2)).run p m.world with
  |halt h w=>exact trivial
  |ok n w=>
   match n with
   |0=>exact qj p {m with world:=w}
   |1=>
    simp only
    cases hl:look p m.gs m.rest w with
    |next m' =>exact(qj p m').mono (Jp hl)
    |ended o w=>exact trivial
   |k+2=>exact qj p {m with world:=w}
 ·exact qj p m
theorem G6 {p:Program}{m m' :Machine}(h:step p m= .next m'):m.gs.size≤m'.gs.size:=by
 unfold step stepT at h;have hm:xx m.gs.size (move p m):=by
  unfold move;split
  ·split
   ·exact Nat.le_refl _
   ·exact trivial
  ·split
   ·split
    ·exact Nat.le_refl _
    ·exact O6 p {m with rest:={m.rest with slice:=none}}
   ·exact O6 p m
 generalize move p m=x at h hm
 cases x with
 |goroutine m1 i=>
  simp only at h;generalize hr:runT p m1 i=y at h;obtain⟨s,ops⟩:=y;simp only at h;subst h;exact Nat.le_trans hm (Gd hr)
 |machine s ops=>
  simp only at h;subst h;exact hm
theorem VM {p:Program}:∀{n:Nat} {m m' :Machine},runN p n m= .next m' →m.gs.size≤m'.gs.size
 |0,m,m',h=>by cases h;exact Nat.le_refl _
 |n+1,m,m',h=>by
  simp only[runN]at h
  cases hs:step p m with
  |next m1=>rw[hs]at h;exact Nat.le_trans (G6 hs) (VM h)
  |ended o w=>rw[hs]at h;cases h
