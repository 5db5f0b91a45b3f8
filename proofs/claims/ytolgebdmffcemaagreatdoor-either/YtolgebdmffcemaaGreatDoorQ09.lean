import Derived.Test.YtolgebdmffcemaaGreatDoorQ08
import Derived.Tactics
import Derived.OrdersHeld
set_option linter.all false
set_option maxHeartbeats 20000000
set_option maxRecDepth 1000000
open List renaming range'→lS,range'_succ→lU,range→lQ,range_eq_range'→lV,range'_append_1→lW,getElem?_take→lX,append_nil→lY,getElem?_drop→lZ
open Nat renaming add_comm→lT,zero_add→iX
open Array renaming getElem?_eq_some_iff→iL,replicate→lO
namespace Go.Proofs.YtolgebdmffcemaaGreatDoor
open Go Go.Conc
section
variable {P:Program}{fn:FuncId}{Q:Exit→Act→World→Prop}{a:Act}{w:World}
theorem qd {ops:Array Oper}{Q:Exit→Act→World→Prop}(l:List Oper):∀k,(∀j,j<l.length→l[j]? =ops[k+j]?)→wpOps P ops Q (lS k l.length)=wpList P ops Q l:=by
 induction l with
 |nil=>intro k _;funext a w;simp[wpOps,wpList]
 |cons o l ih=>
  intro k h;have h0:ops[k]? =some o:=by simpa using(h 0 (by simp)).symm
  have a0 :=ih (k+1) (fun j hj=>by have:=h (j+1) (by simpa using hj);simpa[Nat.add_assoc,lT 1 j]using this);funext a w
  simp only[List.length_cons,lU,wpOps,h0,wpList,a0]
theorem uB {f:FuncId}{args:Array Value}{R:Value→World→Prop}(h:zO P f args w R)(T:Nat→Question→Nat)(d:Nat):zO P f args (re w T d) R:=fun c cs Z hc a0 hn=>(h c cs Z hc a0 hn).rt T d
def q8 (P:Program)(ops:Array Oper)(Q:Act→World→Prop)(n:Nat)(dst:Option Nat)(f:FuncId)(args:Array Operand)(a:Act)(w:World):Prop:=
 ∃(vals:Array Value) (R:Value→World→Prop),args.map a.eval=vals∧zO P f vals w R∧∀v w',R v w' →∀T d,wpList P ops (fun e a w=>e= .normal∧Q a w) (ops.toList.drop (n+1)) (a.put dst v) (re w' T d)
theorem q8.re {ops:Array Oper}{Q:Act→World→Prop}{n:Nat}{a0:Option Nat}{f:FuncId}{args:Array Operand}(h:q8 P ops Q n a0 f args a w)(T:Nat→Question→Nat)(d:Nat):q8 P ops Q n a0 f args a (re w T d):=by
 obtain⟨vals,R,h1,h2,h3⟩:=h;exact⟨vals,R,h1,uB h2 T d,h3⟩
theorem zN (hP:zH P)(n:Nat){id:Nat}{ops:Array Oper}{o:Oper}(hQ:ReC Q)(ho:ops[n]? =some o){f:FuncId}{args:Array Operand}{a2:Array TypeId}(a6:o.op= .call {callee:= .value (.func f),args,argTypes:=a2})(hg:o.guard=none)
  {a1:Func}(hf:P.funcs[f]? =some a1)(a0:(a1.name== "runtime.NumGoroutine")=false)(a3:a1.body.isNone=false)
  (h:∀T d,wpList P ops (fun e a w=>e= .normal∧q8 P ops (fun a w=>Q .normal a w) n o.dst f args a w) (ops.toList.take n) a (re w T d)):wpT P fn (.region id ops false) Q a w:=by
 refine qb hP ?_;have hn:n<ops.size:=(iL.1 ho).1;have hr:lQ ops.size=lS 0 n++(n::lS (n+1) (ops.size-(n+1))):=by
  rw[lV,show ops.size=n+(1+(ops.size-(n+1)))from by omega,←lW];congr 1
  rw[lT 1,lU,iX];congr 2
  omega
 rw[hr];have a4:(ops.toList.take n).length=n:=by simp;omega
 refine qW hP (fun a w=>q8 P ops (fun a w=>Q .normal a w) n o.dst f args a w) _ _ (fun a w T d h=>h.re T d) (fun T d=> ?_) (fun a' w' h' => ?_)
 ·have:=h T d
  rw[←qd (ops.toList.take n) 0 (fun j hj=>by
   rw[lX,if_pos (by omega),iX];simp)]at this
  rw[a4]at this;exact this
 ·obtain⟨vals,R,h1,h2,h3⟩:=h'
  refine ky hP ho (by simp[Region.wanted,hg]) (fun W=>by subst h1;exact run_call_body a6 hf a0 a3) h2 fun v w2 hv=> ?_
  have a5:(ops.toList.drop (n+1)).length=ops.size-(n+1):=by simp
  have h4:=qW (fn:=fn) (Q:=Q) hP (ops:=ops) (a:=a'.put o.dst v) (w:=w2) (fun a w=>Q .normal a w) (lS (n+1) (ops.size-(n+1))) [] (fun a w T d h=>hQ _ _ _ T d h) (fun T d=> ?_) (fun a w h=>Xz hP h)
  ·rwa[lY]at h4
  ·have:=h3 v w2 hv T d
   rw[←qd (ops.toList.drop (n+1)) (n+1) (fun j hj=>by simp[lZ])]at this;rw[a5]at this;exact this
def uI (P:Program)(ops:Array Oper)(Q:Act→World→Prop)(n:Nat)(o:Oper)(f:FuncId)(args:Array Operand)(a:Act)(w:World):Prop:=
 Region.wanted o (yielded ops a.tmps)=true∧q8 P ops Q n o.dst f args a w
theorem GS (hP:zH P)(n:Nat){id:Nat}{ops:Array Oper}{o:Oper}(hQ:ReC Q)(ho:ops[n]? =some o){f:FuncId}{args:Array Operand}{a2:Array TypeId}(a6:o.op= .call {callee:= .value (.func f),args,argTypes:=a2})
  {a1:Func}(hf:P.funcs[f]? =some a1)(a0:(a1.name== "runtime.NumGoroutine")=false)(a3:a1.body.isNone=false)
  (h:∀T d,wpList P ops (fun e a w=>e= .normal∧uI P ops (fun a w=>Q .normal a w) n o f args a w) (ops.toList.take n) a (re w T d)):wpT P fn (.region id ops false) Q a w:=by
 refine qb hP ?_;have hn:n<ops.size:=(iL.1 ho).1;have hr:lQ ops.size=lS 0 n++(n::lS (n+1) (ops.size-(n+1))):=by
  rw[lV,show ops.size=n+(1+(ops.size-(n+1)))from by omega,←lW];congr 1
  rw[lT 1,lU,iX];congr 2
  omega
 rw[hr];have a4:(ops.toList.take n).length=n:=by simp;omega
 refine qW hP (fun a w=>uI P ops (fun a w=>Q .normal a w) n o f args a w) _ _ (fun a w T d h=>⟨h.1,h.2.re T d⟩) (fun T d=> ?_) (fun a' w' h' => ?_)
 ·have:=h T d
  rw[←qd (ops.toList.take n) 0 (fun j hj=>by
   rw[lX,if_pos (by omega),iX];simp)]at this
  rw[a4]at this;exact this
 ·obtain⟨a7,vals,R,h1,h2,h3⟩:=h'
  refine ky hP ho a7 (fun W=>by subst h1;exact run_call_body a6 hf a0 a3) h2 fun v w2 hv=> ?_
  have a5:(ops.toList.drop (n+1)).length=ops.size-(n+1):=by simp
  have h4:=qW (fn:=fn) (Q:=Q) hP (ops:=ops) (a:=a'.put o.dst v) (w:=w2) (fun a w=>Q .normal a w) (lS (n+1) (ops.size-(n+1))) [] (fun a w T d h=>hQ _ _ _ T d h) (fun T d=> ?_) (fun a w h=>Xz hP h)
  ·rwa[lY]at h4
  ·have:=h3 v w2 hv T d
   rw[←qd (ops.toList.drop (n+1)) (n+1) (fun j hj=>by simp[lZ])]at this;rw[a5]at this;exact this
end
section
variable {P:Program}{fn:FuncId}{Q:Exit→Act→World→Prop}{a:Act}{w:World}{c:Code}
def vo (P:Program)(fn:FuncId)(c:Code)(Q:Exit→Act→World→Prop)(a:Act)(w:World):Prop:=
 ∀(b:Frame) (k:List Item) (cs:List Frame) (Z:Goroutine→World→Prop),b.fn=fn→OkK k cs→b.kind≠ .early→(∀e a' w',Q e a' w' →v_ P Z b k cs e a' w')→ToE P Z (G (b.at a (.inLoop c::k)) cs) w
theorem GT (h:vo P fn c Q a w)(T:Nat→Question→Nat)(d:Nat):vo P fn c Q a (re w T d):=fun b k cs Z hF hO hb hc=>(h b k cs Z hF hO hb hc).rt T d
theorem ue (h:wpT P fn c (Exit.then (vo P fn c Q) Q) a w)(b:Frame)(k:List Item)(cs:List Frame)(Z:Goroutine→World→Prop)(hF:b.fn=fn)(hO:OkK k cs)(hb:b.kind≠ .early)(hc:∀e a' w',Q e a' w' →v_ P Z b k cs e a' w'):ToE P Z (G (b.at a (.code c:: .inLoop c::k)) cs) w:=by
 refine h b (.inLoop c::k) cs Z hF (hO.cons (by trivial)) hb fun e a' w' q=> ?_
 cases e with
 |normal=>exact q b k cs Z hF hO hb hc
 |exit id=>exact(hc _ _ _ q).push rfl (by simp)
 |ret=>exact(hc _ _ _ q).push (x:= .inLoop c) rfl (by simp)
 |goto l=>exact hc _ _ _ q
 |panic ch=>exact hc _ _ _ q
 |outgrown=>exact hc _ _ _ q
theorem GR (hP:zH P)(h:wpT P fn c (Exit.then (vo P fn c Q) Q) a w):wpT P fn (.loop c) Q a w:=fun b k cs Z hF hO hb hc=>
 ToE.ctl hP (hO.cons (by trivial)).fit ⟨rfl,rfl⟩ (fun w=>step_loop) (ue h b k cs Z hF hO hb hc)
theorem Ve (hP:zH P)(h:wpT P fn c (Exit.then (vo P fn c Q) Q) a w):vo P fn c Q a w:=fun b k cs Z hF hO hb hc=>
 ToE.ctl hP (hO.cons (by trivial)).fit ⟨rfl,rfl⟩ (fun w=>step_inLoop) (ue h b k cs Z hF hO hb hc)
theorem zg (hP:zH P)(hQ:ReC Q)(h:∀T d,c.wp P Q a (re w T d)):wpT P fn c Q a w:=UW hP hQ h
theorem ReC.thenM {N:Act→World→Prop}(h:ReC Q)(hN:∀a w T d,N a w→N a (re w T d)):ReC (Exit.then N Q):=fun e a w T d hq=>by
 cases e with
 |normal=>exact hN a w T d hq
 |ret=>exact h .ret a w T d hq
 |exit id=>exact h (.exit id) a w T d hq
 |goto l=>exact h (.goto l) a w T d hq
 |panic ch=>exact h (.panic ch) a w T d hq
 |outgrown=>exact h .outgrown a w T d hq
theorem ReC.thenL (h:ReC Q):ReC (Exit.then (vo P fn c Q) Q):=fun e a w T d hq=>by
 cases e with
 |normal=>exact GT hq T d
 |ret=>exact h .ret a w T d hq
 |exit id=>exact h (.exit id) a w T d hq
 |goto l=>exact h (.goto l) a w T d hq
 |panic ch=>exact h (.panic ch) a w T d hq
 |outgrown=>exact h .outgrown a w T d hq
end
section
variable {P:Program}{fn:FuncId}{ops:Array Oper}{Q:Exit→Act→World→Prop}{S:World→Prop}{a:Act}{w:World}
def NoQ:Exit→Act→World→Prop:=fun _ _ _=>False
def OpT (P:Program)(ops:Array Oper)(i:Nat)(K:Act→World→Prop)(a:Act)(w:World):Prop:=
 (∀T d,wpOp P ops NoQ i K a (re w T d))∨∃(o:Oper) (f:FuncId) (args:Array Operand) (ats:Array TypeId) (fnn:Func) (R:Value→World→Prop),ops[i]? =some o∧Region.wanted o (yielded ops a.tmps)=true∧o.op= .call {callee:= .value (.func f),args,argTypes:=ats}∧P.funcs[f]? =some fnn∧(fnn.name== "runtime.NumGoroutine")=false∧fnn.body.isNone=false∧
  zO P f (args.map a.eval) w R∧∀v w',R v w' →K (a.put o.dst v) w'
theorem OpT.re {i:Nat}{K:Act→World→Prop}(h:OpT P ops i K a w)(T:Nat→Question→Nat)(d:Nat):OpT P ops i K a (re w T d):=by
 rcases h with h|⟨o,f,args,a0,a1,R,h1,h2,h3,h4,h5,h6,h7,h8⟩
 ·exact .inl fun T' d' =>h T' d'
 ·exact .inr ⟨o,f,args,a0,a1,R,h1,h2,h3,h4,h5,h6,uB h7 T d,h8⟩
theorem OpT.mono {i:Nat}{K K' :Act→World→Prop}(h:∀a w,K a w→K' a w)(hh:OpT P ops i K a w):OpT P ops i K' a w:=by
 rcases hh with hh|⟨o,f,args,a0,a1,R,h1,h2,h3,h4,h5,h6,h7,h8⟩
 ·exact .inl fun T d=>wpOp_mono h (hh T d)
 ·exact .inr ⟨o,f,args,a0,a1,R,h1,h2,h3,h4,h5,h6,h7,fun v w' hv=>h _ _ (h8 v w' hv)⟩
theorem Fq {i:Nat}{K:Act→World→Prop}(h:wpOp P ops NoQ i K a w):wpOp P ops Q i K a w:=by
 unfold wpOp at*;split
 ·rename_i ho;simpa[ho]using h
 ·rename_i o ho
  simp only[ho]at h;split
  ·rename_i hw
   simp only[hw,if_true]at h;rcases h with h|⟨_,_,_,hl⟩
   ·refine .inl ?_
    unfold Oper.wp at*;generalize(execOp a.eval o).run P w=r at*
    cases r with
    |ok n w' =>
     cases n<;>simp only[Oper.upon]at h⊢
     case value u=>exact h
     case skip=>exact h
     case defer d=>exact h
     case enter f args=>
      refine Calls.mono h fun e a0 he=> ?_
      cases e with
      |returned u=>exact he
      |panicked c=>exact he.elim
      |outgrown=>
       obtain⟨_,_,hl⟩:=he;exact hl.elim
     case row row args=>exact Rows.mono h fun u a0 he=>he
    |halt x w' =>cases x<;>simp only[Oper.upon]at h⊢<;>exact h.elim
   ·exact hl.elim
  ·rename_i hw
   simp only[hw]at h;exact h
theorem OpT.run (hP:zH P){i:Nat}{rest:List Nat}{K:Act→World→Prop}(hK:∀a w T d,K a w→K a (Go.Proofs.YtolgebdmffcemaaGreatDoor.re w T d))(h:OpT P ops i K a w)(hn:∀a' w',K a' w' →QV P fn ops rest Q a' w'):QV P fn ops (i::rest) Q a w:=by
 rcases h with h|⟨o,f,args,a0,a1,R,h1,h2,h3,h4,h5,h6,h7,h8⟩
 ·refine qW (l1:=[i]) (l2:=rest) hP K hK (fun T d=> ?_) hn
  rw[wpOps_cons];exact wpOp_mono (fun a w hk=>⟨rfl,hk⟩) (Fq (h T d))
 ·exact ky hP h1 h2 (fun W=>run_call_body h3 h4 h5 h6) h7 fun v w' hv=>hn _ _ (h8 v w' hv)
theorem Fk {j:Nat}{oi oj:Oper}{v:Value}(hj:ops[j]? =some oj)(a0:oi.apart ops oj=true)(a1:∀cs b,oi.op≠ .select cs b)(a4:∀cs b,oj.op≠ .select cs b){K:Act→World→Prop}
  (hy:YieldsIf P ops S oi v a)(h:OpT P ops j K (a.put oi.dst v) w):OpT P ops j (fun a' w' =>YieldsIf P ops S oi v a' ∧K (a'.put oi.dst v) w') a w:=by
 rcases h with h|⟨o,f,args,a2,a3,R,h1,h2,h3,h4,h5,h6,h7,h8⟩
 ·exact .inl fun T d=>wpOp_putIf hj a0 a1 a4 (fun _ _ _ h=>h) hy (h T d)
 ·obtain⟨p1,p2,p3⟩:=Oper.apart_spec a0
  rw[hj]at h1;obtain rfl:=Option.some.inj h1;refine .inr ⟨oj,f,args,a2,a3,R,hj,by rw[←wanted_put oj a oi.dst v p1];exact h2,h3,h4,h5,h6,?_,fun u w' hp=>⟨hy.of_same (execOp_put oi a1 a oj.dst u p3) (wanted_put oi a oj.dst u p3),by rw[←Act.put_comm a v u p2];exact h8 u w' hp⟩⟩;rw[VJ]at h7
  ·exact h7
  ·intro d hd x hx e
   subst e;refine p1 d hd (List.mem_append_left _ (List.mem_filterMap.2 ⟨.tmp d,?_,rfl⟩));simp only[h3,Op.operands,Call.operands];exact Array.mem_toList_iff.2 (Array.mem_append.2 (.inr hx))
def xe (P:Program)(ops:Array Oper)(Q:Exit→Act→World→Prop)(S:World→Prop):Nat→Array Bool→Act→World→Prop
 |0,listed,a,w=>Region.ready .any ops listed=[]∧Q .normal a w
 |n+1,listed,a,w=>(Region.ready .any ops listed=[]→Q .normal a w)∧∀i∈Region.ready .any ops listed,OpT P ops i (fun a' w' =>S w' ∧xe P ops Q S n (listed.setIfInBounds i true) a' w') a w
theorem xe.re (hQ:ReC Q):∀{n:Nat} {a0:Array Bool} {a:Act} {w:World},xe P ops Q S n a0 a w→∀T d,xe P ops Q S n a0 a (Go.Proofs.YtolgebdmffcemaaGreatDoor.re w T d)
 |0,_,_,_,h,T,d=>⟨h.1,hQ _ _ _ T d h.2⟩
 |_+1,_,_,_,h,T,d=>⟨fun e=>hQ _ _ _ T d (h.1 e),fun i hi=>(h.2 i hi).re T d⟩
theorem xe.go (hP:zH P)(hQ:ReC Q)(hS:∀w T d,S w→S (Go.Proofs.YtolgebdmffcemaaGreatDoor.re w T d)):∀{n:Nat} {a0:Array Bool} {a:Act} {w:World},xe P ops Q S n a0 a w→∀t,QV P fn ops (Region.linearise.go .any ops n t a0 []) Q a w
 |0,a0,a,w,h,t=>by simpa[Region.linearise.go]using Xz hP h.2
 |n+1,a0,a,w,h,t=>by
  simp only[Region.linearise.go];change QV P fn ops (match(Region.ready .any ops a0)[t % (Region.ready .any ops a0).length]? with
   |some i=>Region.linearise.go .any ops n (t/(Region.ready .any ops a0).length) (a0.setIfInBounds i true) [i]
   |none=> [].reverse) Q a w
  cases hi:(Region.ready .any ops a0)[t % (Region.ready .any ops a0).length]? with
  |none=>
   have a1:Region.ready .any ops a0=[]:=by
    cases hr:Region.ready .any ops a0 with
    |nil=>rfl
    |cons x xs=>
     rw[hr]at hi;have a2:t % (x::xs).length<(x::xs).length:=Nat.mod_lt _ (by simp);simp at hi;simp at a2;omega
   exact Xz hP (h.1 a1)
  |some i=>
   simp only[];rw[linearise_go_acc,List.reverse_singleton,List.singleton_append];exact(h.2 i (List.mem_of_getElem? hi)).run hP (fun a w T d hk=>⟨hS _ T d hk.1,hk.2.re hQ T d⟩) fun a' w' hk=>xe.go hP hQ hS hk.2 _
theorem xe.first {i:Nat}{oi:Oper}{v:Value}(hQ:ReC Q)(a6:∀w T d,S w→S (Go.Proofs.YtolgebdmffcemaaGreatDoor.re w T d))(hi:ops[i]? =some oi)(a5:∀(j:Nat) (o:Oper) cs b,ops[j]? =some o→o.op≠ .select cs b):
  ∀(n:Nat) (a0:Array Bool) (a:Act) (w:World),
   (∀j oj,ops[j]? =some oj→j≠i→a0.getD j true=false→(∀e∈oj.after,Region.binds .any e=true→e.on≠i)→oi.apart ops oj=true)→
   i∈Region.ready .any ops a0→YieldsIf P ops S oi v a→S w→
   xe P ops Q S n (a0.setIfInBounds i true) (a.put oi.dst v) w→xe P ops Q S (n+1) a0 a w:=by
 intro n;induction n with
 |zero=>
  intro a0 a w _ hr hy hS H;refine⟨fun h=>(by rw[h]at hr;cases hr),fun j hj=> ?_⟩;by_cases a2:j=i
  ·subst a2;exact .inl fun T d=>hy.wpOp hi (a6 _ T d hS) ⟨a6 _ T d hS,H.re hQ T d⟩
  ·have:=ready_mono hj a2
   rw[H.1]at this
   cases this
 |succ n ih=>
  intro a0 a w a1 hr hy hS H;refine⟨fun h=>(by rw[h]at hr;cases hr),fun j hj=> ?_⟩;by_cases a2:j=i
  ·subst a2;exact .inl fun T d=>hy.wpOp hi (a6 _ T d hS) ⟨a6 _ T d hS,H.re hQ T d⟩
  ·have h1:=H.2 j (ready_mono hj a2)
   obtain⟨a4,oj,a9,a7⟩:=mem_ready.1 hj;have a8:∀e∈oj.after,Region.binds .any e=true→e.on≠i:=fun e he hb b3=>by
    have h1:=a7 e he hb;have h0:=(mem_ready.1 hr).1;rw[b3]at h1;rcases Nat.lt_or_ge i a0.size with h' |h'
    ·simp[h']at h0 h1;rw[h0]at h1;cases h1
    ·simp[Array.getElem?_eq_none h']at h1
   have h2:=Fk a9 (a1 j oj a9 a2 a4 a8) (fun cs b=>a5 i oi cs b hi) (fun cs b=>a5 j oj cs b a9) hy h1;have a3 :∀k ok,ops[k]? =some ok→k≠i→(a0.setIfInBounds j true).getD k true=false→
     (∀e∈ok.after,Region.binds .any e=true→e.on≠i)→oi.apart ops ok=true:=fun k ok hk b4 b2 b5=>by
    refine a1 k ok hk b4 ?_ b5;by_cases b1:j=k
    ·subst b1;exact a4
    ·rw[getD_set_ne true b1]at b2;exact b2
   refine OpT.mono (fun a' w' h3=>⟨h3.2.1,ih (a0.setIfInBounds j true) a' w' a3 (ready_mono hr (Ne.symm a2)) h3.1 h3.2.1 ?_⟩) h2;rw[Array.setIfInBounds_comm _ _ a2];exact h3.2.2
theorem zh {i:Nat}{oi:Oper}{v:Value}{n:Nat}{a0:Array Bool}(hQ:ReC Q)(a1:∀w T d,S w→S (Go.Proofs.YtolgebdmffcemaaGreatDoor.re w T d))(hi:ops[i]? =some oi)(hs:Region.noSelect ops=true)(hf:Region.free .any ops a0 i=true)(hr:(Region.ready .any ops a0).contains i=true)(hw:Region.wanted oi (yielded ops a.tmps)=true)
  (hv:∀(W:World),S W→∀(K:Result Next→Prop),K (.ok (.value v) W)→K ((execOp a.eval oi).run P W))(hS:S w)(h:xe P ops Q S n (a0.setIfInBounds i true) (a.put oi.dst v) w):xe P ops Q S (n+1) a0 a w:=
 xe.first hQ a1 hi (Region.noSelect_spec hs) n a0 a w (Region.free_spec hi hf) (by simpa using hr) (.inl ⟨hw,fun W hW=>hv W hW (·= .ok (.value v) W) rfl⟩) hS h
theorem anyT_all {rs:List Nat}{n:Nat}{a0:Array Bool}(hr:Region.ready .any ops a0=rs)(a1:rs≠ [])(h:∀i∈rs,OpT P ops i (fun a' w' =>S w' ∧xe P ops Q S n (a0.setIfInBounds i true) a' w') a w):xe P ops Q S (n+1) a0 a w:=
 ⟨fun h0=>absurd (hr▸h0) a1,hr▸h⟩
theorem anyT_one {i:Nat}{n:Nat}{a0:Array Bool}(hr:Region.ready .any ops a0=[i])(h:OpT P ops i (fun a' w' =>S w' ∧xe P ops Q S n (a0.setIfInBounds i true) a' w') a w):xe P ops Q S (n+1) a0 a w:=
 anyT_all hr (by simp) fun j hj=>by
  obtain rfl:j=i:=by simpa using hj
  exact h
theorem Y7 {i:Nat}{n:Nat}{a0:Array Bool}{o:Oper}{f:FuncId}{args:Array Operand}{a3:Array TypeId}{vals:Array Value}{a2:Func}{R:Value→World→Prop}(hr:Region.ready .any ops a0=[i])(ho:ops[i]? =some o)(hw:Region.wanted o (yielded ops a.tmps)=true)(a5:o.op= .call {callee:= .value (.func f),args,argTypes:=a3})(hv:args.map a.eval=vals)
  (hf:P.funcs[f]? =some a2)(a1:(a2.name== "runtime.NumGoroutine")=false)(a4:a2.body.isNone=false)(hc:zO P f vals w R)(hn:∀v w',R v w' →S w' ∧xe P ops Q S n (a0.setIfInBounds i true) (a.put o.dst v) w'):xe P ops Q S (n+1) a0 a w:=
 anyT_one hr (.inr ⟨o,f,args,a3,a2,R,ho,hw,a5,hf,a1,a4,hv▸hc,hn⟩)
theorem anyT_op {i:Nat}{n:Nat}{a0:Array Bool}(hr:Region.ready .any ops a0=[i])(h:∀T d,wpOp P ops NoQ i (fun a' w' =>S w' ∧xe P ops Q S n (a0.setIfInBounds i true) a' w') a (re w T d)):xe P ops Q S (n+1) a0 a w:=anyT_one hr (.inl h)
theorem C5 {i:Nat}{n:Nat}{a0:Array Bool}{o:Oper}(hr:Region.ready .any ops a0=[i])(ho:ops[i]? =some o)(hw:Region.wanted o (yielded ops a.tmps)=true)
  (h:∀T d,∃v w',(execOp a.eval o).run P (re w T d)= .ok (.value v) w' ∧S w' ∧xe P ops Q S n (a0.setIfInBounds i true) (a.put o.dst v) w'):xe P ops Q S (n+1) a0 a w:=
 anyT_op hr fun T d=>by
  obtain⟨v,w',h1,h2,h3⟩:=h T d;unfold wpOp;simp only[ho,hw,if_true];refine .inl ?_;unfold Oper.wp;rw[h1];exact⟨h2,h3⟩
theorem YF {a0:Array Bool}(hr:Region.ready .any ops a0=[])(h:Q .normal a w):∀n,xe P ops Q S n a0 a w
 |0=>⟨hr,h⟩
 |_+1=>⟨fun _=>h,fun i hi=>by rw[hr]at hi;cases hi⟩
theorem Vb (hP:zH P)(hm:P.follows .mixedOrders=true)(hQ:ReC Q)(S:World→Prop)(hS:∀w T d,S w→S (Go.Proofs.YtolgebdmffcemaaGreatDoor.re w T d)){id:Nat}(h:xe P ops Q S ops.size (lO ops.size false) a w):wpT P fn (.region id ops true) Q a w:=by
 intro b k cs Z hF hO hb hc;refine(ToE.lone (Q:=fun g w' =>∃t,g=G (b.at a (.inRegion ops (Region.linearise.go .any ops ops.size t (lO ops.size false) [])::k)) cs∧∃T d,w' =Go.Proofs.YtolgebdmffcemaaGreatDoor.re w T d) hP (fun g w' T d ⟨t,e,T',d',e'⟩=>⟨t,e,T,d,by rw[e'];rfl⟩) (hO.cons (by trivial)).fit (fun T d=>⟨1,G (b.at a (.inRegion ops (Region.linearise.go .any ops ops.size (T d (.order b.fn id)) (lO ops.size false) [])::k)) cs,Go.Proofs.YtolgebdmffcemaaGreatDoor.re w T (d+1),?_,⟨_,rfl,T,d+1,rfl⟩,rfl,rfl⟩)).trans fun g w' ⟨⟨t,e,T,d,e'⟩,_⟩=> ?_
 ·simp only[runN]
  rw[show step P (solo (G (b.at a (.code (.region id ops true)::k)) cs) (Go.Proofs.YtolgebdmffcemaaGreatDoor.re w T d))=_ from step_lone_go (stepG_region_draw (main:=true))];simp only[Region.schedule,hm,Bool.true_or,if_true];rfl
 ·subst e e'
  exact(h.go hP hQ hS t b k cs Z hF hO hb hc).rt T d
end
