import Derived.RangeFuncNested
import Derived.RangeFuncBound
import Derived.RangeFuncLeaves
import Derived.Laws.World
import Derived.Deep.Draws
set_option linter.all false
set_option maxHeartbeats 20000000
set_option maxRecDepth 1000000
open Go renaming World→eX
open Go.World renaming alloc_heap_new→aY,putObj_heap_same→aZ,putObj_heap_other→DB
open Array renaming getElem?_eq_some_iff→lE
namespace Go.Proofs.YtolgebdmffcemaaGreatDoor
open Go Go.RowKit
def qf (X:Nat→Prop)(W W' :eX):Prop:=∀b,X b→W'.heap[b]? =W.heap[b]?
theorem qf.trans {X:Nat→Prop}{A B C:eX}(h:qf X A B)(k:qf X B C):qf X A C:=fun b hb=>(k b hb).trans (h b hb)
theorem qf.cell {X:Nat→Prop}{W W' :eX}(h:qf X W W'){b:Nat}(hb:X b)(i:Nat):W'.cell? ⟨b,i,none⟩=W.cell? ⟨b,i,none⟩:=World.cell?_of_block (a:=⟨b,i,none⟩) (h b hb)
theorem qf.frozen {X:Nat→Prop}{W W' :eX}(h:qf X W W'){b:Nat}(hb:X b)(i:Nat):W'.frozen? ⟨b,i,none⟩=W.frozen? ⟨b,i,none⟩:=by unfold World.frozen?;simp only[h b hb]
def dq (F:Fence)(n:Nat)(P:Program)(gf:Nat)(lb:Array Value)(N:Nat)(encs:Nat→Array Value)(X:Nat→Prop)(Bx:Nat)(w0:eX):Prop:=
 ∀(l:Nat) (J:Nat→eX→Prop),(∀k W v,J k W→J k (W.setCell ⟨Bx,0,none⟩ v))→(∀k W q,J k W→J k (W.drewN q))→
  (∀k W,k<N→J k W→YieldAt F (n-1) P l (encs k) W fun e W' =>e= .returned (.bool true)∧J (k+1) W' ∧qf X W W')→
  ∀W,J 0 W→qf X w0 W→
  CallsIn F n P gf (#[.func (.yield l) #[] #[]]++lb) W fun e W' =>(∃v,e= .returned v)∧J N W'
structure Bh (w:eX)(Bx:Nat)(I:Nat→eX→Prop):Prop where
 put:∀k W l o,I k W→(l=w.heap.size∨l=w.heap.size+1)→I k (W.putObj l o)
 new:∀o o',I 0 ((w.alloc o).alloc o')
 box:∀k W v,I k W→I k (W.setCell ⟨Bx,0,none⟩ v)
 drew:∀k W q,I k W→I k (W.drewN q)
theorem JP {F:Fence}{n:Nat}{P:Program}{g:Operand}{ps:Array Tmp}{assign body:Code}{Q:Exit→Act→eX→Prop}{a:Act}{w:eX}
  (c8:F.round=none)(h1:1≤n){gf:Nat}{lb:Array Value}(hg:a.eval g= .func (.func gf) #[] lb)(b5:F.fn gf)(eg:∀args w,(callFunc gf args).run P w= .ok (.enter gf args) w)
  {N:Nat}{a2:Nat→Array Value}{X:Nat→Prop}{Bx:Nat}(b1:dq F (n-1) P gf lb N a2 X Bx w)(c9:Bx<w.heap.size)(hX:∀b,X b→b<w.heap.size)
  (c7:∀k,(a2 k).size=ps.size)(I:Nat→eX→Prop)(hI:Bh w Bx I)(a₁:Nat→Act)
  (a4:∀(l k:Nat) (W:eX) (K:Act→eX→Prop),K (a₁ k) W→
   assign.wpIn (F.inRound l) (n-1-1) P (Exit.then K (fun _ _ _=>False)) {tmps:=(ps.zip (a2 k)).foldl (fun t (p,v)=>t.setIfInBounds p v) a.tmps,defers:=[]} W)
  (a6:∀(l k:Nat) (W:eX),k<N→w.heap.size+1<W.heap.size→I k W→body.wpIn (F.inRound l) (n-1-1) P (fun ex _ W' =>ex= .normal∧I (k+1) W' ∧qf X W W' ∧KeepsFrom w.heap.size W W') (a₁ k) W)
  (a7:∀(D:Nat) (W:eX),D=w.heap.size→I N W→W.heap[D]? =some (.deferred (some []))→Q .normal {a with defers:={target:= .collected D,args:= #[]}::a.defers} W):
  (Code.rangeFunc g ps assign body).wpIn F n P Q a w:=by
 refine wpIn_rangeFunc fun fn b9=> ?_
 rw[c8];obtain⟨a1,a0⟩:∃a1:LoopState→Option Code→Loop,a1=fun st pe=>{state:=st,pending:=pe,fn,tmps:=a.tmps,params:=ps,assign,body,defers:=w.heap.size}:=⟨_,rfl⟩
 obtain⟨W1,a5⟩:∃W1,(w.alloc (.deferred (some []))).alloc (.loop (a1 .ready none))=W1:=⟨_,rfl⟩
 have b7:W1.heap[w.heap.size+1]? =some (.loop (a1 .ready none)):=by
  rw[←a5];have:=aY (w.alloc (.deferred (some []))) (.loop (a1 .ready none));rwa[World.size_alloc]at this
 have b4:W1.heap[w.heap.size]? =some (.deferred (some [])):=by
  rw[←a5];exact(Below.heap_alloc _ _ _ (by simp)).trans (aY w _)
 have b8:qf X w W1:=fun b hb=>by
  have:=hX b hb;rw[←a5];exact(Below.heap_alloc _ _ _ (by simp;omega)).trans (Below.heap_alloc _ _ _ this)
 have b6:I 0 W1:=by rw[←a5];exact hI.new _ _
 refine⟨w.heap.size+1,[{target:= .collected w.heap.size,args:= #[]}],W1,{target:= .fn (.func gf) lb,args:= #[.func (.yield (w.heap.size+1)) #[] #[]]},W1,gf,
  #[.func (.yield (w.heap.size+1)) #[] #[]]++lb,W1,?_,?_,?_,?_,fun _=>h1,?_⟩
 ·rw[←a5,a0];exact run_enterLoop_outer _ _ _ _ _
 ·simp only[resolve,hg]
  simp[go_sem]
 ·intro f' b2;simp[Target.leads]at b2;subst b2;exact b5
 ·simp[invoke,go_sem,eg]
 ·refine(b1 (w.heap.size+1) (fun k W=>I k W∧W.heap[w.heap.size+1]? =some (.loop (a1 .ready none))∧W.heap[w.heap.size]? =some (.deferred (some []))) ?_ ?_ ?_ W1 ⟨b6,b7,b4⟩ b8).mono ?_
  ·rintro k W v ⟨i1,i2,i3⟩
   exact⟨hI.box k W v i1,(Below.heap_setCell W ⟨Bx,0,none⟩ v _ (by show _≠Bx;omega)).trans i2,(Below.heap_setCell W ⟨Bx,0,none⟩ v _ (by show _≠Bx;omega)).trans i3⟩
  ·rintro k W q ⟨i1,i2,i3⟩
   exact⟨hI.drew k W q i1,i2,i3⟩
  ·rintro k W c6 ⟨i1,i2,i3⟩
   have b3:w.heap.size+1<W.heap.size:=(lE.1 i2).1;have hy:=run_yield (P:=P) (args:=a2 k) i2 (by rw[a0];exact c7 k);rw[a0]at hy;refine⟨fn,_,assign,body,hy,roundIn_of_wpIn b9 (a4 _ k W _ ?_)⟩;clear hy;refine⟨_,run_beginRound i2 (by rw[a0]),?_⟩;have j2:(W.putObj (w.heap.size+1) (.loop {a1 .ready none with state:= .busy})).heap[w.heap.size+1]? =some (.loop {a1 .ready none with state:= .busy}):=aZ b3;have j3:(W.putObj (w.heap.size+1) (.loop {a1 .ready none with state:= .busy})).heap[w.heap.size]? =some (.deferred (some [])):=(DB (by omega)).trans i3;have jX:qf X W (W.putObj (w.heap.size+1) (.loop {a1 .ready none with state:= .busy})):=fun b hb=>DB (by have:=hX b hb;omega)
   refine wpIn_mono (a6 _ k _ c6 (by simpa using b3) (hI.put k W _ _ i1 (.inr rfl))) ?_;rintro e a3 W3 ⟨rfl,q1,q2,q3⟩;have l3:=q3.same _ _ (by omega) j2 rfl;have d3:=q3.same _ _ (Nat.le_refl _) j3 rfl;have a8:=run_endRound (P:=P) none l3;have a9:=(lE.1 l3).1;refine⟨_,_,a8,rfl,⟨hI.put _ _ _ _ q1 (.inr rfl),?_,(DB (by omega)).trans d3⟩,(jX.trans q2).trans (fun b hb=>DB (by have:=hX b hb;omega))⟩;rw[aZ a9,a0];rfl
  ·rintro e W2 ⟨⟨v,rfl⟩,i1,i2,i3⟩
   exact⟨none,_,by have:=run_endLoop (P:=P) i2 (by rw[a0];simp);rw[a0]at this;exact this,a7 _ _ rfl (hI.put _ _ _ _ i1 (.inr rfl)) ((DB (by omega)).trans i3)⟩
