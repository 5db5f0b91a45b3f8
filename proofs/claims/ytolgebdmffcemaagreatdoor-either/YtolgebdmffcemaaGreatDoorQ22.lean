import Derived.Test.YtolgebdmffcemaaGreatDoorQ21
import Derived.RangeFuncNested
import Derived.RangeFuncBound
import Derived.RangeFuncLeaves
import Derived.Laws.World
import Derived.Deep.Draws
set_option linter.all false
set_option maxHeartbeats 20000000
set_option maxRecDepth 1000000
open Go.World renaming alloc_heap_new→wQ,putObj_heap_same→wR,putObj_heap_other→wS
open Array renaming getElem?_eq_some_iff→iL
namespace Go.Proofs.YtolgebdmffcemaaGreatDoor
open Go Go.RowKit
namespace R
def Abc (n:List UInt8):Prop:=n=[97]∨n=[98]∨n=[99]
theorem Lived.works {st:St}(hl:Lived st)(hi:Inv st):∀b∈st.brs,b.work=treeOf st b.head:=by
 intro b hb;have hn:b.name∈([[97],[98],[99]]:List (List UInt8)):=by rw[←hl.liv.names];exact List.mem_map.2 ⟨b,hb,rfl⟩
 have ha:Abc b.name:=by
  simp only[List.mem_cons,List.not_mem_nil,or_false]at hn;exact hn
 obtain⟨f1,_⟩:=hl.liv.fnd ha;obtain⟨i,a0,he⟩:=List.getElem_of_mem hb;have a1:fnd st.brs b.name=i:=by
  rcases Nat.lt_trichotomy (fnd st.brs b.name) i with h|h|h
  ·have:=(Zx _ _).1 hi.sort _ _ f1 a0 h
   rw[fnd_name,he,zm]at this
   cases this
  ·exact h
  ·have:=(Zx _ _).1 hi.sort _ _ a0 f1 h
   rw[fnd_name,he,zm]at this
   cases this
 have hg:st.brs[fnd st.brs b.name]? =some b:=by rw[a1,j0d a0,he]
 have hc:=hl.com b.name ha;unfold Com workOf headOf at hc;rw[hg]at hc;exact(OkT.inj (hi.work b hb) (Ys hi _)).1 hc
theorem Lived.open_ {st:St}(hl:Lived st)(hi:Inv st):∃rs,OkRs bg0 rs∧runs bg0 rs=st∧st.packed=bytesRs rs:=by
 obtain⟨rs,h1,h2,h3⟩:=hl.pack;exact⟨rs,h1,by rw[h2,F0 (hl.works hi)],h3⟩
structure Two (st:St)(a b:List UInt8)(x y:Nat):Prop where
 fa:fnd st.brs a<st.brs.length
 fb:fnd st.brs b<st.brs.length
 ca:Com st a
 cb:Com st b
 ha:headOf st a=x
 hb:headOf st b=y
section
variable {st:St}{a b:List UInt8}{x y:Nat}
theorem Two.swap (h:Two st a b x y):Two st b a y x:=⟨h.fb,h.fa,h.cb,h.ca,h.hb,h.ha⟩
theorem UC {l:List Br}{n:List UInt8}(h:fnd l n<l.length):¬fndI l n<0:=by unfold fndI;rw[if_pos h];omega
theorem Two.join (h:Two st a b x y):joinB st a b=joinH st a x y:=by
 unfold joinB;rw[if_neg (by intro e;rcases e with e|e;exact UC h.fa e;exact UC h.fb e),if_neg (fun e=>e h.ca),h.ha,h.hb]
theorem Two.shown (h:Two st a b x y):shown st a=(Written (treeOf st x),0):=by
 unfold R.shown;rw[if_neg (UC h.fa),show Written (workOf st a)=_ from h.ca,h.ha]
theorem Two.head (h:Two st a b x y)(a0:b≠a)(n:Nat):Two (setHead st a n) a b n y:=by
 obtain⟨e1,e2⟩:=Vm st a n h.fa;obtain⟨e3,e4⟩:=QY st a b n h.fa a0 h.fb;have hl:(setHead st a n).brs.length=st.brs.length:=by simp[setHead]
 refine⟨by rw[Xl,hl];exact h.fa,by rw[Xl,hl];exact h.fb,?_,?_,e2,e4.trans h.hb⟩
 ·show Written (workOf (setHead st a n) a)=Written (treeOf st (headOf (setHead st a n) a))
  rw[e1,e2]
 ·show Written (workOf (setHead st a n) b)=Written (treeOf st (headOf (setHead st a n) b))
  rw[e3,e4];exact h.cb
theorem Two.down (h:Two st a b x y)(hi:Inv st)(a0:b≠a)(c:Cm):Two (down st a c) a b (st.cms.length+1) y:=by
 have h1:Two (keepC st c) a b x y:=by
  refine⟨h.fa,h.fb,?_,?_,h.ha,h.hb⟩
  ·show Written (workOf st a)=Written (treeOf (keepC st c) (headOf st a))
   rw[xo st c _ (Zh hi a)];exact h.ca
  ·show Written (workOf st b)=Written (treeOf (keepC st c) (headOf st b))
   rw[xo st c _ (Zh hi b)];exact h.cb
 exact h1.head a0 (st.cms.length+1)
end
theorem ko (st:St)(a:List UInt8)(c:Cm):treeOf (down st a c) (st.cms.length+1)=c.tree:=by
 show treeOf (keepC st c) (st.cms.length+1)=_;unfold treeOf keepC;rw[if_neg (by omega)];simp
theorem Lived.two {st:St}(hl:Lived st){a b:List UInt8}(ha:Abc a)(hb:Abc b):Two st a b (headOf st a) (headOf st b):=
 ⟨(hl.liv.fnd ha).1,(hl.liv.fnd hb).1,hl.com a ha,hl.com b hb,rfl,rfl⟩
theorem either_facts {st:St}(hl:Lived st)(hi:Inv st){a b:List UInt8}(ha:Abc a)(hb:Abc b):
  ∃(n m e:Int) (s1 t1:St) (u v:List UInt8),joinB st a b=((n,e),s1)∧joinB st b a=((m,e),t1)∧shown s1 a=(u,0)∧shown t1 b=(v,0)∧
   ((e≠0∧n=0∧m=0∧s1.packed=t1.packed)∨(e=0∧u=v∧∃(o:Int) (s2:St),joinB s1 a b=((n,0),s1)∧joinB s1 b a=((o,0),s2)∧shown s2 b=(u,0)∧treeAt s2 o=(u,0))):=by
 have T:=hl.two ha hb;have a4:=hl.liv.headOf T.fa;have a8:=hl.liv.headOf T.fb;have a1:=Zh hi a;have a5:=Zh hi b;have a7:=hl.len;generalize headOf st a=x at*;generalize headOf st b=y at*;have hw:=hi.wf;by_cases m1:mark st.cms x y=true
 ·have j1:joinB st a b=(((x:Int),0),st):=by rw[T.join];unfold joinH;rw[if_pos (.inr m1)]
  by_cases m2:mark st.cms y x=true
  ·have a2:x=y:=by have:=qn hw x y m1;have:=qn hw y x m2;omega
   subst a2;have j2:joinB st b a=(((x:Int),0),st):=by rw[T.swap.join];unfold joinH;rw[if_pos (.inr m2)]
   exact⟨_,_,_,_,_,_,_,j1,j2,T.shown,T.swap.shown,.inr ⟨rfl,rfl,_,_,j1,j2,T.swap.shown,Qq a4 a1⟩⟩
  ·have a0:a≠b:=by
    intro e;subst e;have:x=y:=T.ha.symm.trans T.hb;subst this;exact m2 m1
   have j2:joinB st b a=(((x:Int),0),setHead st b x):=by
    rw[T.swap.join];unfold joinH;rw[if_neg (by intro e;rcases e with e|e;omega;exact m2 e),if_pos (.inr m1)]
   have T2:=T.swap.head a0 x;exact⟨_,_,_,_,_,_,_,j1,j2,T.shown,T2.shown,.inr ⟨rfl,rfl,_,_,j1,j2,T2.shown,Qq (st:=setHead st b x) a4 a1⟩⟩
 ·have a2:x≠y:=Gx (by omega) m1
  have a0:b≠a:=by
   intro e;subst e;exact a2 (T.ha.symm.trans T.hb)
  by_cases m2:mark st.cms y x=true
  ·have j1:joinB st a b=(((y:Int),0),setHead st a y):=by
    rw[T.join];unfold joinH;rw[if_neg (by intro e;rcases e with e|e;omega;exact m1 e),if_pos (.inr m2)]
   have j2:joinB st b a=(((y:Int),0),st):=by rw[T.swap.join];unfold joinH;rw[if_pos (.inr m2)]
   have T1:=T.head a0 y;have ms:mark (setHead st a y).cms y y=true:=Yx y (by omega);have j3:joinB (setHead st a y) a b=(((y:Int),0),setHead st a y):=by rw[T1.join];unfold joinH;rw[if_pos (.inr ms)]
   have j4:joinB (setHead st a y) b a=(((y:Int),0),setHead st a y):=by rw[T1.swap.join];unfold joinH;rw[if_pos (.inr ms)]
   exact⟨_,_,_,_,_,_,_,j1,j2,T1.shown,T.swap.shown,.inr ⟨rfl,rfl,_,_,j3,j4,T1.swap.shown,Qq (st:=setHead st a y) a8 a5⟩⟩
  ·have a6:=gX hi x y a1 a5
   have j1:joinB st a b=joinN st a x y:=by
    rw[T.join];unfold joinH;rw[if_neg (by intro e;rcases e with e|e;omega;exact m1 e),if_neg (by intro e;rcases e with e|e;omega;exact m2 e)]
   have j2:joinB st b a=joinN st b y x:=by
    rw[T.swap.join];unfold joinH;rw[if_neg (by intro e;rcases e with e|e;omega;exact m2 e),if_neg (by intro e;rcases e with e|e;omega;exact m1 e)]
   unfold joinN at j1 j2;rw[←a6]at j2;by_cases he:(joinC st.cms x y).2≠0
   ·rw[if_pos he]at j1 j2
    exact⟨_,_,_,_,_,_,_,j1,j2,T.shown,T.swap.shown,.inl ⟨he,rfl,rfl,rfl⟩⟩
   ·rw[if_neg he,if_neg (by omega)]at j1 j2
    have T1:=T.down hi a0 {tree:=(joinC st.cms x y).1,parents:=[x,y]};have T2:=T.swap.down hi a0.symm {tree:=(joinC st.cms x y).1,parents:=[y,x]};have iv:=QA hi a b;rw[j1]at iv;have hN:(down st a {tree:=(joinC st.cms x y).1,parents:=[x,y]}).cms=st.cms++ [{tree:=(joinC st.cms x y).1,parents:=[x,y]}]:=rfl;have a3:=iv.wf;have a9:(down st a {tree:=(joinC st.cms x y).1,parents:=[x,y]}).cms.length=st.cms.length+1:=by rw[hN];simp
    have mN:mark (down st a {tree:=(joinC st.cms x y).1,parents:=[x,y]}).cms (st.cms.length+1) y=true:=by
     refine kA (parsC _) a3.lt _ _ (st.cms.length+1) (by omega) (by show _≤(down st a {tree:=(joinC st.cms x y).1,parents:=[x,y]}).cms.length;omega) (Yx (st.cms.length+1) (by omega)) y ?_;show y∈parsC (down st a {tree:=(joinC st.cms x y).1,parents:=[x,y]}).cms (st.cms.length+1);rw[hN];unfold parsC;simp
    have mY:¬mark (down st a {tree:=(joinC st.cms x y).1,parents:=[x,y]}).cms y (st.cms.length+1)=true:=fun e=>by
     have:=qn a3 y _ e;omega
    have s1:=T1.shown;rw[ko]at s1;have s2:=T2.shown;rw[ko]at s2;have j3:joinB (down st a {tree:=(joinC st.cms x y).1,parents:=[x,y]}) a b=((((st.cms.length+1:Nat):Int),0),down st a {tree:=(joinC st.cms x y).1,parents:=[x,y]}):=by
     rw[T1.join];unfold joinH;rw[if_pos (.inr mN)]
    have j4:joinB (down st a {tree:=(joinC st.cms x y).1,parents:=[x,y]}) b a=((((st.cms.length+1:Nat):Int),0),setHead (down st a {tree:=(joinC st.cms x y).1,parents:=[x,y]}) b (st.cms.length+1)):=by
     rw[T1.swap.join];unfold joinH;rw[if_neg (by intro e;rcases e with e|e;omega;exact mY e),if_pos (.inr mN)]
    have T3:=T1.swap.head a0.symm (st.cms.length+1);have s3:=T3.shown;have e3:treeOf (setHead (down st a {tree:=(joinC st.cms x y).1,parents:=[x,y]}) b (st.cms.length+1)) (st.cms.length+1)=(joinC st.cms x y).1:=ko st a {tree:=(joinC st.cms x y).1,parents:=[x,y]};rw[e3]at s3;have s4:=Qq (st:=setHead (down st a {tree:=(joinC st.cms x y).1,parents:=[x,y]}) b (st.cms.length+1)) (k:=st.cms.length+1) (by omega) (by show _≤(down st a {tree:=(joinC st.cms x y).1,parents:=[x,y]}).cms.length;omega);rw[e3]at s4;exact⟨_,_,_,_,_,_,_,j1,j2,s1,s2,.inr ⟨rfl,rfl,_,_,j3,j4,s3,s4⟩⟩
end R
def dm (q:List UInt8):Prop:=R.whole q=false∨(R.whole q=true∧(q.getD 0 0).toNat≠67∧(q.getD 0 0).toNat≠66∧(q.getD 0 0).toNat≠68)
namespace R
end R
def q9 (X:Nat→Prop)(W W' :World):Prop:=∀b,X b→W'.heap[b]? =W.heap[b]?
theorem q9.trans {X:Nat→Prop}{A B C:World}(h:q9 X A B)(k:q9 X B C):q9 X A C:=fun b hb=>(k b hb).trans (h b hb)
theorem q9.cell {X:Nat→Prop}{W W' :World}(h:q9 X W W'){b:Nat}(hb:X b)(i:Nat):W'.cell? ⟨b,i,none⟩=W.cell? ⟨b,i,none⟩:=World.cell?_of_block (a:=⟨b,i,none⟩) (h b hb)
theorem q9.frozen {X:Nat→Prop}{W W' :World}(h:q9 X W W'){b:Nat}(hb:X b)(i:Nat):W'.frozen? ⟨b,i,none⟩=W.frozen? ⟨b,i,none⟩:=by unfold World.frozen?;simp only[h b hb]
def BN (F:Fence)(n:Nat)(P:Program)(gf:Nat)(lb:Array Value)(N:Nat)(encs:Nat→Array Value)(X:Nat→Prop)(Bx:Nat)(w0:World):Prop:=
 ∀(l:Nat) (J:Nat→World→Prop),(∀k W v,J k W→J k (W.setCell ⟨Bx,0,none⟩ v))→(∀k W q,J k W→J k (W.drewN q))→
  (∀k W,k<N→J k W→YieldAt F (n-1) P l (encs k) W fun e W' =>e= .returned (.bool true)∧J (k+1) W' ∧q9 X W W')→
  ∀W,J 0 W→q9 X w0 W→
  CallsIn F n P gf (#[.func (.yield l) #[] #[]]++lb) W fun e W' =>(∃v,e= .returned v)∧J N W'
structure bO (w:World)(Bx:Nat)(I:Nat→World→Prop):Prop where
 put:∀k W l o,I k W→(l=w.heap.size∨l=w.heap.size+1)→I k (W.putObj l o)
 new:∀o o',I 0 ((w.alloc o).alloc o')
 box:∀k W v,I k W→I k (W.setCell ⟨Bx,0,none⟩ v)
 drew:∀k W q,I k W→I k (W.drewN q)
theorem JP {F:Fence}{n:Nat}{P:Program}{g:Operand}{ps:Array Tmp}{assign body:Code}{Q:Exit→Act→World→Prop}{a:Act}{w:World}
  (c8:F.round=none)(h1:1≤n){gf:Nat}{lb:Array Value}(hg:a.eval g= .func (.func gf) #[] lb)(b5:F.fn gf)(eg:∀args w,(callFunc gf args).run P w= .ok (.enter gf args) w)
  {N:Nat}{a2:Nat→Array Value}{X:Nat→Prop}{Bx:Nat}(b1:BN F (n-1) P gf lb N a2 X Bx w)(c9:Bx<w.heap.size)(hX:∀b,X b→b<w.heap.size)
  (c7:∀k,(a2 k).size=ps.size)(I:Nat→World→Prop)(hI:bO w Bx I)(a₁:Nat→Act)
  (a4:∀(l k:Nat) (W:World) (K:Act→World→Prop),K (a₁ k) W→
   assign.wpIn (F.inRound l) (n-1-1) P (Exit.then K (fun _ _ _=>False)) {tmps:=(ps.zip (a2 k)).foldl (fun t (p,v)=>t.setIfInBounds p v) a.tmps,defers:=[]} W)
  (a6:∀(l k:Nat) (W:World),k<N→w.heap.size+1<W.heap.size→I k W→body.wpIn (F.inRound l) (n-1-1) P (fun ex _ W' =>ex= .normal∧I (k+1) W' ∧q9 X W W' ∧KeepsFrom w.heap.size W W') (a₁ k) W)
  (a7:∀(D:Nat) (W:World),D=w.heap.size→I N W→W.heap[D]? =some (.deferred (some []))→Q .normal {a with defers:={target:= .collected D,args:= #[]}::a.defers} W):
  (Code.rangeFunc g ps assign body).wpIn F n P Q a w:=by
 refine wpIn_rangeFunc fun fn b9=> ?_
 rw[c8];obtain⟨a1,a0⟩:∃a1:LoopState→Option Code→Loop,a1=fun st pe=>{state:=st,pending:=pe,fn,tmps:=a.tmps,params:=ps,assign,body,defers:=w.heap.size}:=⟨_,rfl⟩
 obtain⟨W1,a5⟩:∃W1,(w.alloc (.deferred (some []))).alloc (.loop (a1 .ready none))=W1:=⟨_,rfl⟩
 have b7:W1.heap[w.heap.size+1]? =some (.loop (a1 .ready none)):=by
  rw[←a5];have:=wQ (w.alloc (.deferred (some []))) (.loop (a1 .ready none));rwa[World.size_alloc]at this
 have b4:W1.heap[w.heap.size]? =some (.deferred (some [])):=by
  rw[←a5];exact(Below.heap_alloc _ _ _ (by simp)).trans (wQ w _)
 have b8:q9 X w W1:=fun b hb=>by
  have:=hX b hb;rw[←a5];exact(Below.heap_alloc _ _ _ (by simp;omega)).trans (Below.heap_alloc _ _ _ this)
 have b6:I 0 W1:=by rw[←a5];exact hI.new _ _
 refine⟨w.heap.size+1,[{target:= .collected w.heap.size,args:= #[]}],W1,{target:= .fn (.func gf) lb,args:= #[.func (.yield (w.heap.size+1)) #[] #[]]},W1,gf,
  #[.func (.yield (w.heap.size+1)) #[] #[]]++lb,W1,?_,?_,?_,?_,fun _=>h1,?_⟩
 ·rw[←a5,a0];exact run_enterLoop_outer _ _ _ _ _
 ·simp only[resolve,hg]
  simp[go_sem]
 ·intro f' b2;simp[Target.leads]at b2;subst b2;exact b5
 ·simp[invoke,go_sem,eg]
 ·refine(b1 (w.heap.size+1) (fun k W=>I k W∧W.heap[w.heap.size+1]? =some (.loop (a1 .ready none))∧W.heap[w.heap.size]? =some (.deferred (some []))) ?_ ?_ ?_ W1 ⟨b6,b7,b4⟩ b8).mono ?_
  ·rintro k W v ⟨i1,i2,i3⟩
   exact⟨hI.box k W v i1,(Below.heap_setCell W ⟨Bx,0,none⟩ v _ (by show _≠Bx;omega)).trans i2,(Below.heap_setCell W ⟨Bx,0,none⟩ v _ (by show _≠Bx;omega)).trans i3⟩
  ·rintro k W q ⟨i1,i2,i3⟩
   exact⟨hI.drew k W q i1,i2,i3⟩
  ·rintro k W c6 ⟨i1,i2,i3⟩
   have b3:w.heap.size+1<W.heap.size:=(iL.1 i2).1;have hy:=run_yield (P:=P) (args:=a2 k) i2 (by rw[a0];exact c7 k);rw[a0]at hy;refine⟨fn,_,assign,body,hy,roundIn_of_wpIn b9 (a4 _ k W _ ?_)⟩;clear hy;refine⟨_,run_beginRound i2 (by rw[a0]),?_⟩;have j2:(W.putObj (w.heap.size+1) (.loop {a1 .ready none with state:= .busy})).heap[w.heap.size+1]? =some (.loop {a1 .ready none with state:= .busy}):=wR b3;have j3:(W.putObj (w.heap.size+1) (.loop {a1 .ready none with state:= .busy})).heap[w.heap.size]? =some (.deferred (some [])):=(wS (by omega)).trans i3;have jX:q9 X W (W.putObj (w.heap.size+1) (.loop {a1 .ready none with state:= .busy})):=fun b hb=>wS (by have:=hX b hb;omega)
   refine wpIn_mono (a6 _ k _ c6 (by simpa using b3) (hI.put k W _ _ i1 (.inr rfl))) ?_;rintro e a3 W3 ⟨rfl,q1,q2,q3⟩;have l3:=q3.same _ _ (by omega) j2 rfl;have d3:=q3.same _ _ (j0a _) j3 rfl;have a8:=run_endRound (P:=P) none l3;have a9:=(iL.1 l3).1;refine⟨_,_,a8,rfl,⟨hI.put _ _ _ _ q1 (.inr rfl),?_,(wS (by omega)).trans d3⟩,(jX.trans q2).trans (fun b hb=>wS (by have:=hX b hb;omega))⟩;rw[wR a9,a0];rfl
  ·rintro e W2 ⟨⟨v,rfl⟩,i1,i2,i3⟩
   exact⟨none,_,by have:=run_endLoop (P:=P) i2 (by rw[a0];simp);rw[a0]at this;exact this,a7 _ _ rfl (hI.put _ _ _ _ i1 (.inr rfl)) ((wS (by omega)).trans i3)⟩
