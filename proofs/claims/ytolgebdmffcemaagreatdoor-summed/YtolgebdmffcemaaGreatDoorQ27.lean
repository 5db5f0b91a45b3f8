import Derived.Test.YtolgebdmffcemaaGreatDoorQ26
import Derived.Lib.RowBridge
import Derived.Lib.OwnBridge
set_option linter.all false
set_option maxHeartbeats 20000000
set_option maxRecDepth 1000000
namespace Go.Proofs.YtolgebdmffcemaaGreatDoor
open Go.RowKit
theorem ft (b o t:List R.Leaf)(hb:OkT b)(ho:OkT o)(ht:OkT t):(R.allP b o t).length≤72:=by
 rw[←jy hb ho ht];refine j0f (Lib.compact_length_le _) ?_;rw[List.length_mergeSort,List.length_map,List.length_append,List.length_append];have:=hb.few;have:=ho.few;have:=ht.few;omega
theorem gx {b o t:List R.Leaf}{k:Nat}(hk:k<(R.allP b o t).length)(h:∀p∈(R.allP b o t).take k,(R.valJ b o t p).2=0)(he:(R.valJ b o t (R.allP b o t)[k]).2≠0):R.joinT b o t=([],(R.valJ b o t (R.allP b o t)[k]).2):=by
 have e:=Fm k hk h he;unfold R.joinT R.joinP;rw[e,if_pos he]
theorem gw {b o t:List R.Leaf}(h:∀p∈R.allP b o t,(R.valJ b o t p).2=0):R.joinT b o t=R.endJ (R.outJ b o t (R.allP b o t)):=by
 unfold R.joinT R.joinP;rw[Fl h,if_neg (by simp)]
theorem f_ (x:R.Leaf)(p:List UInt8):pk {x with path:=p}=pk x:=rfl
theorem It.grown {wE w5:World}{M:Nat→Prop}{s s' :Value}{n:Nat}(h:(s'.ownBlock=s.ownBlock∧wE.grownBy w5 s.ownBlock)∨(s'.ownBlock=some n∧wE.grownBy w5 none))(hn:wE.heap.size=n){q:R.Leaf×Value}(hq:It wE (fun b=>M b∨s.ownBlock=some b) q):It w5 (fun b=>M b∨s'.ownBlock=some b) q:=by
 rcases h with⟨h1,h2⟩|⟨h1,h2⟩
 ·refine Rd.step hq (O:=fun b=>s.ownBlock=some b) ⟨h2.os,h2.tape,h2.output,h2.size,fun k hk hn=>h2.block k hk (fun e=>hn e.symm)⟩ (fun b hb=> .inr hb) (fun b hb=> .inl ?_)
  rw[h1]at hb;exact hb
 ·refine Rd.step hq (O:=fun _=>False) ⟨h2.os,h2.tape,h2.output,h2.size,fun k hk _=>h2.block k hk (by simp)⟩ (fun b hb=>hb.elim) (fun b hb=> ?_)
  rcases hb with hb|hb
  ·exact .inl (.inl hb)
  ·rw[h1]at hb;injection hb with hb;exact .inr (by omega)
theorem Below.grown' {n m:Nat}{w wE w5:World}{s s' :Value}(h:(s'.ownBlock=s.ownBlock∧wE.grownBy w5 s.ownBlock)∨(s'.ownBlock=some m∧wE.grownBy w5 none))(hb:Below n w wE)(hn:n≤wE.heap.size)(ho:∀g,s.ownBlock=some g→n≤g):Below n w w5:=by
 rcases h with⟨_,h2⟩|⟨_,h2⟩
 ·exact hb.grown h2 hn ho
 ·exact hb.grown h2 hn (fun g e=>by cases e)
theorem fX {w:World}{base:Nat}{M N:Nat→Prop}{v:Value}{L:List (R.Leaf×Value)}{t:List R.Leaf}(hL:L.map (·.1)=t)(ho:w.ownsRow base 139 5 v L.length (zD L))(hM:∀b,M b→b<base)(hN:∀b,M b→N b)(hI:∀q∈L,It w N q):PT w M v t:=
 ⟨L,hL,Rd.of_owns ho hM,fun q hq=>Rd.step (hI q hq) (zh.refl (fun _=>False) w) (fun _ e=>e.elim) (fun b hb=> .inl (hN b hb))⟩
theorem gH (ba oa ta:Option Addr)(bc oc tc:Nat)(b o t:List R.Leaf)(w:World)(M:Nat→Prop)(hM:∀b,M b→b<w.heap.size)(hb:PT w M (.slice ba b.length bc) b)(ho:PT w M (.slice oa o.length oc) o)(ht:PT w M (.slice ta t.length tc) t)(a8:OkT b)(a9:OkT o)(b1:OkT t)
  (HP:∀(W:World) (b0:Nat),Below w.heap.size w W→b0<W.heap.size→W.cell? ⟨b0,0,none⟩=some (.slice ba b.length bc)→W.cell? ⟨b0,1,none⟩=some (.slice oa o.length oc)→W.cell? ⟨b0,2,none⟩=some (.slice ta t.length tc)→
   Calls Tryz.prog 137 #[.slice (some ⟨b0,0,none⟩) 3 3] W fun e w' =>∃a c,e= .returned (.slice a (R.allP b o t).length c)∧Below W.heap.size W w' ∧w'.ownsRow W.heap.size 9 1 (.slice a (R.allP b o t).length c) (R.allP b o t).length ((R.allP b o t).map S)):
  Calls Tryz.prog 87 #[.slice ba b.length bc,.slice oa o.length oc,.slice ta t.length tc] w fun e w' =>∃va vc,e= .returned (.tuple #[.slice va (R.joinT b o t).1.length vc,.int .i64 (R.joinT b o t).2])∧PT w' M (.slice va (R.joinT b o t).1.length vc) (R.joinT b o t).1∧Below w.heap.size w w' :=by
 have i1:∀(p:List UInt8) (W:World) (N:Nat→Prop),Below w.heap.size w W→(∀b,N b→M b∨w.heap.size≤b)→Calls Tryz.prog 94 #[.slice ba b.length bc,.string ⟨p.toArray⟩] W fun e w' =>∃ia ic,e= .returned (Q1 (R.at_ b p) (.slice ia (R.at_ b p).items.length ic))∧It W N (R.at_ b p,.slice ia (R.at_ b p).items.length ic)∧Below W.heap.size W w' :=fun p W N hW hN=>oR _ b p W N (PT.step hb (zh.of_below (M:=fun _=>False) hW) (fun _ e=>e.elim) hN) (by have:=a8.few;omega) a8.sort
 have i2:∀(p:List UInt8) (W:World) (N:Nat→Prop),Below w.heap.size w W→(∀b,N b→M b∨w.heap.size≤b)→Calls Tryz.prog 94 #[.slice oa o.length oc,.string ⟨p.toArray⟩] W fun e w' =>∃ia ic,e= .returned (Q1 (R.at_ o p) (.slice ia (R.at_ o p).items.length ic))∧It W N (R.at_ o p,.slice ia (R.at_ o p).items.length ic)∧Below W.heap.size W w' :=fun p W N hW hN=>oR _ o p W N (PT.step ho (zh.of_below (M:=fun _=>False) hW) (fun _ e=>e.elim) hN) (by have:=a9.few;omega) a9.sort
 have i3:∀(p:List UInt8) (W:World) (N:Nat→Prop),Below w.heap.size w W→(∀b,N b→M b∨w.heap.size≤b)→Calls Tryz.prog 94 #[.slice ta t.length tc,.string ⟨p.toArray⟩] W fun e w' =>∃ia ic,e= .returned (Q1 (R.at_ t p) (.slice ia (R.at_ t p).items.length ic))∧It W N (R.at_ t p,.slice ia (R.at_ t p).items.length ic)∧Below W.heap.size W w' :=fun p W N hW hN=>oR _ t p W N (PT.step ht (zh.of_below (M:=fun _=>False) hW) (fun _ e=>e.elim) hN) (by have:=b1.few;omega) b1.sort
 have i7:∀(p:List UInt8) (xa ya za:Option Addr) (xc yc zc:Nat) (W:World) (N:Nat→Prop),(∀b,N b→b<W.heap.size)→It W N (R.at_ b p,.slice xa (R.at_ b p).items.length xc)→It W N (R.at_ o p,.slice ya (R.at_ o p).items.length yc)→It W N (R.at_ t p,.slice za (R.at_ t p).items.length zc)→Calls Tryz.prog 138 #[Q1 (R.at_ b p) (.slice xa (R.at_ b p).items.length xc),Q1 (R.at_ o p) (.slice ya (R.at_ o p).items.length yc),Q1 (R.at_ t p) (.slice za (R.at_ t p).items.length zc)] W fun e w' =>
   ∃ia ic,e= .returned (.tuple #[Q1 (R.valJ b o t p).1 (.slice ia (R.valJ b o t p).1.items.length ic),.int .i64 (R.valJ b o t p).2])∧It w' N ((R.valJ b o t p).1,.slice ia (R.valJ b o t p).1.items.length ic)∧Below W.heap.size W w' :=fun p xa ya za xc yc zc W N hN ix iy iz=>jg _ _ _ xa ya za xc yc zc p W N hN (vW a8.ok p) (vW a9.ok p) (vW b1.ok p) ix iy iz
 have e9:Hid (∀ps,(∀p∈ps,(R.valJ b o t p).2=0)→∀x∈R.outJ b o t ps,x.path.length≤1000):=fun ps h x hx=>by
  have:=(Ol a8 a9 b1 h x hx).1.good.path;omega
 have f3:Hid (∀p,(R.valJ b o t p).2=0→(R.valJ b o t p).1.kind≠0→(pk (R.valJ b o t p).1 !=0)=true):=fun p h1 h2=>by
  rcases KE (vW a8.ok p) (vW a9.ok p) (vW b1.ok p) h1 with h|⟨h,_⟩
  ·exact(h2 h).elim
  ·unfold R.valJ
   rcases h.kinds with h|h|h<;>simp[pk,h]
 have j8:=ft b o t a8 a9 b1;have f5:Hid (∀k (hk:k<(R.allP b o t).length),R.outJ b o t ((R.allP b o t).take (k+1))=R.outJ b o t ((R.allP b o t).take k)++R.leafJ b o t (R.allP b o t)[k]):=fun k hk=>g9 b o t _ k hk
 have a3:Hid (∀k (hk:k<(R.allP b o t).length),(∀p∈(R.allP b o t).take k,(R.valJ b o t p).2=0)→(R.valJ b o t (R.allP b o t)[k]).2≠0→R.joinT b o t=([],(R.valJ b o t (R.allP b o t)[k]).2)):=fun k hk=>gx hk
 have a4:Hid ((∀p∈R.allP b o t,(R.valJ b o t p).2=0)→R.joinT b o t=R.endJ (R.outJ b o t (R.allP b o t))):=gw;have d7:=z8 i1;have d8:=z8 i2;have d9:=z8 i3;have e6:=z8 i7;have d5:=z8 HP;clear i1 i2 i3 i7 HP hb ho ht a8 a9 b1;generalize R.allP b o t=ps at*;go_enter Tryz.func87,Tryz.ntmps87;go_wp2_with fail
 refine(d5.out _ _ ((j0g _ _).alloc (j0a _) _) (by simp) (by simp) (by simp) (by simp)).mono ?_;rintro e w1 ⟨pa,pc,rfl,f7,i8⟩;have k1:=f7.size;simp only[World.size_alloc]at k1;have g3:Hid (Below w.heap.size w w1):=((j0g _ _).alloc (j0a _) _).trans (f7.mono (by simp));obtain⟨a1,c1,k2,k9,j9,b8,a0⟩:=zn i8;injection k2 with e1 e2 e3
 subst e1 e3;have f6:=z8 a0;have a6:=z8 b8;unfold maxLen at j9;clear i8 a0 b8 f7 d5 e2;go_wp2_with fail
 go_loopw [8,19] (fun s i wr=>∃(k:Nat) (L:List (R.Leaf×Value)),k≤ps.length∧i= .int .i64 k∧(∃va vc,s= .slice va L.length vc)∧L.length≤k∧L.map (·.1)=R.outJ b o t (ps.take k)∧wr.ownsRow w1.heap.size 139 5 s L.length (zD L)∧(∀q∈L,It wr (fun b=>M b∨s.ownBlock=some b) q)∧(∀p∈ps.take k,(R.valJ b o t p).2=0)∧Below w1.heap.size w1 wr) (fun _ i _=>ps.length-(intOf i).toNat)
 case atStart=>exact⟨0,[],Nat.zero_le _,rfl,⟨none,0,rfl⟩,j0a _,rfl,World.ownsRow_nil _ _ _ _,(fun q hq=>by cases hq),(fun p hp=>by simp at hp),j0g _ _⟩
 case round=>
  obtain⟨k,L,hk,rfl,⟨va,vc,rfl⟩,k7,hL,ho,hI,hz,hb⟩:=hrel;have l3:=hb.size;have HO:=z8 ho;have f0:Hid (∀g,(Value.slice va L.length vc).ownBlock=some g→w1.heap.size≤g∧g<wr.heap.size):=ho.lt;have d4:Hid (∀b,(fun b=>M b∨(Value.slice va L.length vc).ownBlock=some b) b→M b∨w.heap.size≤b):=fun b hb=>by
   rcases hb with hb|hb
   ·exact .inl hb
   ·have:=f0.out b hb;exact .inr (by omega)
  have g7:Hid (∀W:World,wr.heap.size≤W.heap.size→∀b,(fun b=>M b∨(Value.slice va L.length vc).ownBlock=some b) b→b<W.heap.size):=fun W hW b hb=>by
   rcases hb with hb|hb
   ·have:=hM b hb;omega
   ·have:=f0.out b hb;omega
  have j3:Hid (∀b,M b→(fun b=>M b∨(Value.slice va L.length vc).ownBlock=some b) b):=fun b hb=> .inl hb
  have HI:=z8 hI;have e7:=z8 hL;have HZ:=z8 hz;have HB:=z8 hb;have c9:Hid (Below w.heap.size w wr):=g3.out.trans (hb.mono (by omega));by_cases a7:k<ps.length
  ·cases pa with
   |none=>have:=(a6.out rfl).1;omega
   |some ad=>
   obtain⟨g,rfl,k8,j6,j5,i6⟩:=f6.out ad rfl;have e0:wr.cell? ⟨g,k,none⟩=some (.string ⟨(ps[k]'a7).toArray⟩):=(hb.cell (p:=⟨g,k,none⟩) j6).trans (i6 k _ (by rw[List.getElem?_map,j0d a7];rfl));have h5:=z8 (f5.out k a7);have j0:=z8 (a3.out k a7 hz);have h8:Hid ((R.valJ b o t (ps[k]'a7)).2=0→∀p∈ps.take (k+1),(R.valJ b o t p).2=0):=fun h p hp=>by
    rw[List.take_succ_eq_append_getElem a7]at hp;rcases List.mem_append.1 hp with hp|hp
    ·exact HZ.out p hp
    ·rw[List.mem_singleton]at hp;rw[hp];exact h
   clear i6 j5 f6 a6 f5 a3 a4 e9 ho hI hL hz hb;generalize ps[k]'a7=p at*;generalize i0:(fun b=>M b∨(Value.slice va L.length vc).ownBlock=some b)=N at*;have g8:=z8 i0;clear i0;go_wp2_with fail
   refine(d7.out p _ N c9.out d4.out).mono ?_;rintro e wa ⟨xa,xc,rfl,ix,f9⟩;have c6:Hid (Below wr.heap.size wr wa):=f9;have b4:Hid (It wa N (R.at_ b p,.slice xa (R.at_ b p).items.length xc)):=Rd.below ix f9;clear ix f9 e0;go_wp2_with fail
   refine(d8.out p _ N (c9.out.trans (c6.out.mono (by omega))) d4.out).mono ?_;rintro e wb ⟨ya,yc,rfl,iy,d6⟩;have c7:Hid (Below wr.heap.size wr wb):=c6.out.trans (d6.mono c6.out.size);have b5 :Hid (It wb N (R.at_ b p,.slice xa (R.at_ b p).items.length xc)):=Rd.below b4.out d6;have g5:Hid (It wb N (R.at_ o p,.slice ya (R.at_ o p).items.length yc)):=Rd.below iy d6;clear iy d6 b4 c6;go_wp2_with fail
   refine(d9.out p _ N (c9.out.trans (c7.out.mono (by omega))) d4.out).mono ?_;rintro e wc ⟨za,zc,rfl,iz,b7⟩;have c8:Hid (Below wr.heap.size wr wc):=c7.out.trans (b7.mono c7.out.size);have b4:Hid (It wc N (R.at_ b p,.slice xa (R.at_ b p).items.length xc)):=Rd.below b5.out b7;have b6 :Hid (It wc N (R.at_ o p,.slice ya (R.at_ o p).items.length yc)):=Rd.below g5.out b7;have g6:Hid (It wc N (R.at_ t p,.slice za (R.at_ t p).items.length zc)):=Rd.below iz b7;clear iz b7 b5 g5 c7;go_wp2_with fail
   refine(e6.out p xa ya za xc yc zc _ N (g7.out _ c8.out.size) b4.out b6.out g6.out).mono ?_;rintro e wd ⟨ia,ic,rfl,id,i4⟩;have b3:Hid (Below wr.heap.size wr wd):=c8.out.trans (i4.mono c8.out.size);have j2:=z8 id;have l0:=b3.out.size;clear id i4 b4 b6 g6 c8 d7 d8 d9 e6;generalize k4:Q1 (R.at_ b p) (.slice xa (R.at_ b p).items.length xc)=A1 at*;generalize k5:Q1 (R.at_ o p) (.slice ya (R.at_ o p).items.length yc)=A2 at*;generalize k6:Q1 (R.at_ t p) (.slice za (R.at_ t p).items.length zc)=A3 at*;clear k4 k5 k6;have d3:Hid (R.leafJ b o t p=if(R.valJ b o t p).1.kind=0 then []else [{(R.valJ b o t p).1 with path:=p}]):=rfl;have d5:=z8 (f3.out p);unfold Q1;clear f3;generalize R.valJ b o t p=vj at*;have h3:Hid (wd.ownsRow w1.heap.size 139 5 (.slice va L.length vc) L.length (zD L)):=Zi HO.out b3.out;have g4:Hid (∀q∈L,It wd N q):=fun q hq=>Rd.below (HI.out q hq) b3.out
   have a2:Hid (Below w1.heap.size w1 wd):=HB.out.trans (b3.out.mono (by omega));clear HO HI HB b3;by_cases he:vj.2=0
   ·have q1:(vj.2 !=0)=false:=by simp[he]
    have HE:=z8 he;by_cases b2:vj.1.kind=0
    ·have q2:(pk vj.1 !=0)=false:=by simp[pk,b2]
     rw[if_pos b2]at d3;clear he b2;go_wp2;go_roundw
     case rel=>
      refine⟨k+1,L,by omega,by go_num,⟨va,vc,rfl⟩,by omega,?_,h3.out.alloc _,fun q hq=> ?_,h8.out HE.out,a2.out.alloc (by omega) _⟩
      ·rw[h5.out,d3.out,List.append_nil];exact e7.out
      ·have:=g4.out q hq
       rw[←g8.out]at this;exact Rd.below this ((j0g _ _).alloc (j0a _) _)
     case measure=>simp[intOf];omega
    ·have q2:(pk vj.1 !=0)=true:=d5.out he b2
     rw[if_neg b2]at d3;clear he b2;go_wp2_with (at_builtin;go_loud (refine qb _ (by rfl) _ _ 93 (by rfl) w1.heap.size 139 (.agg #[.string ⟨#[]⟩,.int .i64 0,.int .i64 0,.string ⟨#[]⟩,.slice none 0 0]) 5 72 Tryz.underlying93 Tryz.info139 (by rfl) (by decide) ((h3.out.alloc _).alloc _) _ 1 1 _ (by rfl) (yQ _ _ _) (by rfl) (by rw[World.size_alloc];rfl) (by intro u hu;simp at hu;rcases hu with rfl|rfl|rfl|rfl|rfl<;>rfl) (by unfold maxLen;omega) (by omega) (by simp;omega) ?_))
     intro v' w5 g1 g0;have j4:=z8 g1;have i9:Hid (Below w1.heap.size w1 w5):=Below.grown' g0 ((a2.out.alloc (by omega) _).alloc (by simp;omega) _) (by simp;omega) (fun g hg=>(f0.out g hg).1);have j1:Hid (∀q∈L++ [({vj.1 with path:=p},.slice ia vj.1.items.length ic)],It w5 (fun b=>M b∨v'.ownBlock=some b) q):=fun q hq=>by
      refine It.grown g0 (by simp) ?_;rw[g8.out];have i5:Below wd.heap.size wd ((wd.alloc (Obj.cells #[.int .i64 (pk vj.1),.int .i64 vj.1.n,.string ⟨vj.1.text.toArray⟩,.slice ia vj.1.items.length ic] 137)).alloc (Obj.cells #[.string ⟨p.toArray⟩,.int .i64 (pk vj.1),.int .i64 vj.1.n,.string ⟨vj.1.text.toArray⟩,.slice ia vj.1.items.length ic] 139)):=((j0g _ _).alloc (j0a _) _).alloc (by simp) _;rcases List.mem_append.1 hq with hq|hq
      ·exact Rd.below (g4.out q hq) i5
      ·rw[List.mem_singleton]at hq
       subst hq;exact Rd.below j2.out i5
     obtain⟨a5,c5,k3,_⟩:=zn g1;subst k3;clear g1 g0;go_wp2;go_roundw
     case rel=>
      refine⟨k+1,L++ [({vj.1 with path:=p},.slice ia vj.1.items.length ic)],by omega,by go_num,⟨a5,c5,by simp⟩,by simp;omega,?_,?_,j1.out,h8.out HE.out,i9.out⟩
      ·rw[List.map_append,h5.out,d3.out,e7.out];rfl
      ·rw[UF,f_];simpa using j4.out
     case measure=>simp[intOf];omega
   ·have q1:(vj.2 !=0)=true:=by simp[he]
    have HE:=z8 (j0.out he);clear he;go_wp2;go_ret2;rw[HE.out];exact⟨none,0,rfl,⟨[],rfl,⟨none,0,rfl,j0a _,by unfold maxLen;omega,fun h=>absurd h (Nat.lt_irrefl _)⟩,fun q hq=>by cases hq⟩,g3.out.trans ((a2.out.alloc (by omega) _).mono (by omega))⟩
  ·have j7:k=ps.length:=by omega
   subst j7;rw[List.take_length]at hL hz;have HJ:=z8 (a4.out hz);have g2:PT wr M (.slice va L.length vc) (R.outJ b o t ps):=fX hL ho (fun b hb=>by have:=hM b hb;omega) (fun b hb=> .inl hb) hI;have h7:=z8 (gG _ _ wr M g2 (e9.out ps hz));have h4:=z8 g2;have e8:Hid (L.length=(R.outJ b o t ps).length):=by show _=_;rw[←hL,List.length_map]
   clear f6 a6 f5 a3 a4 e9 ho hI hL hz hb g2 d7 d8 d9 e6 f3 e7 HZ HI d4 g7 j3;have HU:Hid (R.endJ (R.outJ b o t ps)=if R.tangled (R.outJ b o t ps)=true then([],7)else if 24<L.length then([],4)else(R.outJ b o t ps,0)):=by show _=_;rw[e8.out];rfl
   generalize R.outJ b o t ps=ot at*;go_wp2_with fail
   refine h7.out.mono ?_;rintro e w2 ⟨rfl,f8⟩;have a2:Hid (Below w.heap.size w w2):=c9.out.trans (f8.mono (by omega));have f4:Hid (PT w2 M (.slice va L.length vc) ot):=h4.out.below f8;clear f8 h7 h4;have h0:Hid (PT w2 M (.slice none 0 0) []):=⟨[],rfl,⟨none,0,rfl,j0a _,by unfold maxLen;omega,fun h=>absurd h (Nat.lt_irrefl _)⟩,fun q hq=>by cases hq⟩
   cases b9:R.tangled ot
   ·rw[b9,if_neg (by simp)]at HU
    by_cases h9:24<L.length
    ·rw[if_pos h9]at HU
     clear b9;go_wp2;go_ret2;rw[HJ.out,HU.out];exact⟨none,0,rfl,h0.out,a2.out⟩
    ·rw[if_neg h9]at HU
     clear b9;go_wp2;go_ret2;rw[HJ.out,HU.out];refine⟨va,vc,?_,?_,a2.out⟩
     ·show _=Ending.returned (.tuple #[.slice va ot.length vc,.int .i64 0])
      rw[←e8.out];rfl
     ·show PT w2 M (.slice va ot.length vc) ot
      rw[←e8.out];exact f4.out
   ·rw[b9,if_pos rfl]at HU
    clear b9;go_wp2;go_ret2;rw[HJ.out,HU.out];exact⟨none,0,rfl,h0.out,a2.out⟩
theorem Jm {w:World}{base:Nat}{e:TypeId}{size:Nat}{v:Value}{n:Nat}{xs:List Value}(h:w.ownsRow base e size v n xs)(os:Array Obj):(Sort.grow w os).ownsRow base e size v n xs:=by
 refine⟨h.1,?_⟩;rcases h.2 with h|⟨g,cap,a0,h1,h2,h3,h4⟩
 ·exact .inl h
 ·refine .inr ⟨g,cap,a0,h1,h2,?_,h4⟩
  have hg:=(Array.getElem?_eq_some_iff.1 h3).1;rw[←h3];show(w.heap++os)[g]? =_;rw[Array.getElem?_append_left hg]
theorem UI {B:Nat}{w0 w:World}(h:Below B w0 w)(os:Array Obj)(hB:B≤w.heap.size):Below B w0 (Sort.grow w os):=
 ⟨h.os,h.tape,h.output,j0f h.size (by show _≤(w.heap++os).size;simp),fun k hk=>by
  rw[←h.block k hk];show(w.heap++os)[k]? =_;rw[Array.getElem?_append_left (by omega)]⟩
theorem Ot (l:List (List UInt8)):l.map S=l.map Go.Proofs.encStr:=rfl
theorem fO {base:Nat}{w0 w:World}{v:Value}{l:List (List UInt8)}(hB:base≤w.heap.size)(hb:Below base w0 w)(hl:l.length≤100000)(h:w.ownsRow base 9 1 v l.length (l.map S)):
  Calls Tryz.prog 183 #[v] w fun e w' =>e= .returned (.tuple #[])∧Below base w0 w' ∧w'.ownsRow base 9 1 v l.length ((l.mergeSort fun x y=>decide (x≤y)).map S):=by
 by_cases hv:v= .slice none 0 0
 ·subst hv
  have h0:l=[]:=by
   rcases h.2 with⟨_,h0⟩|⟨g,cap,a1,e,_⟩
   ·exact List.length_eq_zero_iff.1 h0
   ·cases e
  subst h0;exact(Tryz.slices_Sort_string_none none 0 w).mono fun e w' ⟨h1,h2⟩=>⟨h1,by rw[h2];exact hb,by rw[h2];simpa using h⟩
 ·rw[Ot]at h
  obtain⟨g,cap,rfl,hg,a0,hn,hm,_,hH⟩:=Lib.holds_of_ownsRow h hv;refine(Tryz.slices_Sort_string g 0 cap l w hH a0 (by omega)).mono ?_;rintro e w' ⟨rfl,q,os,rfl⟩;have hs:(l.mergeSort fun x y=>decide (x≤y)).length=l.length:=List.length_mergeSort ..;have h1:=Lib.ownsRow_putRow (q:=q) (k:=l.length) (ys:=l.mergeSort fun x y=>decide (x≤y)) h hs (j0a _);rw[List.take_of_length_le (by omega)]at h1;exact⟨rfl,UI (Lib.below_putRow (q:=q) hb hg) os (by simpa[Sort.putRow,Sort.mapBlock,Sort.ahead]using hB),Jm h1 os⟩
theorem oe {base:Nat}{w0 w:World}{v:Value}{l:List (List UInt8)}(hb:Below base w0 w)(hl:l.length≤100000)(h:w.ownsRow base 9 1 v l.length (l.map S)):
  Calls Tryz.prog 184 #[v] w fun e w' =>∃a c,e= .returned (.slice a (Lib.compact l).length c)∧Below base w0 w' ∧w'.ownsRow base 9 1 (.slice a (Lib.compact l).length c) (Lib.compact l).length ((Lib.compact l).map S):=by
 by_cases hv:v= .slice none 0 0
 ·subst hv
  have h0:l=[]:=by
   rcases h.2 with⟨_,h0⟩|⟨g,cap,a0,e,_⟩
   ·exact List.length_eq_zero_iff.1 h0
   ·cases e
  subst h0;exact(Tryz.slices_Compact_string_empty none 0 w).mono fun e w' ⟨h1,h2⟩=>⟨none,0,h1,by rw[h2];exact hb,by rw[h2];exact h⟩
 ·rw[Ot]at h
  obtain⟨g,cap,rfl,hg,a1,hn,hm,_,hH⟩:=Lib.holds_of_ownsRow h hv;refine(Tryz.slices_Compact_string g 0 cap l w hH (by omega) hn).mono ?_;rintro e w' ⟨rfl,q,rfl⟩;have hc:=Lib.compact_length_le l;have h1:=Lib.ownsRow_putRow (q:=q) (k:=(Lib.compact l).length) (ys:=Lib.compact l++List.replicate (l.length-(Lib.compact l).length) []) h (by simp;omega) hc;rw[List.take_left' rfl]at h1;exact⟨_,cap,rfl,Lib.below_putRow (q:=q) hb hg,h1⟩
theorem Ue (ba oa ta:Option Addr)(bc oc tc:Nat)(b o t:List R.Leaf)(w:World)(M:Nat→Prop)(hM:∀b,M b→b<w.heap.size)(hb:PT w M (.slice ba b.length bc) b)(ho:PT w M (.slice oa o.length oc) o)(ht:PT w M (.slice ta t.length tc) t)(a0:OkT b)(a1:OkT o)(a2:OkT t):
  Calls Tryz.prog 87 #[.slice ba b.length bc,.slice oa o.length oc,.slice ta t.length tc] w fun e w' =>∃va vc,e= .returned (.tuple #[.slice va (R.joinT b o t).1.length vc,.int .i64 (R.joinT b o t).2])∧PT w' M (.slice va (R.joinT b o t).1.length vc) (R.joinT b o t).1∧Below w.heap.size w w' :=by
 refine gH ba oa ta bc oc tc b o t w M hM hb ho ht a0 a1 a2 fun W b0 hW a3 c0 c1 c2=> ?_
 have e:ZF [b,o,t]=(b++(o++t)).map R.Leaf.path:=by simp[ZF]
 have hn:(ZF [b,o,t]).length≤1000:=by
  rw[e];have:=a0.few;have:=a1.few;have:=a2.few;simp only[List.length_map,List.length_append];omega
 have:=GY b0 3 [b,o,t] W M (by simp) hn a3 (fun j hj=>by
  match j,hj with
  |0,_=>exact⟨ba,bc,c0,hb.below hW⟩
  |1,_=>exact⟨oa,oc,c1,ho.below hW⟩
  |2,_=>exact⟨ta,tc,c2,ht.below hW⟩) (fun W1 v h1 h2=>fO h1.size h1 (by omega) h2) (fun W1 v h1 h2=>by
   have hl:((ZF [b,o,t]).mergeSort fun x y=>decide (x≤y)).length=(ZF [b,o,t]).length:=List.length_mergeSort ..;have h3:=oe (l:=(ZF [b,o,t]).mergeSort fun x y=>decide (x≤y)) h1 (by omega) (by rw[hl];exact h2);exact h3)
 rw[e,jy a0 a1 a2]at this;exact this
def Zg (n:Nat):Value:= .int .i64 (n:Int)
structure JO (W:World)(B b tc:Nat)(l:List Nat):Prop where
 c0:W.cell? ⟨B,0,none⟩=some (.slice (some ⟨b,0,none⟩) l.length tc)
 cs:∀j (h:j<l.length),W.cell? ⟨b,j,none⟩=some (Zg l[j])
theorem JO.move {W W' :World}{B b tc:Nat}{l:List Nat}(h:JO W B b tc l)(h1:∀p:Addr,p.block=B→W'.cell? p=W.cell? p)(h2:∀p:Addr,p.block=b→W'.cell? p=W.cell? p):JO W' B b tc l:=
 ⟨(h1 _ rfl).trans h.c0,fun j hj=>(h2 ⟨b,j,none⟩ rfl).trans (h.cs j hj)⟩
theorem vT (l:List Nat)(m:Nat):((l.map fun n:Nat=>(n:Int)).take l.length).contains (m:Int)=decide (m∈l):=by
 rw[List.take_of_length_le (by simp),Bool.eq_iff_iff,List.contains_iff_mem,decide_eq_true_eq,List.mem_map];constructor
 ·rintro⟨n,hn,e⟩
  have:n=m:=by exact_mod_cast e
  rw[←this];exact hn
 ·exact fun h=>⟨m,h,rfl⟩
theorem VQ {W:World}{B b tc:Nat}{l:List Nat}(h:JO W B b tc l)(hl:l.length≤100)(m:Nat):
  Calls Tryz.prog 84 #[.slice (some ⟨b,0,none⟩) l.length tc,.int .i64 (m:Int)] W fun e w' =>e= .returned (.bool (decide (m∈l)))∧w' =W:=by
 have:=Tryz.slices_Contains_int b 0 l.length tc (l.map fun n:Nat=>(n:Int)) m W (by simp) (by omega) (fun j hj=>by
  have a0 :j<l.length:=by simpa using hj
  rw[Nat.zero_add,h.cs j a0];simp[Zg,List.getD_eq_getElem?_getD,a0])
 rw[vT]at this;exact this
theorem gQ {W:World}{B b tc:Nat}{l:List Nat}(h:JO W B b tc l)(hl:l.length≤100)(m:Nat):
  Calls Tryz.prog 234 #[.int .i64 (m:Int),.pointer (some ⟨B,0,none⟩)] W fun e w' =>e= .returned (.bool (!decide (m∈l)))∧w' =W:=by
 have HC:=z8 (VQ h hl m);have c0:=h.c0;clear h;go_enter Tryz.func234,Tryz.ntmps234;go_wp2_with fail
 refine HC.out.mono ?_;rintro e w1 ⟨rfl,rfl⟩;go_wp2;go_ret;exact⟨rfl,rfl⟩
theorem gP {W:World}{B b tc:Nat}{l:List Nat}(h:JO W B b tc l)(hl:l.length≤100)(m:Nat):
  Calls Tryz.prog 204 #[.int .i64 (m:Int),.pointer (some ⟨B,0,none⟩)] W fun e w' =>e= .returned (.bool (decide (m∈l)))∧w' =W:=by
 have HC:=z8 (VQ h hl m);have c0:=h.c0;clear h;go_enter Tryz.func204,Tryz.ntmps204;go_wp2_with fail
 refine HC.out.mono ?_;rintro e w1 ⟨rfl,rfl⟩;go_wp2;go_ret;exact⟨rfl,rfl⟩
theorem Gk (g:Nat)(eg:∀args w,(callFunc g args).run Tryz.prog w= .ok (.enter g args) w)(p:Nat→Bool){B b tc:Nat}{l2:List Nat}
  (a1:∀W,JO W B b tc l2→∀m:Nat,Calls Tryz.prog g #[.int .i64 (m:Int),.pointer (some ⟨B,0,none⟩)] W fun e w' =>e= .returned (.bool (p m))∧w' =W)
  {w:World}{base:Nat}{v:Value}{l:List Nat}(ho:w.ownsRow base 3 1 v l.length (l.map Zg))(a0:v≠ .slice none 0 0)(hT:JO w B b tc l2)(hB:B<w.heap.size)(hb:b<w.heap.size)(a4:v.ownBlock≠some B)(a5:v.ownBlock≠some b)(hl:l.length≤100):
  Calls Tryz.prog 203 #[v,.func (.func g) #[] #[.pointer (some ⟨B,0,none⟩)]] w fun e w' =>∃gb vc,e= .returned (.slice (some ⟨gb,0,none⟩) (l.filter fun m=> !p m).length vc)∧v.ownBlock=some gb∧w'.ownsRow base 3 1 (.slice (some ⟨gb,0,none⟩) (l.filter fun m=> !p m).length vc) (l.filter fun m=> !p m).length ((l.filter fun m=> !p m).map Zg)∧zh (fun b=>v.ownBlock=some b) w w' :=by
 obtain⟨gb,cap,rfl,hg,a6,hn,hm,_,hH⟩:=Lib.holds_of_ownsRow ho a0;have h1:gb≠B:=fun e=>a4 (by rw[e];rfl)
 have h2:gb≠b:=fun e=>a5 (by rw[e];rfl)
 have hO:OneCell Zg:=fun _=>rfl
 have a2:PredAt Tryz.prog g #[.pointer (some ⟨B,0,none⟩)] Zg p w:=fun W x hW=>
  (a1 W (hT.move (fun q hq=>hW.cell (by rw[hq];exact hB)) (fun q hq=>hW.cell (by rw[hq];exact hb))) x).mono fun e w' ⟨e1,e2⟩=>⟨e1,0,e2⟩
 have a3:PredOver Tryz.prog g #[.pointer (some ⟨B,0,none⟩)] Zg p gb 0 l.toArray.size w:=fun n os dk x hd=>by
  refine(a1 _ (hT.move (fun q hq=> ?_) (fun q hq=> ?_)) x).mono fun e w' ⟨e1,e2⟩=>⟨e1,0,e2⟩
  ·show(Sort.grow (Sort.putRow Zg (Sort.ahead w n) gb 0 dk) os).cell? q=w.cell? q
   rw[Sort.cell?_grow _ _ _ (by simp[hq,hB]),Sort.cell?_putRow_other _ _ _ _ _ _ (.inl (by rw[hq];exact fun e=>h1 e.symm))];rfl
  ·show(Sort.grow (Sort.putRow Zg (Sort.ahead w n) gb 0 dk) os).cell? q=w.cell? q
   rw[Sort.cell?_grow _ _ _ (by simp[hq,hb]),Sort.cell?_putRow_other _ _ _ _ _ _ (.inl (by rw[hq];exact fun e=>h2 e.symm))];rfl
 have:=Tryz.slices_DeleteFunc Zg hO p g #[.pointer (some ⟨B,0,none⟩)] eg 0 (fun _=>by kernel_rfl) gb 0 cap l.toArray w a2 a3 hH (by simp;omega) (by simpa using hn);simp only[List.size_toArray]at this;refine this.mono ?_;rintro e w' ⟨rfl,q,rfl⟩;have hf:(l.filter fun m=> !p m).length≤l.length:=List.length_filter_le _ _;have h3:=Lib.ownsRow_putRow (q:=q) (k:=(l.filter fun m=> !p m).length) (ys:=(l.filter fun m=> !p m)++List.replicate (l.length-(l.filter fun m=> !p m).length) 0) ho (by simp;omega) hf;rw[List.take_left' rfl]at h3;refine⟨_,cap,rfl,rfl,h3,rfl,rfl,rfl,by simp,fun k hk a0=> ?_⟩;have:gb≠k:=fun e=>a0 (by rw[e];rfl)
 simp[Sort.putRow,Sort.mapBlock,Sort.ahead,Array.getElem?_modify,this]
theorem uK (l:List Nat):l.map Zg=(l.map fun n:Nat=>(n:Int)).map (Value.int .i64):=by rw[List.map_map];rfl
theorem F_ {base:Nat}{w:World}{v:Value}{l:List Nat}(hl:l.length≤100)(ho:w.ownsRow base 3 1 v l.length (l.map Zg)):
  Calls Tryz.prog 205 #[v] w fun e w' =>e= .returned (.tuple #[])∧w'.ownsRow base 3 1 v l.length (l.reverse.map Zg)∧zh (fun b=>v.ownBlock=some b) w w' :=by
 by_cases hv:v= .slice none 0 0
 ·subst hv
  have h0:l=[]:=by
   rcases ho.2 with⟨_,h0⟩|⟨g,cap,a1,e,_⟩
   ·exact List.length_eq_zero_iff.1 h0
   ·cases e
  subst h0;exact(Tryz.slices_Reverse_int_empty none 0 w).mono fun e w' ⟨h1,h2⟩=>⟨h1,by rw[h2];exact ho,by rw[h2];exact zh.refl _ _⟩
 ·rw[uK]at ho
  obtain⟨gb,cap,rfl,hg,a2,hn,hm,_,hH⟩:=Lib.holds_of_ownsRow ho hv;have:=Tryz.slices_Reverse_int gb 0 cap (l.map fun n:Nat=>(n:Int)) w hH (by simp;omega);rw[List.length_map]at this;refine this.mono ?_;rintro e w' ⟨rfl,q,rfl⟩;have h3:=Lib.ownsRow_putRow (q:=q) (k:=l.length) (ys:=(l.map fun n:Nat=>(n:Int)).reverse) ho (by simp) (j0a _);rw[List.take_of_length_le (by simp)]at h3;have h4:(l.map fun n:Nat=>(n:Int)).reverse.map (Value.int .i64)=l.reverse.map Zg:=by rw[uK];simp only[List.map_reverse]
  rw[h4]at h3;refine⟨rfl,h3,rfl,rfl,rfl,by simp,fun k hk a0=> ?_⟩;have:gb≠k:=fun e=>a0 (by rw[e];rfl)
  simp[Sort.putRow,Sort.mapBlock,Sort.ahead,Array.getElem?_modify,this]
def zZ (st:R.St)(name:List UInt8)(c:R.Cm):(Int×Int)×R.St:=if 60≤st.cms.length then((0,4),st)else((((st.cms.length+1:Nat):Int),0),R.down st name c)
theorem jU {w:World}{M O:Nat→Prop}{B:Nat}{st:R.St}{bv cv:Value}{LB:List BrP}{LCm:List (R.Cm×Value×Value)}(hP:PSx w M O B st bv cv LB LCm)(hi:Inv st)(name:List UInt8)(hf:R.fnd st.brs name<st.brs.length)(hl:R.fnd st.brs name<LB.length)(c:R.Cm)(pa:Option Addr)(pc:Nat)(ta:Option Addr)(tn tc:Nat)(c7:PT w M (.slice ta tn tc) c.tree)(c6:Rd w M (.slice pa c.parents.length pc) c.parents.length (kG c.parents))(hM:∀b,M b→b<w.heap.size)(hT:OkT c.tree)(d5:∀p∈c.parents,1≤p∧p≤st.cms.length)(h2:c.parents.length≤2)(f9:st.packed.length≤100000000000)(hG:ZO w)(h6:∀b,O b→6≤b):
  Calls Tryz.prog 58 #[.pointer (some ⟨B,0,none⟩),.pointer (some ⟨(LB[R.fnd st.brs name]'hl).2.1,0,none⟩),.agg #[.slice pa c.parents.length pc,.slice ta tn tc]] w fun e w' =>e= .returned (.tuple #[.int .i64 (zZ st name c).1.1,.int .i64 (zZ st name c).1.2])∧zU w w' M O B (zZ st name c).2:=by
 obtain⟨ca,cc,e0,e2,e3⟩:=PS.cms1 ⟨_,_,_,_,hP⟩;have f6:=hP.lt B hP.own;have b3:=hP.at_ _ (j0c hl);have a7:=hP.blk _ (j0c hl);have d4:=hP.lt _ a7.1;have b6:(LB[R.fnd st.brs name]'hl).1.name=name:=by
  have:(LB[R.fnd st.brs name]'hl).1=(st.brs[R.fnd st.brs name]'hf):=by simp only[←hP.brs,List.getElem_map]
  rw[this];exact R.fnd_name _ _ hf
 have k0:=b3.c0;rw[b6]at k0;have f8:name.length≤8:=by
  have:=Y4 _ (hi.names _ (j0c hf));rw[R.fnd_name st.brs name hf]at this;exact this
 unfold maxLen at e3;have b5:=hi.few;have f0:=hT.len;have c9:=hP.lt;obtain⟨n0,a4⟩:∃n0,n0=st.cms.length:=⟨_,rfl⟩
 rw[←a4]at e0 e2 b5;have f4:=z6 a4;by_cases b1:60≤st.cms.length
 ·have HS:Hid (zZ st name c=((0,4),st)):=by show _=_;rw[zZ,if_pos b1]
  have d8:Hid (zU w (w.alloc (Obj.cells #[.slice pa c.parents.length pc,.slice ta tn tc] 114)) M O B st):=zU.same ⟨_,_,_,_,hP⟩ ((j0g _ _).alloc (j0a _) _);have b2 :(60:Int)≤(n0:Int):=by omega
  generalize(LB[R.fnd st.brs name]'hl).2.1=bb at*;clear hP b3 hi c7 c6 hG hT a4;go_enter Tryz.func58,Tryz.ntmps58;go_wp2;go_ret2;rw[HS.out];exact⟨rfl,d8.out⟩
 ·have HS:Hid (zZ st name c=((((n0+1:Nat):Int),0),R.down st name c)):=by show _=_;rw[zZ,if_neg b1,a4]
  have b2 :(n0:Int)<60:=by omega
  have HK:Hid (∀W,Below w.heap.size w W→Calls Tryz.prog 97 #[.pointer (some ⟨B,0,none⟩),.agg #[.slice pa c.parents.length pc,.slice ta tn tc]] W fun e w' =>e= .returned (.int .i64 ((n0:Int)+1))∧∃a2 a0,Yc W w' M O B (R.keepC st c) bv a2 LB a0):=fun W hW=>by
   have:=Ff (hP.kept (Z:=fun _=>False) (zh.of_below hW) (fun _ e=>e.elim) (fun b e=> .inl e) hP.sub) c pa pc ta tn tc (c7.below hW) (c6.below hW) (fun b e=>j0b (hM b e) hW.size) hT h2 (by omega) (by omega) (hG.below hW) h6;rw[←a4]at this;exact this
  have a8:=jM hi c (by omega) hT d5 h2;have a9:(R.keepC st c).packed.length≤1000000000000:=by
   have:=gS c;simp only[R.keepC,R.record,R.recHead,List.length_append,List.length_cons,List.length_nil];omega
  obtain⟨bb,b0⟩:∃bb,bb=(LB[R.fnd st.brs name]'hl).2.1:=⟨_,rfl⟩
  rw[←b0]at k0 a7 d4⊢;have d9:Hid (∀W w9 a2 a0,Yc W w9 M O B (R.keepC st c) bv a2 LB a0 →Below w.heap.size w W→w.heap.size<W.heap.size→Calls Tryz.prog 48 #[.pointer (some ⟨B,0,none⟩),.string ⟨name.toArray⟩,.int .i64 ((n0:Int)+1)] w9 fun e w' =>e= .returned (.tuple #[])∧Hid (zU w w' M O B (R.down st name c))∧w'.cell? ⟨bb,1,none⟩=some (.int .i64 ((n0:Int)+1))∧w'.cell? ⟨bb,0,none⟩=some (.string ⟨name.toArray⟩)∧(∀o,w'.cell? ⟨w.heap.size,o,none⟩=w9.cell? ⟨w.heap.size,o,none⟩)):=fun W w9 a2 a0 a5 hW d3=>by
   obtain⟨O1,b9,a3,b7⟩:=a5;have g0:=a3.size;have:=Ua B (R.keepC st c) name (n0+1) w9 _ O1 b9 hf bb (fun h=>b0.symm) a8 (by rw[a4];simp[R.keepC]) (by omega) a9;refine this.mono ?_;rintro e w' ⟨rfl,a1,h1,h0⟩;have e9:zh O w w9:=⟨a3.os.trans hW.os,a3.tape.trans hW.tape,a3.output.trans hW.output,j0f hW.size a3.size,fun k hk hn=>by rw[a3.block k (j0b hk hW.size) hn];exact hW.block k hk⟩
   have b8 :∀b,O1 b→O b∨w.heap.size≤b:=fun b e=>by
    rcases b7 b e with e|e
    ·exact .inl e
    ·exact .inr (j0f hW.size e)
   refine⟨rfl,?_,h1,h0,fun o=> ?_⟩
   ·have:=zU.trans e9 b8 a1
    rw[a4]at this;exact this
   ·obtain⟨O2,_,e8,_⟩:=a1
    refine e8.cell (p:=⟨w.heap.size,o,none⟩) (show w.heap.size<_ by omega) (fun e=> ?_);rcases b7 _ e with e|e
    ·have f5 :w.heap.size<w.heap.size:=c9 _ e
     omega
    ·have e' :W.heap.size≤w.heap.size:=e
     omega
  have d7:Hid (∀W w9 a2 a0,Yc W w9 M O B (R.keepC st c) bv a2 LB a0 →w.heap.size<W.heap.size→w9.cell? ⟨bb,0,none⟩=some (.string ⟨name.toArray⟩)∧∀o,w9.cell? ⟨w.heap.size,o,none⟩=W.cell? ⟨w.heap.size,o,none⟩):=fun W w9 a2 a0 a5 d3=>by
   obtain⟨O1,b9,a3,b7⟩:=a5;refine⟨?_,fun o=>a3.cell (p:=⟨w.heap.size,o,none⟩) d3 (fun e=>by have e' :w.heap.size<w.heap.size:=c9 _ e;omega)⟩;have:=(b9.at_ _ (j0c hl)).c0;rw[b6,←b0]at this;exact this
  clear hP b3 hi c7 c6 hG hT a8 a9 b6 b0 d5 hM f0 a4 b1;go_enter Tryz.func58,Tryz.ntmps58;go_wp2;have b4:Below w.heap.size w (w.alloc (Obj.cells #[.slice pa c.parents.length pc,.slice ta tn tc] 114)):=(j0g _ _).alloc (j0a _) _;have f3:(w.alloc (Obj.cells #[.slice pa c.parents.length pc,.slice ta tn tc] 114)).heap.size=w.heap.size+1:=by simp
  have x0:(w.alloc (Obj.cells #[.slice pa c.parents.length pc,.slice ta tn tc] 114)).cell? ⟨w.heap.size,0,none⟩=some (.slice pa c.parents.length pc):=by simp
  have x1:(w.alloc (Obj.cells #[.slice pa c.parents.length pc,.slice ta tn tc] 114)).cell? ⟨w.heap.size,1,none⟩=some (.slice ta tn tc):=by simp
  generalize w.alloc (Obj.cells #[.slice pa c.parents.length pc,.slice ta tn tc] 114)=W1 at*;have g1 :=(b4.cell (p:=⟨bb,0,none⟩) d4).trans k0;have c8:Below w.heap.size w W1.drew:=b4.drew;have d6:w.heap.size<W1.drew.heap.size:=by show _<W1.heap.size;omega
  clear b4 f3 k0;go_region_held3 (fun w' =>w'.cell? ⟨bb,0,none⟩=some (.string ⟨name.toArray⟩)∧w'.cell? ⟨w.heap.size,0,none⟩=some (.slice pa c.parents.length pc)∧w'.cell? ⟨w.heap.size,1,none⟩=some (.slice ta tn tc)) (go_keep)
   (first
    |(go_at_call 97;with_reducible refine(HK.out _ c8).mono ?_;rintro e w9 ⟨rfl,a2,a0,a5⟩;obtain⟨f7,e6⟩:=d7.out _ _ _ _ a5 d6;have e1:=z6 a5;clear a5)
    |(go_at_call 48;with_reducible refine(d9.out _ _ _ _ e1.out c8 d6).mono ?_;rintro e g2 ⟨rfl,a1,h1,h0,e7⟩))
  all_goals
   rename_i a6;clear a6 e6 e7;go_wp2;go_ret2;rw[HS.out];exact⟨by first|rfl|simp,a1.out⟩
theorem gI (s:List UInt8)(w:World)(hs:s.length≤maxLen):
  Calls Tryz.prog 113 #[.string ⟨s.toArray⟩] w fun e w' =>e= .returned (.bool (R.isText s))∧w' =w:=by
 have h:=Uf ⟨s.toArray⟩ w (by simpa[ByteArray.size]using hs);simpa using h
theorem cu (v:Value)(t:List R.Leaf)(s text:List UInt8)(w:World)(M:Nat→Prop)(hM:∀b,M b→b<w.heap.size)(h:PT w M v t)(a6:OkT t)(hs:R.isPath s=true)(b7:text.length≤maxLen):
  Calls Tryz.prog 74 #[v,.string ⟨s.toArray⟩,.string ⟨text.toArray⟩] w fun e w' =>K_ w w' M e t (R.noteV t (R.at_ t s) s text):=by
 have b5:=a6.few;have b6:s.length≤1000:=by have:=xj _ hs;omega
 have b2:∀x∈t,x.path.length≤1000:=fun x hx=>(a6.ok x hx).good.path
 have a7:=gI text w b7;have a2:=KN v t s 2 w M h (by omega) a6.sort b2 b6;have a9:=fun W (hW:Below w.heap.size w W)=>oQ v t s W M (h.below hW) (by omega) a6.sort
 have a3:=atX a6 s;have a0:=fun W (hW:Below w.heap.size w W) (hT:R.isText text=true)=>oO v t {path:=s,kind:=61,n:=0,text:=text,items:=[]} (.slice none 0 0) W M (fun b hb=>by have:=hM b hb;have:=hW.size;omega) (h.below hW) a6 hs (GP W M _ rfl) (.inr ⟨hs,.inr (.inl ⟨rfl,rfl,rfl⟩),by simp,by simp,hT,by simp,by simp,fun i j hi=>by simp at hi⟩) (by simp)
 clear h a6 b2;generalize R.at_ t s=x at*;by_cases c0:R.isText text=false
 ·have HR:Hid (R.noteV t x s text=(3,x)):=by show _=_;rw[R.noteV,if_pos c0]
  rw[c0]at a7;clear a3 c0 a0;go_enter Tryz.func74,Tryz.ntmps74;go_wp2_with fail
  refine a7.mono ?_;rintro e w0 ⟨rfl,a4⟩;subst a4;go_wp2;go_ret2;exact⟨none,0,0,ZR (by rw[HR.out]),(fun h=>by rw[HR.out]at h;cases h),j0g _ _⟩
 have a8 :R.isText text=true:=by simpa using c0
 rw[a8]at a7;have a5 :=fun W hW=>a0 W hW a8
 clear a0;by_cases c1:x.kind≠0∧x.kind≠61
 ·have e1:((pk x !=0)&&(pk x !=2))=true:=by
   rw[a3.oth 2 61 (by simp)];exact decide_eq_true c1
  have HR:Hid (R.noteV t x s text=(6,x)):=by show _=_;rw[R.noteV,if_neg c0,if_pos c1]
  rw[e1]at a2;simp only[if_true]at a2;clear a3 c1 e1 c0 a8;go_enter Tryz.func74,Tryz.ntmps74;go_wp2_with fail
  refine a7.mono ?_;rintro e w0 ⟨rfl,a4⟩;subst a4;go_wp2_with fail
  refine a2.mono ?_;rintro e w1 ⟨rfl,a1⟩;go_wp2;go_ret2;exact⟨none,0,0,ZR (by rw[HR.out]),(fun h=>by rw[HR.out]at h;cases h),a1⟩
 have e1:((pk x !=0)&&(pk x !=2))=false:=by
  rw[a3.oth 2 61 (by simp)];exact decide_eq_false c1
 rw[e1]at a2;simp only[Bool.false_eq_true,if_false]at a2;by_cases c2:R.blocked t s=true
 ·have HR:Hid (R.noteV t x s text=(7,x)):=by show _=_;rw[R.noteV,if_neg c0,if_neg c1,if_pos c2]
  rw[if_pos c2]at a2;clear a3 c1 e1 c2 c0 a8;go_enter Tryz.func74,Tryz.ntmps74;go_wp2_with fail
  refine a7.mono ?_;rintro e w0 ⟨rfl,a4⟩;subst a4;go_wp2_with fail
  refine a2.mono ?_;rintro e w1 ⟨rfl,a1⟩;go_wp2;go_ret2;exact⟨none,0,0,ZR (by rw[HR.out]),(fun h=>by rw[HR.out]at h;cases h),a1⟩
 rw[if_neg c2]at a2;by_cases c4:x.kind=0∧24≤t.length
 ·have HR:Hid (R.noteV t x s text=(4,x)):=by show _=_;rw[R.noteV,if_neg c0,if_neg c1,if_neg c2,if_pos c4]
  have e4:((pk x==0)&&decide (24≤t.length))=true:=by
   rw[a3.zero,decide_eq_true c4.1,decide_eq_true c4.2];rfl
  rw[e4]at a9;clear a3 c1 e1 c2 c4 e4 c0 a8;go_enter Tryz.func74,Tryz.ntmps74;go_wp2_with fail
  refine a7.mono ?_;rintro e w0 ⟨rfl,a4⟩;subst a4;go_wp2_with fail
  refine a2.mono ?_;rintro e w1 ⟨rfl,a1⟩;go_wp2_with fail
  refine(a9 _ a1).mono ?_;rintro e w3 ⟨rfl,b1⟩;go_wp2;go_ret2;exact⟨none,0,0,ZR (by rw[HR.out]),(fun h=>by rw[HR.out]at h;cases h),a1.trans (b1.mono a1.size)⟩
 have HR:Hid (R.noteV t x s text=(0,{path:=s,kind:=61,n:=0,text:=text,items:=[]})):=by show _=_;rw[R.noteV,if_neg c0,if_neg c1,if_neg c2,if_neg c4]
 have e4:((pk x==0)&&decide (24≤t.length))=false:=by
  rw[a3.zero,←Bool.decide_and];exact decide_eq_false c4
 rw[e4]at a9;clear a3 c1 e1 c2 c4 e4 c0 a8;go_enter Tryz.func74,Tryz.ntmps74;go_wp2_with fail
 refine a7.mono ?_;rintro e w0 ⟨rfl,a4⟩;subst a4;go_wp2_with fail
 refine a2.mono ?_;rintro e w1 ⟨rfl,a1⟩;go_wp2_with fail
 refine(a9 _ a1).mono ?_;rintro e w3 ⟨rfl,b1⟩;have b0:=a1.trans (b1.mono a1.size);go_wp2_with fail
 refine(a5 _ b0).mono ?_;rintro e w4 ⟨v4,rfl,b3,b4⟩;obtain⟨va,vc,rfl⟩:=kR b3;go_wp2;go_ret2;exact⟨va,_,vc,ZR (by rw[HR.out]),(fun _=>by rw[HR.out];exact b3),b0.trans (b4.mono b0.size)⟩
def Ci (x:R.Leaf)(s:List UInt8):R.Leaf:={path:=x.path,kind:=if R.without x.items s=[]then 0 else 42,n:=0,text:=[],items:=R.without x.items s}
theorem C0 (v:Value)(t:List R.Leaf)(s text:List UInt8)(w:World)(M:Nat→Prop)(hM:∀b,M b→b<w.heap.size)(h:PT w M v t)(b3:OkT t)(hs:R.isPath s=true)(f3:text.length≤maxLen):
  Calls Tryz.prog 61 #[v,.string ⟨s.toArray⟩,.string ⟨text.toArray⟩] w fun e w' =>K_ w w' M e t (R.putV t (R.at_ t s) s text):=by
 have e9:=b3.few;have f0:s.length≤1000:=by have:=xj _ hs;omega
 have d9:∀x∈t,x.path.length≤1000:=fun x hx=>(b3.ok x hx).good.path
 have b4:=G_ text w f3;have a9:=KN v t s 3 w M h (by omega) b3.sort d9 f0;have d6:=fun W (hW:Below w.heap.size w W)=>oR v t s W M (h.below hW) (by omega) b3.sort
 have c6:=fun W (hW:Below w.heap.size w W)=>oQ v t s W M (h.below hW) (by omega) b3.sort
 have b1:=atX b3 s;have HM:=z8 hM;have a4:=fun W (hW:Below w.heap.size w W) (x:R.Leaf) (iv:Value) (a7:It W M (Zw x (R.item x.items text),iv)) (hp:x.path=s) (hx:OkL (Zw x (R.item x.items text)))=>oO v t (Zw x (R.item x.items text)) iv W M (fun b hb=>by have:=hM b hb;have:=hW.size;omega) (h.below hW) b3 (by rw[show(Zw x (R.item x.items text)).path=s from hp];exact hs) a7 (.inr hx) (by simp[Zw])
 clear h b3 d9 hM;generalize R.at_ t s=x at*;by_cases c0:(!R.isText text||text==[])=true
 ·have HR:Hid (R.putV t x s text=(3,x)):=by show _=_;rw[R.putV,if_pos c0]
  rw[c0]at b4;clear b1 c0 a4;go_enter Tryz.func61,Tryz.ntmps61;go_wp2_with fail
  refine b4.mono ?_;rintro e w0 ⟨rfl,b0⟩;subst b0;go_wp2;go_ret2;exact⟨none,0,0,ZR (by rw[HR.out]),(fun h=>by rw[HR.out]at h;cases h),by first|exact j0g _ _|exact(j0g _ _).alloc (j0a _) _⟩
 have b9 :(!R.isText text||text==[])=false:=by simpa using c0
 have hT:R.isText text=true∧text≠ []:=by simpa using b9
 rw[b9]at b4;by_cases c1:x.kind≠0∧x.kind≠42
 ·have e1:((pk x !=0)&&(pk x !=3))=true:=by
   rw[b1.oth 3 42 (by simp)];exact decide_eq_true c1
  have HR:Hid (R.putV t x s text=(6,x)):=by show _=_;rw[R.putV,if_neg c0,if_pos c1]
  rw[e1]at a9;simp only[if_true]at a9;clear b1 c1 e1 c0 b9 hT a4;go_enter Tryz.func61,Tryz.ntmps61;go_wp2_with fail
  refine b4.mono ?_;rintro e w0 ⟨rfl,b0⟩;subst b0;go_wp2_with fail
  refine a9.mono ?_;rintro e w1 ⟨rfl,a0⟩;go_wp2;go_ret2;exact⟨none,0,0,ZR (by rw[HR.out]),(fun h=>by rw[HR.out]at h;cases h),by first|exact a0|exact a0.alloc a0.size _⟩
 have e1:((pk x !=0)&&(pk x !=3))=false:=by
  rw[b1.oth 3 42 (by simp)];exact decide_eq_false c1
 rw[e1]at a9;simp only[Bool.false_eq_true,if_false]at a9;by_cases c2:R.blocked t s=true
 ·have HR:Hid (R.putV t x s text=(7,x)):=by show _=_;rw[R.putV,if_neg c0,if_neg c1,if_pos c2]
  rw[if_pos c2]at a9;clear b1 c1 e1 c2 c0 b9 hT a4;go_enter Tryz.func61,Tryz.ntmps61;go_wp2_with fail
  refine b4.mono ?_;rintro e w0 ⟨rfl,b0⟩;subst b0;go_wp2_with fail
  refine a9.mono ?_;rintro e w1 ⟨rfl,a0⟩;go_wp2;go_ret2;exact⟨none,0,0,ZR (by rw[HR.out]),(fun h=>by rw[HR.out]at h;cases h),by first|exact a0|exact a0.alloc a0.size _⟩
 rw[if_neg c2]at a9;have hk:x=R.none x.path∨(OkL x∧x.kind=42):=by
  rcases b1.kinds with k|k|k|k
  ·exact .inl (by rw[b1.path];exact k.2.2)
  ·exact absurd ⟨by rw[k.1];decide,by rw[k.1];decide⟩ c1
  ·exact absurd ⟨by rw[k.1];decide,by rw[k.1];decide⟩ c1
  ·exact .inr ⟨k.2.2,k.1⟩
 have d5:=fun W (hW:Below w.heap.size w W) (ia:Option Addr) (ic:Nat) (a7:It W M (x,.slice ia x.items.length ic))=>oN x (.slice ia x.items.length ic) text W M (fun b hb=>by have:=HM.out b hb;have:=hW.size;omega) a7 hk
 have f5:(R.item x.items text).length≤9:=by
  have h1:=R.item_length text x.items false;have h2:x.items.length≤8:=by
   rcases hk with hk|⟨hk,_⟩
   ·rw[hk];simp[R.none]
   ·exact hk.many
  unfold R.item;omega
 have c8:=b1.zero;have a1:=b1.path;have d8:Z6 x.items:=by
  rcases hk with hk|⟨hk,_⟩
  ·rw[hk];intro i j hi;simp[R.none]at hi
  ·exact hk.sort
 have e7:Hid ((R.item x.items text).length≤8→OkL (Zw x (R.item x.items text))):=by
  intro h8;refine⟨by show R.isPath x.path=true;rw[a1];exact hs,.inr (.inr ⟨rfl,rfl,rfl,Ox _ d8 _⟩),by simp[Zw],by simp[Zw],rfl,h8,fun i hi=> ?_,Vx d8 text⟩;rcases KG hi with rfl|hi
  ·exact hT
  ·rcases hk with hk|⟨hk,_⟩
   ·rw[hk]at hi;simp[R.none]at hi
   ·exact hk.item i hi
 have HB:Hid (Zw x (R.item x.items text)={path:=s,kind:=42,n:=0,text:=[],items:=R.item x.items text}):=by show _=_;rw[Zw,a1]
 have a2 :=fun W hW iv a7 hx=>a4 W hW x iv a7 a1 hx
 have c7:pk (Zw x (R.item x.items text))=3:=by simp[pk,Zw]
 have e3:(Zw x (R.item x.items text)).path=s:=a1;simp only[c7,e3]at a2;have f4:=z8 a1;have c9:=z8 c0;have d3:=z8 c1;have d4:=z8 c2;clear b1 hk a4 d8 hT c0 b9 e1 a1 c7 e3 c1 c2
 cases hF:((pk x==0)&&decide (24≤t.length))
 ·rw[hF]at c6
  have d7:¬(x.kind=0∧24≤t.length):=by
   rw[c8,←Bool.decide_and]at hF;exact of_decide_eq_false hF
  clear hF c8;by_cases c5:8<(R.item x.items text).length
  ·have HR:Hid (R.putV t x s text=(4,x)):=by
    show _=_;rw[R.putV,if_neg c9.out,if_neg d3.out,if_neg d4.out,if_pos c5]
   clear a2 d7;go_enter Tryz.func61,Tryz.ntmps61;go_wp2_with fail
   refine b4.mono ?_;rintro e w0 ⟨rfl,b0⟩;subst b0;go_wp2_with fail
   refine a9.mono ?_;rintro e w1 ⟨rfl,a0⟩;go_wp2_with fail
   refine(d6 _ a0).mono ?_;rintro e w2 ⟨ia,ic,rfl,a7,b2⟩;have a6:=a0.trans (b2.mono a0.size);go_wp2_with fail
   refine(d5 _ a6 ia ic (Rd.below a7 b2)).mono ?_;rintro e w3 ⟨ja,jc,rfl,a8,b6⟩;have a3:=a6.trans (b6.mono a6.size);go_wp2_with fail
   refine(c6 _ (a3.alloc a3.size _)).mono ?_;rintro e w4 ⟨rfl,a5⟩;have b5:=(a3.alloc a3.size _).trans (a5.mono (by simp;exact Nat.le_succ_of_le a3.size));have y0:w4.cell? ⟨w3.heap.size,0,none⟩=some (.int .i64 3):=by rw[a5.cell (p:=⟨w3.heap.size,0,none⟩) (by simp)];simp
   have y1:w4.cell? ⟨w3.heap.size,1,none⟩=some (.int .i64 0):=by rw[a5.cell (p:=⟨w3.heap.size,1,none⟩) (by simp)];simp
   have y2:w4.cell? ⟨w3.heap.size,2,none⟩=some (.string ⟨#[]⟩):=by rw[a5.cell (p:=⟨w3.heap.size,2,none⟩) (by simp)];simp
   have y3:w4.cell? ⟨w3.heap.size,3,none⟩=some (.slice ja (R.item x.items text).length jc):=by rw[a5.cell (p:=⟨w3.heap.size,3,none⟩) (by simp)];simp
   have b8:Hid (It w4 M (Zw x (R.item x.items text),.slice ja (R.item x.items text).length jc)):=Rd.below a8 (((j0g _ _).alloc (j0a _) _).trans (a5.mono (by simp)));have b7:=z8 b5;clear a5 a8 b6 a7 b2 a0 a6 a3 b5;go_wp2;go_ret2;exact⟨none,0,0,ZR (by rw[HR.out]),(fun h=>by rw[HR.out]at h;cases h),b7.out⟩
  ·have HR:Hid (R.putV t x s text=(0,Zw x (R.item x.items text))):=by
    show _=_;rw[R.putV,if_neg c9.out,if_neg d3.out,if_neg d4.out,if_neg c5,if_neg d7,HB.out]
   have e6:=z8 (e7.out (by omega));clear d7;go_enter Tryz.func61,Tryz.ntmps61;go_wp2_with fail
   refine b4.mono ?_;rintro e w0 ⟨rfl,b0⟩;subst b0;go_wp2_with fail
   refine a9.mono ?_;rintro e w1 ⟨rfl,a0⟩;go_wp2_with fail
   refine(d6 _ a0).mono ?_;rintro e w2 ⟨ia,ic,rfl,a7,b2⟩;have a6:=a0.trans (b2.mono a0.size);go_wp2_with fail
   refine(d5 _ a6 ia ic (Rd.below a7 b2)).mono ?_;rintro e w3 ⟨ja,jc,rfl,a8,b6⟩;have a3:=a6.trans (b6.mono a6.size);go_wp2_with fail
   refine(c6 _ (a3.alloc a3.size _)).mono ?_;rintro e w4 ⟨rfl,a5⟩;have b5:=(a3.alloc a3.size _).trans (a5.mono (by simp;exact Nat.le_succ_of_le a3.size));have y0:w4.cell? ⟨w3.heap.size,0,none⟩=some (.int .i64 3):=by rw[a5.cell (p:=⟨w3.heap.size,0,none⟩) (by simp)];simp
   have y1:w4.cell? ⟨w3.heap.size,1,none⟩=some (.int .i64 0):=by rw[a5.cell (p:=⟨w3.heap.size,1,none⟩) (by simp)];simp
   have y2:w4.cell? ⟨w3.heap.size,2,none⟩=some (.string ⟨#[]⟩):=by rw[a5.cell (p:=⟨w3.heap.size,2,none⟩) (by simp)];simp
   have y3:w4.cell? ⟨w3.heap.size,3,none⟩=some (.slice ja (R.item x.items text).length jc):=by rw[a5.cell (p:=⟨w3.heap.size,3,none⟩) (by simp)];simp
   have b8:Hid (It w4 M (Zw x (R.item x.items text),.slice ja (R.item x.items text).length jc)):=Rd.below a8 (((j0g _ _).alloc (j0a _) _).trans (a5.mono (by simp)));have b7:=z8 b5;clear a5 a8 b6 a7 b2 a0 a6 a3 b5;go_wp2_with fail
   refine(a2 _ b7.out _ b8.out e6.out).mono ?_;rintro e w5 ⟨v5,rfl,e2,e8⟩;obtain⟨va,vc,rfl⟩:=kR e2;go_wp2;go_ret2;exact⟨va,_,vc,ZR (by rw[HR.out]),(fun _=>by rw[HR.out];exact e2),b7.out.trans (e8.mono b7.out.size)⟩
 ·rw[hF]at c6
  have HR:Hid (R.putV t x s text=(4,x)):=by
   show _=_;rw[c8,←Bool.decide_and]at hF;rw[R.putV,if_neg c9.out,if_neg d3.out,if_neg d4.out,if_pos (of_decide_eq_true hF)];split<;>rfl
  clear hF c8 a2;go_enter Tryz.func61,Tryz.ntmps61;go_wp2_with fail
  refine b4.mono ?_;rintro e w0 ⟨rfl,b0⟩;subst b0;go_wp2_with fail
  refine a9.mono ?_;rintro e w1 ⟨rfl,a0⟩;go_wp2_with fail
  refine(d6 _ a0).mono ?_;rintro e w2 ⟨ia,ic,rfl,a7,b2⟩;have a6:=a0.trans (b2.mono a0.size);go_wp2_with fail
  refine(d5 _ a6 ia ic (Rd.below a7 b2)).mono ?_;rintro e w3 ⟨ja,jc,rfl,a8,b6⟩;have a3:=a6.trans (b6.mono a6.size);go_wp2_with fail
  refine(c6 _ (a3.alloc a3.size _)).mono ?_;rintro e w4 ⟨rfl,a5⟩;have b5:=(a3.alloc a3.size _).trans (a5.mono (by simp;exact Nat.le_succ_of_le a3.size));go_wp2;go_ret2;exact⟨none,0,0,ZR (by rw[HR.out]),(fun h=>by rw[HR.out]at h;cases h),b5⟩

