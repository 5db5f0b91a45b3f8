import Derived.Test.YtolgebdmffcemaaGreatDoorQ25
import Derived.Lib.RowBridge
import Derived.Lib.OwnBridge
set_option linter.all false
set_option maxHeartbeats 20000000
set_option maxRecDepth 1000000
namespace Go.Proofs.YtolgebdmffcemaaGreatDoor
open Go.RowKit
def ZW (TS:List (List R.Leaf)):List (List UInt8):=TS.flatten.map R.Leaf.path
theorem Gf (TS:List (List R.Leaf))(k:Nat)(hk:k<TS.length):ZW (TS.take (k+1))=ZW (TS.take k)++TS[k].map R.Leaf.path:=by
 unfold ZW;rw[List.take_succ_eq_append_getElem hk,List.flatten_append,List.map_append];simp
theorem co (TS:List (List R.Leaf))(k:Nat):(ZW (TS.take k)).length≤(ZW TS).length:=by
 unfold ZW;rw[List.length_map,List.length_map];conv=>rhs;rw[←List.take_append_drop k TS,List.flatten_append,List.length_append]
 omega
theorem Fd (b0 c0:Nat)(TS:List (List R.Leaf))(w:World)(M:Nat→Prop)(d7:TS.length≤c0∧c0≤100)(hn:(ZW TS).length≤1000)(d8:b0<w.heap.size)
  (c6:∀j (hj:j<TS.length),∃a c,w.cell? ⟨b0,j,none⟩=some (.slice a TS[j].length c)∧PT w M (.slice a TS[j].length c) TS[j])
  (b6:∀(W:World) (v:Value),Below w.heap.size w W→W.ownsRow w.heap.size 9 1 v (ZW TS).length ((ZW TS).map S)→Calls Tryz.prog 183 #[v] W fun e w' =>e= .returned (.tuple #[])∧Below w.heap.size w w' ∧w'.ownsRow w.heap.size 9 1 v (ZW TS).length (((ZW TS).mergeSort fun x y=>decide (x≤y)).map S))
  (b1:∀(W:World) (v:Value),Below w.heap.size w W→W.ownsRow w.heap.size 9 1 v (ZW TS).length (((ZW TS).mergeSort fun x y=>decide (x≤y)).map S)→Calls Tryz.prog 184 #[v] W fun e w' =>∃a c,e= .returned (.slice a (Lib.compact ((ZW TS).mergeSort fun x y=>decide (x≤y))).length c)∧Below w.heap.size w w' ∧w'.ownsRow w.heap.size 9 1 (.slice a (Lib.compact ((ZW TS).mergeSort fun x y=>decide (x≤y))).length c) (Lib.compact ((ZW TS).mergeSort fun x y=>decide (x≤y))).length ((Lib.compact ((ZW TS).mergeSort fun x y=>decide (x≤y))).map S)):
  Calls Tryz.prog 137 #[.slice (some ⟨b0,0,none⟩) TS.length c0] w fun e w' =>∃a c,e= .returned (.slice a (Lib.compact ((ZW TS).mergeSort fun x y=>decide (x≤y))).length c)∧Below w.heap.size w w' ∧w'.ownsRow w.heap.size 9 1 (.slice a (Lib.compact ((ZW TS).mergeSort fun x y=>decide (x≤y))).length c) (Lib.compact ((ZW TS).mergeSort fun x y=>decide (x≤y))).length ((Lib.compact ((ZW TS).mergeSort fun x y=>decide (x≤y))).map S):=by
 have a8 :=z9 b6;have a6 :=z9 b1;clear b6 b1;obtain⟨f5,f6⟩:=d7;have b2:Hid (∀k,(ZW (TS.take k)).length≤(ZW TS).length):=co TS;have b5:Hid (∀k (hk:k<TS.length),ZW (TS.take (k+1))=ZW (TS.take k)++TS[k].map R.Leaf.path):=Gf TS;have d5:=z9 c6;clear c6;go_enter Tryz.func137,Tryz.ntmps137;go_wp2;go_loopw [3,10] (fun s i wr=>∃k:Nat,k≤TS.length∧i= .int .i64 k∧(∃va vc,s= .slice va (ZW (TS.take k)).length vc)∧wr.ownsRow w.heap.size 9 1 s (ZW (TS.take k)).length ((ZW (TS.take k)).map S)∧Below w.heap.size w wr) (fun _ i _=>TS.length-(intOf i).toNat)
 case atStart=>exact⟨0,Nat.zero_le _,rfl,⟨none,0,rfl⟩,World.ownsRow_nil _ _ _ _,j0g _ _⟩
 case round=>
  obtain⟨k,hk,rfl,⟨va,vc,rfl⟩,ho,hb⟩:=hrel;have c9:=hb.size;by_cases a9:k<TS.length
  ·obtain⟨ta,tc,b8,L,hL,⟨g0,g1,f0,f9,f3,d3⟩,hI⟩:=d5.out k a9
   injection f0 with e1 e2 e3
   subst e1 e3;have e0:=(hb.cell (p:=⟨b0,k,none⟩) d8).trans b8;have b4:=z9 (b5.out k a9);have f7:=b2.out k;have f8:=b2.out (k+1);have a5:(ZW (TS.take (k+1))).length=(ZW (TS.take k)).length+TS[k].length:=by rw[b5.out k a9,List.length_append,List.length_map]
   rw[←hL]at b4 a5 e0;rw[List.length_map]at a5 e0;unfold maxLen at f3;clear b8 hL e2;generalize ZW (TS.take k)=P0 at*;generalize b7:ZW (TS.take (k+1))=P1 at*;have b3:=z9 b7;clear b7;have HO:=z9 ho;clear ho;go_wp2;go_loopw [3,16] (fun s i wq=>∃m:Nat,m≤L.length∧i= .int .i64 m∧(∃va vc,s= .slice va (P0.length+m) vc)∧wq.ownsRow w.heap.size 9 1 s (P0.length+m) ((P0++(L.take m).map fun p=>p.1.path).map S)∧Below w.heap.size w wq) (fun _ i _=>L.length-(intOf i).toNat)
   case atStart=>exact⟨0,Nat.zero_le _,rfl,⟨va,vc,rfl⟩,by simpa using HO.out,hb⟩
   case round=>
    rename World=>wq
    obtain⟨m,hm,rfl,⟨va,vc,rfl⟩,ho,hb⟩:=hrel;have c9:=hb.size;by_cases c7:m<L.length
    ·obtain⟨b,off,rfl,a4,_,a0⟩:=d3 (by omega)
     obtain⟨x,ia,ic,HL,e7,c0,c1,c2,c3,c4⟩:=q9 hI a0 m c7;have e0:=(hb.cell (p:=⟨b,off+m*5,none⟩) a4).trans c0;have e1:=(hb.cell (p:=⟨b,off+m*5+1,none⟩) a4).trans c1;have e2:=(hb.cell (p:=⟨b,off+m*5+2,none⟩) a4).trans c2;have e3:=(hb.cell (p:=⟨b,off+m*5+3,none⟩) a4).trans c3;have e4:=(hb.cell (p:=⟨b,off+m*5+4,none⟩) a4).trans c4;have HT:Hid ((P0++(L.take (m+1)).map fun p=>p.1.path).map S=(P0++(L.take m).map fun p=>p.1.path).map S++ [.string ⟨x.path.toArray⟩]):=by
      show _=_;rw[List.take_succ_eq_append_getElem c7,HL.out];simp[S]
     have HO:=z9 ho;clear a0 d3 hI c0 c1 c2 c3 c4 e7 HL ho;go_wp2_with (at_builtin;go_loud (refine Cd _ (by rfl) _ _ 45 (by rfl) w.heap.size 9 (.string ⟨#[]⟩) 1 16 Tryz.underlying45 Tryz.info9 (by rfl) (by decide) (HO.out.alloc _) #[.string ⟨x.path.toArray⟩] rfl (by rfl) (by rw[World.size_alloc];rfl) (by intro u hu;simp at hu;subst hu;rfl) (by unfold maxLen;omega) (by omega) (by simp;omega) ?_))
     intro v' w1 a3 b9;have a7:=z9 a3;have d4:Hid (Below w.heap.size w w1):=(hb.alloc c9 _).grown b9 (by simp;omega) (fun j hj=>(HO.out.lt j hj).1);obtain⟨a1,c1,f4,_⟩:=zl a3;subst f4;clear a3 b9 hb;go_wp2;go_roundw
     case rel=>
      refine⟨m+1,by omega,by go_num,⟨a1,c1,rfl⟩,?_,d4.out⟩;have:=a7.out;rw[show P0.length+(m+1)=P0.length+m+1 from rfl,HT.out];simpa using this
     case measure=>simp[intOf];omega
    ·have e9:m=L.length:=by omega
     subst e9;have HO:=z9 ho;clear ho;go_wp2;go_roundw
     case rel=>
      refine⟨k+1,by omega,by go_num,⟨va,vc,?_⟩,?_,hb⟩
      ·rw[b3.out,a5]
      ·have:=HO.out
       rw[List.take_length]at this;rw[b3.out,a5,b4.out,List.map_map];exact this
     case measure=>simp[intOf];omega
  ·have e8:k=TS.length:=by omega
   subst e8;rw[List.take_length]at ho;have HO:=z9 ho;clear ho;rw[List.take_length];go_wp2_with fail
   refine(a8.out _ _ hb HO.out).mono ?_;rintro e w1 ⟨rfl,d9,a3⟩;have a7:=z9 a3;clear a3;go_wp2_with fail
   refine(a6.out _ _ d9 a7.out).mono ?_;rintro e w2 ⟨a2,c2,rfl,e6,c8⟩;have d6:=z9 c8;clear c8;go_wp2;go_ret;exact⟨a2,c2,rfl,e6,d6.out⟩
theorem CA (B:Nat)(v:Value)(t:List R.Leaf)(x:R.Leaf)(ia:Option Addr)(il ic:Nat)(w:World)(M:Nat→Prop)(h:PT w M v t)(hg:∀x∈t,x.path.length≤1000)(a2:x.path.length≤1000)(hB:B<w.heap.size)(hc:w.cell? ⟨B,0,none⟩=some v):
  Calls Tryz.prog 188 #[.agg #[.string ⟨x.path.toArray⟩,.int .i64 (pk x),.int .i64 x.n,.string ⟨x.text.toArray⟩,.slice ia il ic],.pointer (some ⟨B,0,none⟩)] w fun e w' =>e= .returned (.bool (R.blocked t x.path))∧Below w.heap.size w w' :=by
 obtain⟨va,vc,hv⟩:=vU h;have a1:=fun W (hW:Below w.heap.size w W)=>ow v t x.path W M (h.below hW) hg a2
 subst hv;have a4:=z9 a1;clear a1 h hg a2;go_enter Tryz.func188,Tryz.ntmps188;go_wp2_with fail
 refine(a4.out _ ((j0g _ _).alloc (j0a _) _)).mono ?_;rintro e w1 ⟨rfl,a0⟩;have a3:Hid (Below w.heap.size w w1):=((j0g _ _).alloc (j0a _) _).trans (a0.mono (by simp));clear a0;go_wp2;go_ret;exact⟨rfl,a3.out⟩
theorem Fa (B:Nat)(v:Value)(t:List R.Leaf)(w:World)(M:Nat→Prop)(h:PT w M v t)(hg:∀x∈t,x.path.length≤1000)(hB:B<w.heap.size)(a9:w.cell? ⟨B,0,none⟩=some v):
  Calls Tryz.prog 224 #[v,.func (.func 188) #[] #[.pointer (some ⟨B,0,none⟩)]] w fun e w' =>∃i:Int,e= .returned (.int .i64 i)∧decide (0≤i)=R.tangled t∧Below w.heap.size w w' :=by
 have h1:=fun(x:R.Leaf) (ia:Option Addr) (il ic:Nat) (hx:x∈t) (W:World) (hW:Below w.heap.size w W)=>CA B v t x ia il ic W M (h.below hW) hg (hg x hx) (j0b hB hW.size) ((hW.cell (p:=⟨B,0,none⟩) hB).trans a9)
 obtain⟨L,hL,⟨a,cap,rfl,hn,hm,hc⟩,hI⟩:=h;have HT:Hid (R.tangled t=L.any fun p=>R.blocked t p.1.path):=by
  show _=_;unfold R.tangled;conv=>lhs;arg 1;rw[←hL]
  rw[List.any_map];rfl
 have HM:Hid (∀p∈L,p.1∈t):=fun p hp=>by rw[←hL];exact List.mem_map_of_mem hp
 have H1:=z9 h1;unfold maxLen at hm;clear h1 hL hg a9;have b2:∀args w,(callFunc 188 args).run Tryz.prog w= .ok (.enter 188 args) w:=enters_of Tryz.func188 (by kernel_rfl) rfl
 go_enter Tryz.func224,Tryz.ntmps224;go_wp2;go_loopw [8] (fun i wr=>∃k:Nat,k≤L.length∧i= .int .i64 k∧(∀j (hj:j<L.length),j<k→R.blocked t (L[j]'hj).1.path=false)∧Below w.heap.size w wr) (fun i _=>L.length-(intOf i).toNat)
 case atStart=>exact⟨0,Nat.zero_le _,rfl,fun j hj h=>by omega,j0g _ _⟩
 case round=>
  obtain⟨k,hk,rfl,a3,hb⟩:=hrel;have a2:=z9 a3;clear a3;have b1:=hb.size;by_cases a6:k<L.length
  ·obtain⟨b,off,rfl,a5,_,a1⟩:=hc (by omega)
   obtain⟨x,ia,ic,HL,b3,c0,c1,c2,c3,c4⟩:=q9 hI a1 k a6;have e0:=(hb.cell (p:=⟨b,off+k*5,none⟩) a5).trans c0;have e1:=(hb.cell (p:=⟨b,off+k*5+1,none⟩) a5).trans c1;have e2:=(hb.cell (p:=⟨b,off+k*5+2,none⟩) a5).trans c2;have e3:=(hb.cell (p:=⟨b,off+k*5+3,none⟩) a5).trans c3;have e4:=(hb.cell (p:=⟨b,off+k*5+4,none⟩) a5).trans c4;have HX:Hid ((L[k]'a6).1=x):=by show _=_;rw[HL.out]
   have a8:x∈t:=by rw[←HX.out];exact HM.out _ (j0c a6)
   have a0:=H1.out x ia x.items.length ic a8 wr hb;clear a1 hc hI c0 c1 c2 c3 c4 b3
   cases hq:R.blocked t x.path
   ·rw[hq]at a0
    have HQ:=z9 hq;have HC:=z9 a0;clear hq a0 a8;go_wp2_with fail
    refine HC.out.mono ?_;rintro e w1 ⟨rfl,a4⟩;have a7:Hid (Below w.heap.size w w1):=hb.trans (a4.mono b1);clear a4;go_wp2;go_roundw
    case rel=>
     refine⟨k+1,by omega,by go_num,fun j hj b5=> ?_,a7.out⟩;by_cases e:j=k
     ·subst e;rw[HX.out];exact HQ.out
     ·exact a2.out j hj (by omega)
    case measure=>simp[intOf];omega
   ·rw[hq]at a0
    have HQ:=z9 hq;have HC:=z9 a0;clear hq a0 a8;go_wp2_with fail
    refine HC.out.mono ?_;rintro e w1 ⟨rfl,a4⟩;have a7:Hid (Below w.heap.size w w1):=hb.trans (a4.mono b1);clear a4;go_wp2;go_ret;refine⟨k,rfl,?_,a7.out⟩;rw[HT.out,Bool.eq_iff_iff,List.any_eq_true];exact⟨fun _=>⟨_,j0c a6,by rw[HX.out];exact HQ.out⟩,fun _=>decide_eq_true (by omega)⟩
  ·have b4:k=L.length:=by omega
   subst b4;go_wp2;go_ret;refine⟨-1,rfl,?_,hb⟩;rw[HT.out];symm
   show _=false;rw[List.any_eq_false];intro p hp;obtain⟨j,hj,rfl⟩:=List.getElem_of_mem hp;rw[a2.out j hj hj];simp
theorem GH (v:Value)(t:List R.Leaf)(w:World)(M:Nat→Prop)(h:PT w M v t)(hg:∀x∈t,x.path.length≤1000):
  Calls Tryz.prog 139 #[v] w fun e w' =>e= .returned (.bool (R.tangled t))∧Below w.heap.size w w' :=by
 have a1:=fun(B:Nat) (W:World) (hW:Below w.heap.size w W) (hB:B<W.heap.size) (hc:W.cell? ⟨B,0,none⟩=some v)=>Fa B v t W M (h.below hW) hg hB hc
 have a2:∀(B:Nat) (W:World) (hW:Below w.heap.size w W) (hB:B<W.heap.size) (hc:W.cell? ⟨B,0,none⟩=some v),Calls Tryz.prog 187 #[v,.func (.func 188) #[] #[.pointer (some ⟨B,0,none⟩)]] W fun e w' =>e= .returned (.bool (R.tangled t))∧Below W.heap.size W w' :=by
  intro B W hW hB hc;have a5:=z9 (a1 B W hW hB hc);obtain⟨va,vc,hv⟩:=vU h;subst hv;clear a1 h hg hc;go_enter Tryz.func187,Tryz.ntmps187;go_wp2_with fail
  refine a5.out.mono ?_;rintro e w1 ⟨i,rfl,hi,a0⟩;have HI:=z9 hi;clear hi;go_wp2;go_ret;exact⟨zz (by rw[←HI.out]),a0⟩
 have a4:=z9 a2;obtain⟨va,vc,hv⟩:=vU h;subst hv;clear a1 a2 h hg;go_enter Tryz.func139,Tryz.ntmps139;go_wp2_with fail
 refine(a4.out _ _ ((j0g _ _).alloc (j0a _) _) (by simp) (by simp)).mono ?_;rintro e w1 ⟨rfl,a0⟩;have a3:Hid (Below w.heap.size w w1):=((j0g _ _).alloc (j0a _) _).trans (a0.mono (by simp));clear a0;go_wp2;go_ret;exact⟨rfl,a3.out⟩
theorem FD (b o t:List R.Leaf)(hb:OkT b)(ho:OkT o)(ht:OkT t):(R.allP b o t).length≤72:=by
 rw[←Jg hb ho ht];refine j0f (Lib.compact_length_le _) ?_;rw[List.length_mergeSort,List.length_map,List.length_append,List.length_append];have:=hb.few;have:=ho.few;have:=ht.few;omega
theorem Gz {b o t:List R.Leaf}{k:Nat}(hk:k<(R.allP b o t).length)(h:∀p∈(R.allP b o t).take k,(R.valJ b o t p).2=0)(he:(R.valJ b o t (R.allP b o t)[k]).2≠0):R.joinT b o t=([],(R.valJ b o t (R.allP b o t)[k]).2):=by
 have e:=cU k hk h he;unfold R.joinT R.joinP;rw[e,if_pos he]
theorem Gy {b o t:List R.Leaf}(h:∀p∈R.allP b o t,(R.valJ b o t p).2=0):R.joinT b o t=R.endJ (R.outJ b o t (R.allP b o t)):=by
 unfold R.joinT R.joinP;rw[cT h,if_neg (by simp)]
theorem cu (x:R.Leaf)(p:List UInt8):pk {x with path:=p}=pk x:=rfl
theorem It.grown {wE w5:World}{M:Nat→Prop}{s s' :Value}{n:Nat}(h:(s'.ownBlock=s.ownBlock∧wE.grownBy w5 s.ownBlock)∨(s'.ownBlock=some n∧wE.grownBy w5 none))(hn:wE.heap.size=n){q:R.Leaf×Value}(hq:It wE (fun b=>M b∨s.ownBlock=some b) q):It w5 (fun b=>M b∨s'.ownBlock=some b) q:=by
 rcases h with⟨h1,h2⟩|⟨h1,h2⟩
 ·refine Rd.step hq (O:=fun b=>s.ownBlock=some b) ⟨h2.os,h2.tape,h2.output,h2.size,fun k hk hn=>h2.block k hk (fun e=>hn e.symm)⟩ (fun b hb=> .inr hb) (fun b hb=> .inl ?_)
  rw[h1]at hb;exact hb
 ·refine Rd.step hq (O:=fun _=>False) ⟨h2.os,h2.tape,h2.output,h2.size,fun k hk _=>h2.block k hk (by simp)⟩ (fun b hb=>hb.elim) (fun b hb=> ?_)
  rcases hb with hb|hb
  ·exact .inl (.inl hb)
  ·rw[h1]at hb;injection hb with hb;exact .inr (by omega)
theorem Below.grown' {n m:Nat}{w wE w5:World}{s s' :Value}(h:(s'.ownBlock=s.ownBlock∧wE.grownBy w5 s.ownBlock)∨(s'.ownBlock=some m∧wE.grownBy w5 none))(hb:Below n w wE)(hn:n≤wE.heap.size)(ho:∀g,s.ownBlock=some g→n≤g):Below n w w5:=by
 rcases h with⟨_,h2⟩|⟨_,h2⟩
 ·exact hb.grown h2 hn ho
 ·exact hb.grown h2 hn (fun g e=>by cases e)
theorem cp {w:World}{base:Nat}{M N:Nat→Prop}{v:Value}{L:List (R.Leaf×Value)}{t:List R.Leaf}(hL:L.map (·.1)=t)(ho:w.ownsRow base 139 5 v L.length (zE L))(hM:∀b,M b→b<base)(hN:∀b,M b→N b)(hI:∀q∈L,It w N q):PT w M v t:=
 ⟨L,hL,Rd.of_owns ho hM,fun q hq=>Rd.step (hI q hq) (zh.refl (fun _=>False) w) (fun _ e=>e.elim) (fun b hb=> .inl (hN b hb))⟩
theorem GI (ba oa ta:Option Addr)(bc oc tc:Nat)(b o t:List R.Leaf)(w:World)(M:Nat→Prop)(hM:∀b,M b→b<w.heap.size)(hb:PT w M (.slice ba b.length bc) b)(ho:PT w M (.slice oa o.length oc) o)(ht:PT w M (.slice ta t.length tc) t)(a8:OkT b)(a9:OkT o)(b1:OkT t)
  (HP:∀(W:World) (b0:Nat),Below w.heap.size w W→b0<W.heap.size→W.cell? ⟨b0,0,none⟩=some (.slice ba b.length bc)→W.cell? ⟨b0,1,none⟩=some (.slice oa o.length oc)→W.cell? ⟨b0,2,none⟩=some (.slice ta t.length tc)→
   Calls Tryz.prog 137 #[.slice (some ⟨b0,0,none⟩) 3 3] W fun e w' =>∃a c,e= .returned (.slice a (R.allP b o t).length c)∧Below W.heap.size W w' ∧w'.ownsRow W.heap.size 9 1 (.slice a (R.allP b o t).length c) (R.allP b o t).length ((R.allP b o t).map S)):
  Calls Tryz.prog 87 #[.slice ba b.length bc,.slice oa o.length oc,.slice ta t.length tc] w fun e w' =>∃va vc,e= .returned (.tuple #[.slice va (R.joinT b o t).1.length vc,.int .i64 (R.joinT b o t).2])∧PT w' M (.slice va (R.joinT b o t).1.length vc) (R.joinT b o t).1∧Below w.heap.size w w' :=by
 have i0:∀(p:List UInt8) (W:World) (N:Nat→Prop),Below w.heap.size w W→(∀b,N b→M b∨w.heap.size≤b)→Calls Tryz.prog 94 #[.slice ba b.length bc,.string ⟨p.toArray⟩] W fun e w' =>∃ia ic,e= .returned (QB (R.at_ b p) (.slice ia (R.at_ b p).items.length ic))∧It W N (R.at_ b p,.slice ia (R.at_ b p).items.length ic)∧Below W.heap.size W w' :=fun p W N hW hN=>uI _ b p W N (PT.step hb (zh.of_below (M:=fun _=>False) hW) (fun _ e=>e.elim) hN) (by have:=a8.few;omega) a8.sort
 have i1:∀(p:List UInt8) (W:World) (N:Nat→Prop),Below w.heap.size w W→(∀b,N b→M b∨w.heap.size≤b)→Calls Tryz.prog 94 #[.slice oa o.length oc,.string ⟨p.toArray⟩] W fun e w' =>∃ia ic,e= .returned (QB (R.at_ o p) (.slice ia (R.at_ o p).items.length ic))∧It W N (R.at_ o p,.slice ia (R.at_ o p).items.length ic)∧Below W.heap.size W w' :=fun p W N hW hN=>uI _ o p W N (PT.step ho (zh.of_below (M:=fun _=>False) hW) (fun _ e=>e.elim) hN) (by have:=a9.few;omega) a9.sort
 have i2:∀(p:List UInt8) (W:World) (N:Nat→Prop),Below w.heap.size w W→(∀b,N b→M b∨w.heap.size≤b)→Calls Tryz.prog 94 #[.slice ta t.length tc,.string ⟨p.toArray⟩] W fun e w' =>∃ia ic,e= .returned (QB (R.at_ t p) (.slice ia (R.at_ t p).items.length ic))∧It W N (R.at_ t p,.slice ia (R.at_ t p).items.length ic)∧Below W.heap.size W w' :=fun p W N hW hN=>uI _ t p W N (PT.step ht (zh.of_below (M:=fun _=>False) hW) (fun _ e=>e.elim) hN) (by have:=b1.few;omega) b1.sort
 have i6:∀(p:List UInt8) (xa ya za:Option Addr) (xc yc zc:Nat) (W:World) (N:Nat→Prop),(∀b,N b→b<W.heap.size)→It W N (R.at_ b p,.slice xa (R.at_ b p).items.length xc)→It W N (R.at_ o p,.slice ya (R.at_ o p).items.length yc)→It W N (R.at_ t p,.slice za (R.at_ t p).items.length zc)→Calls Tryz.prog 138 #[QB (R.at_ b p) (.slice xa (R.at_ b p).items.length xc),QB (R.at_ o p) (.slice ya (R.at_ o p).items.length yc),QB (R.at_ t p) (.slice za (R.at_ t p).items.length zc)] W fun e w' =>
   ∃ia ic,e= .returned (.tuple #[QB (R.valJ b o t p).1 (.slice ia (R.valJ b o t p).1.items.length ic),.int .i64 (R.valJ b o t p).2])∧It w' N ((R.valJ b o t p).1,.slice ia (R.valJ b o t p).1.items.length ic)∧Below W.heap.size W w' :=fun p xa ya za xc yc zc W N hN ix iy iz=>jX _ _ _ xa ya za xc yc zc p W N hN (VE a8.ok p) (VE a9.ok p) (VE b1.ok p) ix iy iz
 have e9:Hid (∀ps,(∀p∈ps,(R.valJ b o t p).2=0)→∀x∈R.outJ b o t ps,x.path.length≤1000):=fun ps h x hx=>by
  have:=(gC a8 a9 b1 h x hx).1.good.path;omega
 have f3:Hid (∀p,(R.valJ b o t p).2=0→(R.valJ b o t p).1.kind≠0→(pk (R.valJ b o t p).1 !=0)=true):=fun p h1 h2=>by
  rcases jj (VE a8.ok p) (VE a9.ok p) (VE b1.ok p) h1 with h|⟨h,_⟩
  ·exact(h2 h).elim
  ·unfold R.valJ
   rcases h.kinds with h|h|h<;>simp[pk,h]
 have j7:=FD b o t a8 a9 b1;have f5:Hid (∀k (hk:k<(R.allP b o t).length),R.outJ b o t ((R.allP b o t).take (k+1))=R.outJ b o t ((R.allP b o t).take k)++R.leafJ b o t (R.allP b o t)[k]):=fun k hk=>Gj b o t _ k hk
 have a3:Hid (∀k (hk:k<(R.allP b o t).length),(∀p∈(R.allP b o t).take k,(R.valJ b o t p).2=0)→(R.valJ b o t (R.allP b o t)[k]).2≠0→R.joinT b o t=([],(R.valJ b o t (R.allP b o t)[k]).2)):=fun k hk=>Gz hk
 have a4:Hid ((∀p∈R.allP b o t,(R.valJ b o t p).2=0)→R.joinT b o t=R.endJ (R.outJ b o t (R.allP b o t))):=Gy;have d7:=z9 i0;have d8:=z9 i1;have d9:=z9 i2;have e6:=z9 i6;have d5:=z9 HP;clear i0 i1 i2 i6 HP hb ho ht a8 a9 b1;generalize R.allP b o t=ps at*;go_enter Tryz.func87,Tryz.ntmps87;go_wp2_with fail
 refine(d5.out _ _ ((j0g _ _).alloc (j0a _) _) (by simp) (by simp) (by simp) (by simp)).mono ?_;rintro e w1 ⟨pa,pc,rfl,f7,i7⟩;have j9:=f7.size;simp only[World.size_alloc]at j9;have g3:Hid (Below w.heap.size w w1):=((j0g _ _).alloc (j0a _) _).trans (f7.mono (by simp));obtain⟨a1,c1,k1,k8,j8,b8,a0⟩:=zl i7;injection k1 with e1 e2 e3
 subst e1 e3;have f6:=z9 a0;have a6:=z9 b8;unfold maxLen at j8;clear i7 a0 b8 f7 d5 e2;go_wp2_with fail
 go_loopw [8,19] (fun s i wr=>∃(k:Nat) (L:List (R.Leaf×Value)),k≤ps.length∧i= .int .i64 k∧(∃va vc,s= .slice va L.length vc)∧L.length≤k∧L.map (·.1)=R.outJ b o t (ps.take k)∧wr.ownsRow w1.heap.size 139 5 s L.length (zE L)∧(∀q∈L,It wr (fun b=>M b∨s.ownBlock=some b) q)∧(∀p∈ps.take k,(R.valJ b o t p).2=0)∧Below w1.heap.size w1 wr) (fun _ i _=>ps.length-(intOf i).toNat)
 case atStart=>exact⟨0,[],Nat.zero_le _,rfl,⟨none,0,rfl⟩,j0a _,rfl,World.ownsRow_nil _ _ _ _,(fun q hq=>by cases hq),(fun p hp=>by simp at hp),j0g _ _⟩
 case round=>
  obtain⟨k,L,hk,rfl,⟨va,vc,rfl⟩,k6,hL,ho,hI,hz,hb⟩:=hrel;have l0:=hb.size;have HO:=z9 ho;have f0:Hid (∀g,(Value.slice va L.length vc).ownBlock=some g→w1.heap.size≤g∧g<wr.heap.size):=ho.lt;have d4:Hid (∀b,(fun b=>M b∨(Value.slice va L.length vc).ownBlock=some b) b→M b∨w.heap.size≤b):=fun b hb=>by
   rcases hb with hb|hb
   ·exact .inl hb
   ·have:=f0.out b hb;exact .inr (by omega)
  have g7:Hid (∀W:World,wr.heap.size≤W.heap.size→∀b,(fun b=>M b∨(Value.slice va L.length vc).ownBlock=some b) b→b<W.heap.size):=fun W hW b hb=>by
   rcases hb with hb|hb
   ·have:=hM b hb;omega
   ·have:=f0.out b hb;omega
  have j2:Hid (∀b,M b→(fun b=>M b∨(Value.slice va L.length vc).ownBlock=some b) b):=fun b hb=> .inl hb
  have HI:=z9 hI;have e7:=z9 hL;have HZ:=z9 hz;have HB:=z9 hb;have c9:Hid (Below w.heap.size w wr):=g3.out.trans (hb.mono (by omega));by_cases a7:k<ps.length
  ·cases pa with
   |none=>have:=(a6.out rfl).1;omega
   |some ad=>
   obtain⟨g,rfl,k7,j5,j4,i5⟩:=f6.out ad rfl;have e0:wr.cell? ⟨g,k,none⟩=some (.string ⟨(ps[k]'a7).toArray⟩):=(hb.cell (p:=⟨g,k,none⟩) j5).trans (i5 k _ (by rw[List.getElem?_map,j0d a7];rfl));have h4:=z9 (f5.out k a7);have i9:=z9 (a3.out k a7 hz);have h7:Hid ((R.valJ b o t (ps[k]'a7)).2=0→∀p∈ps.take (k+1),(R.valJ b o t p).2=0):=fun h p hp=>by
    rw[List.take_succ_eq_append_getElem a7]at hp;rcases List.mem_append.1 hp with hp|hp
    ·exact HZ.out p hp
    ·rw[List.mem_singleton]at hp;rw[hp];exact h
   clear i5 j4 f6 a6 f5 a3 a4 e9 ho hI hL hz hb;generalize ps[k]'a7=p at*;generalize h9:(fun b=>M b∨(Value.slice va L.length vc).ownBlock=some b)=N at*;have g8:=z9 h9;clear h9;go_wp2_with fail
   refine(d7.out p _ N c9.out d4.out).mono ?_;rintro e wa ⟨xa,xc,rfl,ix,f9⟩;have c6:Hid (Below wr.heap.size wr wa):=f9;have b4:Hid (It wa N (R.at_ b p,.slice xa (R.at_ b p).items.length xc)):=Rd.below ix f9;clear ix f9 e0;go_wp2_with fail
   refine(d8.out p _ N (c9.out.trans (c6.out.mono (by omega))) d4.out).mono ?_;rintro e wb ⟨ya,yc,rfl,iy,d6⟩;have c7:Hid (Below wr.heap.size wr wb):=c6.out.trans (d6.mono c6.out.size);have b5 :Hid (It wb N (R.at_ b p,.slice xa (R.at_ b p).items.length xc)):=Rd.below b4.out d6;have g5:Hid (It wb N (R.at_ o p,.slice ya (R.at_ o p).items.length yc)):=Rd.below iy d6;clear iy d6 b4 c6;go_wp2_with fail
   refine(d9.out p _ N (c9.out.trans (c7.out.mono (by omega))) d4.out).mono ?_;rintro e wc ⟨za,zc,rfl,iz,b7⟩;have c8:Hid (Below wr.heap.size wr wc):=c7.out.trans (b7.mono c7.out.size);have b4:Hid (It wc N (R.at_ b p,.slice xa (R.at_ b p).items.length xc)):=Rd.below b5.out b7;have b6 :Hid (It wc N (R.at_ o p,.slice ya (R.at_ o p).items.length yc)):=Rd.below g5.out b7;have g6:Hid (It wc N (R.at_ t p,.slice za (R.at_ t p).items.length zc)):=Rd.below iz b7;clear iz b7 b5 g5 c7;go_wp2_with fail
   refine(e6.out p xa ya za xc yc zc _ N (g7.out _ c8.out.size) b4.out b6.out g6.out).mono ?_;rintro e wd ⟨ia,ic,rfl,id,i3⟩;have b3:Hid (Below wr.heap.size wr wd):=c8.out.trans (i3.mono c8.out.size);have j1:=z9 id;have k9:=b3.out.size;clear id i3 b4 b6 g6 c8 d7 d8 d9 e6;generalize k3:QB (R.at_ b p) (.slice xa (R.at_ b p).items.length xc)=A1 at*;generalize k4:QB (R.at_ o p) (.slice ya (R.at_ o p).items.length yc)=A2 at*;generalize k5:QB (R.at_ t p) (.slice za (R.at_ t p).items.length zc)=A3 at*;clear k3 k4 k5;have d3:Hid (R.leafJ b o t p=if(R.valJ b o t p).1.kind=0 then []else [{(R.valJ b o t p).1 with path:=p}]):=rfl;have d5:=z9 (f3.out p);unfold QB;clear f3;generalize R.valJ b o t p=vj at*;have h0:Hid (wd.ownsRow w1.heap.size 139 5 (.slice va L.length vc) L.length (zE L)):=Zt HO.out b3.out;have g4:Hid (∀q∈L,It wd N q):=fun q hq=>Rd.below (HI.out q hq) b3.out
   have a2:Hid (Below w1.heap.size w1 wd):=HB.out.trans (b3.out.mono (by omega));clear HO HI HB b3;by_cases he:vj.2=0
   ·have q1:(vj.2 !=0)=false:=by simp[he]
    have HE:=z9 he;by_cases b2:vj.1.kind=0
    ·have q2:(pk vj.1 !=0)=false:=by simp[pk,b2]
     rw[if_pos b2]at d3;clear he b2;go_wp2;go_roundw
     case rel=>
      refine⟨k+1,L,by omega,by go_num,⟨va,vc,rfl⟩,by omega,?_,h0.out.alloc _,fun q hq=> ?_,h7.out HE.out,a2.out.alloc (by omega) _⟩
      ·rw[h4.out,d3.out,List.append_nil];exact e7.out
      ·have:=g4.out q hq
       rw[←g8.out]at this;exact Rd.below this ((j0g _ _).alloc (j0a _) _)
     case measure=>simp[intOf];omega
    ·have q2:(pk vj.1 !=0)=true:=d5.out he b2
     rw[if_neg b2]at d3;clear he b2;go_wp2_with (at_builtin;go_loud (refine KC _ (by rfl) _ _ 93 (by rfl) w1.heap.size 139 (.agg #[.string ⟨#[]⟩,.int .i64 0,.int .i64 0,.string ⟨#[]⟩,.slice none 0 0]) 5 72 Tryz.underlying93 Tryz.info139 (by rfl) (by decide) ((h0.out.alloc _).alloc _) _ 1 1 _ (by rfl) (yy _ _ _) (by rfl) (by rw[World.size_alloc];rfl) (by intro u hu;simp at hu;rcases hu with rfl|rfl|rfl|rfl|rfl<;>rfl) (by unfold maxLen;omega) (by omega) (by simp;omega) ?_))
     intro v' w5 g1 g0;have j3:=z9 g1;have i8:Hid (Below w1.heap.size w1 w5):=Below.grown' g0 ((a2.out.alloc (by omega) _).alloc (by simp;omega) _) (by simp;omega) (fun g hg=>(f0.out g hg).1);have j0:Hid (∀q∈L++ [({vj.1 with path:=p},.slice ia vj.1.items.length ic)],It w5 (fun b=>M b∨v'.ownBlock=some b) q):=fun q hq=>by
      refine It.grown g0 (by simp) ?_;rw[g8.out];have i4:Below wd.heap.size wd ((wd.alloc (Obj.cells #[.int .i64 (pk vj.1),.int .i64 vj.1.n,.string ⟨vj.1.text.toArray⟩,.slice ia vj.1.items.length ic] 137)).alloc (Obj.cells #[.string ⟨p.toArray⟩,.int .i64 (pk vj.1),.int .i64 vj.1.n,.string ⟨vj.1.text.toArray⟩,.slice ia vj.1.items.length ic] 139)):=((j0g _ _).alloc (j0a _) _).alloc (by simp) _;rcases List.mem_append.1 hq with hq|hq
      ·exact Rd.below (g4.out q hq) i4
      ·rw[List.mem_singleton]at hq
       subst hq;exact Rd.below j1.out i4
     obtain⟨a5,c5,k2,_⟩:=zl g1;subst k2;clear g1 g0;go_wp2;go_roundw
     case rel=>
      refine⟨k+1,L++ [({vj.1 with path:=p},.slice ia vj.1.items.length ic)],by omega,by go_num,⟨a5,c5,by simp⟩,by simp;omega,?_,?_,j0.out,h7.out HE.out,i8.out⟩
      ·rw[List.map_append,h4.out,d3.out,e7.out];rfl
      ·rw[oX,cu];simpa using j3.out
     case measure=>simp[intOf];omega
   ·have q1:(vj.2 !=0)=true:=by simp[he]
    have HE:=z9 (i9.out he);clear he;go_wp2;go_ret2;rw[HE.out];exact⟨none,0,rfl,⟨[],rfl,⟨none,0,rfl,j0a _,by unfold maxLen;omega,fun h=>absurd h (Nat.lt_irrefl _)⟩,fun q hq=>by cases hq⟩,g3.out.trans ((a2.out.alloc (by omega) _).mono (by omega))⟩
  ·have j6:k=ps.length:=by omega
   subst j6;rw[List.take_length]at hL hz;have HJ:=z9 (a4.out hz);have g2:PT wr M (.slice va L.length vc) (R.outJ b o t ps):=cp hL ho (fun b hb=>by have:=hM b hb;omega) (fun b hb=> .inl hb) hI;have h5:=z9 (GH _ _ wr M g2 (e9.out ps hz));have h3:=z9 g2;have e8:Hid (L.length=(R.outJ b o t ps).length):=by show _=_;rw[←hL,List.length_map]
   clear f6 a6 f5 a3 a4 e9 ho hI hL hz hb g2 d7 d8 d9 e6 f3 e7 HZ HI d4 g7 j2;have HU:Hid (R.endJ (R.outJ b o t ps)=if R.tangled (R.outJ b o t ps)=true then([],7)else if 24<L.length then([],4)else(R.outJ b o t ps,0)):=by show _=_;rw[e8.out];rfl
   generalize R.outJ b o t ps=ot at*;go_wp2_with fail
   refine h5.out.mono ?_;rintro e w2 ⟨rfl,f8⟩;have a2:Hid (Below w.heap.size w w2):=c9.out.trans (f8.mono (by omega));have f4:Hid (PT w2 M (.slice va L.length vc) ot):=h3.out.below f8;clear f8 h5 h3;have g9:Hid (PT w2 M (.slice none 0 0) []):=⟨[],rfl,⟨none,0,rfl,j0a _,by unfold maxLen;omega,fun h=>absurd h (Nat.lt_irrefl _)⟩,fun q hq=>by cases hq⟩
   cases b9:R.tangled ot
   ·rw[b9,if_neg (by simp)]at HU
    by_cases h8:24<L.length
    ·rw[if_pos h8]at HU
     clear b9;go_wp2;go_ret2;rw[HJ.out,HU.out];exact⟨none,0,rfl,g9.out,a2.out⟩
    ·rw[if_neg h8]at HU
     clear b9;go_wp2;go_ret2;rw[HJ.out,HU.out];refine⟨va,vc,?_,?_,a2.out⟩
     ·show _=Ending.returned (.tuple #[.slice va ot.length vc,.int .i64 0])
      rw[←e8.out];rfl
     ·show PT w2 M (.slice va ot.length vc) ot
      rw[←e8.out];exact f4.out
   ·rw[b9,if_pos rfl]at HU
    clear b9;go_wp2;go_ret2;rw[HJ.out,HU.out];exact⟨none,0,rfl,g9.out,a2.out⟩
theorem uf {w:World}{base:Nat}{e:TypeId}{size:Nat}{v:Value}{n:Nat}{xs:List Value}(h:w.ownsRow base e size v n xs)(os:Array Obj):(Sort.grow w os).ownsRow base e size v n xs:=by
 refine⟨h.1,?_⟩;rcases h.2 with h|⟨g,cap,a0,h1,h2,h3,h4⟩
 ·exact .inl h
 ·refine .inr ⟨g,cap,a0,h1,h2,?_,h4⟩
  have hg:=(Array.getElem?_eq_some_iff.1 h3).1;rw[←h3];show(w.heap++os)[g]? =_;rw[Array.getElem?_append_left hg]
theorem o_ {B:Nat}{w0 w:World}(h:Below B w0 w)(os:Array Obj)(hB:B≤w.heap.size):Below B w0 (Sort.grow w os):=
 ⟨h.os,h.tape,h.output,j0f h.size (by show _≤(w.heap++os).size;simp),fun k hk=>by
  rw[←h.block k hk];show(w.heap++os)[k]? =_;rw[Array.getElem?_append_left (by omega)]⟩
theorem gH (l:List (List UInt8)):l.map S=l.map Go.Proofs.encStr:=rfl
theorem c7 {base:Nat}{w0 w:World}{v:Value}{l:List (List UInt8)}(hB:base≤w.heap.size)(hb:Below base w0 w)(hl:l.length≤100000)(h:w.ownsRow base 9 1 v l.length (l.map S)):
  Calls Tryz.prog 183 #[v] w fun e w' =>e= .returned (.tuple #[])∧Below base w0 w' ∧w'.ownsRow base 9 1 v l.length ((l.mergeSort fun x y=>decide (x≤y)).map S):=by
 by_cases hv:v= .slice none 0 0
 ·subst hv
  have h0:l=[]:=by
   rcases h.2 with⟨_,h0⟩|⟨g,cap,a1,e,_⟩
   ·exact List.length_eq_zero_iff.1 h0
   ·cases e
  subst h0;exact(Tryz.slices_Sort_string_none none 0 w).mono fun e w' ⟨h1,h2⟩=>⟨h1,by rw[h2];exact hb,by rw[h2];simpa using h⟩
 ·rw[gH]at h
  obtain⟨g,cap,rfl,hg,a0,hn,hm,_,hH⟩:=Lib.holds_of_ownsRow h hv;refine(Tryz.slices_Sort_string g 0 cap l w hH a0 (by omega)).mono ?_;rintro e w' ⟨rfl,q,os,rfl⟩;have hs:(l.mergeSort fun x y=>decide (x≤y)).length=l.length:=List.length_mergeSort ..;have h1:=Lib.ownsRow_putRow (q:=q) (k:=l.length) (ys:=l.mergeSort fun x y=>decide (x≤y)) h hs (j0a _);rw[List.take_of_length_le (by omega)]at h1;exact⟨rfl,o_ (Lib.below_putRow (q:=q) hb hg) os (by simpa[Sort.putRow,Sort.mapBlock,Sort.ahead]using hB),uf h1 os⟩
theorem Ov {base:Nat}{w0 w:World}{v:Value}{l:List (List UInt8)}(hb:Below base w0 w)(hl:l.length≤100000)(h:w.ownsRow base 9 1 v l.length (l.map S)):
  Calls Tryz.prog 184 #[v] w fun e w' =>∃a c,e= .returned (.slice a (Lib.compact l).length c)∧Below base w0 w' ∧w'.ownsRow base 9 1 (.slice a (Lib.compact l).length c) (Lib.compact l).length ((Lib.compact l).map S):=by
 by_cases hv:v= .slice none 0 0
 ·subst hv
  have h0:l=[]:=by
   rcases h.2 with⟨_,h0⟩|⟨g,cap,a0,e,_⟩
   ·exact List.length_eq_zero_iff.1 h0
   ·cases e
  subst h0;exact(Tryz.slices_Compact_string_empty none 0 w).mono fun e w' ⟨h1,h2⟩=>⟨none,0,h1,by rw[h2];exact hb,by rw[h2];exact h⟩
 ·rw[gH]at h
  obtain⟨g,cap,rfl,hg,a1,hn,hm,_,hH⟩:=Lib.holds_of_ownsRow h hv;refine(Tryz.slices_Compact_string g 0 cap l w hH (by omega) hn).mono ?_;rintro e w' ⟨rfl,q,rfl⟩;have hc:=Lib.compact_length_le l;have h1:=Lib.ownsRow_putRow (q:=q) (k:=(Lib.compact l).length) (ys:=Lib.compact l++List.replicate (l.length-(Lib.compact l).length) []) h (by simp;omega) hc;rw[List.take_left' rfl]at h1;exact⟨_,cap,rfl,Lib.below_putRow (q:=q) hb hg,h1⟩
theorem om (ba oa ta:Option Addr)(bc oc tc:Nat)(b o t:List R.Leaf)(w:World)(M:Nat→Prop)(hM:∀b,M b→b<w.heap.size)(hb:PT w M (.slice ba b.length bc) b)(ho:PT w M (.slice oa o.length oc) o)(ht:PT w M (.slice ta t.length tc) t)(a0:OkT b)(a1:OkT o)(a2:OkT t):
  Calls Tryz.prog 87 #[.slice ba b.length bc,.slice oa o.length oc,.slice ta t.length tc] w fun e w' =>∃va vc,e= .returned (.tuple #[.slice va (R.joinT b o t).1.length vc,.int .i64 (R.joinT b o t).2])∧PT w' M (.slice va (R.joinT b o t).1.length vc) (R.joinT b o t).1∧Below w.heap.size w w' :=by
 refine GI ba oa ta bc oc tc b o t w M hM hb ho ht a0 a1 a2 fun W b0 hW a3 c0 c1 c2=> ?_
 have e:ZW [b,o,t]=(b++(o++t)).map R.Leaf.path:=by simp[ZW]
 have hn:(ZW [b,o,t]).length≤1000:=by
  rw[e];have:=a0.few;have:=a1.few;have:=a2.few;simp only[List.length_map,List.length_append];omega
 have:=Fd b0 3 [b,o,t] W M (by simp) hn a3 (fun j hj=>by
  match j,hj with
  |0,_=>exact⟨ba,bc,c0,hb.below hW⟩
  |1,_=>exact⟨oa,oc,c1,ho.below hW⟩
  |2,_=>exact⟨ta,tc,c2,ht.below hW⟩) (fun W1 v h1 h2=>c7 h1.size h1 (by omega) h2) (fun W1 v h1 h2=>by
   have hl:((ZW [b,o,t]).mergeSort fun x y=>decide (x≤y)).length=(ZW [b,o,t]).length:=List.length_mergeSort ..;have h3:=Ov (l:=(ZW [b,o,t]).mergeSort fun x y=>decide (x≤y)) h1 (by omega) (by rw[hl];exact h2);exact h3)
 rw[e,Jg a0 a1 a2]at this;exact this
def Zr (n:Nat):Value:= .int .i64 (n:Int)
structure uU (W:World)(B b tc:Nat)(l:List Nat):Prop where
 c0:W.cell? ⟨B,0,none⟩=some (.slice (some ⟨b,0,none⟩) l.length tc)
 cs:∀j (h:j<l.length),W.cell? ⟨b,j,none⟩=some (Zr l[j])
theorem uU.move {W W' :World}{B b tc:Nat}{l:List Nat}(h:uU W B b tc l)(h1:∀p:Addr,p.block=B→W'.cell? p=W.cell? p)(h2:∀p:Addr,p.block=b→W'.cell? p=W.cell? p):uU W' B b tc l:=
 ⟨(h1 _ rfl).trans h.c0,fun j hj=>(h2 ⟨b,j,none⟩ rfl).trans (h.cs j hj)⟩
theorem Vz (l:List Nat)(m:Nat):((l.map fun n:Nat=>(n:Int)).take l.length).contains (m:Int)=decide (m∈l):=by
 rw[List.take_of_length_le (by simp),Bool.eq_iff_iff,List.contains_iff_mem,decide_eq_true_eq,List.mem_map];constructor
 ·rintro⟨n,hn,e⟩
  have:n=m:=by exact_mod_cast e
  rw[←this];exact hn
 ·exact fun h=>⟨m,h,rfl⟩
theorem kI {W:World}{B b tc:Nat}{l:List Nat}(h:uU W B b tc l)(hl:l.length≤100)(m:Nat):
  Calls Tryz.prog 84 #[.slice (some ⟨b,0,none⟩) l.length tc,.int .i64 (m:Int)] W fun e w' =>e= .returned (.bool (decide (m∈l)))∧w' =W:=by
 have:=Tryz.slices_Contains_int b 0 l.length tc (l.map fun n:Nat=>(n:Int)) m W (by simp) (by omega) (fun j hj=>by
  have a0 :j<l.length:=by simpa using hj
  rw[Nat.zero_add,h.cs j a0];simp[Zr,List.getD_eq_getElem?_getD,a0])
 rw[Vz]at this;exact this
theorem GT {W:World}{B b tc:Nat}{l:List Nat}(h:uU W B b tc l)(hl:l.length≤100)(m:Nat):
  Calls Tryz.prog 234 #[.int .i64 (m:Int),.pointer (some ⟨B,0,none⟩)] W fun e w' =>e= .returned (.bool (!decide (m∈l)))∧w' =W:=by
 have HC:=z9 (kI h hl m);have c0:=h.c0;clear h;go_enter Tryz.func234,Tryz.ntmps234;go_wp2_with fail
 refine HC.out.mono ?_;rintro e w1 ⟨rfl,rfl⟩;go_wp2;go_ret;exact⟨rfl,rfl⟩
theorem GS {W:World}{B b tc:Nat}{l:List Nat}(h:uU W B b tc l)(hl:l.length≤100)(m:Nat):
  Calls Tryz.prog 204 #[.int .i64 (m:Int),.pointer (some ⟨B,0,none⟩)] W fun e w' =>e= .returned (.bool (decide (m∈l)))∧w' =W:=by
 have HC:=z9 (kI h hl m);have c0:=h.c0;clear h;go_enter Tryz.func204,Tryz.ntmps204;go_wp2_with fail
 refine HC.out.mono ?_;rintro e w1 ⟨rfl,rfl⟩;go_wp2;go_ret;exact⟨rfl,rfl⟩
theorem fA (g:Nat)(eg:∀args w,(callFunc g args).run Tryz.prog w= .ok (.enter g args) w)(p:Nat→Bool){B b tc:Nat}{l2:List Nat}
  (a1:∀W,uU W B b tc l2→∀m:Nat,Calls Tryz.prog g #[.int .i64 (m:Int),.pointer (some ⟨B,0,none⟩)] W fun e w' =>e= .returned (.bool (p m))∧w' =W)
  {w:World}{base:Nat}{v:Value}{l:List Nat}(ho:w.ownsRow base 3 1 v l.length (l.map Zr))(a0:v≠ .slice none 0 0)(hT:uU w B b tc l2)(hB:B<w.heap.size)(hb:b<w.heap.size)(a4:v.ownBlock≠some B)(a5:v.ownBlock≠some b)(hl:l.length≤100):
  Calls Tryz.prog 203 #[v,.func (.func g) #[] #[.pointer (some ⟨B,0,none⟩)]] w fun e w' =>∃gb vc,e= .returned (.slice (some ⟨gb,0,none⟩) (l.filter fun m=> !p m).length vc)∧v.ownBlock=some gb∧w'.ownsRow base 3 1 (.slice (some ⟨gb,0,none⟩) (l.filter fun m=> !p m).length vc) (l.filter fun m=> !p m).length ((l.filter fun m=> !p m).map Zr)∧zh (fun b=>v.ownBlock=some b) w w' :=by
 obtain⟨gb,cap,rfl,hg,a6,hn,hm,_,hH⟩:=Lib.holds_of_ownsRow ho a0;have h1:gb≠B:=fun e=>a4 (by rw[e];rfl)
 have h2:gb≠b:=fun e=>a5 (by rw[e];rfl)
 have hO:OneCell Zr:=fun _=>rfl
 have a2:PredAt Tryz.prog g #[.pointer (some ⟨B,0,none⟩)] Zr p w:=fun W x hW=>
  (a1 W (hT.move (fun q hq=>hW.cell (by rw[hq];exact hB)) (fun q hq=>hW.cell (by rw[hq];exact hb))) x).mono fun e w' ⟨e1,e2⟩=>⟨e1,0,e2⟩
 have a3:PredOver Tryz.prog g #[.pointer (some ⟨B,0,none⟩)] Zr p gb 0 l.toArray.size w:=fun n os dk x hd=>by
  refine(a1 _ (hT.move (fun q hq=> ?_) (fun q hq=> ?_)) x).mono fun e w' ⟨e1,e2⟩=>⟨e1,0,e2⟩
  ·show(Sort.grow (Sort.putRow Zr (Sort.ahead w n) gb 0 dk) os).cell? q=w.cell? q
   rw[Sort.cell?_grow _ _ _ (by simp[hq,hB]),Sort.cell?_putRow_other _ _ _ _ _ _ (.inl (by rw[hq];exact fun e=>h1 e.symm))];rfl
  ·show(Sort.grow (Sort.putRow Zr (Sort.ahead w n) gb 0 dk) os).cell? q=w.cell? q
   rw[Sort.cell?_grow _ _ _ (by simp[hq,hb]),Sort.cell?_putRow_other _ _ _ _ _ _ (.inl (by rw[hq];exact fun e=>h2 e.symm))];rfl
 have:=Tryz.slices_DeleteFunc Zr hO p g #[.pointer (some ⟨B,0,none⟩)] eg 0 (fun _=>by kernel_rfl) gb 0 cap l.toArray w a2 a3 hH (by simp;omega) (by simpa using hn);simp only[List.size_toArray]at this;refine this.mono ?_;rintro e w' ⟨rfl,q,rfl⟩;have hf:(l.filter fun m=> !p m).length≤l.length:=List.length_filter_le _ _;have h3:=Lib.ownsRow_putRow (q:=q) (k:=(l.filter fun m=> !p m).length) (ys:=(l.filter fun m=> !p m)++List.replicate (l.length-(l.filter fun m=> !p m).length) 0) ho (by simp;omega) hf;rw[List.take_left' rfl]at h3;refine⟨_,cap,rfl,rfl,h3,rfl,rfl,rfl,by simp,fun k hk a0=> ?_⟩;have:gb≠k:=fun e=>a0 (by rw[e];rfl)
 simp[Sort.putRow,Sort.mapBlock,Sort.ahead,Array.getElem?_modify,this]
theorem US (l:List Nat):l.map Zr=(l.map fun n:Nat=>(n:Int)).map (Value.int .i64):=by rw[List.map_map];rfl
theorem Cn {base:Nat}{w:World}{v:Value}{l:List Nat}(hl:l.length≤100)(ho:w.ownsRow base 3 1 v l.length (l.map Zr)):
  Calls Tryz.prog 205 #[v] w fun e w' =>e= .returned (.tuple #[])∧w'.ownsRow base 3 1 v l.length (l.reverse.map Zr)∧zh (fun b=>v.ownBlock=some b) w w' :=by
 by_cases hv:v= .slice none 0 0
 ·subst hv
  have h0:l=[]:=by
   rcases ho.2 with⟨_,h0⟩|⟨g,cap,a1,e,_⟩
   ·exact List.length_eq_zero_iff.1 h0
   ·cases e
  subst h0;exact(Tryz.slices_Reverse_int_empty none 0 w).mono fun e w' ⟨h1,h2⟩=>⟨h1,by rw[h2];exact ho,by rw[h2];exact zh.refl _ _⟩
 ·rw[US]at ho
  obtain⟨gb,cap,rfl,hg,a2,hn,hm,_,hH⟩:=Lib.holds_of_ownsRow ho hv;have:=Tryz.slices_Reverse_int gb 0 cap (l.map fun n:Nat=>(n:Int)) w hH (by simp;omega);rw[List.length_map]at this;refine this.mono ?_;rintro e w' ⟨rfl,q,rfl⟩;have h3:=Lib.ownsRow_putRow (q:=q) (k:=l.length) (ys:=(l.map fun n:Nat=>(n:Int)).reverse) ho (by simp) (j0a _);rw[List.take_of_length_le (by simp)]at h3;have h4:(l.map fun n:Nat=>(n:Int)).reverse.map (Value.int .i64)=l.reverse.map Zr:=by rw[US];simp only[List.map_reverse]
  rw[h4]at h3;refine⟨rfl,h3,rfl,rfl,rfl,by simp,fun k hk a0=> ?_⟩;have:gb≠k:=fun e=>a0 (by rw[e];rfl)
  simp[Sort.putRow,Sort.mapBlock,Sort.ahead,Array.getElem?_modify,this]
def Zc (st:R.St)(name:List UInt8)(c:R.Cm):(Int×Int)×R.St:=if 60≤st.cms.length then((0,4),st)else((((st.cms.length+1:Nat):Int),0),R.down st name c)
theorem JC {w:World}{M O:Nat→Prop}{B:Nat}{st:R.St}{bv cv:Value}{LB:List BrP}{LCm:List (R.Cm×Value×Value)}(hP:PSx w M O B st bv cv LB LCm)(hi:Inv st)(name:List UInt8)(hf:R.fnd st.brs name<st.brs.length)(hl:R.fnd st.brs name<LB.length)(c:R.Cm)(pa:Option Addr)(pc:Nat)(ta:Option Addr)(tn tc:Nat)(c8:PT w M (.slice ta tn tc) c.tree)(c7:Rd w M (.slice pa c.parents.length pc) c.parents.length (Kk c.parents))(hM:∀b,M b→b<w.heap.size)(hT:OkT c.tree)(d6:∀p∈c.parents,1≤p∧p≤st.cms.length)(h2:c.parents.length≤2)(g0:st.packed.length≤100000000000)(hG:ZL w)(h6:∀b,O b→6≤b):
  Calls Tryz.prog 58 #[.pointer (some ⟨B,0,none⟩),.pointer (some ⟨(LB[R.fnd st.brs name]'hl).2.1,0,none⟩),.agg #[.slice pa c.parents.length pc,.slice ta tn tc]] w fun e w' =>e= .returned (.tuple #[.int .i64 (Zc st name c).1.1,.int .i64 (Zc st name c).1.2])∧zO w w' M O B (Zc st name c).2:=by
 obtain⟨ca,cc,e0,e3,e6⟩:=PS.cms1 ⟨_,_,_,_,hP⟩;have f7:=hP.lt B hP.own;have b4:=hP.at_ _ (j0c hl);have a7:=hP.blk _ (j0c hl);have d5:=hP.lt _ a7.1;have b7:(LB[R.fnd st.brs name]'hl).1.name=name:=by
  have:(LB[R.fnd st.brs name]'hl).1=(st.brs[R.fnd st.brs name]'hf):=by simp only[←hP.brs,List.getElem_map]
  rw[this];exact R.fnd_name _ _ hf
 have k0:=b4.c0;rw[b7]at k0;have f9:name.length≤8:=by
  have:=yn _ (hi.names _ (j0c hf));rw[R.fnd_name st.brs name hf]at this;exact this
 unfold maxLen at e6;have b6:=hi.few;have f3:=hT.len;have d3:=hP.lt;obtain⟨n0,a4⟩:∃n0,n0=st.cms.length:=⟨_,rfl⟩
 rw[←a4]at e0 e3 b6;have f5:=z6 a4;by_cases b2:60≤st.cms.length
 ·have HS:Hid (Zc st name c=((0,4),st)):=by show _=_;rw[Zc,if_pos b2]
  have d9:Hid (zO w (w.alloc (Obj.cells #[.slice pa c.parents.length pc,.slice ta tn tc] 114)) M O B st):=zO.same ⟨_,_,_,_,hP⟩ ((j0g _ _).alloc (j0a _) _);have b3 :(60:Int)≤(n0:Int):=by omega
  generalize(LB[R.fnd st.brs name]'hl).2.1=bb at*;clear hP b4 hi c8 c7 hG hT a4;go_enter Tryz.func58,Tryz.ntmps58;go_wp2;go_ret2;rw[HS.out];exact⟨rfl,d9.out⟩
 ·have HS:Hid (Zc st name c=((((n0+1:Nat):Int),0),R.down st name c)):=by show _=_;rw[Zc,if_neg b2,a4]
  have b3 :(n0:Int)<60:=by omega
  have HK:Hid (∀W,Below w.heap.size w W→Calls Tryz.prog 97 #[.pointer (some ⟨B,0,none⟩),.agg #[.slice pa c.parents.length pc,.slice ta tn tc]] W fun e w' =>e= .returned (.int .i64 ((n0:Int)+1))∧∃a2 a0,Yz W w' M O B (R.keepC st c) bv a2 LB a0):=fun W hW=>by
   have:=cM (hP.kept (Z:=fun _=>False) (zh.of_below hW) (fun _ e=>e.elim) (fun b e=> .inl e) hP.sub) c pa pc ta tn tc (c8.below hW) (c7.below hW) (fun b e=>j0b (hM b e) hW.size) hT h2 (by omega) (by omega) (hG.below hW) h6;rw[←a4]at this;exact this
  have a8:=km hi c (by omega) hT d6 h2;have a9:(R.keepC st c).packed.length≤1000000000000:=by
   have:=GU c;simp only[R.keepC,R.record,R.recHead,List.length_append,List.length_cons,List.length_nil];omega
  obtain⟨bb,b1⟩:∃bb,bb=(LB[R.fnd st.brs name]'hl).2.1:=⟨_,rfl⟩
  rw[←b1]at k0 a7 d5⊢;have e1:Hid (∀W w9 a2 a0,Yz W w9 M O B (R.keepC st c) bv a2 LB a0 →Below w.heap.size w W→w.heap.size<W.heap.size→Calls Tryz.prog 48 #[.pointer (some ⟨B,0,none⟩),.string ⟨name.toArray⟩,.int .i64 ((n0:Int)+1)] w9 fun e w' =>e= .returned (.tuple #[])∧Hid (zO w w' M O B (R.down st name c))∧w'.cell? ⟨bb,1,none⟩=some (.int .i64 ((n0:Int)+1))∧w'.cell? ⟨bb,0,none⟩=some (.string ⟨name.toArray⟩)∧(∀o,w'.cell? ⟨w.heap.size,o,none⟩=w9.cell? ⟨w.heap.size,o,none⟩)):=fun W w9 a2 a0 a5 hW d4=>by
   obtain⟨O1,c6,a3,b8⟩:=a5;have g1:=a3.size;have:=oe B (R.keepC st c) name (n0+1) w9 _ O1 c6 hf bb (fun h=>b1.symm) a8 (by rw[a4];simp[R.keepC]) (by omega) a9;refine this.mono ?_;rintro e w' ⟨rfl,a1,h1,h0⟩;have f0:zh O w w9:=⟨a3.os.trans hW.os,a3.tape.trans hW.tape,a3.output.trans hW.output,j0f hW.size a3.size,fun k hk hn=>by rw[a3.block k (j0b hk hW.size) hn];exact hW.block k hk⟩
   have b9 :∀b,O1 b→O b∨w.heap.size≤b:=fun b e=>by
    rcases b8 b e with e|e
    ·exact .inl e
    ·exact .inr (j0f hW.size e)
   refine⟨rfl,?_,h1,h0,fun o=> ?_⟩
   ·have:=zO.trans f0 b9 a1
    rw[a4]at this;exact this
   ·obtain⟨O2,_,e9,_⟩:=a1
    refine e9.cell (p:=⟨w.heap.size,o,none⟩) (show w.heap.size<_ by omega) (fun e=> ?_);rcases b8 _ e with e|e
    ·have f6 :w.heap.size<w.heap.size:=d3 _ e
     omega
    ·have e' :W.heap.size≤w.heap.size:=e
     omega
  have d8:Hid (∀W w9 a2 a0,Yz W w9 M O B (R.keepC st c) bv a2 LB a0 →w.heap.size<W.heap.size→w9.cell? ⟨bb,0,none⟩=some (.string ⟨name.toArray⟩)∧∀o,w9.cell? ⟨w.heap.size,o,none⟩=W.cell? ⟨w.heap.size,o,none⟩):=fun W w9 a2 a0 a5 d4=>by
   obtain⟨O1,c6,a3,b8⟩:=a5;refine⟨?_,fun o=>a3.cell (p:=⟨w.heap.size,o,none⟩) d4 (fun e=>by have e' :w.heap.size<w.heap.size:=d3 _ e;omega)⟩;have:=(c6.at_ _ (j0c hl)).c0;rw[b7,←b1]at this;exact this
  clear hP b4 hi c8 c7 hG hT a8 a9 b7 b1 d6 hM f3 a4 b2;go_enter Tryz.func58,Tryz.ntmps58;go_wp2;have b5:Below w.heap.size w (w.alloc (Obj.cells #[.slice pa c.parents.length pc,.slice ta tn tc] 114)):=(j0g _ _).alloc (j0a _) _;have f4:(w.alloc (Obj.cells #[.slice pa c.parents.length pc,.slice ta tn tc] 114)).heap.size=w.heap.size+1:=by simp
  have x0:(w.alloc (Obj.cells #[.slice pa c.parents.length pc,.slice ta tn tc] 114)).cell? ⟨w.heap.size,0,none⟩=some (.slice pa c.parents.length pc):=by simp
  have x1:(w.alloc (Obj.cells #[.slice pa c.parents.length pc,.slice ta tn tc] 114)).cell? ⟨w.heap.size,1,none⟩=some (.slice ta tn tc):=by simp
  generalize w.alloc (Obj.cells #[.slice pa c.parents.length pc,.slice ta tn tc] 114)=W1 at*;have g2 :=(b5.cell (p:=⟨bb,0,none⟩) d5).trans k0;have c9:Below w.heap.size w W1.drew:=b5.drew;have d7:w.heap.size<W1.drew.heap.size:=by show _<W1.heap.size;omega
  clear b5 f4 k0;go_region_held3 (fun w' =>w'.cell? ⟨bb,0,none⟩=some (.string ⟨name.toArray⟩)∧w'.cell? ⟨w.heap.size,0,none⟩=some (.slice pa c.parents.length pc)∧w'.cell? ⟨w.heap.size,1,none⟩=some (.slice ta tn tc)) (go_keep)
   (first
    |(go_at_call 97;with_reducible refine(HK.out _ c9).mono ?_;rintro e w9 ⟨rfl,a2,a0,a5⟩;obtain⟨f8,e7⟩:=d8.out _ _ _ _ a5 d7;have e2:=z6 a5;clear a5)
    |(go_at_call 48;with_reducible refine(e1.out _ _ _ _ e2.out c9 d7).mono ?_;rintro e g3 ⟨rfl,a1,h1,h0,e8⟩))
  all_goals
   rename_i a6;clear a6 e7 e8;go_wp2;go_ret2;rw[HS.out];exact⟨by first|rfl|simp,a1.out⟩
theorem GJ (s:List UInt8)(w:World)(hs:s.length≤maxLen):
  Calls Tryz.prog 113 #[.string ⟨s.toArray⟩] w fun e w' =>e= .returned (.bool (R.isText s))∧w' =w:=by
 have h:=oo ⟨s.toArray⟩ w (by simpa[ByteArray.size]using hs);simpa using h
theorem CC (v:Value)(t:List R.Leaf)(s text:List UInt8)(w:World)(M:Nat→Prop)(hM:∀b,M b→b<w.heap.size)(h:PT w M v t)(a6:OkT t)(hs:R.isPath s=true)(b8:text.length≤maxLen):
  Calls Tryz.prog 74 #[v,.string ⟨s.toArray⟩,.string ⟨text.toArray⟩] w fun e w' =>Qa w w' M e t (R.noteV t (R.at_ t s) s text):=by
 have b6:=a6.few;have b7:s.length≤1000:=by have:=xG _ hs;omega
 have b3:∀x∈t,x.path.length≤1000:=fun x hx=>(a6.ok x hx).good.path
 have a7:=GJ text w b8;have a2:=js v t s 2 w M h (by omega) a6.sort b3 b7;have a9:=fun W (hW:Below w.heap.size w W)=>OT v t s W M (h.below hW) (by omega) a6.sort
 have a3:=atX a6 s;have a0:=fun W (hW:Below w.heap.size w W) (hT:R.isText text=true)=>uC v t {path:=s,kind:=61,n:=0,text:=text,items:=[]} (.slice none 0 0) W M (fun b hb=>by have:=hM b hb;have:=hW.size;omega) (h.below hW) a6 hs (F3 W M _ rfl) (.inr ⟨hs,.inr (.inl ⟨rfl,rfl,rfl⟩),by simp,by simp,hT,by simp,by simp,fun i j hi=>by simp at hi⟩) (by simp)
 clear h a6 b3;generalize R.at_ t s=x at*;by_cases c0:R.isText text=false
 ·have HR:Hid (R.noteV t x s text=(3,x)):=by show _=_;rw[R.noteV,if_pos c0]
  rw[c0]at a7;clear a3 c0 a0;go_enter Tryz.func74,Tryz.ntmps74;go_wp2_with fail
  refine a7.mono ?_;rintro e w0 ⟨rfl,a4⟩;subst a4;go_wp2;go_ret2;exact⟨none,0,0,Zv (by rw[HR.out]),(fun h=>by rw[HR.out]at h;cases h),j0g _ _⟩
 have a8 :R.isText text=true:=by simpa using c0
 rw[a8]at a7;have a5 :=fun W hW=>a0 W hW a8
 clear a0;by_cases c1:x.kind≠0∧x.kind≠61
 ·have e1:((pk x !=0)&&(pk x !=2))=true:=by
   rw[a3.oth 2 61 (by simp)];exact decide_eq_true c1
  have HR:Hid (R.noteV t x s text=(6,x)):=by show _=_;rw[R.noteV,if_neg c0,if_pos c1]
  rw[e1]at a2;simp only[if_true]at a2;clear a3 c1 e1 c0 a8;go_enter Tryz.func74,Tryz.ntmps74;go_wp2_with fail
  refine a7.mono ?_;rintro e w0 ⟨rfl,a4⟩;subst a4;go_wp2_with fail
  refine a2.mono ?_;rintro e w1 ⟨rfl,a1⟩;go_wp2;go_ret2;exact⟨none,0,0,Zv (by rw[HR.out]),(fun h=>by rw[HR.out]at h;cases h),a1⟩
 have e1:((pk x !=0)&&(pk x !=2))=false:=by
  rw[a3.oth 2 61 (by simp)];exact decide_eq_false c1
 rw[e1]at a2;simp only[Bool.false_eq_true,if_false]at a2;by_cases c2:R.blocked t s=true
 ·have HR:Hid (R.noteV t x s text=(7,x)):=by show _=_;rw[R.noteV,if_neg c0,if_neg c1,if_pos c2]
  rw[if_pos c2]at a2;clear a3 c1 e1 c2 c0 a8;go_enter Tryz.func74,Tryz.ntmps74;go_wp2_with fail
  refine a7.mono ?_;rintro e w0 ⟨rfl,a4⟩;subst a4;go_wp2_with fail
  refine a2.mono ?_;rintro e w1 ⟨rfl,a1⟩;go_wp2;go_ret2;exact⟨none,0,0,Zv (by rw[HR.out]),(fun h=>by rw[HR.out]at h;cases h),a1⟩
 rw[if_neg c2]at a2;by_cases c4:x.kind=0∧24≤t.length
 ·have HR:Hid (R.noteV t x s text=(4,x)):=by show _=_;rw[R.noteV,if_neg c0,if_neg c1,if_neg c2,if_pos c4]
  have e4:((pk x==0)&&decide (24≤t.length))=true:=by
   rw[a3.zero,decide_eq_true c4.1,decide_eq_true c4.2];rfl
  rw[e4]at a9;clear a3 c1 e1 c2 c4 e4 c0 a8;go_enter Tryz.func74,Tryz.ntmps74;go_wp2_with fail
  refine a7.mono ?_;rintro e w0 ⟨rfl,a4⟩;subst a4;go_wp2_with fail
  refine a2.mono ?_;rintro e w1 ⟨rfl,a1⟩;go_wp2_with fail
  refine(a9 _ a1).mono ?_;rintro e w3 ⟨rfl,b2⟩;go_wp2;go_ret2;exact⟨none,0,0,Zv (by rw[HR.out]),(fun h=>by rw[HR.out]at h;cases h),a1.trans (b2.mono a1.size)⟩
 have HR:Hid (R.noteV t x s text=(0,{path:=s,kind:=61,n:=0,text:=text,items:=[]})):=by show _=_;rw[R.noteV,if_neg c0,if_neg c1,if_neg c2,if_neg c4]
 have e4:((pk x==0)&&decide (24≤t.length))=false:=by
  rw[a3.zero,←Bool.decide_and];exact decide_eq_false c4
 rw[e4]at a9;clear a3 c1 e1 c2 c4 e4 c0 a8;go_enter Tryz.func74,Tryz.ntmps74;go_wp2_with fail
 refine a7.mono ?_;rintro e w0 ⟨rfl,a4⟩;subst a4;go_wp2_with fail
 refine a2.mono ?_;rintro e w1 ⟨rfl,a1⟩;go_wp2_with fail
 refine(a9 _ a1).mono ?_;rintro e w3 ⟨rfl,b2⟩;have b1:=a1.trans (b2.mono a1.size);go_wp2_with fail
 refine(a5 _ b1).mono ?_;rintro e w4 ⟨v4,rfl,b4,b5⟩;obtain⟨va,vc,rfl⟩:=Qi b4;go_wp2;go_ret2;exact⟨va,_,vc,Zv (by rw[HR.out]),(fun _=>by rw[HR.out];exact b4),b1.trans (b5.mono b1.size)⟩
theorem Fc (v:Value)(t:List R.Leaf)(s:List UInt8)(w:World)(M:Nat→Prop)(hM:∀b,M b→b<w.heap.size)(h:PT w M v t)(a1:OkT t)(hs:R.isPath s=true):
  Calls Tryz.prog 76 #[v,.string ⟨s.toArray⟩] w fun e w' =>Qa w w' M e t (R.delV (R.at_ t s) s):=by
 have a6:=a1.few;have a3:=uI v t s w M h (by omega) a1.sort;have a2:=atX a1 s;have a8:=fun W (hW:Below w.heap.size w W)=>Jz v t s W M (fun b hb=>by have:=hM b hb;have:=hW.size;omega) (h.below hW) a1 hs
 clear h a1;generalize R.at_ t s=x at*;have a9:=qH (pk x);by_cases c1:x.kind=0
 ·have HR:Hid (R.delV x s=(10,x)):=by show _=_;rw[R.delV,if_pos c1]
  have e1:(pk x==0)=true:=by rw[a2.zero];exact decide_eq_true c1
  clear a2 c1;go_enter Tryz.func76,Tryz.ntmps76;go_wp2_with fail
  refine a3.mono ?_;rintro e w1 ⟨ia,ic,rfl,a7,a0⟩;go_wp2;go_ret2;exact⟨none,0,0,Zv (by rw[HR.out]),(fun h=>by rw[HR.out]at h;cases h),a0⟩
 ·have HR:Hid (R.delV x s=(0,R.none s)):=by show _=_;rw[R.delV,if_neg c1]
  have e1:(pk x==0)=false:=by rw[a2.zero];exact decide_eq_false c1
  clear a2 c1;go_enter Tryz.func76,Tryz.ntmps76;go_wp2_with fail
  refine a3.mono ?_;rintro e w1 ⟨ia,ic,rfl,a7,a0⟩;go_wp2_with fail
  refine(a8 _ a0).mono ?_;rintro e w4 ⟨v4,rfl,a4,a5⟩;obtain⟨va,vc,rfl⟩:=Qi a4;go_wp2;go_ret2;exact⟨va,_,vc,Zv (by rw[HR.out]),(fun _=>by rw[HR.out];exact a4),a0.trans (a5.mono a0.size)⟩
def ZA (x:R.Leaf)(s:List UInt8):R.Leaf:={path:=x.path,kind:=if R.without x.items s=[]then 0 else 42,n:=0,text:=[],items:=R.without x.items s}
theorem jW (x:R.Leaf)(iv:Value)(s:List UInt8)(w:World)(M:Nat→Prop)(hM:∀b,M b→b<w.heap.size)(h:It w M (x,iv))(b5:OkL x)(a1:(x.items.any fun y=>y==s)=true):
  Calls Tryz.prog 102 #[.agg #[.int .i64 (pk x),.int .i64 x.n,.string ⟨x.text.toArray⟩,iv],.string ⟨s.toArray⟩] w fun e w' =>∃ia ic,e= .returned (.agg #[.int .i64 (pk (ZA x s)),.int .i64 0,.string ⟨#[]⟩,.slice ia (R.without x.items s).length ic])∧It w' M (ZA x s,.slice ia (R.without x.items s).length ic)∧Below w.heap.size w w' :=by
 have hl:=b5.many;have a0:=b5.sort;obtain⟨ia,ic,c9,h1,h2,h3⟩:=h;dsimp only at c9 h1 h2 h3;subst c9;have b4:It w M (x,.slice ia x.items.length ic):=⟨ia,ic,rfl,h1,h2,h3⟩
 have a7:=fun W (hW:Below w.heap.size w W)=>Y7 (.slice ia x.items.length ic) x.items s W M (Rd.below b4 hW) (by omega) a0 (a0.mono s)
 have b3:=fun W (hW:Below w.heap.size w W)=>KU (.slice ia x.items.length ic) x.items W M (Rd.below b4 hW) (by omega)
 have HI:Hid (R.without x.items s=x.items.take (xL x.items s)++x.items.drop (xL x.items s+1)):=Ug a0 s a1;have d7:xL x.items s<x.items.length:=(YJ (k:=id) a0.k a1).1;rw[a1]at a7;have a6:(R.without x.items s).length=x.items.length-1:=by
  rw[HI.out];simp only[List.length_append,List.length_take,List.length_drop];omega
 clear h1 h2 h3 a0 b5 a1;generalize xL x.items s=p at*;by_cases h1:x.items.length=1
 ·have d8:R.without x.items s=[]:=List.eq_nil_of_length_eq_zero (by omega)
  have b1:pk (ZA x s)=0:=by simp[ZA,d8,pk]
  have d6:((x.items.length:Int)==1)=true:=by simp[h1]
  have a9:(R.without x.items s).length=0:=by omega
  rw[b1,a9];clear a6 b3 HI;clear h1;go_enter Tryz.func102,Tryz.ntmps102;go_wp2_with fail
  refine(a7 _ (((j0g _ _).alloc (j0a _) _).alloc (by simp) _)).mono ?_;rintro e w1 ⟨rfl,c6⟩;subst c6;go_wp2;refine bodyPost_ret (v:= .agg #[.int .i64 0,.int .i64 0,.string ⟨#[]⟩,.slice none 0 0]) (by simp[results,Tryz.results102,go_sem]) rfl ⟨none,0,rfl,⟨none,0,by simp[ZA,a9],by simp[ZA,a9],by unfold maxLen;omega,fun h=>by simp[ZA,a9]at h⟩,?_⟩;exact((j0g _ _).alloc (j0a _) _).alloc (by simp) _
 ·have d9:R.without x.items s≠ []:=by intro e;rw[e]at a6;simp at a6;omega
  have b1:pk (ZA x s)=3:=by simp[ZA,d9,pk]
  have d6:((x.items.length:Int)==1)=false:=by rw[Bool.eq_false_iff];simp;omega
  rw[b1];clear b1;go_enter Tryz.func102,Tryz.ntmps102;go_wp2_with fail
  refine(a7 _ (((j0g _ _).alloc (j0a _) _).alloc (by simp) _)).mono ?_;rintro e w1 ⟨rfl,c6⟩;subst c6;go_wp2_with fail
  refine(b3 _ (((j0g _ _).alloc (j0a _) _).alloc (by simp) _)).mono ?_;rintro e w2 ⟨v2,rfl,ho,a4⟩;have e3:w.heap.size+2≤w2.heap.size:=by have:=a4.size;simpa using this
  have x0:w2.cell? ⟨w.heap.size+1,0,none⟩=some (.int .i64 0):=by rw[a4.cell (p:=⟨w.heap.size+1,0,none⟩) (by simp)];simp
  have x1:w2.cell? ⟨w.heap.size+1,1,none⟩=some (.int .i64 0):=by rw[a4.cell (p:=⟨w.heap.size+1,1,none⟩) (by simp)];simp
  have x2:w2.cell? ⟨w.heap.size+1,2,none⟩=some (.string ⟨#[]⟩):=by rw[a4.cell (p:=⟨w.heap.size+1,2,none⟩) (by simp)];simp
  have x3:w2.cell? ⟨w.heap.size+1,3,none⟩=some (.slice none 0 0):=by rw[a4.cell (p:=⟨w.heap.size+1,3,none⟩) (by simp)];simp
  have fz:∀j,w2.frozen? ⟨w.heap.size+1,j,none⟩=false:=fun j=>by rw[a4.frozen (p:=⟨w.heap.size+1,j,none⟩) (by simp)];simp
  have c7:Hid (Below w.heap.size w w2):=(((j0g _ _).alloc (j0a _) _).alloc (by simp) _).trans (a4.mono (by simp;omega));have b7 :w2.ownsRow (w.heap.size+2) 9 1 v2 x.items.length (x.items.map S):=by simpa using ho
  have a5:=fC bJ v2 x.items.length p (w.heap.size+2) (x.items.map S) w2 b7 d7 (gX _);have b2:Hid (∀g,v2.ownBlock=some g→w.heap.size+2≤g∧g<w2.heap.size):=b7.lt;clear a4 ho b7 b4 b3 a7;go_wp2_with fail
  refine a5.mono ?_;rintro e w3 ⟨v3,rfl,b8,a8,_⟩;have e6:w2.heap.size≤w3.heap.size:=a8.size;have a2:w3.heap[w.heap.size+1]? =w2.heap[w.heap.size+1]? :=by
   exact a8.block _ (by omega) (fun e=>by have:=b2.out _ e.symm;omega)
  have y0:=(World.cell?_of_block (a:=⟨w.heap.size+1,0,none⟩) a2).trans x0;have y1:=(World.cell?_of_block (a:=⟨w.heap.size+1,1,none⟩) a2).trans x1;have y2:=(World.cell?_of_block (a:=⟨w.heap.size+1,2,none⟩) a2).trans x2;have y3:=(World.cell?_of_block (a:=⟨w.heap.size+1,3,none⟩) a2).trans x3;have f0:=(World.frozen?_of_block (a:=⟨w.heap.size+1,0,none⟩) a2).trans (fz 0);have f1:=(World.frozen?_of_block (a:=⟨w.heap.size+1,1,none⟩) a2).trans (fz 1);have f2:=(World.frozen?_of_block (a:=⟨w.heap.size+1,2,none⟩) a2).trans (fz 2);have f3:=(World.frozen?_of_block (a:=⟨w.heap.size+1,3,none⟩) a2).trans (fz 3);have d4:Hid (Below w.heap.size w w3):=c7.out.grown a8 (by omega) (fun k hk=>by have:=b2.out k hk;omega);have c8:Hid (w3.ownsRow (w.heap.size+2) 9 1 v3 (R.without x.items s).length ((R.without x.items s).map S)):=by
   show w3.ownsRow _ _ _ _ _ _;rw[a6,HI.out];simpa[S,List.map_take,List.map_drop]using b8
  have b6:v3.ownBlock≠some (w.heap.size+1):=fun e=>by have:=(b8.lt _ e).1;omega
  obtain⟨a3,c3,d3,_,_,_,_⟩:=zl c8.out;have e1:=z9 d3;subst d3;clear a2 x0 x1 x2 x3 fz a8 b8 a5 c7 b2 a6;go_wp2;obtain⟨z0,z1,z2,z3⟩:=qZ w3 (w.heap.size+1) (.int .i64 3) (.int .i64 0) (.string ⟨#[]⟩) (.slice a3 (R.without x.items s).length c3) _ _ _ _ y0 y1 y2 y3;have hK:zh (fun k=>k=w.heap.size+1) w3 ((((w3.setCell ⟨w.heap.size+1,0,none⟩ (.int .i64 3)).setCell ⟨w.heap.size+1,1,none⟩ (.int .i64 0)).setCell ⟨w.heap.size+1,2,none⟩ (.string ⟨#[]⟩)).setCell ⟨w.heap.size+1,3,none⟩ (.slice a3 (R.without x.items s).length c3)):=
   ((((zh.refl (fun k=>k=w.heap.size+1) w3).setCell (p:=⟨w.heap.size+1,0,none⟩) (.inl rfl) _).setCell (p:=⟨w.heap.size+1,1,none⟩) (.inl rfl) _).setCell (p:=⟨w.heap.size+1,2,none⟩) (.inl rfl) _).setCell (p:=⟨w.heap.size+1,3,none⟩) (.inl rfl) _
  have d5:Below w.heap.size w ((((w3.setCell ⟨w.heap.size+1,0,none⟩ (.int .i64 3)).setCell ⟨w.heap.size+1,1,none⟩ (.int .i64 0)).setCell ⟨w.heap.size+1,2,none⟩ (.string ⟨#[]⟩)).setCell ⟨w.heap.size+1,3,none⟩ (.slice a3 (R.without x.items s).length c3)):=
   (((d4.out.setCell (p:=⟨w.heap.size+1,0,none⟩) (Nat.le_succ _) _).setCell (p:=⟨w.heap.size+1,1,none⟩) (Nat.le_succ _) _).setCell (p:=⟨w.heap.size+1,2,none⟩) (Nat.le_succ _) _).setCell (p:=⟨w.heap.size+1,3,none⟩) (Nat.le_succ _) _
  generalize((((w3.setCell ⟨w.heap.size+1,0,none⟩ (.int .i64 3)).setCell ⟨w.heap.size+1,1,none⟩ (.int .i64 0)).setCell ⟨w.heap.size+1,2,none⟩ (.string ⟨#[]⟩)).setCell ⟨w.heap.size+1,3,none⟩ (.slice a3 (R.without x.items s).length c3))=w9 at*;have b9:=zp c8.out hK (fun g e e2=>b6 (by rw[e,e2]));exact bodyPost_ret (v:= .agg #[.int .i64 3,.int .i64 0,.string ⟨#[]⟩,.slice a3 (R.without x.items s).length c3]) (by simp[results,Tryz.results102,go_sem,z0,z1,z2,z3]) rfl ⟨a3,c3,rfl,Rd.of_owns b9 (fun b hb=>by have:=hM b hb;omega),d5⟩
