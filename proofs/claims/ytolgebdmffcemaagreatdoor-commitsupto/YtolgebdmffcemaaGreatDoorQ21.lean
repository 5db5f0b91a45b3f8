import Derived.Test.YtolgebdmffcemaaGreatDoorQ18
import Derived.Test.YtolgebdmffcemaaGreatDoorQ20
set_option linter.all false
set_option maxHeartbeats 20000000
set_option maxRecDepth 1000000
namespace Go.Proofs.YtolgebdmffcemaaGreatDoor
open Go.RowKit
def yt (l:List Nat):List Value:=l.map fun(n:Nat)=>Value.int .i64 (n:Int)
theorem G5 (B:Nat)(st:R.St)(c:R.Cm)(w:World)(M O:Nat→Prop)(h:RS w M O B st)(hM:∀b,M b→b<w.heap.size)(hl:st.cms.length<60)(hT:OkT c.tree)(j5:∀p∈c.parents,1≤p∧p≤st.cms.length)(h2:c.parents.length≤2)(hd:c.parents.Nodup)(n4:st.packed.length≤1000000000000):
  Calls Tryz.prog 116 #[.pointer (some ⟨B,0,none⟩),.int .u8 67,.string ⟨(R.bodyC c).toArray⟩] w fun e w' =>e= .returned (.bool true)∧zG w w' M O B (R.keepC st c):=by
 obtain⟨cv,bv,LB,d8,hR⟩:=h;have g4:=hR.lt B hR.own;have c0:=hR.c0;obtain⟨ca,cc,g7,l2,l3,j3,l4⟩:=za hR.crow;have j0:d8.length=st.cms.length:=by rw[←hR.cms,List.length_map]
 rw[g7]at c0;unfold maxLen at l3;have f7:=Qk c;have n8:=hT.len;have j2:=Gy c h2 (by omega);have e4:Hid (∀W,Calls Tryz.prog 162 #[.string ⟨(R.Written c.tree).toArray⟩] W fun e w' =>∃v,e= .returned (.tuple #[v,.bool true])∧Tr w' (fun b=>b<W.heap.size) v c.tree∧Below W.heap.size W w'):=fun W=>G_ c.tree hT W
 have e3:=zd (Oa c _ rfl);have h4:Hid (∀(k:Nat) (hk:k<c.parents.length) (hh:k+1<(R.bodyC c).length),((R.bodyC c)[k+1]).toNat=c.parents[k]∧1≤c.parents[k]∧c.parents[k]≤st.cms.length):=fun k hk hh=>by
  have:=j5 _ (j0c hk);exact⟨gO c k hk (by omega) hh,this⟩
 have h5:=zd hd;have HR:=zd hR;have f9:=zd g7;have m4:=zd j3;obtain⟨bl,d5⟩:∃bl,bl=R.bodyC c:=⟨_,rfl⟩
 obtain⟨ps,d9⟩:∃ps,ps=c.parents:=⟨_,rfl⟩
 obtain⟨n0,e8⟩:∃n0,n0=st.cms.length:=⟨_,rfl⟩
 have j7:=zd d5;have k3:=zd d9;have g0:=zd e8;rw[←d5,←d9]at e3;rw[←d5]at f7;rw[←d9]at f7 h2 h5;rw[←e8]at hl;have c7:Hid (∀(k:Nat) (hk:k<ps.length) (hh:k+1<bl.length),(bl[k+1]).toNat=ps[k]∧1≤ps[k]∧ps[k]≤n0):=by
  subst d5 d9 e8;exact h4.out
 have g5:0<bl.length:=by omega
 have e6 :(bl[0]'g5).toNat=ps.length:=by subst d5 d9;exact j2
 rw[←d5];rw[j0,←e8]at c0 l2;have m8:bl.length≤300000:=by omega
 have m7:ps.length+1≤bl.length:=by omega
 have m3:=zd f7;clear hR g7 j3 l4 d5 d9 e8 hd h4 j2 f7 j5 hT j0;have e0:(({data:=bl.toArray}:ByteArray)[0]'(by simpa[ByteArray.size]using g5)).toNat=ps.length:=by rw[Zp bl 0 g5];exact e6
 clear e6;go_enter Tryz.func116,Tryz.ntmps116;go_wp2;have zc:∀o u,#[Value.slice none 0 0,.slice none 0 0][o]? =some u→(w.alloc (Obj.cells #[.slice none 0 0,.slice none 0 0] 210)).cell? ⟨w.heap.size,o,none⟩=some u:=fun o u hu=>by
  rw[World.cell?_alloc_at _ _ _ _ rfl];exact hu
 have zf:∀o,(w.alloc (Obj.cells #[.slice none 0 0,.slice none 0 0] 210)).frozen? ⟨w.heap.size,o,none⟩=false:=fun o=>World.frozen?_alloc_at _ _ _ _ rfl
 have zb:Below w.heap.size w (w.alloc (Obj.cells #[.slice none 0 0,.slice none 0 0] 210)):=(j0g _ _).alloc (j0a _) _;have zs:(w.alloc (Obj.cells #[.slice none 0 0,.slice none 0 0] 210)).heap.size=w.heap.size+1:=by simp
 generalize w.alloc (Obj.cells #[.slice none 0 0,.slice none 0 0] 210)=wY at*;have i8:=zd zc;have k8:=zd zf;have k7:=zd zb;have k9:=zd zs;clear zc zf zb zs;go_loopw [9] (fun i wr=>∃(k:Nat) (v:Value),k≤ps.length∧i= .int .i64 (1+(k:Int))∧wr.cell? ⟨w.heap.size,1,none⟩=some v∧wr.ownsRow (w.heap.size+1) 3 1 v k (yt (ps.take k))∧wr.cell? ⟨w.heap.size,0,none⟩=some (.slice none 0 0)∧(∀o,wr.frozen? ⟨w.heap.size,o,none⟩=false)∧Below w.heap.size w wr∧w.heap.size+1≤wr.heap.size) (fun i _=>ps.length+1-(intOf i).toNat)
 case atStart=>exact⟨0,.slice none 0 0,Nat.zero_le _,rfl,i8.out 1 _ rfl,World.ownsRow_nil _ _ _ _,i8.out 0 _ rfl,k8.out,k7.out,by rw[k9.out];exact j0a _⟩
 case round=>
  obtain⟨k,v,hk,rfl,q1,qo,q0,qf,qb,qs⟩:=hrel;have cB:=(qb.cell (p:=⟨B,0,none⟩) g4).trans c0;obtain⟨va,vc,rfl,n7,f3,_⟩:=za qo;unfold maxLen at f3;have QB:=zd qb;clear qb;by_cases m9:k<ps.length
  ·have g8:k=0∨k=1:=by omega
   rcases g8 with rfl|rfl
   ·skip
    obtain⟨a1,a2,a3⟩:=c7.out 0 (by omega) (by omega);have e1:(({data:=bl.toArray}:ByteArray)[1]'(by simp[ByteArray.size];omega)).toNat=ps[0]:=by rw[Zp bl 1 (by omega)];exact a1
    have e9:yt (ps.take 1)=yt (ps.take 0)++ [.int .i64 (ps[0]:Nat)]:=by rw[List.take_succ_eq_append_getElem (by omega:0<ps.length),yt,List.map_append];rfl
    have g3:=zd e9;generalize ps[0]=x0 at*;clear a1 e9;have g1:¬(x0:Int)<1:=by omega
    have g2:¬(n0:Int)<(x0:Int):=by omega
    go_wp2;go_quiet (fail)
    go_wp2_with (at_builtin;go_loud (refine Zi _ rfl _ _ 39 rfl (w.heap.size+1) 3 (.int .i64 0) 1 8 Tryz.underlying39 yB rfl (by decide) (by exact qo) _ rfl (by rfl) (by rfl) (by intro u hu;simp at hu;subst hu;rfl) (by unfold maxLen;omega) (by omega) (by first|omega|(simp;omega)) ?_))
    intro v2 w2 d6 b5;have a8:(Value.slice va 0 vc).ownBlock≠some w.heap.size:=fun e=>by have:=(qo.lt _ e).1;omega
    have a5:w2.heap[w.heap.size]? =wr.heap[w.heap.size]? :=b5.block _ (by show _<wr.heap.size;omega) (fun e=>a8 e.symm);have cl:∀o,w2.cell? ⟨w.heap.size,o,none⟩=wr.cell? ⟨w.heap.size,o,none⟩:=fun o=>World.cell?_of_block (a:=⟨w.heap.size,o,none⟩) a5
    have fl:∀o,w2.frozen? ⟨w.heap.size,o,none⟩=wr.frozen? ⟨w.heap.size,o,none⟩:=fun o=>World.frozen?_of_block (a:=⟨w.heap.size,o,none⟩) a5
    have r1:=(cl 1).trans q1;have m2:=(fl 1).trans (qf 1);obtain⟨a0,a4,f3,_⟩:=za d6;subst f3;have d7:w2.ownsRow (w.heap.size+1) 3 1 (.slice a0 (0+1) a4) (0+1) (yt (ps.take (0+1))):=by rw[g3.out];exact d6
    have l6:wr.heap.size≤w2.heap.size:=b5.size;have a7:Hid ((w2.setCell ⟨w.heap.size,1,none⟩ (.slice a0 (0+1) a4)).cell? ⟨w.heap.size,1,none⟩=some (.slice a0 (0+1) a4)∧(w2.setCell ⟨w.heap.size,1,none⟩ (.slice a0 (0+1) a4)).ownsRow (w.heap.size+1) 3 1 (.slice a0 (0+1) a4) (0+1) (yt (ps.take (0+1)))∧(w2.setCell ⟨w.heap.size,1,none⟩ (.slice a0 (0+1) a4)).cell? ⟨w.heap.size,0,none⟩=some (.slice none 0 0)∧
      (∀o,(w2.setCell ⟨w.heap.size,1,none⟩ (.slice a0 (0+1) a4)).frozen? ⟨w.heap.size,o,none⟩=false)∧Below w.heap.size w (w2.setCell ⟨w.heap.size,1,none⟩ (.slice a0 (0+1) a4))∧w.heap.size+1≤(w2.setCell ⟨w.heap.size,1,none⟩ (.slice a0 (0+1) a4)).heap.size):=
     ⟨zD _ _ _ _ _ r1,zh d7 ((zj.refl (fun b=>b=w.heap.size) w2).setCell (p:=⟨w.heap.size,1,none⟩) (.inl rfl) _) (fun g e e2=>by have:=(d7.lt g e).1;omega),(z9 _ _ _ _ _ (by omega)).trans ((cl 0).trans q0),fun o=>by rw[World.frozen?_setCell,fl];exact qf o,
      ((below_drewN QB.out _).grown b5 (by show _≤wr.heap.size;omega) (fun k e=>by have:=(qo.lt k e).1;omega)).setCell (p:=⟨w.heap.size,1,none⟩) (j0a _) _,by rw[World.size_setCell];omega⟩
    clear cl fl a5 a8 d6 d7 b5 qo q1 q0 qf;go_wp2;go_roundw
    case rel=>exact⟨0+1,_,by omega,by go_num,a7.out.1,a7.out.2.1,a7.out.2.2.1,a7.out.2.2.2.1,a7.out.2.2.2.2.1,a7.out.2.2.2.2.2⟩
    case measure=>simp[intOf];omega
   ·skip
    obtain⟨a1,a2,a3⟩:=c7.out 0 (by omega) (by omega);have e1:(({data:=bl.toArray}:ByteArray)[1]'(by simp[ByteArray.size];omega)).toNat=ps[0]:=by rw[Zp bl 1 (by omega)];exact a1
    obtain⟨b1,b2,b3⟩:=c7.out 1 (by omega) (by omega);have e2:(({data:=bl.toArray}:ByteArray)[2]'(by simp[ByteArray.size];omega)).toNat=ps[1]:=by rw[Zp bl 2 (by omega)];exact b1
    have a8:((ps[0]:Nat):Int)≠((ps[1]:Nat):Int):=fun h=>by
     have h1:=(List.pairwise_iff_getElem.1 h5.out) 0 1 (by omega) (by omega) (by omega);exact h1 (Int.ofNat.inj h)
    have n3:((((ps[0]:Nat):Int))==((ps[1]:Nat):Int))=false:=by simpa using a8
    have e9:yt (ps.take 2)=yt (ps.take 1)++ [.int .i64 (ps[1]:Nat)]:=by rw[List.take_succ_eq_append_getElem (by omega:1<ps.length),yt,List.map_append];rfl
    have g3:=zd e9;generalize ps[0]=x0 at*;generalize ps[1]=x1 at*;clear a8 b1 e9 a1;have i1:1<bl.length:=by omega
    have i2:2<bl.length:=by omega
    have i3:(1:Int)<(bl.length:Int):=by omega
    have i4:(2:Int)<(bl.length:Int):=by omega
    have i5:(1:Nat)<({data:=bl.toArray}:ByteArray).size:=by simpa[ByteArray.size]using i1
    have i6:(2:Nat)<({data:=bl.toArray}:ByteArray).size:=by simpa[ByteArray.size]using i2
    have g1:¬(x1:Int)<1:=by omega
    have g2:¬(n0:Int)<(x1:Int):=by omega
    go_wp2;go_quiet (fail)
    go_wp2_with (at_builtin;go_loud (refine Zi _ rfl _ _ 39 rfl (w.heap.size+1) 3 (.int .i64 0) 1 8 Tryz.underlying39 yB rfl (by decide) (by exact qo) _ rfl (by rfl) (by rfl) (by intro u hu;simp at hu;subst hu;rfl) (by unfold maxLen;omega) (by omega) (by first|omega|(simp;omega)) ?_))
    intro v2 w2 d6 b5;have a8:(Value.slice va 1 vc).ownBlock≠some w.heap.size:=fun e=>by have:=(qo.lt _ e).1;omega
    have a5:w2.heap[w.heap.size]? =wr.heap[w.heap.size]? :=b5.block _ (by show _<wr.heap.size;omega) (fun e=>a8 e.symm);have cl:∀o,w2.cell? ⟨w.heap.size,o,none⟩=wr.cell? ⟨w.heap.size,o,none⟩:=fun o=>World.cell?_of_block (a:=⟨w.heap.size,o,none⟩) a5
    have fl:∀o,w2.frozen? ⟨w.heap.size,o,none⟩=wr.frozen? ⟨w.heap.size,o,none⟩:=fun o=>World.frozen?_of_block (a:=⟨w.heap.size,o,none⟩) a5
    have r1:=(cl 1).trans q1;have m2:=(fl 1).trans (qf 1);obtain⟨a0,a4,f3,_⟩:=za d6;subst f3;have d7:w2.ownsRow (w.heap.size+1) 3 1 (.slice a0 (1+1) a4) (1+1) (yt (ps.take (1+1))):=by rw[g3.out];exact d6
    have l6:wr.heap.size≤w2.heap.size:=b5.size;have a7:Hid ((w2.setCell ⟨w.heap.size,1,none⟩ (.slice a0 (1+1) a4)).cell? ⟨w.heap.size,1,none⟩=some (.slice a0 (1+1) a4)∧(w2.setCell ⟨w.heap.size,1,none⟩ (.slice a0 (1+1) a4)).ownsRow (w.heap.size+1) 3 1 (.slice a0 (1+1) a4) (1+1) (yt (ps.take (1+1)))∧(w2.setCell ⟨w.heap.size,1,none⟩ (.slice a0 (1+1) a4)).cell? ⟨w.heap.size,0,none⟩=some (.slice none 0 0)∧
      (∀o,(w2.setCell ⟨w.heap.size,1,none⟩ (.slice a0 (1+1) a4)).frozen? ⟨w.heap.size,o,none⟩=false)∧Below w.heap.size w (w2.setCell ⟨w.heap.size,1,none⟩ (.slice a0 (1+1) a4))∧w.heap.size+1≤(w2.setCell ⟨w.heap.size,1,none⟩ (.slice a0 (1+1) a4)).heap.size):=
     ⟨zD _ _ _ _ _ r1,zh d7 ((zj.refl (fun b=>b=w.heap.size) w2).setCell (p:=⟨w.heap.size,1,none⟩) (.inl rfl) _) (fun g e e2=>by have:=(d7.lt g e).1;omega),(z9 _ _ _ _ _ (by omega)).trans ((cl 0).trans q0),fun o=>by rw[World.frozen?_setCell,fl];exact qf o,
      ((below_drewN QB.out _).grown b5 (by show _≤wr.heap.size;omega) (fun k e=>by have:=(qo.lt k e).1;omega)).setCell (p:=⟨w.heap.size,1,none⟩) (j0a _) _,by rw[World.size_setCell];omega⟩
    clear cl fl a5 a8 d6 d7 b5 qo q1 q0 qf;go_wp2;go_roundw
    case rel=>exact⟨1+1,_,by omega,by go_num,a7.out.1,a7.out.2.1,a7.out.2.2.1,a7.out.2.2.2.1,a7.out.2.2.2.2.1,a7.out.2.2.2.2.2⟩
    case measure=>simp[intOf];omega
  ·obtain rfl:k=ps.length:=by omega
   have k4:=zd qo;have m1:=qf 1;have j6:=qf 0;go_wp2_with fail
   rw[e3.out];refine(e4.out _).mono ?_;rintro e w1 ⟨tv,rfl,h0,d4⟩;have n5:=d4.size;obtain⟨a9,b4,b0,rfl⟩:∃a n k,tv= .slice a n k:=by obtain⟨L,_,⟨a,k,e,_⟩,_⟩:=h0;exact⟨a,_,k,e⟩
   have d0:=(d4.cell (p:=⟨w.heap.size,0,none⟩) (show w.heap.size<_ by omega)).trans q0;have d1:=(d4.cell (p:=⟨w.heap.size,1,none⟩) (show w.heap.size<_ by omega)).trans q1;have f0:=(d4.frozen (p:=⟨w.heap.size,0,none⟩) (show w.heap.size<_ by omega)).trans j6;have dB:=(d4.cell (p:=⟨B,0,none⟩) (show B<_ by omega)).trans cB;have k6:=zd h0;have b8:=zd d4;clear h0 d4 q0 q1 cB qf m1 j6 qo;have a6:∀g,(Value.slice ca n0 cc).ownBlock=some g→O g∧g≠B:=fun g e=>by
    have h1:=f9.out;rw[show d8.length=n0 by rw[g0.out,←HR.out.cms,List.length_map]]at h1;have:=HR.out.crowO g (by rw[h1];exact e);exact⟨this.1,this.2.1⟩
   have c6:w1.ownsRow 0 210 2 (.slice ca n0 cc) n0 (Yj d8):=by
    have h1:=f9.out;have h2:=HR.out.crow;rw[show d8.length=n0 by rw[g0.out,←HR.out.cms,List.length_map]]at h1 h2;rw[h1]at h2;exact zw (zw h2 QB.out) (b8.out.mono (j0a _))
   go_wp2;have k1:zj (fun b=>b=w.heap.size) w1 (w1.setCell ⟨w.heap.size,0,none⟩ (.slice a9 b4 b0)):=(zj.refl (fun b=>b=w.heap.size) w1).setCell (p:=⟨w.heap.size,0,none⟩) (.inl rfl) _;have s0:(w1.setCell ⟨w.heap.size,0,none⟩ (.slice a9 b4 b0)).cell? ⟨w.heap.size,0,none⟩=some (.slice a9 b4 b0):=zD _ _ _ _ _ d0;have s1:(w1.setCell ⟨w.heap.size,0,none⟩ (.slice a9 b4 b0)).cell? ⟨w.heap.size,1,none⟩=some (.slice va ps.length vc):=(z9 _ _ _ _ _ (by omega)).trans d1;have sz:(w1.setCell ⟨w.heap.size,0,none⟩ (.slice a9 b4 b0)).heap.size=w1.heap.size:=World.size_setCell ..;generalize w1.setCell ⟨w.heap.size,0,none⟩ (.slice a9 b4 b0)=W1 at*;have sB:=(k1.cell (p:=⟨B,0,none⟩) (show B<w1.heap.size by omega) (show¬B=w.heap.size by omega)).trans dB;have n9:w.heap.size+1≤W1.heap.size:=by omega
   have so:=zh c6 k1 (fun g e e2=>by have:=HR.out.lt g (a6 g e).1;omega);have fB:∀o,W1.frozen? ⟨B,o,none⟩=false:=fun o=>by rw[k1.frozen (p:=⟨B,o,none⟩) (show B<w1.heap.size by omega) (show¬B=w.heap.size by omega),b8.out.frozen (p:=⟨B,o,none⟩) (show B<wr.heap.size by omega),QB.out.frozen (p:=⟨B,o,none⟩) g4];exact HR.out.fr o
   have pB:W1.cell? ⟨B,2,none⟩=some (.string ⟨st.packed.toArray⟩):=by rw[k1.cell (p:=⟨B,2,none⟩) (show B<w1.heap.size by omega) (show¬B=w.heap.size by omega),b8.out.cell (p:=⟨B,2,none⟩) (show B<wr.heap.size by omega),QB.out.cell (p:=⟨B,2,none⟩) g4];exact HR.out.c2
   have rB:∀o,(W1.alloc o).cell? ⟨B,0,none⟩=some (.slice ca n0 cc):=fun o=>by rw[World.cell?_alloc_past _ _ _ (by omega)];exact sB
   have r0:∀o,(W1.alloc o).cell? ⟨w.heap.size,0,none⟩=some (.slice a9 b4 b0):=fun o=>by rw[World.cell?_alloc_past _ _ _ (by omega)];exact s0
   have r1:∀o,(W1.alloc o).cell? ⟨w.heap.size,1,none⟩=some (.slice va ps.length vc):=fun o=>by rw[World.cell?_alloc_past _ _ _ (by omega)];exact s1
   have i7:Hid (∀o,(W1.alloc o).cell? ⟨B,2,none⟩=some (.string ⟨st.packed.toArray⟩)):=fun o=>by rw[World.cell?_alloc_past _ _ _ (by omega)];exact pB
   have h8:Hid (∀o j,(W1.alloc o).frozen? ⟨B,j,none⟩=false):=fun o j=>by rw[World.frozen?_alloc_past _ _ _ (by omega)];exact fB j
   have h7:=zd rB;have f4:=zd k1;have k5:=zd sz;have j9:=zd a6;have g6:(Value.slice ca n0 cc).ownBlock≠some B:=fun e=>(a6 B e).2 rfl
   obtain⟨i0,l1,l8,l9,m0⟩:=info_parts Tryz.info210;clear k1 sz a6 pB fB c6 d0 d1 dB f0;go_wp2;go_region_law ((refine step_append_lies _ (by rfl) _ _ 74 (by rfl) 0 210 i0 (.agg #[.slice none 0 0,.slice none 0 0]) 2 48 Tryz.underlying74 l1 l8 l9 m0 rfl (by decide) (.slice ca n0 cc) n0 (Yj d8) (by rfl) (by exact so.alloc _) ⟨W1.heap.size,0,none⟩ 1 1 [.slice a9 b4 b0,.slice va ps.length vc] (by rfl) rfl (by exact zE W1 #[.slice a9 b4 b0,.slice va ps.length vc] 210) (by intro u hu;simp at hu;rcases hu with rfl|rfl<;>rfl) (by decide) (by unfold maxLen;omega) (by omega) (Nat.zero_le _) (W1.heap.size+1) (by simp) ?_;intro gg f5 w8 j4 b6 e5 g9;have c8:w8.cell? ⟨B,0,none⟩=some (.slice ca n0 cc):=b6.cell (by exact h7.out _) (fun e=>g6 e.symm);have f8:∀o,w8.frozen? ⟨B,o,none⟩=false:=fun o=>(World.frozen?_of_block (a:=⟨B,o,none⟩) (b6.block B (by simp;omega) (fun e=>g6 e.symm))).trans (by exact h8.out _ o);have p8:w8.cell? ⟨B,2,none⟩=some (.string ⟨st.packed.toArray⟩):=b6.cell (by exact i7.out _) (fun e=>g6 e.symm);have m5:=f8 0))
   all_goals
    have n6:W1.heap.size+1≤w8.heap.size:=by have:=b6.size;simp at this;omega
    have b9:∀k,k<W1.heap.size→(Value.slice ca n0 cc).ownBlock≠some k→w8.heap[k]? =W1.heap[k]? :=fun k hk a8=>by
     rw[b6.block k (by simp;omega) (fun e=>a8 e.symm)];exact heap_alloc_old W1 _ hk
    have l7:=k5.out;have c9:zj (fun b=>(Value.slice ca n0 cc).ownBlock=some b∨b=w.heap.size) w1 w8:=⟨b6.os.trans f4.out.os,b6.tape.trans f4.out.tape,b6.output.trans f4.out.output,by omega,fun k hk hn=>by rw[b9 k (by omega) (fun e=>hn (.inl e))];exact f4.out.block k hk (fun e=>hn (.inr e))⟩
    have d3:zj (fun b=>(Value.slice ca n0 cc).ownBlock=some b∨b=w.heap.size) wr w8:=⟨c9.os.trans b8.out.os,c9.tape.trans b8.out.tape,c9.output.trans b8.out.output,j0f b8.out.size c9.size,fun k hk hn=>by rw[c9.block k (by omega) hn];exact b8.out.block k hk⟩
    have i9:zj (fun b=>(Value.slice ca n0 cc).ownBlock=some b) w w8:=⟨d3.os.trans QB.out.os,d3.tape.trans QB.out.tape,d3.output.trans QB.out.output,j0f QB.out.size d3.size,fun k hk hn=>by
     rw[d3.block k (by omega) (fun e=>by rcases e with e|e;exact hn e;omega)];exact QB.out.block k hk⟩
    have HF:Hid (∀w6,Below w8.heap.size (w8.setCell ⟨B,0,none⟩ (.slice (some ⟨gg,0,none⟩) (n0+1) f5)) w6→zG w (w6.setCell ⟨B,2,none⟩ (.string ⟨(st.packed++R.record 67 bl).toArray⟩)) M O B (R.keepC st c)):=fun w6 f6=>by
     have j1:d8.length=n0:=by rw[g0.out,←HR.out.cms,List.length_map]
     have e7 :cv= .slice ca n0 cc:=by have:=f9.out;rw[j1]at this;exact this
     have b7:∀b,(Value.slice ca n0 cc).ownBlock=some b→b<w.heap.size:=fun b e=>HR.out.lt b (j9.out b e).1
     have h3:∀b,(Value.slice (some ⟨gg,0,none⟩) (n0+1) f5).ownBlock=some b→(Value.slice ca n0 cc).ownBlock=some b∨W1.heap.size≤b:=fun b e=>by
      have e' :gg=b:=Option.some.inj e;rcases e5 with h1|h1
      ·exact .inl (by rw[←e'];exact h1)
      ·exact .inr (by omega)
     have:=OZ (c:=c) (tv:= .slice a9 b4 b0) (pv:= .slice va ps.length vc) (v3:= .slice (some ⟨gg,0,none⟩) (n0+1) f5) HR.out hM (w5:=w8) (w6:=w6) (by rw[e7];exact i9) (by rw[j1];exact j4) (fun g e=>by
       rw[e7];rcases h3 g e with e|e
       ·exact .inl e
       ·exact .inr (by omega)) (k6.out.step c9 (fun b e=>by
       rcases e with e|e
       ·have:=b7 b e;omega
       ·omega) (fun b e=>by
       rcases e with e|e
       ·exact .inl (by omega)
       ·rcases h3 b e with e|e
        ·have:=b7 b e;exact .inl (by omega)
        ·exact .inr (by omega))) (by
       have h9:Rd wr (fun b=>b<w.heap.size+1) (.slice va ps.length vc) ps.length (yt ps):=by
        have:=k4.out;rw[List.take_length]at this;exact Rd.of_owns this (fun b e=>e)
       have l0:=h9.step (M' :=fun b=>b<w.heap.size∨(Value.slice (some ⟨gg,0,none⟩) (n0+1) f5).ownBlock=some b) d3 (fun b e=>by
        rcases e with e|e
        ·have:=b7 b e;omega
        ·omega) (fun b e=>by
        rcases e with e|e
        ·exact .inl (by omega)
        ·rcases h3 b e with e|e
         ·have:=b7 b e;exact .inl (by omega)
         ·exact .inr (by omega))
       have l5:=k3.out;subst l5;exact l0) f6 (st.packed++R.record 67 bl)
     rw[j7.out]at this⊢;exact this
    have m6:B<w8.heap.size:=by omega
    have j8:=zd p8;have k2:=zd f8;clear b9 l7 c9 d3 i9 j4 b6 e5 g9 p8 f8 h7 i7 h8 rB r0 r1 so s0 s1;go_wp2_with fail
    refine(xQ 67 B 67 rfl st.packed bl _ (by simp;omega) (by rw[z9 _ _ _ _ _ (by omega)];exact j8.out) (fun o=>by rw[World.frozen?_setCell];exact k2.out o) (by omega) (by omega)).mono ?_;rintro e w' ⟨rfl,w6,f6,rfl⟩;go_wp2;go_ret;rw[World.size_setCell]at f6;exact⟨rfl,HF.out w6 f6⟩
theorem Kv:∀(L:List (R.Br×Value)) (i:Nat) (_:i<L.length) (p:R.Br×Value),zv (L.set i p)=(((zv L).set (i*3) (.string ⟨p.1.name.toArray⟩)).set (i*3+1) (.int .i64 (p.1.head:Int))).set (i*3+2) p.2
 |q::r,0,_,p=>by simp[zv]
 |q::r,i+1,h,p=>by
  have ih:=Kv r i (by simpa using h) p;unfold zv at ih⊢;simp only[List.set_cons_succ,List.flatMap_cons];rw[ih,show(i+1)*3=(i*3)+3 from by omega,show i*3+3+1=(i*3+1)+3 from by omega,show i*3+3+2=(i*3+2)+3 from by omega];simp
theorem U4 {w w5 w6:World}{M O:Nat→Prop}{B:Nat}{st:R.St}{cv:Value}{g cap:Nat}{LB:List (R.Br×Value)}{a6:List (R.Cm×Value×Value)}(hR:RSx w M O B st cv (.slice (some ⟨g,0,none⟩) LB.length cap) LB a6)
  {i:Nat}(hi:i<LB.length){name:List UInt8}{n:Nat}{tv:Value}{t:List R.Leaf}(a0:Below w.heap.size w w5)(a8:Tr w M tv t)
  (a1:Below w5.heap.size (((w5.setCell ⟨g,i*3,none⟩ (.string ⟨name.toArray⟩)).setCell ⟨g,i*3+1,none⟩ (.int .i64 (n:Int))).setCell ⟨g,i*3+2,none⟩ tv) w6)(pk:List UInt8):
  zG w (w6.setCell ⟨B,2,none⟩ (.string ⟨pk.toArray⟩)) M O B {st with brs:=st.brs.set i {name:=name,head:=n,work:=t},packed:=pk}:=by
 have a2:=hR.rowO g rfl;have b0:=hR.lt g a2.1;have a7:=hR.lt B hR.own;have b1:=a0.size;have K5:zj (fun b=>b=g) w5 (((w5.setCell ⟨g,i*3,none⟩ (.string ⟨name.toArray⟩)).setCell ⟨g,i*3+1,none⟩ (.int .i64 (n:Int))).setCell ⟨g,i*3+2,none⟩ tv):=(((zj.refl (fun b=>b=g) w5).setCell (p:=⟨g,i*3,none⟩) (.inl rfl) _).setCell (p:=⟨g,i*3+1,none⟩) (.inl rfl) _).setCell (p:=⟨g,i*3+2,none⟩) (.inl rfl) tv;have a5:(((w5.setCell ⟨g,i*3,none⟩ (.string ⟨name.toArray⟩)).setCell ⟨g,i*3+1,none⟩ (.int .i64 (n:Int))).setCell ⟨g,i*3+2,none⟩ tv).ownsRow 0 87 3 (.slice (some ⟨g,0,none⟩) LB.length cap) LB.length (zv (LB.set i ({name:=name,head:=n,work:=t},tv))):=by
  rw[Kv LB i hi];have hl:=zW LB;exact Zm (Zm (Zm (zw hR.row a0) _ (by omega) _) _ (by simp only[List.length_set];omega) _) _ (by simp only[List.length_set];omega) tv
 have a9:(((w5.setCell ⟨g,i*3,none⟩ (.string ⟨name.toArray⟩)).setCell ⟨g,i*3+1,none⟩ (.int .i64 (n:Int))).setCell ⟨g,i*3+2,none⟩ tv).heap.size=w5.heap.size:=by rw[World.size_setCell,World.size_setCell,World.size_setCell]
 generalize(((w5.setCell ⟨g,i*3,none⟩ (.string ⟨name.toArray⟩)).setCell ⟨g,i*3+1,none⟩ (.int .i64 (n:Int))).setCell ⟨g,i*3+2,none⟩ tv)=w7 at*;have b2:w5.heap.size≤w6.heap.size:=j0f K5.size a1.size;have Kf:zj (fun b=>b=g∨b=B) w (w6.setCell ⟨B,2,none⟩ (.string ⟨pk.toArray⟩)):=⟨a1.os.trans (K5.os.trans a0.os),a1.tape.trans (K5.tape.trans a0.tape),a1.output.trans (K5.output.trans a0.output),by rw[World.size_setCell];omega,fun k hk hn=>by
  rw[Below.heap_setCell _ _ _ _ (fun e=>hn (.inr e)),a1.block k (by omega),K5.block k (by omega) (fun e=>hn (.inl e))];exact a0.block k hk⟩
 have cl:∀o,w6.cell? ⟨B,o,none⟩=w.cell? ⟨B,o,none⟩:=fun o=>by
  rw[a1.cell (p:=⟨B,o,none⟩) (show B<_ by omega),K5.cell (p:=⟨B,o,none⟩) (show B<_ by omega) (fun e=>a2.2 e.symm)];exact a0.cell (p:=⟨B,o,none⟩) a7
 have a4:∀b,(b=g∨b=B)→M b:=fun b e=>by
  rcases e with e|e
  ·rw[e];exact hR.sub g a2.1
  ·rw[e];exact hR.sub B hR.own
 have a3 :∀b,(M b∨O b)→M b∨w.heap.size≤b:=fun b e=> .inl (by rcases e with e|e;exact e;exact hR.sub b e)
 refine⟨O,⟨cv,.slice (some ⟨g,0,none⟩) LB.length cap,LB.set i ({name:=name,head:=n,work:=t},tv),a6,fun b e=> .inr e,fun b e=>j0b (hR.lt b e) Kf.size,hR.own,?_,?_,?_,fun o=> ?_,?_,?_,hR.rowO,fun p hp=> ?_,hR.cms,?_,hR.crowO,fun p hp=>(hR.ctree p hp).step Kf a4 a3,fun p hp=>(hR.cpar p hp).step Kf a4 a3,hR.memo.keep (fun o ho=>by rw[z9 _ _ _ _ _ (by omega),cl]) Kf a4 a3⟩,Kf.mono (fun b e=> ?_),fun b e=> .inl e⟩
 ·rw[z9 _ _ _ _ _ (by omega),cl];exact hR.c0
 ·rw[z9 _ _ _ _ _ (by omega),cl];exact hR.c1
 ·exact zD _ _ _ _ _ (by rw[cl];exact hR.c2)
 ·rw[World.frozen?_setCell,a1.frozen (p:=⟨B,o,none⟩) (show B<_ by omega),K5.frozen (p:=⟨B,o,none⟩) (show B<_ by omega) (fun e=>a2.2 e.symm),a0.frozen (p:=⟨B,o,none⟩) a7];exact hR.fr o
 ·rw[List.map_set,hR.brs]
 ·rw[List.length_set]
  exact zh (zw a5 (a9▸a1)) ((zj.refl (fun b=>b=B) w6).setCell (p:=⟨B,2,none⟩) (.inl rfl) _) (fun q hq e=>a2.2 (by have:=Option.some.inj hq;simp only at this;omega))
 ·rcases List.mem_or_eq_of_mem_set hp with hp|rfl
  ·exact(hR.work p hp).step Kf a4 a3
  ·exact a8.step Kf a4 a3
 ·exact zh hR.crow Kf (fun q hq e=>by
   rcases e with e|e
   ·exact(hR.crowO q hq).2.2 (by rw[e];rfl)
   ·exact(hR.crowO q hq).2.1 e)
 ·rcases e with e|e
  ·rw[e];exact a2.1
  ·rw[e];exact hR.own
theorem Ue (B:Nat)(st:R.St)(name:List UInt8)(n:Nat)(w:World)(M O:Nat→Prop)(h:RS w M O B st)(hf:R.fnd st.brs name<st.brs.length)(f5:st.brs.length≤1000)(g6:st.packed.length≤100000000000000)(g5:name.length≤1000)(hn:n≤st.cms.length)(hc:st.cms.length≤255):
  Calls Tryz.prog 165 #[.pointer (some ⟨B,0,none⟩),.string ⟨name.toArray⟩,.int .i64 (n:Int)] w fun e w' =>e= .returned (.tuple #[])∧zG w w' M O B (R.setHead st name n):=by
 obtain⟨tv,b0,b5⟩:=JA B st n w M O h hn hc;obtain⟨ta,tn,a0,f6⟩:∃ta tn a0,tv= .slice ta tn a0:=by
  obtain⟨L,hL,⟨a,cap,rfl,_⟩,_⟩:=b0;exact⟨a,_,cap,rfl⟩
 subst f6;have b4:R.fndI st.brs name=(R.fnd st.brs name:Int):=by rw[R.fndI,if_pos hf]
 have a2:Hid (∀W,Below w.heap.size w W→Calls Tryz.prog 164 #[.pointer (some ⟨B,0,none⟩),.string ⟨name.toArray⟩] W fun e w' =>e= .returned (.int .i64 (R.fnd st.brs name:Int))∧w' =W):=fun W hW=>by
  have:=yJ B st name W M O (h.below hW);rwa[b4]at this
 obtain⟨cv,bv,LB,f7,hR⟩:=h;have a8:=hR.lt B hR.own;have f8:LB.length=st.brs.length:=by rw[←hR.brs,List.length_map]
 obtain⟨i,hi⟩:∃i,i=R.fnd st.brs name:=⟨_,rfl⟩
 have f3:i<LB.length:=by omega
 have f4:i<st.brs.length:=by omega
 obtain⟨a,cap,e9,g4,hm,b8,b9⟩:=za hR.row;subst e9;obtain⟨g,e7,b7,b6⟩:∃g,a=some ⟨g,0,none⟩∧(∀o,w.frozen? ⟨g,o,none⟩=false)∧(∀j u,(zv LB)[j]? =some u→w.cell? ⟨g,j,none⟩=some u):=by
  cases a with
  |none=>exact absurd (b8 rfl).1 (by omega)
  |some ad=>
   obtain⟨g,rfl,_,_,h1,h2⟩:=b9 ad rfl;exact⟨g,rfl,h1,h2⟩
 subst e7;have a9:=hR.rowO g rfl;have a7:=hR.lt g a9.1;have c1:=hR.c1;have a4:=zd hR.c2;have d5:=zd hR.fr;have gc:∀j,j<3→∃u,w.cell? ⟨g,i*3+j,none⟩=some u:=fun j hj=>by
  have hl:=zW LB;exact⟨_,b6 (i*3+j) _ (j0d (by omega))⟩
 obtain⟨u0,g0⟩:=gc 0 (by omega);obtain⟨u1,g1⟩:=gc 1 (by omega);obtain⟨u2,g2⟩:=gc 2 (by omega);have HR:=zd hR;have d9:=zd b0;have c8:=zd b5;have HI:=zd hi;have f0:g≠B:=a9.2;have b3:B≠g:=fun e=>f0 e.symm
 unfold maxLen at hm;rw[←hi]at a2;have d6:=zd b7;clear b8 b9 b6 gc hR b0 b5 hi b4 b7 a9;rw[Nat.add_zero]at g0;go_enter Tryz.func165,Tryz.ntmps165;go_wp2_with fail
 refine(c8.out _ (j0g _ _)).mono ?_;rintro e w1 ⟨rfl,rfl⟩;go_wp2_with fail
 have a1:Below w1.heap.size w1 (w1.alloc (.cells #[.string ⟨name.toArray⟩,.int .i64 (n:Int),.slice ta tn a0] 87)):=(j0g _ _).alloc (j0a _) _;have c6:(w1.alloc (.cells #[.string ⟨name.toArray⟩,.int .i64 (n:Int),.slice ta tn a0] 87)).heap.size=w1.heap.size+1:=by simp
 have x0:(w1.alloc (.cells #[.string ⟨name.toArray⟩,.int .i64 (n:Int),.slice ta tn a0] 87)).cell? ⟨w1.heap.size,0,none⟩=some (.string ⟨name.toArray⟩):=by simp
 have x1:(w1.alloc (.cells #[.string ⟨name.toArray⟩,.int .i64 (n:Int),.slice ta tn a0] 87)).cell? ⟨w1.heap.size,1,none⟩=some (.int .i64 (n:Int)):=by simp
 have x2:(w1.alloc (.cells #[.string ⟨name.toArray⟩,.int .i64 (n:Int),.slice ta tn a0] 87)).cell? ⟨w1.heap.size,2,none⟩=some (.slice ta tn a0):=by simp
 generalize w1.alloc (.cells #[.string ⟨name.toArray⟩,.int .i64 (n:Int),.slice ta tn a0] 87)=wA at*;refine(a2.out _ a1).mono ?_;rintro e w2 ⟨rfl,rfl⟩;have d1:=(a1.cell (p:=⟨B,1,none⟩) a8).trans c1;have d0:=(a1.cell (p:=⟨g,i*3,none⟩) a7).trans g0;have e1:=(a1.cell (p:=⟨g,i*3+1,none⟩) a7).trans g1;have e2:=(a1.cell (p:=⟨g,i*3+2,none⟩) a7).trans g2;have ef:∀o,w2.frozen? ⟨g,o,none⟩=false:=fun o=>(a1.frozen (p:=⟨g,o,none⟩) a7).trans (d6.out o)
 have pB:=(a1.cell (p:=⟨B,2,none⟩) a8).trans a4.out;have fB:∀o,w2.frozen? ⟨B,o,none⟩=false:=fun o=>(a1.frozen (p:=⟨B,o,none⟩) a8).trans (d5.out o)
 have g3:g≠w1.heap.size:=by omega
 have g7:w1.heap.size≠g:=by omega
 have e4:=ef (i*3);have e5:=ef (i*3+1);have e6:=ef (i*3+2);have c9:=zd a1;have d8:=zd pB;have d4:=zd fB;have e3:=zd c6;clear a1 pB fB c1 g0 g1 g2 ef c6;go_wp2;go_region_held3 (fun w' =>w'.cell? ⟨B,1,none⟩=some (.slice (some ⟨g,0,none⟩) LB.length cap)∧w'.cell? ⟨w1.heap.size,0,none⟩=some (.string ⟨name.toArray⟩)∧w'.cell? ⟨w1.heap.size,1,none⟩=some (.int .i64 (n:Int))∧w'.cell? ⟨w1.heap.size,2,none⟩=some (.slice ta tn a0)) (go_keep) (fail)
 rename_i a6;clear a6;have HF:Hid (∀w6,Below w2.heap.size ((((w2.setCell ⟨g,i*3,none⟩ (.string ⟨name.toArray⟩)).setCell ⟨g,i*3+1,none⟩ (.int .i64 (n:Int))).setCell ⟨g,i*3+2,none⟩ (.slice ta tn a0)).drew) w6→zG w1 (w6.setCell ⟨B,2,none⟩ (.string ⟨(st.packed++R.record 66 (UInt8.ofNat n::name)).toArray⟩)) M O B (R.setHead st name n)):=fun w6 a3=>by
  have:=U4 HR.out f3 (name:=name) (n:=n) c9.out d9.out (w6:=w6) ⟨a3.os,a3.tape,a3.output,a3.size,a3.block⟩ (st.packed++R.record 66 (UInt8.ofNat n::name));rw[HI.out]at this;exact this
 have k7:zj (fun b=>b=g) w2 ((((w2.setCell ⟨g,i*3,none⟩ (.string ⟨name.toArray⟩)).setCell ⟨g,i*3+1,none⟩ (.int .i64 (n:Int))).setCell ⟨g,i*3+2,none⟩ (.slice ta tn a0)).drew):=((((zj.refl (fun b=>b=g) w2).setCell (p:=⟨g,i*3,none⟩) (.inl rfl) _).setCell (p:=⟨g,i*3+1,none⟩) (.inl rfl) _).setCell (p:=⟨g,i*3+2,none⟩) (.inl rfl) _).drewN 1;have z7:((((w2.setCell ⟨g,i*3,none⟩ (.string ⟨name.toArray⟩)).setCell ⟨g,i*3+1,none⟩ (.int .i64 (n:Int))).setCell ⟨g,i*3+2,none⟩ (.slice ta tn a0)).drew).heap.size=w2.heap.size:=by
  have hd:∀W:World,W.drew.heap.size=W.heap.size:=fun _=>rfl
  rw[hd,World.size_setCell,World.size_setCell,World.size_setCell]
 generalize(((w2.setCell ⟨g,i*3,none⟩ (.string ⟨name.toArray⟩)).setCell ⟨g,i*3+1,none⟩ (.int .i64 (n:Int))).setCell ⟨g,i*3+2,none⟩ (.slice ta tn a0)).drew=W7 at*;have b2:B<w2.heap.size:=by have:=e3.out;omega
 have c7:=(k7.cell (p:=⟨B,2,none⟩) b2 b3).trans d8.out;have b1:∀o,W7.frozen? ⟨B,o,none⟩=false:=fun o=>(k7.frozen (p:=⟨B,o,none⟩) b2 b3).trans (d4.out o)
 have f9:=vk W7 W7.heap.size rfl (UInt8.ofNat n) (n:Int) (by rw[ZD];omega);have d7:=zd c7;have d3:=zd b1;have a5:=zd z7;clear k7 c7 b1 z7 d0 d1 e1 e2 e4 e5 e6 x0 x1 x2;go_wp2_with fail
 rw[yZ [UInt8.ofNat n] #[UInt8.ofNat n] rfl,Z9];refine(xQ 66 B 66 rfl st.packed (UInt8.ofNat n::name) _ (by have:=a5.out;simp;omega) (by rw[World.cell?_alloc_past _ _ _ (by have:=a5.out;omega)];exact d7.out) (fun o=>by rw[World.frozen?_alloc_past _ _ _ (by have:=a5.out;omega)];exact d3.out o) (by omega) (by simp;omega)).mono ?_;rintro e w' ⟨rfl,w6,a3,rfl⟩;go_wp2;go_end0
 refine⟨rfl,HF.out w6 ?_⟩;have e8:Below w2.heap.size W7 (W7.alloc (.cells #[.int .u8 (n:Int)] 5)):=(j0g _ _).alloc (by rw[a5.out];exact j0a _) _;exact e8.trans (a3.mono (by have:=a5.out;simp;omega))
theorem zG.trans {w w1 w2:World}{M O O1:Nat→Prop}{B:Nat}{st:R.St}(hk:zj O w w1)(hO:∀b,O1 b→O b∨w.heap.size≤b)(h:zG w1 w2 (fun b=>M b∨O1 b) O1 B st)(a3:∀b,O b→M b):zG w w2 M O B st:=by
 obtain⟨O2,hR,a0,a2⟩:=h;refine⟨O2,hR.kept (zj.refl (fun _=>False) w2) (fun _ e=>e.elim) (fun b e=> .inl ?_) (fun b e=> .inr e),⟨a0.os.trans hk.os,a0.tape.trans hk.tape,a0.output.trans hk.output,j0f hk.size a0.size,fun k a1 hn=> ?_⟩,fun b e=> ?_⟩
 ·rcases e with e|e
  ·exact .inl (.inl e)
  ·exact .inr e
 ·rw[a0.block k (j0b a1 hk.size) (fun e=>by rcases hO k e with e|e;exact hn e;omega)]
  exact hk.block k a1 hn
 ·rcases a2 b e with e|e
  ·exact hO b e
  ·exact .inr (j0f hk.size e)
theorem zG.after {w w1 w2:World}{M O:Nat→Prop}{B:Nat}{st:R.St}(hb:Below w.heap.size w w1)(h:zG w1 w2 M O B st):zG w w2 M O B st:=by
 obtain⟨O2,hR,a0,a2⟩:=h;refine⟨O2,hR,⟨a0.os.trans hb.os,a0.tape.trans hb.tape,a0.output.trans hb.output,j0f hb.size a0.size,fun k a1 hn=> ?_⟩,fun b e=> ?_⟩
 ·rw[a0.block k (j0b a1 hb.size) hn];exact hb.block k a1
 ·rcases a2 b e with e|e
  ·exact .inl e
  ·exact .inr (j0f hb.size e)
theorem RS.cms0 {w:World}{M O:Nat→Prop}{B:Nat}{st:R.St}(h:RS w M O B st):∃a c,w.cell? ⟨B,0,none⟩=some (.slice a st.cms.length c)∧st.cms.length≤c∧c≤maxLen:=by
 obtain⟨cv,bv,LB,a0,hR⟩:=h;obtain⟨a,c,hv,h1,h2,_⟩:=za hR.crow;have hl:a0.length=st.cms.length:=by rw[←hR.cms,List.length_map]
 rw[hl]at hv h1;exact⟨a,c,by rw[←hv];exact hR.c0,h1,h2⟩
theorem OI (B:Nat)(st:R.St)(name:List UInt8)(c:R.Cm)(tv pv:Value)(w:World)(M O:Nat→Prop)(h:RS w M O B st)(hM:∀b,M b→b<w.heap.size)(hi:Inv st)(hl:st.cms.length<60)(hf:R.fnd st.brs name<st.brs.length)(c6:Tr w M tv c.tree)(f9:Rd w M pv c.parents.length (yt c.parents))(hT:OkT c.tree)(b7:∀p∈c.parents,1≤p∧p≤st.cms.length)(h2:c.parents.length≤2)(hd:c.parents.Nodup)(f8:st.packed.length≤1000000000000):
  Calls Tryz.prog 177 #[.pointer (some ⟨B,0,none⟩),.string ⟨name.toArray⟩,tv,pv] w fun e w' =>e= .returned (.int .i64 ((st.cms.length+1:Nat):Int))∧zG w w' M O B (R.down st name c):=by
 have e7:∀b,O b→M b:=by obtain⟨_,_,_,_,hR⟩:=h;exact hR.sub
 have g6:name.length≤8:=by
  have:=ZA _ (hi.names _ (j0c hf));rw[R.fnd_name st.brs name hf]at this;exact this
 have a6:Hid (∀W,Below w.heap.size w W→Calls Tryz.prog 116 #[.pointer (some ⟨B,0,none⟩),.int .u8 67,.string ⟨(R.bodyC c).toArray⟩] W fun e w' =>e= .returned (.bool true)∧zG W w' M O B (R.keepC st c)):=fun W hW=>G5 B st c W M O (h.below hW) (fun b e=>j0b (hM b e) hW.size) hl hT b7 h2 hd f8
 have e5:Hid (∀W,Below w.heap.size w W→Calls Tryz.prog 175 #[tv] W fun e w' =>e= .returned (.string ⟨(R.Written c.tree).toArray⟩)∧Below W.heap.size W w'):=fun W hW=>Xc tv c.tree W M (c6.kept (zj.of_below hW)) (fun x hx=>(hT.ok x hx).good) (by have:=hT.few;omega)
 have b1:=Qk c;have g7:=hT.len;obtain⟨pa,pc,b8,f6,f7,b6⟩:=f9;subst b8;obtain⟨ta,tn,tc,c7⟩:∃a n k,tv= .slice a n k:=by obtain⟨L,_,⟨a,k,e,_⟩,_⟩:=c6;exact⟨a,_,k,e⟩
 subst c7;obtain⟨ps,a8⟩:∃ps,ps=c.parents:=⟨_,rfl⟩
 have c8:=zd a8;have d9:=zd b7;rw[←a8]at f6 b6 h2;rw[←a8];have a7:ps.length=c.parents.length:=by rw[a8]
 unfold maxLen at f7;have d8:=zd b6;have HH:=zd h;have HI:=zd hi;have g2:=zd a7;have e9:(R.bodyC c).length≤300000:=by omega
 have g1:=zd b1;clear a8 b7 b6 hT hd c6 h hi a7 b1;have g3 :(ps.length:Int)≤2:=by omega
 have b4:=vk w w.heap.size rfl (UInt8.ofNat ps.length) (ps.length:Int) (by rw[ZD];omega);go_enter Tryz.func177,Tryz.ntmps177;go_wp2;have zb:Below w.heap.size w (w.alloc (Obj.cells #[.int .u8 (ps.length:Int)] 5)):=(j0g _ _).alloc (j0a _) _;generalize w.alloc (Obj.cells #[.int .u8 (ps.length:Int)] 5)=wY at*;have e6:=zd zb;clear zb b4;go_loopw [9,10] (fun s i wr=>∃(k:Nat) (sl:List UInt8),k≤ps.length∧i= .int .i64 k∧s= .string ⟨sl.toArray⟩∧sl=UInt8.ofNat ps.length::(ps.take k).map UInt8.ofNat∧Below w.heap.size w wr) (fun _ i _=>ps.length-(intOf i).toNat)
 case atStart=>exact⟨0,[UInt8.ofNat ps.length],Nat.zero_le _,rfl,rfl,by simp,e6.out⟩
 case round=>
  obtain⟨k,sl,hk,rfl,rfl,b9,hb⟩:=hrel;have g0:sl.length≤10:=by rw[b9];simp;omega
  have c9:=zd b9;clear b9;by_cases b5:k<ps.length
  ·obtain⟨b,off,rfl,b1,_,a1⟩:=d8.out (by omega)
   have hx:=d9.out ps[k] (by rw[←c8.out];exact j0c b5);have d0:wr.cell? ⟨b,off+k,none⟩=some (.int .i64 (ps[k]:Nat)):=by
    rw[hb.cell (p:=⟨b,off+k,none⟩) b1];exact a1 k _ (by simp[yt,b5])
   have e3:Hid ((UInt8.ofNat ps.length::(ps.take (k+1)).map UInt8.ofNat)=(UInt8.ofNat ps.length::(ps.take k).map UInt8.ofNat)++ [UInt8.ofNat ps[k]]):=by show _=_;rw[List.take_succ_eq_append_getElem b5,List.map_append];rfl
   generalize ps[k]=x at*;have g5:=vk wr wr.heap.size rfl (UInt8.ofNat x) (x:Int) (by rw[ZD];omega);have d5:(x:Int)<256:=by omega
   have g8:(0:Int)≤(x:Int):=by omega
   have HB:=zd hb;have f0:=hb.size;clear a1 hb;go_wp2;go_roundw
   case rel=>exact⟨k+1,sl++ [UInt8.ofNat x],by omega,by go_num,by first|rfl|(rw[yZ [UInt8.ofNat x] #[UInt8.ofNat x] rfl,Z9]),by rw[e3.out,c9.out],HB.out.alloc f0 _⟩
   case measure=>simp[intOf];omega
  ·obtain rfl:k=ps.length:=by omega
   have d6:Hid (sl++R.Written c.tree=R.bodyC c):=by
    show _=_;rw[c9.out,List.take_length,R.bodyC,c8.out];simp
   have HB:=zd hb;clear hb;go_wp2_with fail
   refine(e5.out _ HB.out).mono ?_;rintro e w1 ⟨rfl,d3⟩;have a0:Hid (Below w.heap.size w w1):=HB.out.trans (d3.mono HB.out.size);clear d3;go_wp2_with fail
   rw[Z9,d6.out];refine(a6.out _ a0.out).mono ?_;rintro e w2 ⟨rfl,O1,b3,a5,d4⟩;have b2:(R.keepC st c).cms.length=st.cms.length+1:=by simp[R.keepC]
   have a9:(R.keepC st c).packed.length≤100000000000000:=by simp only[R.keepC,R.record,R.recHead,List.length_append,List.length_cons,List.length_nil];omega
   have d7:Hid (Calls Tryz.prog 165 #[.pointer (some ⟨B,0,none⟩),.string ⟨name.toArray⟩,.int .i64 ((st.cms.length:Int)+1)] w2 fun e w' =>e= .returned (.tuple #[])∧zG w2 w' (fun b=>M b∨O1 b) O1 B (R.down st name c)):=by
    have:=Ue B (R.keepC st c) name (st.cms.length+1) w2 _ O1 b3 hf (by have:=HI.out.many;simp only[R.keepC];omega) a9 (by omega) (by omega) (by omega);exact this
   obtain⟨a2,c2,e2,f3,f4⟩:=b3.cms0;rw[b2]at e2 f3;have HK:Hid (zj O w w2∧(∀b,O1 b→O b∨w.heap.size≤b)):=⟨⟨a5.os.trans a0.out.os,a5.tape.trans a0.out.tape,a5.output.trans a0.out.output,j0f a0.out.size a5.size,fun k hk hn=>by rw[a5.block k (j0b hk a0.out.size) hn];exact a0.out.block k hk⟩,fun b e=>by
    rcases d4 b e with e|e
    ·exact .inl e
    ·exact .inr (j0f a0.out.size e)⟩
   unfold maxLen at f4;clear b3 a5 d4 b2 a9;go_wp2_with fail
   refine d7.out.mono ?_;rintro e w3 ⟨rfl,a3⟩;have b0:zG w w3 M O B (R.down st name c):=zG.trans HK.out.1 HK.out.2 a3 e7;obtain⟨a4,c4,e4,g4,f5⟩:∃a c',w3.cell? ⟨B,0,none⟩=some (.slice a (st.cms.length+1) c')∧st.cms.length+1≤c' ∧c' ≤maxLen:=by
    obtain⟨O2,e8,_⟩:=a3;obtain⟨a,c',h1,h2,h3⟩:=e8.cms0;have b2:(R.down st name c).cms.length=st.cms.length+1:=by simp[R.down,R.setHead,R.keepC]
    rw[b2]at h1 h2;exact⟨a,c',h1,h2,h3⟩
   unfold maxLen at f5;have e1:=zd b0;clear a3 b0 e2;go_wp2;go_ret;exact⟨by first|rfl|simp,e1.out⟩
theorem OM (B:Nat)(st:R.St)(name:List UInt8)(w:World)(M O:Nat→Prop)(h:RS w M O B st)(hM:∀b,M b→b<w.heap.size)(hi:Inv st)(f8:st.packed.length≤1000000000000):
  Calls Tryz.prog 124 #[.pointer (some ⟨B,0,none⟩),.string ⟨name.toArray⟩] w fun e w' =>e= .returned (.tuple #[.int .i64 (R.commit st name).1.1,.int .i64 (R.commit st name).1.2])∧zG w w' M O B (R.commit st name).2:=by
 have b3:=h;have b6:=yJ B st name w M O b3;obtain⟨cv,bv,LB,i2,hR⟩:=h;have c1:=hR.c1;obtain⟨a,cap,rfl,i7,hm,d8,e2⟩:=za hR.row;have HL:Hid (LB.length=st.brs.length):=by show _=_;rw[←hR.brs,List.length_map]
 unfold maxLen at hm;rcases R.fndI_cases st.brs name with⟨f1,f2⟩|⟨f1,f2⟩
 ·have HS:Hid (R.commit st name=((0,5),st)):=by show _=_;rw[R.commit,if_pos (by omega)]
  rw[HS.out];rw[f1]at b6;clear e2 d8 f1 f2;go_enter Tryz.func124,Tryz.ntmps124;go_wp2_with fail
  refine b6.mono ?_;rintro e w1 ⟨rfl,rfl⟩;go_wp2;go_ret2;exact⟨rfl,zG.same b3 (j0g _ _)⟩
 ·have a5:R.fnd st.brs name<LB.length:=by rw[HL.out];exact f2
  have b8:(LB[R.fnd st.brs name]'a5).1=st.brs[R.fnd st.brs name]:=by simp[←hR.brs]
  have hw:R.workOf st name=(LB[R.fnd st.brs name]'a5).1.work:=by
   rw[R.workOf,j0d f2,b8];rfl
  have hh:R.headOf st name=(LB[R.fnd st.brs name]'a5).1.head:=by
   rw[R.headOf,j0d f2,b8];rfl
  have f7:(LB[R.fnd st.brs name]'a5).1.name=name:=by rw[b8];exact R.fnd_name st.brs name f2
  have b0:=hR.work _ (j0c a5);rw[←hw]at b0;have d7:=Qc hi name;have g8:=hi.few;obtain⟨h5,b1,f4⟩:=JA B st (R.headOf st name) w M O b3 d7 (by omega);have a9:=Zc hi name;have a8:=Yb hi (R.headOf st name);obtain⟨wv,e5⟩:∃wv,wv=(LB[R.fnd st.brs name]'a5).2:=⟨_,rfl⟩
  rw[←e5]at b0;obtain⟨wa,wn,wc,e4⟩:∃a n k,wv= .slice a n k:=by obtain⟨L,_,⟨a,k,e,_⟩,_⟩:=b0;exact⟨a,_,k,e⟩
  obtain⟨ta,tn,tc,h1⟩:∃a n k,h5= .slice a n k:=by obtain⟨L,_,⟨a,k,e,_⟩,_⟩:=b1;exact⟨a,_,k,e⟩
  subst h1;rw[e4]at b0;obtain⟨hd,b4⟩:∃hd,hd=R.headOf st name:=⟨_,rfl⟩
  obtain⟨i,b9⟩:∃i,i=R.fnd st.brs name:=⟨_,rfl⟩
  obtain⟨g,g6,f6⟩:∃g,a=some ⟨g,0,none⟩∧(∀j u,(zv LB)[j]? =some u→w.cell? ⟨g,j,none⟩=some u):=by
   cases a with
   |none=>exact absurd (d8 rfl).1 (by omega)
   |some ad=>
    obtain⟨g,rfl,_,_,_,h2⟩:=e2 ad rfl;exact⟨g,rfl,h2⟩
  subst g6;obtain⟨d0,d1,d2⟩:=ZS f6 _ a5;rw[f7]at d0;rw[←hh,←b4]at d1;rw[←e5,e4]at d2;rw[←b9]at d0 d1 d2;have i6:i<LB.length:=by omega
  have e9:Hid (∀W,Below w.heap.size w W→Calls Tryz.prog 175 #[.slice wa wn wc] W fun e w' =>e= .returned (.string ⟨(R.Written (R.workOf st name)).toArray⟩)∧Below W.heap.size W w'):=fun W hW=>Xc _ _ W M (b0.kept (zj.of_below hW)) (fun x hx=>(a9.ok x hx).good) (by have:=a9.few;omega)
  have f0:Hid (∀W,Below w.heap.size w W→Calls Tryz.prog 175 #[.slice ta tn tc] W fun e w' =>e= .returned (.string ⟨(R.Written (R.treeOf st hd)).toArray⟩)∧Below W.heap.size W w'):=fun W hW=>by rw[b4];exact Xc _ _ W M (b1.kept (zj.of_below hW)) (fun x hx=>(a8.ok x hx).good) (by have:=a8.few;omega)
  have g1:Hid (∀W,Below w.heap.size w W→Calls Tryz.prog 176 #[.pointer (some ⟨B,0,none⟩),.int .i64 (hd:Int)] W fun e w' =>e= .returned (.slice ta tn tc)∧w' =W):=by rw[b4];exact f4
  have e8:=zd b0;have HR:=zd b3;have HI:=zd hi;have c8:=zd b4;have i0:=zd b9;have g5:=hR.lt B hR.own;have i5:=hR.lt g (hR.rowO g rfl).1;obtain⟨ca,cc,e0,i4,g7⟩:=b3.cms0;have g2:Hid (∀W,Below w.heap.size w W→W.cell? ⟨B,0,none⟩=some (.slice ca st.cms.length cc)):=fun W hW=>(hW.cell (p:=⟨B,0,none⟩) g5).trans e0
  unfold maxLen at g7;rw[f1,←b9]at b6;have g3:=zd b6;have b5:=zd f2;obtain⟨s1,d9⟩:∃s1,s1=R.Written (R.workOf st name):=⟨_,rfl⟩
  obtain⟨s2,e1⟩:∃s2,s2=R.Written (R.treeOf st hd):=⟨_,rfl⟩
  rw[←d9]at e9;rw[←e1]at f0;have e6:=zd d9;have e7:=zd e1;have g9 :hd≤st.cms.length:=by rw[b4];exact d7
  clear b6 d8 e2 f6 b0 b1 f4 a9 a8 hw hh f7 b8 e5 e4 b3 hR b4 hi f1 f2 d9 e1 e0 b9 d7;go_enter Tryz.func124,Tryz.ntmps124;go_wp2_with fail
  refine g3.out.mono ?_;rintro e w1 ⟨rfl,rfl⟩;go_wp2;have d6:Below w1.heap.size w1 (w1.alloc (Obj.cells #[.string ⟨name.toArray⟩,.int .i64 (hd:Int),.slice wa wn wc] 87)):=(j0g _ _).alloc (j0a _) _;have f9:(w1.alloc (Obj.cells #[.string ⟨name.toArray⟩,.int .i64 (hd:Int),.slice wa wn wc] 87)).heap.size=w1.heap.size+1:=by simp
  have x1:(w1.alloc (Obj.cells #[.string ⟨name.toArray⟩,.int .i64 (hd:Int),.slice wa wn wc] 87)).cell? ⟨w1.heap.size,1,none⟩=some (.int .i64 (hd:Int)):=by simp
  have x2:(w1.alloc (Obj.cells #[.string ⟨name.toArray⟩,.int .i64 (hd:Int),.slice wa wn wc] 87)).cell? ⟨w1.heap.size,2,none⟩=some (.slice wa wn wc):=by simp
  generalize w1.alloc (Obj.cells #[.string ⟨name.toArray⟩,.int .i64 (hd:Int),.slice wa wn wc] 87)=wA at*;have i3:Below w1.heap.size w1 wA.drew:=d6.drew;have i8:w1.heap.size+1≤wA.drew.heap.size:=by show _≤wA.heap.size;omega
  have h9:=zd d6;have i1:=zd f9;clear d6 f9 c1 d0 d1 d2;go_region_held3 (fun w' =>w'.cell? ⟨w1.heap.size,1,none⟩=some (.int .i64 (hd:Int))∧w'.cell? ⟨w1.heap.size,2,none⟩=some (.slice wa wn wc)) (go_keep)
   (first
    |(go_at_call 176;refine(g1.out _ (by assumption)).mono ?_;rintro e w9 ⟨rfl,rfl⟩)
    |(go_at_call 175;with_reducible refine(e9.out _ (by assumption)).mono ?_;rintro e w9 ⟨rfl,a3⟩;have h4:w1.heap.size+1≤w9.heap.size:=j0f (by assumption) a3.size;have d5:Below w1.heap.size w1 w9:=Below.trans (by assumption) (a3.mono (by omega));have f5:∀o,w9.cell? ⟨w1.heap.size,o,none⟩=_:=fun o=>a3.cell (p:=⟨w1.heap.size,o,none⟩) (show w1.heap.size<_ by omega);clear a3)
    |(go_at_call 175;with_reducible refine(f0.out _ (by assumption)).mono ?_;rintro e w9 ⟨rfl,a3⟩;have h4:w1.heap.size+1≤w9.heap.size:=j0f (by assumption) a3.size;have d5:Below w1.heap.size w1 w9:=Below.trans (by assumption) (a3.mono (by omega));have f5:∀o,w9.cell? ⟨w1.heap.size,o,none⟩=_:=fun o=>a3.cell (p:=⟨w1.heap.size,o,none⟩) (show w1.heap.size<_ by omega);clear a3))
  rename_i a0;have h7 :=a0.1;have g0 :=a0.2;have e0:=g2.out _ d5;have a2:=zd d5;clear a0 f5
  cases hq:(s1==s2)
  rotate_left
  ·have HS:Hid (R.commit st name=((0,9),st)):=by
    show _=_;have h0 :s1=s2:=by simpa using hq
    rw[R.commit,if_neg (by rw[R.fndI,if_pos b5.out];omega),if_pos (by rw[←e6.out,←c8.out,←e7.out];exact h0)]
   go_wp2;go_ret2;rw[HS.out];exact⟨rfl,zG.same HR.out a2.out⟩
  ·have c6:¬R.Written (R.workOf st name)=R.Written (R.treeOf st (R.headOf st name)):=fun e=>by
    rw[←e6.out,←c8.out,←e7.out]at e;rw[e]at hq;simp at hq
   by_cases f3:60≤st.cms.length
   ·have HS:Hid (R.commit st name=((0,4),st)):=by
     show _=_;rw[R.commit,if_neg (by rw[R.fndI,if_pos b5.out];omega),if_neg c6,if_pos f3]
    have d4 :(60:Int)≤(st.cms.length:Int):=by omega
    clear c6;go_wp2;go_ret2;rw[HS.out];exact⟨rfl,zG.same HR.out a2.out⟩
   ·have HS:Hid (R.commit st name=((((st.cms.length+1:Nat):Int),0),R.down st name {tree:=R.workOf st name,parents:=R.parsOf hd})):=by
     show _=_;rw[R.commit,if_neg (by rw[R.fndI,if_pos b5.out];omega),if_neg c6,if_neg f3,←c8.out]
    have d4 :(st.cms.length:Int)<60:=by omega
    clear c6;by_cases hz:hd=0
    ·subst hz
     have c9:Hid (R.parsOf 0=[]):=rfl;rw[c9.out]at HS;have c7:Hid (Calls Tryz.prog 177 #[.pointer (some ⟨B,0,none⟩),.string ⟨name.toArray⟩,.slice wa wn wc,.slice none 0 0] w9 fun e w' =>e= .returned (.int .i64 ((st.cms.length+1:Nat):Int))∧zG w9 w' M O B (R.down st name {tree:=R.workOf st name,parents:=[]})):=by
      refine OI B st name {tree:=R.workOf st name,parents:=[]} _ _ w9 M O (HR.out.below a2.out) (fun b e=>j0b (hM b e) (a2.out).size) HI.out (by omega) b5.out (e8.out.kept (zj.of_below a2.out)) ⟨none,0,rfl,j0a _,by unfold maxLen;omega,fun h=>absurd h (by simp)⟩ (Zc HI.out name) (by simp;try omega) (by simp) (by simp) f8
     go_wp2_with fail
     refine c7.out.mono ?_;rintro e j2 ⟨rfl,b7⟩;have d3:=zd (zG.after a2.out b7);clear b7;go_wp2;go_ret2;rw[HS.out];exact⟨by first|rfl|simp,d3.out⟩
    ·have j0:0<hd:=by omega
     have c9:Hid (R.parsOf hd=[hd]):=by show _=_;rw[R.parsOf,if_neg hz]
     rw[c9.out]at HS;have i9:(0:Int)<(hd:Int):=by omega
     go_wp2_with (at_builtin;go_loud (refine Zi w9 rfl _ _ 39 rfl w9.heap.size 3 (.int .i64 0) 1 8 Tryz.underlying39 yB rfl (by decide) (World.ownsRow_nil _ _ _ _) _ rfl (by rfl) (by rfl) (by intro u hu;simp at hu;subst hu;rfl) (by unfold maxLen;omega) (by omega) (by omega) ?_))
     intro j1 b2 a7 a6;have h3:w9.heap.size≤b2.heap.size:=a6.size;have a4:Below w9.heap.size w9 b2:=(j0g _ _).grown a6 (j0a _) (fun k e=>by simp[Value.ownBlock]at e);have h8 :=(a4.cell (p:=⟨w1.heap.size,2,none⟩) (show w1.heap.size<_ by omega)).trans g0;obtain⟨pa,pc,e3,_⟩:=za a7;subst e3;have a1:Hid (Below w1.heap.size w1 b2):=a2.out.trans (a4.mono a2.out.size);have g4:Hid (Rd b2 M (.slice pa 1 pc) 1 (yt [hd])):=Rd.of_owns a7 (fun b e=>j0b (hM b e) a2.out.size);have c7:Hid (Calls Tryz.prog 177 #[.pointer (some ⟨B,0,none⟩),.string ⟨name.toArray⟩,.slice wa wn wc,.slice pa 1 pc] b2 fun e w' =>e= .returned (.int .i64 ((st.cms.length+1:Nat):Int))∧zG b2 w' M O B (R.down st name {tree:=R.workOf st name,parents:=[hd]})):=by
      refine OI B st name {tree:=R.workOf st name,parents:=[hd]} _ _ b2 M O (HR.out.below a1.out) (fun b e=>j0b (hM b e) (a1.out).size) HI.out (by omega) b5.out (e8.out.kept (zj.of_below a1.out)) g4.out (Zc HI.out name) (by simp;try omega) (by simp) (by simp) f8
     clear a4 a6 a7 h7 g0;go_wp2_with fail
     refine c7.out.mono ?_;rintro e j3 ⟨rfl,b7⟩;have d3:=zd (zG.after a1.out b7);clear b7;go_wp2;go_ret2;rw[HS.out];exact⟨by first|rfl|simp,d3.out⟩
