import Derived.Test.YtolgebdmffcemaaGreatDoorQ27
set_option linter.all false
set_option maxHeartbeats 20000000
set_option maxRecDepth 1000000
namespace Go.Proofs.YtolgebdmffcemaaGreatDoor
open Go.RowKit Go.Shelf
theorem ud (B:Nat)(c:UInt8)(ci:Int)(b8:(c.toNat:Int)=ci)(v:Value)(l:List (List UInt8)){w:World}{M O:Nat→Prop}{st:R.St}{bv cv:Value}{LB:List BrP}{a6:List (R.Cm×Value×Value)}(hP:PSx w M O B st bv cv LB a6)(Mr:Nat→Prop)(h:Rd w Mr v l.length (l.map S))(hl:l.length≤10)(hi:∀i∈l,i.length≤1000000)(d7:st.packed.length≤1000000000000):
  Calls Tryz.prog 69 #[.pointer (some ⟨B,0,none⟩),.int .u8 ci,v] w fun e w' =>e= .returned (.tuple #[])∧Ym w w' M O B {st with packed:=st.packed++R.record c l.flatten} bv cv LB a6:=by
 subst b8;have a5:=fun W (hW:Below w.heap.size w W)=>ue c v l W Mr (h.below hW) hl hi
 have d8:(R.record c l.flatten).length≤100000000:=by rw[R.record_len];have:=YD l hi;omega
 obtain⟨va,vc,rfl⟩:∃va vc,v= .slice va l.length vc:=by obtain⟨a,cap,e,_⟩:=h;exact⟨a,cap,e⟩
 obtain⟨pv,a0⟩:=hP.pk;have c2:=a0.c2;have b6:=hP.fr 2;have a4:=hP.lt B hP.own;obtain⟨i0,b0,b1,b2,b3⟩:=info_parts Tryz.info5;obtain⟨pa,pc,a1,_⟩:=za a0.row;have HP:=zk hP;have b5:=zk a0;have d4:=zk a1;have a8:∀W,Below w.heap.size w W→∃a3 n3 k3 w3,(Builtin.append_ #[100,9] 100 #[.slice pa st.packed.length pc,.string ⟨(R.record c l.flatten).toArray⟩]).run Tryz.prog W= .ok (.slice a3 n3 k3) w3∧Hid (w3.ownsRow 0 5 1 (.slice a3 n3 k3) (st.packed++R.record c l.flatten).length (Lib.byteCells (st.packed++R.record c l.flatten)))∧Hid (zj (fun b=>pv.ownBlock=some b) w w3)∧Hid (∀g,(Value.slice a3 n3 k3).ownBlock=some g→pv.ownBlock=some g∨w.heap.size≤g)∧w3.cell? ⟨B,2,none⟩=some (.slice pa st.packed.length pc)∧w3.frozen? ⟨B,2,none⟩=false:=by
  intro W hW;have a2:=zw a0.row hW;obtain⟨v3,w3,h1,h2,h3,h4⟩:=Lib.run_append_own_string (P:=Tryz.prog) W 0 100 9 100 5 i0 Tryz.underlying100 Tryz.underlying9 b0 b1 b2 b3 pv st.packed.length (Lib.byteCells st.packed) a2 ⟨(R.record c l.flatten).toArray⟩ (by simp[ByteArray.size,maxLen];omega) (by simp[ByteArray.size];omega) (Nat.zero_le _);have a7:pv.ownBlock≠some B:=fun e=>(a0.rowO B e).2.1 rfl
  have d5:W.heap.size≤w3.heap.size:=h3.size;have d6:=hW.size;have hK:zj (fun b=>pv.ownBlock=some b) w w3:=⟨h3.os.trans hW.os,h3.tape.trans hW.tape,h3.output.trans hW.output,by omega,fun k hk hn=>by
   rw[h3.block k (by omega) (fun e=>hn e.symm)];exact hW.block k hk⟩
  have b7:=QH (P:=Tryz.prog) W 0 100 9 100 5 i0 Tryz.underlying100 Tryz.underlying9 b0 b1 b2 b3 pv st.packed.length (Lib.byteCells st.packed) a2 ⟨(R.record c l.flatten).toArray⟩ (by simp[ByteArray.size,R.record_len]) (by simp[ByteArray.size];omega) h1;obtain⟨a3,k3,c9,_⟩:=za h2;subst c9;refine⟨a3,_,k3,w3,by rw[←a1];exact h1,?_,hK,?_,?_,?_⟩
  ·show World.ownsRow _ _ _ _ _ _ _
   rw[Lib.strCells_eq,←Lib.byteCells_append]at h2;simpa[ByteArray.size]using h2
  ·intro g hg
   rcases b7 g hg with h|h
   ·exact .inl h
   ·exact .inr (by omega)
  ·rw[hK.cell (p:=⟨B,2,none⟩) a4 a7,c2,a1]
  ·rw[hK.frozen (p:=⟨B,2,none⟩) a4 a7];exact b6
 rw[a1]at c2;have b4:=zk a8;clear hP a0 a1 a8 h hi;generalize R.record c l.flatten=rc at*;generalize st.packed++rc=pk2 at*;go_enter Tryz.func69,Tryz.ntmps69;go_wp2_with fail
 go_region_law (first
  |((refine XP (by rfl) (.tmp 10) (.tmp 13) 100 9 (by rfl) (.slice pa st.packed.length pc) (.string ⟨rc.toArray⟩) (by rfl) (by rfl) (by exact c8) ?_))
  |((refine Jr (R:=fun v w1=>v= .string ⟨rc.toArray⟩∧Below w.heap.size w w1) (by rfl) (by rfl) Tryz.func107 (by rfl) (by rfl) (vals:= #[.int .u8 (c.toNat:Int),.slice va l.length vc]) (by simp[Act.eval,Act.put]) ((a5 _ (j0g _ _).drew).mono fun e w1 ⟨he,hb⟩=>⟨_,he,rfl,((j0g _ _).drew).trans hb⟩) ?_;rintro v0 w1 ⟨rfl,a9⟩;have d2:w1.cell? ⟨B,2,none⟩=some (.slice pa st.packed.length pc):=(a9.cell (p:=⟨B,2,none⟩) a4).trans c2;obtain⟨a3,n3,k3,w3,c8,c7,b9,c6,d3,g3⟩:=b4.out w1 a9)))
 all_goals
  go_end0
  exact⟨rfl,oC HP.out b5.out b9.out c7.out c6.out⟩
theorem Gq {w:World}{M O:Nat→Prop}{B:Nat}{st:R.St}{bv cv:Value}{LB:List BrP}{b2:List (R.Cm×Value×Value)}(hP:PSx w M O B st bv cv LB b2)(c:R.Cm)(pa:Option Addr)(pc:Nat)(ta:Option Addr)(tn tc:Nat)(g9:PT w M (.slice ta tn tc) c.tree)(f4:Rd w M (.slice pa c.parents.length pc) c.parents.length (yt c.parents))(hM:∀b,M b→b<w.heap.size)(hT:OkT c.tree)(h2:c.parents.length≤2)(hl:st.cms.length<60)(k7:st.packed.length≤1000000000000)(hG:Y8 w)(h6:∀b,O b→6≤b):
  Calls Tryz.prog 97 #[.pointer (some ⟨B,0,none⟩),.agg #[.slice pa c.parents.length pc,.slice ta tn tc]] w fun e w' =>e= .returned (.int .i64 ((st.cms.length+1:Nat):Int))∧∃j4 e6,Ym w w' M O B (R.keepC st c) bv j4 LB e6 :=by
 have g2:=hP.lt B hP.own;have c1:=hP.c1;obtain⟨ca,cc,b7,k2,k3,k4,k5⟩:=za hP.crow;have d8:b2.length=st.cms.length:=by rw[←hP.cms,List.length_map]
 obtain⟨n0,d5⟩:∃n0,n0=st.cms.length:=⟨_,rfl⟩
 rw[d8,←d5]at b7 k2;rw[←d5]at hl⊢;rw[b7]at c1;unfold maxLen at k3;have a5:=hP.crow;rw[d8,←d5,b7]at a5;have d4:∀g,(Value.slice ca n0 cc).ownBlock=some g→O g∧g≠B:=fun g e=>by
  have:=hP.crowO g (by rw[b7];exact e);exact⟨this.1,this.2.1⟩
 have HP:=zd hP;have f7:=zd b7;have f8:=zd d5;have i4:=zd d8;have g1:=zd g9;have f9:=zd f4;have HG:=zd hG;have HT:=zd hT;have c7:=hP.sub;have e7:=hP.lt;obtain⟨np,f3⟩:∃np,np=c.parents.length:=⟨_,rfl⟩
 rw[←f3]at h2⊢;have b8:=zd f3;have f5:np≤pc∧pc≤maxLen:=by
  obtain⟨a,k,e,h1,h2,_⟩:=f4;injection e with _ _ e
  subst e;exact⟨by omega,h2⟩
 have i1:Hid (∀o,w.frozen? ⟨B,o,none⟩=false):=hP.fr;unfold maxLen at f5;obtain⟨i0,j9,k8,k9,l0⟩:=info_parts Tryz.info114;have g5:(Value.slice ca n0 cc).ownBlock≠some B:=fun e=>(d4 B e).2 rfl
 clear hP b7 k4 k5 d5 d8 g9 f4 hG hT f3;go_enter Tryz.func97,Tryz.ntmps97;go_wp2;have d3:Below w.heap.size w (w.alloc (Obj.cells #[.slice pa np pc,.slice ta tn tc] 114)):=(j0g _ _).alloc (j0a _) _;have h5:(w.alloc (Obj.cells #[.slice pa np pc,.slice ta tn tc] 114)).heap.size=w.heap.size+1:=by simp
 have x0:(w.alloc (Obj.cells #[.slice pa np pc,.slice ta tn tc] 114)).cell? ⟨w.heap.size,0,none⟩=some (.slice pa np pc):=by simp
 have x1:(w.alloc (Obj.cells #[.slice pa np pc,.slice ta tn tc] 114)).cell? ⟨w.heap.size,1,none⟩=some (.slice ta tn tc):=by simp
 generalize w.alloc (Obj.cells #[.slice pa np pc,.slice ta tn tc] 114)=W1 at*;have sB:=(d3.cell (p:=⟨B,1,none⟩) g2).trans c1;have so:=zw a5 d3;have fB:∀o,W1.frozen? ⟨B,o,none⟩=false:=fun o=>(d3.frozen (p:=⟨B,o,none⟩) g2).trans (i1.out o)
 have rB:∀o,(W1.alloc o).cell? ⟨B,1,none⟩=some (.slice ca n0 cc):=fun o=>by rw[World.cell?_alloc_past _ _ _ (by omega)];exact sB
 have r0:∀o,(W1.alloc o).cell? ⟨w.heap.size,0,none⟩=some (.slice pa np pc):=fun o=>by rw[World.cell?_alloc_past _ _ _ (by omega)];exact x0
 have r1:∀o,(W1.alloc o).cell? ⟨w.heap.size,1,none⟩=some (.slice ta tn tc):=fun o=>by rw[World.cell?_alloc_past _ _ _ (by omega)];exact x1
 have i9:Hid (∀o j,(W1.alloc o).frozen? ⟨B,j,none⟩=false):=fun o j=>by rw[World.frozen?_alloc_past _ _ _ (by omega)];exact fB j
 have i8:=zd rB;have i6:=zd r0;have i7:=zd r1;have d6:=zd d3;have j3:=zd h5;have l9:w.heap.size<W1.heap.size:=by omega
 have h0:(Value.slice ca n0 cc).ownBlock≠some w.heap.size:=fun e=>by have:=e7 _ (d4 _ e).1;omega
 clear d3 h5 fB a5 c1;go_region_law ((refine step_append_lies _ (by rfl) _ _ 99 (by rfl) 0 114 i0 (.agg #[.slice none 0 0,.slice none 0 0]) 2 48 Tryz.underlying99 j9 k8 k9 l0 rfl (by decide) (.slice ca n0 cc) n0 (YN b2) (by rfl) (by exact so.alloc _) ⟨W1.heap.size,0,none⟩ 1 1 [.slice pa np pc,.slice ta tn tc] (by rfl) rfl (by exact zE W1 #[.slice pa np pc,.slice ta tn tc] 114) (by intro u hu;simp at hu;rcases hu with rfl|rfl<;>rfl) (by decide) (by unfold maxLen;omega) (by omega) (Nat.zero_le _) (W1.heap.size+1) (by simp) ?_;intro gg a6 w8 g8 a7 c9 f0;have c8:w8.cell? ⟨B,1,none⟩=some (.slice ca n0 cc):=a7.cell (by exact i8.out _) (fun e=>g5 e.symm);have j5:w8.frozen? ⟨B,1,none⟩=false:=(World.frozen?_of_block (a:=⟨B,1,none⟩) (a7.block B (by simp;omega) (fun e=>g5 e.symm))).trans (by exact i9.out _ 1);have y0:w8.cell? ⟨w.heap.size,0,none⟩=some (.slice pa np pc):=a7.cell (by exact i6.out _) (fun e=>h0 e.symm);have y1:w8.cell? ⟨w.heap.size,1,none⟩=some (.slice ta tn tc):=a7.cell (by exact i7.out _) (fun e=>h0 e.symm)))
 all_goals
  have l6:W1.heap.size+1≤w8.heap.size:=by have:=a7.size;simp at this;omega
  have a9:∀k,k<W1.heap.size→(Value.slice ca n0 cc).ownBlock≠some k→w8.heap[k]? =W1.heap[k]? :=fun k hk k6=>by
   rw[a7.block k (by simp;omega) (fun e=>k6 e.symm)];exact heap_alloc_old W1 _ hk
  have l7:=j3.out;have d7:zj (fun b=>(Value.slice ca n0 cc).ownBlock=some b) w w8:=⟨a7.os.trans d6.out.os,a7.tape.trans d6.out.tape,a7.output.trans d6.out.output,by omega,fun k hk hn=>by
   rw[a9 k (by omega) hn];exact d6.out.block k hk⟩
  have e3:∀b,(Value.slice (some ⟨gg,0,none⟩) (n0+1) a6).ownBlock=some b→(Value.slice ca n0 cc).ownBlock=some b∨W1.heap.size<b:=fun b e=>by
   have e' :gg=b:=Option.some.inj e;rcases c9 with h1|h1
   ·exact .inl (by rw[←e'];exact h1)
   ·exact .inr (by omega)
  have b6:∀b,(M b∨(O b∨(Value.slice (some ⟨gg,0,none⟩) (n0+1) a6).ownBlock=some b))→M b∨w.heap.size≤b:=fun b e=>by
   rcases e with e|e|e
   ·exact .inl e
   ·exact .inl (c7 b e)
   ·rcases e3 b e with e|e
    ·exact .inl (c7 b (d4 b e).1)
    ·exact .inr (by omega)
  have g6:∀b,(Value.slice ca n0 cc).ownBlock=some b→M b:=fun b e=>c7 b (d4 b e).1
  obtain⟨e2,a2,d9⟩:=oS (c:=c) (v3:= .slice (some ⟨gg,0,none⟩) (n0+1) a6) (tv:= .slice ta tn tc) (pv:= .slice pa np pc) HP.out (w5:=w8) (by rw[f7.out];exact d7) (by rw[i4.out,←f8.out];exact g8) (fun g e=>by
   rw[f7.out];rcases e3 g e with e|e
   ·exact .inl e
   ·exact .inr (by omega)) (g1.out.step d7 g6 b6) (by have:=f9.out.step d7 g6 b6;rw[←b8.out]at this⊢;exact this)
  have b3:=f9.out.step (M' :=fun b=>M b∨(O b∨(Value.slice (some ⟨gg,0,none⟩) (n0+1) a6).ownBlock=some b)) a2 c7 b6;have b4:=g1.out.step (M' :=fun b=>M b∨(O b∨(Value.slice (some ⟨gg,0,none⟩) (n0+1) a6).ownBlock=some b)) a2 c7 b6;have g3:=HG.out.kept a2 h6;have t0:(w8.setCell ⟨B,1,none⟩ (.slice (some ⟨gg,0,none⟩) (n0+1) a6)).cell? ⟨w.heap.size,0,none⟩=some (.slice pa np pc):=((zj.refl (fun b=>b=B) w8).setCell (p:=⟨B,1,none⟩) (.inl rfl) _|>.cell (p:=⟨w.heap.size,0,none⟩) (show w.heap.size<_ by omega) (show¬w.heap.size=B by omega)).trans y0;have t1:(w8.setCell ⟨B,1,none⟩ (.slice (some ⟨gg,0,none⟩) (n0+1) a6)).cell? ⟨w.heap.size,1,none⟩=some (.slice ta tn tc):=((zj.refl (fun b=>b=B) w8).setCell (p:=⟨B,1,none⟩) (.inl rfl) _|>.cell (p:=⟨w.heap.size,1,none⟩) (show w.heap.size<_ by omega) (show¬w.heap.size=B by omega)).trans y1;have f6 :w.heap.size<(w8.setCell ⟨B,1,none⟩ (.slice (some ⟨gg,0,none⟩) (n0+1) a6)).heap.size:=by rw[World.size_setCell];omega
  have g7:gg≠w.heap.size:=fun e=>by
   rcases e3 gg rfl with h1|h1
   ·have:=e7 gg (d4 gg h1).1;omega
   ·omega
  clear c8 j5 y0 y1 g8 a7 c9 f0 a9 d7 e3;go_wp2;generalize w8.setCell ⟨B,1,none⟩ (.slice (some ⟨gg,0,none⟩) (n0+1) a6)=W9 at*;obtain⟨v3,b5⟩:∃v3,v3=Value.slice (some ⟨gg,0,none⟩) (n0+1) a6:=⟨_,rfl⟩
  rw[←b5]at e2 b3 b4 d9 b6;have g4:c.parents.map UInt8.ofNat=(c.parents.map fun n:Nat=>(n:Int)).map byteOf:=by
   rw[List.map_map];exact List.map_congr_left fun n _=>(yP n).symm
  have a1:Hid (∀W o,Below W9.heap.size W9 W→Below W9.heap.size W9 (W.alloc o)):=fun W o h=>h.alloc h.size o
  have a0:Hid (∀W,Below W9.heap.size W9 W→Below W9.heap.size W9 W.drew):=fun W h=>h.drew
  have b0:Hid (∀W W',Below W9.heap.size W9 W→Below W.heap.size W W' →Below W9.heap.size W9 W'):=fun W W' h h' =>h.trans (h'.mono h.size)
  have b1:Hid (∀W,Below W9.heap.size W9 W→w.heap.size<W.heap.size):=fun W h=>j0b f6 h.size
  have j1:Hid (∀W,Below W9.heap.size W9 W→Calls Tryz.prog 86 #[.slice pa np pc] W fun e w' =>e= .returned (.string ⟨(c.parents.map UInt8.ofNat).toArray⟩)∧Below W.heap.size W w'):=fun W hW=>by
   have:=Yi (.slice pa c.parents.length pc) (c.parents.map fun n:Nat=>(n:Int)) W _ (by
    have h9:=b3.below hW;rw[List.length_map,List.map_map];exact h9) (by rw[List.length_map,←b8.out];omega)
   rw[←g4,←b8.out]at this;exact this
  have j2:Hid (∀W,Below W9.heap.size W9 W→Calls Tryz.prog 50 #[.slice ta tn tc] W fun e w' =>e= .returned (.string ⟨(R.Written c.tree).toArray⟩)∧Below W.heap.size W w'):=fun W hW=>ve _ c.tree W _ (b4.below hW) HT.out.ok (by have:=HT.out.few;omega) (g3.below hW)
  have i5:Hid (∀W,Below W9.heap.size W9 W→PSx W (fun b=>M b∨(O b∨v3.ownBlock=some b)) (fun b=>O b∨v3.ownBlock=some b) B {st with cms:=st.cms++ [c]} bv v3 LB (b2++ [(c,.slice pa np pc,.slice ta tn tc)])):=fun W hW=>e2.kept (Z:=fun _=>False) (zj.of_below hW) (fun _ e=>e.elim) (fun b e=> .inl e) e2.sub
  have l8:=HT.out.len;have i2:Hid (∀i∈ [[byteOf (np:Int)],c.parents.map UInt8.ofNat,R.Written c.tree],i.length≤1000000):=fun i hi=>by
   simp at hi;rcases hi with rfl|rfl|rfl
   ·simp
   ·simp;have:=b8.out;omega
   ·omega
  have l3:Below W9.heap.size W9 W9:=j0g _ _;have l1:=zd a2;have l2:=zd d9;have e9:¬(O w.heap.size∨v3.ownBlock=some w.heap.size):=fun e=>by
   rcases e with e|e
   ·have:=e7 _ e;omega
   ·rw[b5]at e;exact g7 (Option.some.inj e)
  have i3:Hid (∀W,Below W9.heap.size W9 W→zj O w W):=fun W hW=>⟨hW.os.trans a2.os,hW.tape.trans a2.tape,hW.output.trans a2.output,j0f a2.size hW.size,fun k hk hn=>by rw[hW.block k (j0b hk a2.size)];exact a2.block k hk hn⟩
  have h8:Hid ({st with cms:=st.cms++ [c],packed:=st.packed++R.record 67 ([[byteOf (np:Int)],c.parents.map UInt8.ofNat,R.Written c.tree].flatten)}=R.keepC st c):=by
   show _=_;have: [[byteOf (np:Int)],c.parents.map UInt8.ofNat,R.Written c.tree].flatten=R.bodyC c:=by
    rw[yP,b8.out,R.bodyC];simp
   rw[this];rfl
  have e5:Hid (∀W w9,Below W9.heap.size W9 W→Ym W w9 (fun b=>M b∨(O b∨v3.ownBlock=some b)) (fun b=>O b∨v3.ownBlock=some b) B {st with cms:=st.cms++ [c],packed:=st.packed++R.record 67 ([[byteOf (np:Int)],c.parents.map UInt8.ofNat,R.Written c.tree].flatten)} bv v3 LB (b2++ [(c,.slice pa np pc,.slice ta tn tc)])→Hid (Ym w w9 M O B (R.keepC st c) bv v3 LB (b2++ [(c,.slice pa np pc,.slice ta tn tc)])∧∃a c',w9.cell? ⟨B,1,none⟩=some (.slice a (n0+1) c')∧n0+1≤c' ∧c' ≤maxLen)):=fun W w9 hW a8=>by
   rw[h8.out]at a8;refine⟨Ym.trans (i3.out W hW) d9 a8,?_⟩;obtain⟨O2,j6,_⟩:=a8;obtain⟨a,c',h1,h2,h3⟩:=PS.cms1 ⟨_,_,_,_,j6⟩;have j8:(R.keepC st c).cms.length=n0+1:=by rw[f8.out];simp[R.keepC]
   rw[j8]at h1 h2;exact⟨a,c',h1,h2,h3⟩
  have h7:Hid (∀W w9,Below W9.heap.size W9 W→Ym W w9 (fun b=>M b∨(O b∨v3.ownBlock=some b)) (fun b=>O b∨v3.ownBlock=some b) B {st with cms:=st.cms++ [c],packed:=st.packed++R.record 67 ([[byteOf (np:Int)],c.parents.map UInt8.ofNat,R.Written c.tree].flatten)} bv v3 LB (b2++ [(c,.slice pa np pc,.slice ta tn tc)])→∀o,w9.cell? ⟨w.heap.size,o,none⟩=W.cell? ⟨w.heap.size,o,none⟩):=fun W w9 hW a8 o=>by
   obtain⟨O2,_,k1,_⟩:=a8;exact k1.cell (p:=⟨w.heap.size,o,none⟩) (b1.out W hW) e9
  generalize l5:c.parents.map UInt8.ofNat=pbs at*;generalize m0:R.Written c.tree=wtr at*;clear e2 b3 b4 a2 d9 b6 g4 g3 g7 b5;go_region_held3 (fun w' =>w'.cell? ⟨w.heap.size,0,none⟩=some (.slice pa np pc)∧w'.cell? ⟨w.heap.size,1,none⟩=some (.slice ta tn tc)) (go_keep)
   (first
    |(go_at_call 50;refine(j2.out _ (by first|assumption|exact a1.out _ _ (by assumption)|exact a0.out _ (by assumption)|exact a0.out _ (a1.out _ _ (by assumption))|exact a1.out _ _ (a0.out _ (by assumption)))).mono ?_;rintro e w9 ⟨rfl,a3⟩;have b9:=b0.out _ _ (by first|assumption|exact a1.out _ _ (by assumption)|exact a0.out _ (by assumption)|exact a0.out _ (a1.out _ _ (by assumption))|exact a1.out _ _ (a0.out _ (by assumption))) a3;have h4:=b1.out _ b9;have e8:∀o,w9.cell? ⟨w.heap.size,o,none⟩=_:=fun o=>a3.cell (p:=⟨w.heap.size,o,none⟩) (b1.out _ (by first|assumption|exact a1.out _ _ (by assumption)|exact a0.out _ (by assumption)|exact a0.out _ (a1.out _ _ (by assumption))|exact a1.out _ _ (a0.out _ (by assumption))));clear a3)
    |(go_at_call 86;with_reducible refine(j1.out _ (by first|assumption|exact a1.out _ _ (by assumption)|exact a0.out _ (by assumption)|exact a0.out _ (a1.out _ _ (by assumption))|exact a1.out _ _ (a0.out _ (by assumption)))).mono ?_;rintro e w9 ⟨rfl,a3⟩;have b9:=b0.out _ _ (by first|assumption|exact a1.out _ _ (by assumption)|exact a0.out _ (by assumption)|exact a0.out _ (a1.out _ _ (by assumption))|exact a1.out _ _ (a0.out _ (by assumption))) a3;have h4:=b1.out _ b9;have e8:∀o,w9.cell? ⟨w.heap.size,o,none⟩=_:=fun o=>a3.cell (p:=⟨w.heap.size,o,none⟩) (b1.out _ (by first|assumption|exact a1.out _ _ (by assumption)|exact a0.out _ (by assumption)|exact a0.out _ (a1.out _ _ (by assumption))|exact a1.out _ _ (a0.out _ (by assumption))));clear a3)
    |(go_at_call 86;refine(Yi _ [(np:Int)] _ (fun _=>False) (by exact yY _ _ rfl #[.int .i64 (np:Int)] 3 (by simp)) (by simp)).mono ?_;rintro e w9 ⟨rfl,a3⟩;have b9:=b0.out _ _ (by first|assumption|exact a1.out _ _ (by assumption)|exact a0.out _ (by assumption)|exact a0.out _ (a1.out _ _ (by assumption))|exact a1.out _ _ (a0.out _ (by assumption))) a3;have h4:=b1.out _ b9;have e8:∀o,w9.cell? ⟨w.heap.size,o,none⟩=_:=fun o=>a3.cell (p:=⟨w.heap.size,o,none⟩) (b1.out _ (by first|assumption|exact a1.out _ _ (by assumption)|exact a0.out _ (by assumption)|exact a0.out _ (a1.out _ _ (by assumption))|exact a1.out _ _ (a0.out _ (by assumption))));clear a3)
    |(go_at_call 69;refine(ud B 67 67 rfl _ [[byteOf (np:Int)],pbs,wtr] (i5.out _ (by first|assumption|exact a1.out _ _ (by assumption)|exact a0.out _ (by assumption)|exact a0.out _ (a1.out _ _ (by assumption))|exact a1.out _ _ (a0.out _ (by assumption)))) (fun _=>False) (by exact yY _ _ rfl #[.string ⟨[byteOf (np:Int)].toArray⟩,.string ⟨pbs.toArray⟩,.string ⟨wtr.toArray⟩] 9 (by simp)) (by simp) i2.out k7).mono ?_;rintro e w9 ⟨rfl,a8⟩;have g0:=e5.out _ _ (by first|assumption|exact a1.out _ _ (by assumption)|exact a0.out _ (by assumption)|exact a0.out _ (a1.out _ _ (by assumption))|exact a1.out _ _ (a0.out _ (by assumption))) a8;have e8:∀o,w9.cell? ⟨w.heap.size,o,none⟩=_:=h7.out _ _ (by first|assumption|exact a1.out _ _ (by assumption)|exact a0.out _ (by assumption)|exact a0.out _ (a1.out _ _ (by assumption))|exact a1.out _ _ (a0.out _ (by assumption))) a8;clear a8))
  all_goals
   rename_i c6;clear c6;have e1:=g0.out.2;obtain⟨a4,c4,e4,l4,j7⟩:=e1;have j0:=zd g0.out.1;unfold maxLen at j7;go_wp2;go_ret;exact⟨by first|rfl|simp,_,_,j0.out⟩
theorem gv (B:Nat)(st:R.St)(name:List UInt8)(head:Nat)(w:World)(M O:Nat→Prop){bv cv:Value}{LB:List BrP}{b5:List (R.Cm×Value×Value)}(hP:PSx w M O B st bv cv LB b5)(hf:R.fnd st.brs name<st.brs.length)(a8:Nat)(a4:∀hl:R.fnd st.brs name<LB.length,(LB[R.fnd st.brs name]'hl).2.1=a8)(hi:Inv st)(hh:head≤st.cms.length)(f3:name.length≤1000)(e4:st.packed.length≤1000000000000):
  Calls Tryz.prog 48 #[.pointer (some ⟨B,0,none⟩),.string ⟨name.toArray⟩,.int .i64 (head:Int)] w fun e w' =>e= .returned (.tuple #[])∧zR w w' M O B (R.setHead st name head)∧w'.cell? ⟨a8,1,none⟩=some (.int .i64 (head:Int))∧w'.cell? ⟨a8,0,none⟩=some (.string ⟨name.toArray⟩):=by
 have a6:=vX hP hi name;rw[Qd]at a6;have b1:st.brs.length=LB.length:=by rw[←hP.brs,List.length_map]
 obtain⟨a,cap,e1,hn,hm,a5,a1⟩:=za hP.row;have c0:=hP.c0;rw[e1]at c0;unfold maxLen at hm;have e8:=hP.lt B hP.own;have b0:=hi.few;have HR:Hid (R.setHead st name head={st with brs:=st.brs.set (R.fnd st.brs name) {name:=name,head:=head,work:=R.treeOf st head},packed:=st.packed++R.record 66 (UInt8.ofNat head::name)}):=rfl;rw[decide_eq_true hf,←kD hi.sort name hf]at a6;have hl:R.fnd st.brs name<LB.length:=by omega
 have b2:(LB[R.fnd st.brs name]'hl).1.name=name:=by
  have:(LB[R.fnd st.brs name]'hl).1=(st.brs[R.fnd st.brs name]'hf):=by simp only[←hP.brs,List.getElem_map]
  rw[this];exact R.fnd_name _ _ hf
 have c9:=qQ hP head hh b0;have a2:=hP.at_ _ (j0c hl);have hO:=(hP.blk _ (j0c hl)).1;have e9:=hP.lt _ hO;have k1:=a2.c1;have k2:=a2.c2;have f1:=a2.fr 1;have f2:=a2.fr 2;have HP:=zk hP;have e7:=zk b2;have HH:=zk a2
 cases a with
 |none=>have:=(a5 rfl).1;omega
 |some ad=>
 obtain⟨g,rfl,_,f0,_,a0⟩:=a1 ad rfl;have e0:=XS a0 (R.fnd st.brs name) hl;have HS:Hid (∀(tv:Value) (t:List R.Leaf),PT w M tv t→PSx ((w.setCell ⟨(LB[R.fnd st.brs name]'hl).2.1,1,none⟩ (.int .i64 (head:Int))).setCell ⟨(LB[R.fnd st.brs name]'hl).2.1,2,none⟩ tv) M O B {st with brs:=st.brs.set (R.fnd st.brs name) {name:=name,head:=head,work:=t}} bv cv (LB.set (R.fnd st.brs name) ({name:=name,head:=head,work:=t},(LB[R.fnd st.brs name]'hl).2.1,tv)) b5∧zj O w ((w.setCell ⟨(LB[R.fnd st.brs name]'hl).2.1,1,none⟩ (.int .i64 (head:Int))).setCell ⟨(LB[R.fnd st.brs name]'hl).2.1,2,none⟩ tv)):=by
  intro tv t a7;have hK:=ga w (LB[R.fnd st.brs name]'hl).2.1 (.int .i64 (head:Int)) tv;exact Q6 hP hl (j0g _ _) hK (V9 a2 name b2 head (a7.step hK (fun b e=>by subst e;exact hP.sub _ hO) (fun b e=> .inl e)))
 have b8:=a4 hl;generalize(LB[R.fnd st.brs name]'hl).2.1=bb at*;have d4:=zk b8;have d6:=zk hl;clear b8 a4;generalize(LB[R.fnd st.brs name]'hl).2.2=t0 at*;clear hP hi a0 a1 a5 b1 hf b2 a2;generalize R.fnd st.brs name=k at*;go_enter Tryz.func48,Tryz.ntmps48;go_wp2_with fail
 refine a6.mono ?_;rintro e w1 ⟨rfl,e5⟩;subst e5;go_wp2_with fail
 refine c9.mono ?_;rintro e w2 ⟨ta,tc,rfl,a7,e6⟩;subst e6;obtain⟨c7,b9⟩:=HS.out _ _ a7;have d7:=zk c7;have b4:=zk b9;clear c9 a6 a7 c7 b9;go_wp2_with fail
 have b6:=Yi (.slice (some ⟨w2.heap.size,0,none⟩) 1 1) [(head:Int)] (((w2.setCell ⟨bb,1,none⟩ (.int .i64 (head:Int))).setCell ⟨bb,2,none⟩ (.slice ta (R.treeOf st head).length tc)).alloc (.cells #[.int .i64 (head:Int)] 3)) (fun _=>False) (yY _ _ (by simp) #[.int .i64 (head:Int)] 3 (by simp)) (by simp);refine b6.mono ?_;rintro e w7 ⟨rfl,b7⟩;clear b6;generalize d9:((w2.setCell ⟨bb,1,none⟩ (.int .i64 (head:Int))).setCell ⟨bb,2,none⟩ (.slice ta (R.treeOf st head).length tc))=w6 at*;have a3:Below w6.heap.size w6 w7:=((j0g _ _).alloc (j0a _) _).trans (b7.mono (by simp));have a9:Below w6.heap.size w6 (w7.alloc (.cells #[.string ⟨([(head:Int)].map byteOf).toArray⟩,.string ⟨name.toArray⟩] 9)):=a3.alloc a3.size _;have d3:=ud B 66 66 (by decide) (.slice (some ⟨w7.heap.size,0,none⟩) 2 2) [[(head:Int)].map byteOf,name] (d7.out.below a9) (fun _=>False) (yY w7 _ rfl #[.string ⟨([(head:Int)].map byteOf).toArray⟩,.string ⟨name.toArray⟩] 9 (by simp)) (by simp) (by
  intro i hi;simp only[List.mem_cons,List.not_mem_nil,or_false]at hi;rcases hi with rfl|rfl
  ·simp
  ·omega) e4
 have b3:=zk a9;have d5:Hid ([[(head:Int)].map byteOf,name].flatten=UInt8.ofNat head::name):=by
  show _=_;simp[yP]
 clear b7 a3 a9 d9;simp only[List.map_cons,List.map_nil]at*;go_wp2_with fail
 refine d3.mono ?_;rintro e w9 ⟨rfl,c8⟩;have d8:=zk c8;clear c8 d3;go_wp2;go_end0
 refine⟨rfl,?_⟩;have h9:=d8.out;rw[d5.out]at h9;rw[HR.out];obtain⟨O2,c6,e2,e3⟩:=h9;refine⟨⟨O2,⟨_,_,_,_,c6⟩,(b4.out.trans ((zj.of_below b3.out).trans e2)),fun b e=> ?_⟩,?_⟩
 ·rcases e3 b e with e|e
  ·exact .inl e
  ·exact .inr (j0f b4.out.size (j0f b3.out.size e))
 ·have:=c6.at_ _ (j0c (l:=LB.set k ({name:=name,head:=head,work:=R.treeOf st head},bb,.slice ta (R.treeOf st head).length tc)) (n:=k) (by rw[List.length_set];exact d6.out))
  rw[List.getElem_set_self]at this;rw[←d4.out];exact⟨this.c1,this.c0⟩
theorem F0 (w:World):Calls Tryz.prog 24 #[] w fun e w' =>e= .returned (.pointer (some ⟨w.heap.size,0,none⟩))∧w' =w.alloc (.cells #[.slice none 0 0,.slice none 0 0,.slice none 0 0] 102):=by
 go_enter Tryz.func24,Tryz.ntmps24;go_wp2;go_ret;exact⟨rfl,rfl⟩
theorem OO {w:World}{M:Nat→Prop}{v:Value}{t:List R.Leaf}(h:PT w M v t):∃a c,v= .slice a t.length c:=by
 obtain⟨L,rfl,⟨a,c,rfl,_⟩,_⟩:=h;exact⟨a,c,by simp⟩
theorem jR {a b:List UInt8}{k l:Int}(h:b=a)(g:l=k):Ending.returned (.tuple #[.string ⟨a.toArray⟩,.int .i64 k])= .returned (.tuple #[.string ⟨b.toArray⟩,.int .i64 l]):=by rw[h,g]
theorem fw (B:Nat)(st:R.St)(name:List UInt8)(w:World)(M O:Nat→Prop)(h:PS w M O B st)(hi:Inv st)(hG:Y8 w):
  Calls Tryz.prog 20 #[.pointer (some ⟨B,0,none⟩),.string ⟨name.toArray⟩] w fun e w' =>e= .returned (.tuple #[.string ⟨(R.shown st name).1.toArray⟩,.int .i64 (R.shown st name).2])∧Below w.heap.size w w' :=by
 obtain⟨bv,cv,LB,a9,hP⟩:=h;have a2:=Vu hP hi name;by_cases hf:R.fnd st.brs name<st.brs.length
 ·obtain⟨hl,ha,he,_,a6⟩:=yU hP name hf
  have a0:¬R.fndI st.brs name<0:=by rw[R.fndI,if_pos hf];omega
  have HR:Hid (R.shown st name=(R.Written (R.workOf st name),0)):=by show _=_;rw[R.shown,if_neg a0]
  have a3:=hP.at_ _ (j0c hl);have a1:=a3.work;have c2:=a3.c2;rw[←a6]at a1;obtain⟨ta,tc,a5⟩:=OO a1;rw[a5]at c2 a1;have a8:=ve _ (R.workOf st name) w M a1 (Zc hi name).ok (by have:=(Zc hi name).few;omega) hG;rw[ha]at a2;generalize(LB[R.fnd st.brs name]'hl).2.1=bb at*;clear hP hi hf a0 he ha a6 a1 a3 a5 hG;generalize R.workOf st name=t at*;go_enter Tryz.func20,Tryz.ntmps20;go_wp2_with fail
  refine a2.mono ?_;rintro e w1 ⟨rfl,a4⟩;subst a4;go_wp2_with fail
  refine a8.mono ?_;rintro e w2 ⟨rfl,a7⟩;go_wp2;go_ret2;exact⟨jR (by rw[HR.out]) (by rw[HR.out]),a7⟩
 ·have a0:R.fndI st.brs name<0:=by rw[R.fndI,if_neg hf];omega
  have HR:Hid (R.shown st name=([],5)):=by show _=_;rw[R.shown,if_pos a0]
  have ha:ZH LB st name=none:=by rw[ZH,if_neg hf]
  rw[ha]at a2;clear hP hi hf a0 ha;go_enter Tryz.func20,Tryz.ntmps20;go_wp2_with fail
  refine a2.mono ?_;rintro e w1 ⟨rfl,a4⟩;subst a4;go_wp2;go_ret2;exact⟨jR (by rw[HR.out]) (by rw[HR.out]),j0g _ _⟩
theorem Ut (B:Nat)(st:R.St)(w:World)(M O:Nat→Prop)(h:PS w M O B st)(hi:Inv st):
  Calls Tryz.prog 39 #[.pointer (some ⟨B,0,none⟩)] w fun e w' =>∃va vc,e= .returned (.slice va st.brs.length vc)∧w'.ownsRow w.heap.size 9 1 (.slice va st.brs.length vc) st.brs.length (st.brs.map fun b=>S b.name)∧Below w.heap.size w w' :=by
 obtain⟨bv,cv,LB,b6,hP⟩:=h;have a3:st.brs.length=LB.length:=by rw[←hP.brs,List.length_map]
 have a5:=hi.many;have hB:=hP.lt B hP.own;have c0:=hP.c0;have HN:Hid (st.brs.map (fun b=>S b.name)=LB.map fun p=>S p.1.name):=by show _=_;rw[←hP.brs,List.map_map];rfl
 have HI:Hid (∀p∈LB,p.2.1<w.heap.size∧w.cell? ⟨p.2.1,0,none⟩=some (.string ⟨p.1.name.toArray⟩)):=fun p hp=>⟨hP.lt _ (hP.blk p hp).1,(hP.at_ p hp).c0⟩
 obtain⟨a,cap,rfl,hn,hm,a6,a2⟩:=za hP.row;rw[a3];rw[a3]at a5;unfold maxLen at hm;clear hP hi a3;go_enter Tryz.func39,Tryz.ntmps39;go_wp2;go_loopw [3,11] (fun s i wr=>∃k:Nat,k≤LB.length∧i= .int .i64 k∧(∃va vc,s= .slice va k vc)∧wr.ownsRow w.heap.size 9 1 s k ((LB.take k).map fun p=>S p.1.name)∧Below w.heap.size w wr) (fun _ i _=>LB.length-(intOf i).toNat)
 case atStart=>exact⟨0,Nat.zero_le _,rfl,⟨none,0,rfl⟩,World.ownsRow_nil _ _ _ _,j0g _ _⟩
 case round=>
  obtain⟨k,hk,rfl,⟨va,vc,rfl⟩,ho,hb⟩:=hrel;have b0:=hb.size;by_cases a4:k<LB.length
  ·cases a with
   |none=>have:=(a6 rfl).1;omega
   |some ad=>
   obtain⟨g,rfl,_,b3,_,a0⟩:=a2 ad rfl;have e0:=(hb.cell (p:=⟨g,k,none⟩) b3).trans (XS a0 k a4);have a7:=HI.out _ (j0c a4);have n0:=(hb.cell (p:=⟨(LB[k]'a4).2.1,0,none⟩) a7.1).trans a7.2;have HT:Hid ((LB.take (k+1)).map (fun p:BrP=>S p.1.name)=(LB.take k).map (fun p:BrP=>S p.1.name)++ [.string ⟨(LB[k]'a4).1.name.toArray⟩]):=by
    show _=_;rw[List.take_succ_eq_append_getElem a4,List.map_append];rfl
   have HO:=zk ho;generalize(LB[k]'a4).1.name=nm at*;generalize(LB[k]'a4).2.1=bb at*;have b7:=a7.1;clear a0 a2 a6 a7 ho;go_wp2_with (at_builtin;go_loud (refine Zi _ (by rfl) _ _ 45 (by rfl) w.heap.size 9 (.string ⟨#[]⟩) 1 16 Tryz.underlying45 Tryz.info9 (by rfl) (by decide) HO.out #[.string ⟨nm.toArray⟩] rfl (by rfl) (by rfl) (by intro u hu;simp at hu;subst hu;rfl) (by unfold maxLen;omega) (by omega) b0 ?_))
   intro v' w1 a8 a9;have b2:=zk a8;have b1:Hid (Below w.heap.size w w1):=hb.grown a9 b0 (fun j hj=>(HO.out.lt j hj).1);obtain⟨a1,c1,b5,_⟩:=za a8;subst b5;clear a8 a9 hb;go_wp2;go_roundw
   case rel=>
    refine⟨k+1,by omega,by go_num,⟨a1,c1,rfl⟩,?_,b1.out⟩;have:=b2.out;rw[←List.map_take,←HT.out]at this;exact this
   case measure=>simp[intOf];omega
  ·have b4:k=LB.length:=by omega
   subst b4;have HO:=zk ho;clear ho;go_wp2;go_ret;refine⟨va,vc,rfl,?_,hb⟩;have:=HO.out;rw[List.take_length]at this;rw[HN.out];exact this
theorem uj {w:World}{M O:Nat→Prop}{B:Nat}{st:R.St}(h:PS w M O B st)(n:Int):
  Calls Tryz.prog 51 #[.pointer (some ⟨B,0,none⟩),.int .i64 n] w fun e w' =>e= .returned (.bool (decide (1≤n∧n≤(st.cms.length:Int))))∧w' =w:=by
 obtain⟨a,c,e0,h1,h2⟩:=h.cms1;unfold maxLen at h2;clear h;by_cases hn:1≤n
 ·by_cases hm:n≤(st.cms.length:Int)
  ·have HS:Hid (decide (1≤n∧n≤(st.cms.length:Int))=true):=decide_eq_true ⟨hn,hm⟩
   rw[HS.out];go_enter Tryz.func51,Tryz.ntmps51;go_wp2;go_ret;exact⟨rfl,rfl⟩
  ·have HS:Hid (decide (1≤n∧n≤(st.cms.length:Int))=false):=decide_eq_false (fun e=>hm e.2)
   rw[HS.out];go_enter Tryz.func51,Tryz.ntmps51;go_wp2;go_ret;exact⟨rfl,rfl⟩
 ·have HS:Hid (decide (1≤n∧n≤(st.cms.length:Int))=false):=decide_eq_false (fun e=>hn e.1)
  rw[HS.out];go_enter Tryz.func51,Tryz.ntmps51;go_wp2;go_ret;exact⟨rfl,rfl⟩
theorem fu (B:Nat)(st:R.St)(n:Int)(w:World)(M O:Nat→Prop)(h:PS w M O B st)(hi:Inv st)(hG:Y8 w):
  Calls Tryz.prog 22 #[.pointer (some ⟨B,0,none⟩),.int .i64 n] w fun e w' =>e= .returned (.tuple #[.string ⟨(R.treeAt st n).1.toArray⟩,.int .i64 (R.treeAt st n).2])∧Below w.heap.size w w' :=by
 have a1:=uj h n;have HH:=zd a1;by_cases hc:n<1∨(st.cms.length:Int)<n
 ·have HS:Hid (R.treeAt st n=([],10)):=by show _=_;rw[R.treeAt,if_pos hc]
  have HD:Hid (decide (1≤n∧n≤(st.cms.length:Int))=false):=decide_eq_false (by omega);rw[HD.out]at HH;clear h hi hG a1 hc;go_enter Tryz.func22,Tryz.ntmps22;go_wp2_with fail
  refine HH.out.mono ?_;rintro e w1 ⟨rfl,a3⟩;subst a3;go_wp2;go_ret2;exact⟨jR (by rw[HS.out]) (by rw[HS.out]),j0g _ _⟩
 ·obtain⟨m,rfl⟩:∃m:Nat,n=(m:Int):=⟨n.toNat,by omega⟩
  have HS:Hid (R.treeAt st (m:Int)=(R.Written (R.treeOf st m),0)):=by show _=_;rw[R.treeAt,if_neg hc];rfl
  have HD:Hid (decide (1≤(m:Int)∧(m:Int)≤(st.cms.length:Int))=true):=decide_eq_true (by omega);rw[HD.out]at HH;have a2:=Yb hi m;obtain⟨bv,cv,LB,a7,hP⟩:=h;have HT:=zd (qQ hP m (by omega) hi.few);have HW:Hid (∀ta tc,PT w M (.slice ta (R.treeOf st m).length tc) (R.treeOf st m)→Calls Tryz.prog 50 #[.slice ta (R.treeOf st m).length tc] w fun e w' =>e= .returned (.string ⟨(R.Written (R.treeOf st m)).toArray⟩)∧Below w.heap.size w w'):=fun ta tc a0=>ve _ _ w M a0 a2.ok (by have:=a2.few;omega) hG
  clear hP hi hG a1 hc a2;generalize R.treeOf st m=t at*;go_enter Tryz.func22,Tryz.ntmps22;go_wp2_with fail
  refine HH.out.mono ?_;rintro e w1 ⟨rfl,a3⟩;subst a3;go_wp2_with fail
  refine HT.out.mono ?_;rintro e w2 ⟨ta,tc,rfl,a0,a6⟩;subst a6;have a4:=zd (HW.out ta tc a0);clear a0;go_wp2_with fail
  refine a4.out.mono ?_;rintro e w3 ⟨rfl,a5⟩;go_wp2;go_ret2;exact⟨jR (by rw[HS.out]) (by rw[HS.out]),a5⟩
theorem uf (n:Nat)(w:World):
  Calls Tryz.prog 59 #[.int .i64 (n:Int)] w fun e w' =>∃pa pc,e= .returned (.slice pa (R.parsOf n).length pc)∧Rd w' (fun b=>b<w.heap.size) (.slice pa (R.parsOf n).length pc) (R.parsOf n).length (yt (R.parsOf n))∧Below w.heap.size w w' :=by
 by_cases h0:n=0
 ·subst h0
  go_enter Tryz.func59,Tryz.ntmps59;go_wp2;go_ret;exact⟨none,0,rfl,⟨none,0,rfl,j0a _,by unfold maxLen;omega,fun h=>absurd h (by simp[R.parsOf])⟩,j0g _ _⟩
 ·have HS:Hid (R.parsOf n=[n]):=by show _=_;rw[R.parsOf,if_neg h0]
  have b0:((n:Int)==0)=false:=by simp;omega
  clear h0;go_enter Tryz.func59,Tryz.ntmps59;go_wp2;go_ret;rw[HS.out];refine⟨some ⟨w.heap.size,0,none⟩,1,rfl,⟨_,1,rfl,j0a _,by unfold maxLen;omega,fun _=>⟨w.heap.size,0,rfl,by simp,Nat.lt_irrefl _,fun j u hu=> ?_⟩⟩,(j0g _ _).alloc (j0a _) _⟩;match j,hu with
  |0,hu=>simp[yt]at hu;subst hu;simp
theorem gz {w:World}{M O:Nat→Prop}{B:Nat}{st:R.St}{bv cv:Value}{LB:List BrP}{b2:List (R.Cm×Value×Value)}(hP:PSx w M O B st bv cv LB b2)(hi:Inv st)(p:BrP)(hp:p∈LB):
  Calls Tryz.prog 46 #[.pointer (some ⟨B,0,none⟩),.pointer (some ⟨p.2.1,0,none⟩)] w fun e w' =>∃b:Bool,(b=false↔p.1.work=R.treeOf st p.1.head)∧e= .returned (.bool b)∧Below w.heap.size w w' :=by
 have a3:=hP.at_ p hp;have a6:p.1∈st.brs:=by rw[←hP.brs];exact List.mem_map_of_mem hp
 have a1:=hi.work _ a6;have a2:=Yb hi p.1.head;have b3:=hP.lt _ (hP.blk p hp).1;have c1:=a3.c1;have c2:=a3.c2;have a4:=a3.work;obtain⟨ta,tn,tc,a8⟩:∃a n k,p.2.2= .slice a n k:=by obtain⟨L,_,⟨a,k,e,_⟩,_⟩:=a4;exact⟨a,_,k,e⟩
 rw[a8]at c2 a4;have HT:Hid (∀q,Calls Tryz.prog 52 #[.pointer (some ⟨B,0,none⟩),.int .i64 (p.1.head:Int)] (w.drewN q) fun e w' =>∃ta tc,e= .returned (.slice ta (R.treeOf st p.1.head).length tc)∧PT (w.drewN q) M (.slice ta (R.treeOf st p.1.head).length tc) (R.treeOf st p.1.head)∧w' =w.drewN q):=fun q=>qQ (hP.kept (Z:=fun _=>False) (zj.of_below (below_drewN (j0g _ _) q)) (fun _ e=>e.elim) (fun b e=> .inl e) hP.sub) p.1.head (hi.heads _ a6) hi.few
 have HS:Hid (∀q va vc,PT (w.drewN q) M (.slice va (R.treeOf st p.1.head).length vc) (R.treeOf st p.1.head)→Calls Tryz.prog 83 #[.slice ta tn tc,.slice va (R.treeOf st p.1.head).length vc] (w.drewN q) fun e w' =>∃b:Bool,(b=true↔p.1.work=R.treeOf st p.1.head)∧e= .returned (.bool b)∧Below w.heap.size (w.drewN q) w'):=fun q va vc h=>Gm _ _ _ _ _ M (a4.below (below_drewN (j0g _ _) q)) h a1.ok a2.ok
 clear a3 a1 a2 a4 a8 hP hi a6 hp;generalize R.treeOf st p.1.head=t at*;generalize p.1.head=hd at*;generalize p.1.work=wk at*;generalize p.2.1=bb at*;go_enter Tryz.func46,Tryz.ntmps46;go_wp2;go_region_held3 (fun w' =>w'.cell? ⟨bb,1,none⟩=some (.int .i64 (hd:Int))∧w'.cell? ⟨bb,2,none⟩=some (.slice ta tn tc)) (go_keep)
  (first
   |(go_at_call 52;refine(HT.out 1).mono ?_;rintro e w9 ⟨va,vc,rfl,a7,b4⟩;subst b4;have b1:=zd a7;clear a7)
   |(go_at_call 83;refine(HS.out 1 _ _ b1.out).mono ?_;rintro e w9 ⟨b,hb,rfl,a5⟩;have b5:∀o,w9.cell? ⟨bb,o,none⟩=_:=fun o=>a5.cell (p:=⟨bb,o,none⟩) b3;have b0:=zd a5;have a9:=zd hb;clear a5 hb))
 all_goals
  rename_i a0;clear a0;go_wp2;go_ret;refine⟨_,?_,rfl,(below_drewN (j0g _ _) 1).trans b0.out⟩;have:=a9.out
  cases b<;>simp at this⊢<;>first|exact this|trivial
def ZI (st:R.St)(name:List UInt8)(c:R.Cm):(Int×Int)×R.St:=if 60≤st.cms.length then((0,4),st)else((((st.cms.length+1:Nat):Int),0),R.down st name c)
theorem O3 {w:World}{M O:Nat→Prop}{B:Nat}{st:R.St}{bv cv:Value}{LB:List BrP}{e2:List (R.Cm×Value×Value)}(hP:PSx w M O B st bv cv LB e2)(hi:Inv st)(name:List UInt8)(hf:R.fnd st.brs name<st.brs.length)(hl:R.fnd st.brs name<LB.length)(c:R.Cm)(pa:Option Addr)(pc:Nat)(ta:Option Addr)(tn tc:Nat)(c7:PT w M (.slice ta tn tc) c.tree)(c6:Rd w M (.slice pa c.parents.length pc) c.parents.length (yt c.parents))(hM:∀b,M b→b<w.heap.size)(hT:OkT c.tree)(d5:∀p∈c.parents,1≤p∧p≤st.cms.length)(h2:c.parents.length≤2)(f8:st.packed.length≤100000000000)(hG:Y8 w)(h6:∀b,O b→6≤b):
  Calls Tryz.prog 58 #[.pointer (some ⟨B,0,none⟩),.pointer (some ⟨(LB[R.fnd st.brs name]'hl).2.1,0,none⟩),.agg #[.slice pa c.parents.length pc,.slice ta tn tc]] w fun e w' =>e= .returned (.tuple #[.int .i64 (ZI st name c).1.1,.int .i64 (ZI st name c).1.2])∧zR w w' M O B (ZI st name c).2:=by
 obtain⟨ca,cc,e0,e3,e4⟩:=PS.cms1 ⟨_,_,_,_,hP⟩;have f5:=hP.lt B hP.own;have b3:=hP.at_ _ (j0c hl);have a7:=hP.blk _ (j0c hl);have d4:=hP.lt _ a7.1;have b6:(LB[R.fnd st.brs name]'hl).1.name=name:=by
  have:(LB[R.fnd st.brs name]'hl).1=(st.brs[R.fnd st.brs name]'hf):=by simp only[←hP.brs,List.getElem_map]
  rw[this];exact R.fnd_name _ _ hf
 have k0:=b3.c0;rw[b6]at k0;have f7:name.length≤8:=by
  have:=ZA _ (hi.names _ (j0c hf));rw[R.fnd_name st.brs name hf]at this;exact this
 unfold maxLen at e4;have b5:=hi.few;have e9:=hT.len;have c9:=hP.lt;obtain⟨n0,a4⟩:∃n0,n0=st.cms.length:=⟨_,rfl⟩
 rw[←a4]at e0 e3 b5;have f3:=zd a4;by_cases b1:60≤st.cms.length
 ·have HS:Hid (ZI st name c=((0,4),st)):=by show _=_;rw[ZI,if_pos b1]
  have d8:Hid (zR w (w.alloc (Obj.cells #[.slice pa c.parents.length pc,.slice ta tn tc] 114)) M O B st):=zR.same ⟨_,_,_,_,hP⟩ ((j0g _ _).alloc (j0a _) _);have b2 :(60:Int)≤(n0:Int):=by omega
  generalize(LB[R.fnd st.brs name]'hl).2.1=bb at*;clear hP b3 hi c7 c6 hG hT a4;go_enter Tryz.func58,Tryz.ntmps58;go_wp2;go_ret2;rw[HS.out];exact⟨rfl,d8.out⟩
 ·have HS:Hid (ZI st name c=((((n0+1:Nat):Int),0),R.down st name c)):=by show _=_;rw[ZI,if_neg b1,a4]
  have b2 :(n0:Int)<60:=by omega
  have HK:Hid (∀W,Below w.heap.size w W→Calls Tryz.prog 97 #[.pointer (some ⟨B,0,none⟩),.agg #[.slice pa c.parents.length pc,.slice ta tn tc]] W fun e w' =>e= .returned (.int .i64 ((n0:Int)+1))∧∃a2 a0,Ym W w' M O B (R.keepC st c) bv a2 LB a0):=fun W hW=>by
   have:=Gq (hP.kept (Z:=fun _=>False) (zj.of_below hW) (fun _ e=>e.elim) (fun b e=> .inl e) hP.sub) c pa pc ta tn tc (c7.below hW) (c6.below hW) (fun b e=>j0b (hM b e) hW.size) hT h2 (by omega) (by omega) (hG.below hW) h6;rw[←a4]at this;exact this
  have a8:=jh hi c (by omega) hT d5 h2;have a9:(R.keepC st c).packed.length≤1000000000000:=by
   have:=Qk c;simp only[R.keepC,R.record,R.recHead,List.length_append,List.length_cons,List.length_nil];omega
  obtain⟨bb,b0⟩:∃bb,bb=(LB[R.fnd st.brs name]'hl).2.1:=⟨_,rfl⟩
  rw[←b0]at k0 a7 d4⊢;have d9:Hid (∀W w9 a2 a0,Ym W w9 M O B (R.keepC st c) bv a2 LB a0 →Below w.heap.size w W→w.heap.size<W.heap.size→Calls Tryz.prog 48 #[.pointer (some ⟨B,0,none⟩),.string ⟨name.toArray⟩,.int .i64 ((n0:Int)+1)] w9 fun e w' =>e= .returned (.tuple #[])∧Hid (zR w w' M O B (R.down st name c))∧w'.cell? ⟨bb,1,none⟩=some (.int .i64 ((n0:Int)+1))∧w'.cell? ⟨bb,0,none⟩=some (.string ⟨name.toArray⟩)∧(∀o,w'.cell? ⟨w.heap.size,o,none⟩=w9.cell? ⟨w.heap.size,o,none⟩)):=fun W w9 a2 a0 a5 hW d3=>by
   obtain⟨O1,b9,a3,b7⟩:=a5;have f9:=a3.size;have:=gv B (R.keepC st c) name (n0+1) w9 _ O1 b9 hf bb (fun h=>b0.symm) a8 (by rw[a4];simp[R.keepC]) (by omega) a9;refine this.mono ?_;rintro e w' ⟨rfl,a1,h1,h0⟩;have e8:zj O w w9:=⟨a3.os.trans hW.os,a3.tape.trans hW.tape,a3.output.trans hW.output,j0f hW.size a3.size,fun k hk hn=>by rw[a3.block k (j0b hk hW.size) hn];exact hW.block k hk⟩
   have b8 :∀b,O1 b→O b∨w.heap.size≤b:=fun b e=>by
    rcases b7 b e with e|e
    ·exact .inl e
    ·exact .inr (j0f hW.size e)
   refine⟨rfl,?_,h1,h0,fun o=> ?_⟩
   ·have:=zR.trans e8 b8 a1
    rw[a4]at this;exact this
   ·obtain⟨O2,_,e7,_⟩:=a1
    refine e7.cell (p:=⟨w.heap.size,o,none⟩) (show w.heap.size<_ by omega) (fun e=> ?_);rcases b7 _ e with e|e
    ·have f4 :w.heap.size<w.heap.size:=c9 _ e
     omega
    ·have e' :W.heap.size≤w.heap.size:=e
     omega
  have d7:Hid (∀W w9 a2 a0,Ym W w9 M O B (R.keepC st c) bv a2 LB a0 →w.heap.size<W.heap.size→w9.cell? ⟨bb,0,none⟩=some (.string ⟨name.toArray⟩)∧∀o,w9.cell? ⟨w.heap.size,o,none⟩=W.cell? ⟨w.heap.size,o,none⟩):=fun W w9 a2 a0 a5 d3=>by
   obtain⟨O1,b9,a3,b7⟩:=a5;refine⟨?_,fun o=>a3.cell (p:=⟨w.heap.size,o,none⟩) d3 (fun e=>by have e' :w.heap.size<w.heap.size:=c9 _ e;omega)⟩;have:=(b9.at_ _ (j0c hl)).c0;rw[b6,←b0]at this;exact this
  clear hP b3 hi c7 c6 hG hT a8 a9 b6 b0 d5 hM e9 a4 b1;go_enter Tryz.func58,Tryz.ntmps58;go_wp2;have b4:Below w.heap.size w (w.alloc (Obj.cells #[.slice pa c.parents.length pc,.slice ta tn tc] 114)):=(j0g _ _).alloc (j0a _) _;have f0:(w.alloc (Obj.cells #[.slice pa c.parents.length pc,.slice ta tn tc] 114)).heap.size=w.heap.size+1:=by simp
  have x0:(w.alloc (Obj.cells #[.slice pa c.parents.length pc,.slice ta tn tc] 114)).cell? ⟨w.heap.size,0,none⟩=some (.slice pa c.parents.length pc):=by simp
  have x1:(w.alloc (Obj.cells #[.slice pa c.parents.length pc,.slice ta tn tc] 114)).cell? ⟨w.heap.size,1,none⟩=some (.slice ta tn tc):=by simp
  generalize w.alloc (Obj.cells #[.slice pa c.parents.length pc,.slice ta tn tc] 114)=W1 at*;have g0 :=(b4.cell (p:=⟨bb,0,none⟩) d4).trans k0;have c8:Below w.heap.size w W1.drew:=b4.drew;have d6:w.heap.size<W1.drew.heap.size:=by show _<W1.heap.size;omega
  clear b4 f0 k0;go_region_held3 (fun w' =>w'.cell? ⟨bb,0,none⟩=some (.string ⟨name.toArray⟩)∧w'.cell? ⟨w.heap.size,0,none⟩=some (.slice pa c.parents.length pc)∧w'.cell? ⟨w.heap.size,1,none⟩=some (.slice ta tn tc)) (go_keep)
   (first
    |(go_at_call 97;with_reducible refine(HK.out _ c8).mono ?_;rintro e w9 ⟨rfl,a2,a0,a5⟩;obtain⟨f6,e5⟩:=d7.out _ _ _ _ a5 d6;have e1:=zd a5;clear a5)
    |(go_at_call 48;with_reducible refine(d9.out _ _ _ _ e1.out c8 d6).mono ?_;rintro e g1 ⟨rfl,a1,h1,h0,e6⟩))
  all_goals
   rename_i a6;clear a6 e5 e6;go_wp2;go_ret2;rw[HS.out];exact⟨by first|rfl|simp,a1.out⟩
theorem gB (B:Nat)(st:R.St)(name:List UInt8)(w:World)(M O:Nat→Prop)(h:PS w M O B st)(hi:Inv st)(hM:∀b,M b→b<w.heap.size)(e6:st.packed.length≤100000000000)(hG:Y8 w)(h6:∀b,O b→6≤b):
  Calls Tryz.prog 28 #[.pointer (some ⟨B,0,none⟩),.string ⟨name.toArray⟩] w fun e w' =>e= .returned (.tuple #[.int .i64 (R.commit st name).1.1,.int .i64 (R.commit st name).1.2])∧zR w w' M O B (R.commit st name).2:=by
 have a7:=h;obtain⟨bv,cv,LB,e7,hP⟩:=h;have a3:=Vu hP hi name;by_cases hf:R.fnd st.brs name<st.brs.length
 ·obtain⟨hl,ha,he,b4,b8⟩:=yU hP name hf
  have a5:¬R.fndI st.brs name<0:=by rw[R.fndI,if_pos hf];omega
  have a8:=hP.at_ _ (j0c hl);have c9:=hP.lt _ (hP.blk _ (j0c hl)).1;have b2:=gz hP hi _ (j0c hl);rw[←b4,←b8]at b2;have c1:=a8.c1;have c2:=a8.c2;have a6:=a8.work;rw[←b8]at a6;rw[←b4]at c1;obtain⟨ta,tn,tc,d5⟩:∃a n k,(LB[R.fnd st.brs name]'hl).2.2= .slice a n k:=by obtain⟨L,_,⟨a,k,e,_⟩,_⟩:=a6;exact⟨a,_,k,e⟩
  rw[d5]at c2 a6;have b5:=Vd hi name;have a0:=Zc hi name;have a4:=a0.inj (Yb hi (R.headOf st name));rw[ha]at a3;have a1:Hid (∀W pa pc,Below w.heap.size w W→Rd W (fun b=>b<w.heap.size) (.slice pa (R.parsOf (R.headOf st name)).length pc) (R.parsOf (R.headOf st name)).length (yt (R.parsOf (R.headOf st name)))→Calls Tryz.prog 58 #[.pointer (some ⟨B,0,none⟩),.pointer (some ⟨(LB[R.fnd st.brs name]'hl).2.1,0,none⟩),.agg #[.slice pa (R.parsOf (R.headOf st name)).length pc,.slice ta tn tc]] W fun e w' =>e= .returned (.tuple #[.int .i64 (ZI st name {tree:=R.workOf st name,parents:=R.parsOf (R.headOf st name)}).1.1,.int .i64 (ZI st name {tree:=R.workOf st name,parents:=R.parsOf (R.headOf st name)}).1.2])∧zR w w' M O B (ZI st name {tree:=R.workOf st name,parents:=R.parsOf (R.headOf st name)}).2):=fun W pa pc hW a9=>by
   have:=O3 (hP.kept (Z:=fun _=>False) (zj.of_below hW) (fun _ e=>e.elim) (fun b e=> .inl e) hP.sub) hi name hf hl {tree:=R.workOf st name,parents:=R.parsOf (R.headOf st name)} pa pc ta tn tc (a6.below hW) (a9.step (zj.refl (fun _=>False) W) (fun _ e=>e.elim) (fun b e=> .inl (hM b e))) (fun b e=>j0b (hM b e) hW.size) a0 b5.1 b5.2 e6 (hG.below hW) h6;refine this.mono ?_;rintro e w' ⟨he,b0⟩;exact⟨he,zR.after hW b0⟩
  have e1:Hid (∀W,Calls Tryz.prog 59 #[.int .i64 (R.headOf st name:Int)] W fun e w' =>∃pa pc,e= .returned (.slice pa (R.parsOf (R.headOf st name)).length pc)∧Rd w' (fun b=>b<W.heap.size) (.slice pa (R.parsOf (R.headOf st name)).length pc) (R.parsOf (R.headOf st name)).length (yt (R.parsOf (R.headOf st name)))∧Below W.heap.size W w'):=fun W=>uf _ W
  have d7:Hid (R.workOf st name=R.treeOf st (R.headOf st name)→R.commit st name=((0,9),st)):=fun e=>by
   rw[R.commit,if_neg a5,if_pos (by rw[←e])]
  have c7:Hid (¬R.workOf st name=R.treeOf st (R.headOf st name)→R.commit st name=ZI st name {tree:=R.workOf st name,parents:=R.parsOf (R.headOf st name)}):=fun e=>by
   rw[R.commit,if_neg a5,if_neg (fun h=>e (a4.1 h)),ZI]
  have b1:=zd a7;have d6:=zd b2;have d9:=zd a3;obtain⟨ad,c8⟩:∃ad,ad=ZI st name {tree:=R.workOf st name,parents:=R.parsOf (R.headOf st name)}:=⟨_,rfl⟩
  rw[←c8]at a1 c7;generalize(LB[R.fnd st.brs name]'hl).2.1=bb at*;clear hP a7 hi hG b2 a8 a6 b5 a0 a4 a3 b8 b4 he ha d5 c8 hM;generalize R.parsOf (R.headOf st name)=ps at*;generalize R.headOf st name=hd at*;generalize R.workOf st name=wk at*;go_enter Tryz.func28,Tryz.ntmps28;go_wp2_with fail
  refine d9.out.mono ?_;rintro e w1 ⟨rfl,b7⟩;subst b7;go_wp2_with fail
  refine d6.out.mono ?_;rintro e w2 ⟨b,hb,rfl,a2⟩;have b9:=zd a2;have c6:=zd hb;have d1:=(a2.cell (p:=⟨bb,1,none⟩) c9).trans c1;have d2:=(a2.cell (p:=⟨bb,2,none⟩) c9).trans c2;have d4:=a2.size;clear hb a2
  cases b
  ·go_wp2
   go_ret2;rw[d7.out (c6.out.1 (by first|trivial|rfl))];exact⟨rfl,zR.same b1.out b9.out⟩
  ·have d8:Hid (R.commit st name=ad):=c7.out (fun e=>by have:=c6.out.2 e;first|exact this|cases this)
   have e4:Below w1.heap.size w1 w2.drew:=b9.out.drew;have e5:bb<w2.drew.heap.size:=by show bb<w2.heap.size;omega
   go_wp2;go_region_with (first
    |(go_at_call 59;refine(e1.out _).mono ?_;rintro e w9 ⟨pa,pc,rfl,a9,b3⟩;have e3:Below w1.heap.size w1 w9:=e4.trans (b3.mono d4);have d3:∀o,w9.cell? ⟨bb,o,none⟩=w2.drew.cell? ⟨bb,o,none⟩:=fun o=>b3.cell (p:=⟨bb,o,none⟩) e5;have b6:Rd w9 (fun b=>b<w1.heap.size) (.slice pa ps.length pc) ps.length (yt ps):=Rd.step a9 (zj.refl (fun _=>False) w9) (fun _ e=>e.elim) (fun b e=> .inl (j0b e d4));have f2:w9.cell? ⟨bb,2,none⟩=some (.slice ta tn tc):=(d3 2).trans d2;clear a9 b3 d3)
    |(go_at_call 58;with_reducible refine(a1.out _ _ _ e3 b6).mono ?_;rintro e e8 ⟨rfl,b0⟩))
   all_goals
    have e2:=zd b0;clear b0;go_wp2;go_ret2;rw[d8.out];exact⟨rfl,e2.out⟩
 ·have a5:R.fndI st.brs name<0:=by rw[R.fndI,if_neg hf];omega
  have HR:Hid (R.commit st name=((0,5),st)):=by show _=_;rw[R.commit,if_pos a5]
  have ha:ZH LB st name=none:=by rw[ZH,if_neg hf]
  rw[ha]at a3;have b1:=zd a7;clear hP a7 hi hf a5 ha hG;go_enter Tryz.func28,Tryz.ntmps28;go_wp2_with fail
  refine a3.mono ?_;rintro e w1 ⟨rfl,b7⟩;subst b7;go_wp2;go_ret2;rw[HR.out];exact⟨rfl,zR.same b1.out (j0g _ _)⟩
