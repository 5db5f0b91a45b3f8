import Derived.Test.YtolgebdmffcemaaGreatDoorQ13
set_option linter.all false
set_option maxHeartbeats 20000000
set_option maxRecDepth 1000000
namespace Go.Proofs.YtolgebdmffcemaaGreatDoor
open Go.RowKit
theorem JY {p:Prop}(h:p):Hid p:=h
theorem V2 (t:List R.Leaf)(path:List UInt8)(h:∀x∈t,R.Good x)(hp:path.length≤1000):R.Good (R.at_ t path):=by
 unfold R.at_
 cases e:t.find? (fun x=>x.path==path)with
 |none=>exact⟨hp,by simp[R.none],by simp[R.none],by simp[R.none],by simp[R.none],by simp[R.none]⟩
 |some y=>exact h y (List.mem_of_find?_eq_some e)
theorem XJ {w:World}{M:Nat→Prop}{v:Value}{t:List R.Leaf}(h:Tr w M v t):∃a c,v= .slice a t.length c:=by
 obtain⟨L,hL,⟨a,cap,e,_⟩,_⟩:=h;exact⟨a,cap,by rw[e,←hL,List.length_map]⟩
theorem OL (B:Nat)(st:R.St)(a0 path text:List UInt8)(n:Int)(w:World)(M O:Nat→Prop)(h:RS w M O B st)(hM:∀b,M b→b<w.heap.size)(hf:R.Fine st)(e8:path.length≤maxLen)(_htl:text.length≤maxLen)(_hn1:n≤9223372036854775807)(_hn2: -9223372036854775808≤n):
  Calls Tryz.prog 122 #[.pointer (some ⟨B,0,none⟩),.int .u8 0,.string ⟨a0.toArray⟩,.string ⟨path.toArray⟩,.int .i64 n,.string ⟨text.toArray⟩] w fun e w' =>
   e= .returned (.int .i64 (R.change st 0 a0 path n text).1)∧zG w w' M O B (R.change st 0 a0 path n text).2:=by
 have c7:=h;obtain⟨cv,bv,LB,g8,hR⟩:=h;have c1:=hR.c1;have c6:=hR.lt B hR.own;obtain⟨a,cap,rfl,h2,hm,c8,c9⟩:=za hR.row;have HL:Hid (LB.length=st.brs.length):=by show _=_;rw[←hR.brs,List.length_map]
 have b1:=yJ B st a0 w M O c7;unfold maxLen at hm;rcases R.fndI_cases st.brs a0 with⟨f1,f2⟩|⟨f1,f2⟩
 ·have HS:Hid (R.change st 0 a0 path n text=(5,st)):=by show _=_;rw[R.change,if_pos (by omega)]
  rw[HS.out];rw[f1]at b1;clear c9 c8 f1 f2;go_enter Tryz.func122,Tryz.ntmps122;go_wp2_with fail
  refine b1.mono ?_;rintro e w1 ⟨rfl,rfl⟩;go_wp2;go_ret;exact⟨rfl,zG.same c7 (j0g _ _)⟩
 cases b3:R.isPath path
 ·have HS:Hid (R.change st 0 a0 path n text=(2,st)):=by show _=_;rw[R.change,if_neg (by omega),if_pos b3]
  rw[HS.out];rw[f1]at b1;have a6 :=y7 path w e8;rw[b3]at a6;clear c9 c8 f1;go_enter Tryz.func122,Tryz.ntmps122;go_wp2_with fail
  refine b1.mono ?_;rintro e w1 ⟨rfl,rfl⟩;go_wp2_with fail
  refine a6.mono ?_;rintro e w2 ⟨rfl,hb⟩;go_wp2;go_ret;exact⟨rfl,zG.same c7 hb⟩
 have a5:R.fnd st.brs a0<LB.length:=by rw[HL.out];exact f2
 have f5:R.workOf st a0=(LB[R.fnd st.brs a0]'a5).1.work:=by
  rw[R.workOf,j0d f2];simp[←hR.brs]
 have d6:=hR.mem_brs (j0c a5);have b6:=hR.work _ (j0c a5);have a7:=hf.good _ d6;have g0:=hf.few _ d6;have a6 :=y7 path w e8;rw[b3]at a6;have e7:path.length≤100:=by simp[R.isPath]at b3;exact b3.1
 cases a with
 |none=>have:=(c8 rfl).1;omega
 |some ad=>
  obtain⟨g,rfl,_,g9,_,a9⟩:=c9 ad rfl;obtain⟨-, -,d2⟩:=ZS a9 _ a5;have g1:=hR.rowO g rfl;have b2:=hR.lt g g1.1;have d5:∀o,w.frozen? ⟨g,o,none⟩=false:=by assumption
  have HC:Hid (R.change st 0 a0 path n text=if(R.valV 0 (LB[R.fnd st.brs a0]'a5).1.work (R.at_ (LB[R.fnd st.brs a0]'a5).1.work path) path n text).1=0 then
    (0,R.setWork st (R.fnd st.brs a0) (R.set (LB[R.fnd st.brs a0]'a5).1.work (R.valV 0 (LB[R.fnd st.brs a0]'a5).1.work (R.at_ (LB[R.fnd st.brs a0]'a5).1.work path) path n text).2))
    else((R.valV 0 (LB[R.fnd st.brs a0]'a5).1.work (R.at_ (LB[R.fnd st.brs a0]'a5).1.work path) path n text).1,st)):=by
   show _=_;rw[R.change,if_neg (by omega),if_neg (by simp[b3]),f5]
  obtain⟨ta,a4,f4⟩:∃ta a4,(LB[R.fnd st.brs a0]'a5).2= .slice ta (LB[R.fnd st.brs a0]'a5).1.work.length a4:=by
   obtain⟨L,hL,⟨a,cap,e,_⟩,_⟩:=b6;exact⟨a,cap,by rw[e,←hL,List.length_map]⟩
  rw[f4]at b6 d2;rw[f1]at b1;have f3:∀(w5:World) (v' :Value) (t' :List R.Leaf),Below w.heap.size w w5→Tr w5 M v' t' →zG w (w5.setCell ⟨g,R.fnd st.brs a0*3+2,none⟩ v') M O B (R.setWork st (R.fnd st.brs a0) t'):=fun w5 v' t' d4 g6=>xj hR a5 d4 g6
  generalize(LB[R.fnd st.brs a0]'a5).1.work=t at*;generalize R.fnd st.brs a0=i at*;have h1:R.Good (R.at_ t path):=V2 t path a7 (by omega);have d9:=fun W (hW:Below w.heap.size w W)=>OJ (.slice ta t.length a4) t path W M (b6.below hW)
  have f9:=JY f3;have g4:∀y∈t,y.path.length≤1000:=fun y hy=>(a7 y hy).path
  generalize R.at_ t path=x at*;clear c9 c8 f1 a9 f5 f4 d6 b3 a7 f3;go_enter Tryz.func122,Tryz.ntmps122;go_wp2_with fail
  refine b1.mono ?_;rintro e w1 ⟨rfl,rfl⟩;go_wp2_with fail
  refine a6.mono ?_;rintro e w2 ⟨rfl,b5⟩;have e9:=b5.size;have e1:=(b5.cell (p:=⟨B,1,none⟩) c6).trans c1;have e2:=(b5.cell (p:=⟨g,i*3+2,none⟩) b2).trans d2;go_wp2_with fail
  refine(d9 _ b5).mono ?_;rintro e w3 ⟨iv,rfl,g2,d3⟩;obtain⟨ia,ic,e6,e3,e4,e5⟩:=g2;dsimp only at e6;subst e6;have b7:It w3 M (x,.slice ia x.items.length ic):=Rd.below ⟨ia,ic,rfl,e3,e4,e5⟩ d3;clear e3 e4 e5 e1 e2;have b4:Below w1.heap.size w1 w3:=b5.trans (d3.mono e9);have k1:=(b4.cell (p:=⟨B,1,none⟩) c6).trans c1;have k2:=(b4.cell (p:=⟨g,i*3+2,none⟩) b2).trans d2;have k3:=(b4.frozen (p:=⟨g,i*3+2,none⟩) b2).trans (d5 _);have g5:=b4.size;have d8:Tr w3 M (.slice ta t.length a4) t:=b6.below b4;clear d9 a6 b1 b5 d3 e9;unfold LC;dsimp only;generalize hJ:w3.alloc (.cells #[.string ⟨x.path.toArray⟩,.int .u8 x.kind,.int .i64 x.n,.string ⟨x.text.toArray⟩,.slice ia x.items.length ic] 216)=wJ;have a8:Below w1.heap.size w1 wJ:=by rw[←hJ];exact b4.alloc g5 _
  have h3:wJ.heap.size=w3.heap.size+1:=by rw[←hJ];simp
  have f0:=a8.size;have j1:=(a8.cell (p:=⟨B,1,none⟩) c6).trans c1;have j2:=(a8.cell (p:=⟨g,i*3+2,none⟩) b2).trans d2;have j3:=(a8.frozen (p:=⟨g,i*3+2,none⟩) b2).trans (d5 _);have x0:wJ.cell? ⟨w3.heap.size,0,none⟩=some (.string ⟨x.path.toArray⟩):=by rw[←hJ];simp
  have x1:wJ.cell? ⟨w3.heap.size,1,none⟩=some (.int .u8 x.kind):=by rw[←hJ];simp
  have x2:wJ.cell? ⟨w3.heap.size,2,none⟩=some (.int .i64 x.n):=by rw[←hJ];simp
  have x3:wJ.cell? ⟨w3.heap.size,3,none⟩=some (.string ⟨x.text.toArray⟩):=by rw[←hJ];simp
  have x4:wJ.cell? ⟨w3.heap.size,4,none⟩=some (.slice ia x.items.length ic):=by rw[←hJ];simp
  have g3:It wJ M (x,.slice ia x.items.length ic):=by rw[←hJ];exact Rd.below b7 ((j0g _ _).alloc (j0a _) _)
  have f6:Hid (∀W,Below w1.heap.size w1 W→W.cell? ⟨B,1,none⟩=some (.slice (some ⟨g,0,none⟩) LB.length cap)):=fun W hW=>(hW.cell (p:=⟨B,1,none⟩) c6).trans c1
  have f7:Hid (∀W,Below w1.heap.size w1 W→W.cell? ⟨g,i*3+2,none⟩=some (.slice ta t.length a4)):=fun W hW=>(hW.cell (p:=⟨g,i*3+2,none⟩) b2).trans d2
  have f8:Hid (∀W,Below w1.heap.size w1 W→W.frozen? ⟨g,i*3+2,none⟩=false):=fun W hW=>(hW.frozen (p:=⟨g,i*3+2,none⟩) b2).trans (d5 _)
  have a1:∀o,(wJ.alloc o).cell? ⟨B,1,none⟩=some (.slice (some ⟨g,0,none⟩) LB.length cap):=fun o=>by rw[World.cell?_alloc_past _ _ _ (by omega)];exact j1
  have a2:∀o,(wJ.alloc o).cell? ⟨g,i*3+2,none⟩=some (.slice ta t.length a4):=fun o=>by rw[World.cell?_alloc_past _ _ _ (by omega)];exact j2
  have a3:∀o,(wJ.alloc o).frozen? ⟨g,i*3+2,none⟩=false:=fun o=>by rw[World.frozen?_alloc_past _ _ _ (by omega)];exact j3
  have g7:Tr wJ M (.slice ta t.length a4) t:=b6.below a8;clear b7 d8 k1 k2 k3;have HV:Hid (R.valV 0 t x path n text=R.delV x path):=by show _=_;rw[R.valV,if_pos rfl]
  rcases ZZ x.kind 0 with⟨b0,h0⟩|⟨b0,h0⟩
  ·have HZ:Hid (R.valV 0 t x path n text=(10,x)):=by show _=_;rw[HV.out,R.delV,if_pos h0]
   clear h0;have HE:Hid (R.change st 0 a0 path n text=(10,st)):=by show _=_;rw[HC.out,HZ.out];rfl
   go_wp2;go_ret;exact⟨zq (by rw[HE.out]),by rw[HE.out];exact zG.same c7 a8⟩
  ·have HZ:Hid (R.valV 0 t x path n text=(0,R.none path)):=by show _=_;rw[HV.out,R.delV,if_neg h0]
   clear h0;have HE:Hid (R.change st 0 a0 path n text=(0,R.setWork st i (R.set t (R.none path)))):=by show _=_;rw[HC.out,HZ.out];rfl
   have d7:∀W,Below w1.heap.size w1 W→Calls Tryz.prog 170 #[.slice ta t.length a4,.agg #[.string ⟨path.toArray⟩,.int .u8 0,.int .i64 0,.string ⟨#[]⟩,.slice none 0 0]] W fun e w' =>∃v',e= .returned v' ∧Tr w' M v' (R.set t (R.none path))∧Below W.heap.size W w' :=fun W hW=>
    Jz (.slice ta t.length a4) t (R.none path) (.slice none 0 0) W M (b6.below hW) ⟨none,0,rfl,j0a _,by unfold maxLen;omega,fun h=>absurd h (Nat.lt_irrefl _)⟩ (fun b hb=>j0b (hM b hb) hW.size) g4 (by simp[R.none];omega) (by omega)
   go_wp2;go_region_with ((go_at_call 170;refine(d7 _ (by first|exact a8.drew|exact(a8.alloc f0 _).drew|exact hBY.drew)).mono ?_;rintro e w5 ⟨v5,rfl,b8,d4⟩;have b9:Below w1.heap.size w1 w5:=Below.trans (by first|exact a8.drew|exact(a8.alloc f0 _).drew|exact hBY.drew) (d4.mono (by first|(simp;omega)|omega));have m1:=f6.out w5 b9;have m2:=f7.out w5 b9;have m3:=f8.out w5 b9;obtain⟨va,vc,rfl⟩:=XJ b8))
   all_goals go_wp2
   all_goals go_ret
   all_goals exact⟨zq (by rw[HE.out]),by rw[HE.out];exact f9.out _ _ _ b9 b8⟩
theorem fe (B:Nat)(st:R.St)(a0 path text:List UInt8)(n:Int)(w:World)(M O:Nat→Prop)(h:RS w M O B st)(hM:∀b,M b→b<w.heap.size)(hf:R.Fine st)(g0:path.length≤maxLen)(h5:text.length≤maxLen)(_hn1:n≤9223372036854775807)(_hn2: -9223372036854775808≤n):
  Calls Tryz.prog 122 #[.pointer (some ⟨B,0,none⟩),.int .u8 61,.string ⟨a0.toArray⟩,.string ⟨path.toArray⟩,.int .i64 n,.string ⟨text.toArray⟩] w fun e w' =>
   e= .returned (.int .i64 (R.change st 61 a0 path n text).1)∧zG w w' M O B (R.change st 61 a0 path n text).2:=by
 have b5:=h;obtain⟨cv,bv,LB,h7,hR⟩:=h;have c1:=hR.c1;have d7:=hR.lt B hR.own;obtain⟨a,cap,rfl,i0,hm,d8,d9⟩:=za hR.row;have HL:Hid (LB.length=st.brs.length):=by show _=_;rw[←hR.brs,List.length_map]
 have b7:=yJ B st a0 w M O b5;unfold maxLen at hm;rcases R.fndI_cases st.brs a0 with⟨f1,f2⟩|⟨f1,f2⟩
 ·have HS:Hid (R.change st 61 a0 path n text=(5,st)):=by show _=_;rw[R.change,if_pos (by omega)]
  rw[HS.out];rw[f1]at b7;clear d9 d8 f1 f2;go_enter Tryz.func122,Tryz.ntmps122;go_wp2_with fail
  refine b7.mono ?_;rintro e w1 ⟨rfl,rfl⟩;go_wp2;go_ret;exact⟨rfl,zG.same b5 (j0g _ _)⟩
 cases b9:R.isPath path
 ·have HS:Hid (R.change st 61 a0 path n text=(2,st)):=by show _=_;rw[R.change,if_neg (by omega),if_pos b9]
  rw[HS.out];rw[f1]at b7;have a8 :=y7 path w g0;rw[b9]at a8;clear d9 d8 f1;go_enter Tryz.func122,Tryz.ntmps122;go_wp2_with fail
  refine b7.mono ?_;rintro e w1 ⟨rfl,rfl⟩;go_wp2_with fail
  refine a8.mono ?_;rintro e w2 ⟨rfl,hb⟩;go_wp2;go_ret;exact⟨rfl,zG.same b5 hb⟩
 have a7:R.fnd st.brs a0<LB.length:=by rw[HL.out];exact f2
 have g4:R.workOf st a0=(LB[R.fnd st.brs a0]'a7).1.work:=by
  rw[R.workOf,j0d f2];simp[←hR.brs]
 have e5:=hR.mem_brs (j0c a7);have c8:=hR.work _ (j0c a7);have a9:=hf.good _ e5;have g5:=hf.few _ e5;have a8 :=y7 path w g0;rw[b9]at a8;have f9:path.length≤100:=by simp[R.isPath]at b9;exact b9.1
 cases a with
 |none=>have:=(d8 rfl).1;omega
 |some ad=>
  obtain⟨g,rfl,_,h8,_,b6⟩:=d9 ad rfl;obtain⟨-, -,d2⟩:=ZS b6 _ a7;have g6:=hR.rowO g rfl;have b8:=hR.lt g g6.1;have e4:∀o,w.frozen? ⟨g,o,none⟩=false:=by assumption
  have HC:Hid (R.change st 61 a0 path n text=if(R.valV 61 (LB[R.fnd st.brs a0]'a7).1.work (R.at_ (LB[R.fnd st.brs a0]'a7).1.work path) path n text).1=0 then
    (0,R.setWork st (R.fnd st.brs a0) (R.set (LB[R.fnd st.brs a0]'a7).1.work (R.valV 61 (LB[R.fnd st.brs a0]'a7).1.work (R.at_ (LB[R.fnd st.brs a0]'a7).1.work path) path n text).2))
    else((R.valV 61 (LB[R.fnd st.brs a0]'a7).1.work (R.at_ (LB[R.fnd st.brs a0]'a7).1.work path) path n text).1,st)):=by
   show _=_;rw[R.change,if_neg (by omega),if_neg (by simp[b9]),g4]
  obtain⟨ta,a4,g3⟩:∃ta a4,(LB[R.fnd st.brs a0]'a7).2= .slice ta (LB[R.fnd st.brs a0]'a7).1.work.length a4:=by
   obtain⟨L,hL,⟨a,cap,e,_⟩,_⟩:=c8;exact⟨a,cap,by rw[e,←hL,List.length_map]⟩
  rw[g3]at c8 d2;rw[f1]at b7;have g2:∀(w5:World) (v' :Value) (t' :List R.Leaf),Below w.heap.size w w5→Tr w5 M v' t' →zG w (w5.setCell ⟨g,R.fnd st.brs a0*3+2,none⟩ v') M O B (R.setWork st (R.fnd st.brs a0) t'):=fun w5 v' t' c9 h3=>xj hR a7 c9 h3
  generalize(LB[R.fnd st.brs a0]'a7).1.work=t at*;generalize R.fnd st.brs a0=i at*;have h9:R.Good (R.at_ t path):=V2 t path a9 (by omega);have f4:=fun W (hW:Below w.heap.size w W)=>OJ (.slice ta t.length a4) t path W M (c8.below hW)
  have f3:=JY g2;have g9:∀y∈t,y.path.length≤1000:=fun y hy=>(a9 y hy).path
  generalize R.at_ t path=x at*;clear d9 d8 f1 b6 g4 g3 e5 b9 a9 g2;go_enter Tryz.func122,Tryz.ntmps122;go_wp2_with fail
  refine b7.mono ?_;rintro e w1 ⟨rfl,rfl⟩;go_wp2_with fail
  refine a8.mono ?_;rintro e w2 ⟨rfl,c7⟩;have g1:=c7.size;have e1:=(c7.cell (p:=⟨B,1,none⟩) d7).trans c1;have e2:=(c7.cell (p:=⟨g,i*3+2,none⟩) b8).trans d2;go_wp2_with fail
  refine(f4 _ c7).mono ?_;rintro e w3 ⟨iv,rfl,g7,e3⟩;obtain⟨ia,ic,f8,f5,f6,f7⟩:=g7;dsimp only at f8;subst f8;have d4:It w3 M (x,.slice ia x.items.length ic):=Rd.below ⟨ia,ic,rfl,f5,f6,f7⟩ e3;clear f5 f6 f7 e1 e2;have c6:Below w1.heap.size w1 w3:=c7.trans (e3.mono g1);have k1:=(c6.cell (p:=⟨B,1,none⟩) d7).trans c1;have k2:=(c6.cell (p:=⟨g,i*3+2,none⟩) b8).trans d2;have k3:=(c6.frozen (p:=⟨g,i*3+2,none⟩) b8).trans (e4 _);have h0:=c6.size;have e6:Tr w3 M (.slice ta t.length a4) t:=c8.below c6;clear f4 a8 b7 c7 e3 g1;unfold LC;dsimp only;generalize hJ:w3.alloc (.cells #[.string ⟨x.path.toArray⟩,.int .u8 x.kind,.int .i64 x.n,.string ⟨x.text.toArray⟩,.slice ia x.items.length ic] 216)=wJ;have a5:Below w1.heap.size w1 wJ:=by rw[←hJ];exact c6.alloc h0 _
  have i1:wJ.heap.size=w3.heap.size+1:=by rw[←hJ];simp
  have d5:=a5.size;have j1:=(a5.cell (p:=⟨B,1,none⟩) d7).trans c1;have j2:=(a5.cell (p:=⟨g,i*3+2,none⟩) b8).trans d2;have j3:=(a5.frozen (p:=⟨g,i*3+2,none⟩) b8).trans (e4 _);have x0:wJ.cell? ⟨w3.heap.size,0,none⟩=some (.string ⟨x.path.toArray⟩):=by rw[←hJ];simp
  have x1:wJ.cell? ⟨w3.heap.size,1,none⟩=some (.int .u8 x.kind):=by rw[←hJ];simp
  have x2:wJ.cell? ⟨w3.heap.size,2,none⟩=some (.int .i64 x.n):=by rw[←hJ];simp
  have x3:wJ.cell? ⟨w3.heap.size,3,none⟩=some (.string ⟨x.text.toArray⟩):=by rw[←hJ];simp
  have x4:wJ.cell? ⟨w3.heap.size,4,none⟩=some (.slice ia x.items.length ic):=by rw[←hJ];simp
  have g8:It wJ M (x,.slice ia x.items.length ic):=by rw[←hJ];exact Rd.below d4 ((j0g _ _).alloc (j0a _) _)
  have e8:Hid (∀W,Below w1.heap.size w1 W→W.cell? ⟨B,1,none⟩=some (.slice (some ⟨g,0,none⟩) LB.length cap)):=fun W hW=>(hW.cell (p:=⟨B,1,none⟩) d7).trans c1
  have e9:Hid (∀W,Below w1.heap.size w1 W→W.cell? ⟨g,i*3+2,none⟩=some (.slice ta t.length a4)):=fun W hW=>(hW.cell (p:=⟨g,i*3+2,none⟩) b8).trans d2
  have f0:Hid (∀W,Below w1.heap.size w1 W→W.frozen? ⟨g,i*3+2,none⟩=false):=fun W hW=>(hW.frozen (p:=⟨g,i*3+2,none⟩) b8).trans (e4 _)
  have a1:∀o,(wJ.alloc o).cell? ⟨B,1,none⟩=some (.slice (some ⟨g,0,none⟩) LB.length cap):=fun o=>by rw[World.cell?_alloc_past _ _ _ (by omega)];exact j1
  have a2:∀o,(wJ.alloc o).cell? ⟨g,i*3+2,none⟩=some (.slice ta t.length a4):=fun o=>by rw[World.cell?_alloc_past _ _ _ (by omega)];exact j2
  have a3:∀o,(wJ.alloc o).frozen? ⟨g,i*3+2,none⟩=false:=fun o=>by rw[World.frozen?_alloc_past _ _ _ (by omega)];exact j3
  have e7:Tr wJ M (.slice ta t.length a4) t:=c8.below a5;clear d4 e6 k1 k2 k3;have hT:=Xd ⟨text.toArray⟩ wJ (by simpa[ByteArray.size]using h5);simp only at hT;have a6:=Q8 (.slice ta t.length a4) t path wJ M e7;have HV:Hid (R.valV 61 t x path n text=R.noteV t x path text):=by show _=_;rw[R.valV,if_neg (by decide),if_neg (by decide),if_neg (by decide),if_pos rfl]
  cases hX:R.isText text
  ·have HZ:Hid (R.valV 61 t x path n text=(3,x)):=by show _=_;rw[HV.out,R.noteV,if_pos hX]
   rw[hX]at hT;have HE:Hid (R.change st 61 a0 path n text=(3,st)):=by show _=_;rw[HC.out,HZ.out];rfl
   go_wp2_with fail
   refine hT.mono ?_;rintro e w4 ⟨rfl,rfl⟩;go_wp2;go_ret;exact⟨zq (by rw[HE.out]),by rw[HE.out];exact zG.same b5 a5⟩
  rw[hX]at hT;by_cases h6:x.kind≠0∧x.kind≠61
  ·have HZ:Hid (R.valV 61 t x path n text=(6,x)):=by show _=_;rw[HV.out,R.noteV,if_neg (by simp[hX]),if_pos h6]
   have b1:(x.kind==0)=false:=by simpa using h6.1
   have b2:(x.kind==61)=false:=by simpa using h6.2
   have n1:(x.kind !=0)=true:=by rw[bne,b1];rfl
   have n2:(x.kind !=61)=true:=by rw[bne,b2];rfl
   clear h6;have HE:Hid (R.change st 61 a0 path n text=(6,st)):=by show _=_;rw[HC.out,HZ.out];rfl
   go_wp2_with fail
   refine hT.mono ?_;rintro e w4 ⟨rfl,rfl⟩;go_wp2;go_ret;exact⟨zq (by rw[HE.out]),by rw[HE.out];exact zG.same b5 a5⟩
  cases d3:R.blocked t path
  ·rw[d3]at a6
   by_cases h4:x.kind=0∧24≤t.length
   ·have HZ:Hid (R.valV 61 t x path n text=(4,x)):=by show _=_;rw[HV.out,R.noteV,if_neg (by simp[hX]),if_neg h6,if_neg (by simp[d3]),if_pos h4]
    have b1:(x.kind==0)=true:=by simpa using h4.1
    have b3:(24:Int)≤(t.length:Int):=by omega
    have n1:(x.kind !=0)=false:=by rw[bne,b1];rfl
    clear h6 h4;have HE:Hid (R.change st 61 a0 path n text=(4,st)):=by show _=_;rw[HC.out,HZ.out];rfl
    go_wp2_with fail
    refine hT.mono ?_;rintro e w4 ⟨rfl,rfl⟩;go_wp2_with fail
    refine a6.mono ?_;rintro e w4 ⟨rfl,rfl⟩;go_wp2;go_ret;exact⟨zq (by rw[HE.out]),by rw[HE.out];exact zG.same b5 (a5.alloc d5 _)⟩
   ·have HZ:Hid (R.valV 61 t x path n text=(0,{path:=path,kind:=61,n:=0,text:=text,items:=[]})):=by show _=_;rw[HV.out,R.noteV,if_neg (by simp[hX]),if_neg h6,if_neg (by simp[d3]),if_neg h4]
    have HE:Hid (R.change st 61 a0 path n text=(0,R.setWork st i (R.set t {path:=path,kind:=61,n:=0,text:=text,items:=[]}))):=by show _=_;rw[HC.out,HZ.out];rfl
    have d6:∀W,Below w1.heap.size w1 W→Calls Tryz.prog 170 #[.slice ta t.length a4,.agg #[.string ⟨path.toArray⟩,.int .u8 61,.int .i64 (0),.string ⟨text.toArray⟩,.slice none 0 0]] W fun e w' =>∃v',e= .returned v' ∧Tr w' M v' (R.set t {path:=path,kind:=61,n:=0,text:=text,items:=[]})∧Below W.heap.size W w' :=fun W hW=>
     Jz (.slice ta t.length a4) t {path:=path,kind:=61,n:=0,text:=text,items:=[]} (.slice none 0 0) W M (c8.below hW) ⟨none,0,rfl,j0a _,by unfold maxLen;omega,fun h=>absurd h (Nat.lt_irrefl _)⟩ (fun b hb=>j0b (hM b hb) hW.size) g9 (by dsimp only;omega) (by omega)
    rcases ZZ x.kind 0 with⟨b1,h1⟩|⟨b1,h1⟩
    ·have b3:¬(24:Int)≤(t.length:Int):=by omega
     have n1:(x.kind !=0)=false:=by rw[bne,b1];rfl
     clear h6 h4 h1;go_wp2_with fail
     refine hT.mono ?_;rintro e w4 ⟨rfl,rfl⟩;go_wp2_with fail
     refine a6.mono ?_;rintro e w4 ⟨rfl,rfl⟩;go_wp2;go_region_with ((go_at_call 170;refine(d6 _ (by first|exact a5.drew|exact(a5.alloc d5 _).drew|exact hBY.drew)).mono ?_;rintro e w5 ⟨v5,rfl,b0,c9⟩;have b4:Below w1.heap.size w1 w5:=Below.trans (by first|exact a5.drew|exact(a5.alloc d5 _).drew|exact hBY.drew) (c9.mono (by first|(simp;omega)|omega));have m1:=e8.out w5 b4;have m2:=e9.out w5 b4;have m3:=f0.out w5 b4;obtain⟨va,vc,rfl⟩:=XJ b0))
     all_goals go_wp2
     all_goals go_ret
     all_goals exact⟨zq (by rw[HE.out]),by rw[HE.out];exact f3.out _ _ _ b4 b0⟩
    ·have h2:x.kind=61:=Classical.byContradiction fun e=>h6 ⟨h1,e⟩
     have b2:(x.kind==61)=true:=by simpa using h2
     have n1:(x.kind !=0)=true:=by rw[bne,b1];rfl
     have n2:(x.kind !=61)=false:=by rw[bne,b2];rfl
     clear h6 h4 h1 h2;go_wp2_with fail
     refine hT.mono ?_;rintro e w4 ⟨rfl,rfl⟩;go_wp2_with fail
     refine a6.mono ?_;rintro e w4 ⟨rfl,rfl⟩;go_wp2;go_region_with ((go_at_call 170;refine(d6 _ (by first|exact a5.drew|exact(a5.alloc d5 _).drew|exact hBY.drew)).mono ?_;rintro e w5 ⟨v5,rfl,b0,c9⟩;have b4:Below w1.heap.size w1 w5:=Below.trans (by first|exact a5.drew|exact(a5.alloc d5 _).drew|exact hBY.drew) (c9.mono (by first|(simp;omega)|omega));have m1:=e8.out w5 b4;have m2:=e9.out w5 b4;have m3:=f0.out w5 b4;obtain⟨va,vc,rfl⟩:=XJ b0))
     all_goals go_wp2
     all_goals go_ret
     all_goals exact⟨zq (by rw[HE.out]),by rw[HE.out];exact f3.out _ _ _ b4 b0⟩
  ·rw[d3]at a6
   have HZ:Hid (R.valV 61 t x path n text=(7,x)):=by show _=_;rw[HV.out,R.noteV,if_neg (by simp[hX]),if_neg h6,if_pos d3]
   rcases ZZ x.kind 0 with⟨b1,h1⟩|⟨b1,h1⟩
   ·have n1:(x.kind !=0)=false:=by rw[bne,b1];rfl
    clear h6 h1;have HE:Hid (R.change st 61 a0 path n text=(7,st)):=by show _=_;rw[HC.out,HZ.out];rfl
    go_wp2_with fail
    refine hT.mono ?_;rintro e w4 ⟨rfl,rfl⟩;go_wp2_with fail
    refine a6.mono ?_;rintro e w4 ⟨rfl,rfl⟩;go_wp2;go_ret;exact⟨zq (by rw[HE.out]),by rw[HE.out];exact zG.same b5 a5⟩
   ·have h2:x.kind=61:=Classical.byContradiction fun e=>h6 ⟨h1,e⟩
    have b2:(x.kind==61)=true:=by simpa using h2
    have n1:(x.kind !=0)=true:=by rw[bne,b1];rfl
    have n2:(x.kind !=61)=false:=by rw[bne,b2];rfl
    clear h6 h1 h2;have HE:Hid (R.change st 61 a0 path n text=(7,st)):=by show _=_;rw[HC.out,HZ.out];rfl
    go_wp2_with fail
    refine hT.mono ?_;rintro e w4 ⟨rfl,rfl⟩;go_wp2_with fail
    refine a6.mono ?_;rintro e w4 ⟨rfl,rfl⟩;go_wp2;go_ret;exact⟨zq (by rw[HE.out]),by rw[HE.out];exact zG.same b5 a5⟩
theorem fQ (B:Nat)(st:R.St)(a0 path text:List UInt8)(n:Int)(w:World)(M O:Nat→Prop)(h:RS w M O B st)(hM:∀b,M b→b<w.heap.size)(hf:R.Fine st)(g0:path.length≤maxLen)(h7:text.length≤maxLen)(_hn1:n≤9223372036854775807)(_hn2: -9223372036854775808≤n):
  Calls Tryz.prog 122 #[.pointer (some ⟨B,0,none⟩),.int .u8 35,.string ⟨a0.toArray⟩,.string ⟨path.toArray⟩,.int .i64 n,.string ⟨text.toArray⟩] w fun e w' =>
   e= .returned (.int .i64 (R.change st 35 a0 path n text).1)∧zG w w' M O B (R.change st 35 a0 path n text).2:=by
 have a9:=h;obtain⟨cv,bv,LB,h9,hR⟩:=h;have c1:=hR.c1;have d7:=hR.lt B hR.own;obtain⟨a,cap,rfl,i6,hm,d8,d9⟩:=za hR.row;have HL:Hid (LB.length=st.brs.length):=by show _=_;rw[←hR.brs,List.length_map]
 have b8:=yJ B st a0 w M O a9;unfold maxLen at hm;rcases R.fndI_cases st.brs a0 with⟨f1,f2⟩|⟨f1,f2⟩
 ·have HS:Hid (R.change st 35 a0 path n text=(5,st)):=by show _=_;rw[R.change,if_pos (by omega)]
  rw[HS.out];rw[f1]at b8;clear d9 d8 f1 f2;go_enter Tryz.func122,Tryz.ntmps122;go_wp2_with fail
  refine b8.mono ?_;rintro e w1 ⟨rfl,rfl⟩;go_wp2;go_ret;exact⟨rfl,zG.same a9 (j0g _ _)⟩
 cases c6:R.isPath path
 ·have HS:Hid (R.change st 35 a0 path n text=(2,st)):=by show _=_;rw[R.change,if_neg (by omega),if_pos c6]
  rw[HS.out];rw[f1]at b8;have a8 :=y7 path w g0;rw[c6]at a8;clear d9 d8 f1;go_enter Tryz.func122,Tryz.ntmps122;go_wp2_with fail
  refine b8.mono ?_;rintro e w1 ⟨rfl,rfl⟩;go_wp2_with fail
  refine a8.mono ?_;rintro e w2 ⟨rfl,hb⟩;go_wp2;go_ret;exact⟨rfl,zG.same a9 hb⟩
 have a7:R.fnd st.brs a0<LB.length:=by rw[HL.out];exact f2
 have g4:R.workOf st a0=(LB[R.fnd st.brs a0]'a7).1.work:=by
  rw[R.workOf,j0d f2];simp[←hR.brs]
 have e5:=hR.mem_brs (j0c a7);have d3:=hR.work _ (j0c a7);have b0:=hf.good _ e5;have g5:=hf.few _ e5;have a8 :=y7 path w g0;rw[c6]at a8;have f9:path.length≤100:=by simp[R.isPath]at c6;exact c6.1
 cases a with
 |none=>have:=(d8 rfl).1;omega
 |some ad=>
  obtain⟨g,rfl,_,i5,_,b7⟩:=d9 ad rfl;obtain⟨-, -,d2⟩:=ZS b7 _ a7;have g6:=hR.rowO g rfl;have b9:=hR.lt g g6.1;have e4:∀o,w.frozen? ⟨g,o,none⟩=false:=by assumption
  have HC:Hid (R.change st 35 a0 path n text=if(R.valV 35 (LB[R.fnd st.brs a0]'a7).1.work (R.at_ (LB[R.fnd st.brs a0]'a7).1.work path) path n text).1=0 then
    (0,R.setWork st (R.fnd st.brs a0) (R.set (LB[R.fnd st.brs a0]'a7).1.work (R.valV 35 (LB[R.fnd st.brs a0]'a7).1.work (R.at_ (LB[R.fnd st.brs a0]'a7).1.work path) path n text).2))
    else((R.valV 35 (LB[R.fnd st.brs a0]'a7).1.work (R.at_ (LB[R.fnd st.brs a0]'a7).1.work path) path n text).1,st)):=by
   show _=_;rw[R.change,if_neg (by omega),if_neg (by simp[c6]),g4]
  obtain⟨ta,a6,g3⟩:∃ta a6,(LB[R.fnd st.brs a0]'a7).2= .slice ta (LB[R.fnd st.brs a0]'a7).1.work.length a6:=by
   obtain⟨L,hL,⟨a,cap,e,_⟩,_⟩:=d3;exact⟨a,cap,by rw[e,←hL,List.length_map]⟩
  rw[g3]at d3 d2;rw[f1]at b8;have g2:∀(w5:World) (v' :Value) (t' :List R.Leaf),Below w.heap.size w w5→Tr w5 M v' t' →zG w (w5.setCell ⟨g,R.fnd st.brs a0*3+2,none⟩ v') M O B (R.setWork st (R.fnd st.brs a0) t'):=fun w5 v' t' d4 h5=>xj hR a7 d4 h5
  generalize(LB[R.fnd st.brs a0]'a7).1.work=t at*;generalize R.fnd st.brs a0=i at*;have g7:R.Good (R.at_ t path):=V2 t path b0 (by omega);have f4:=fun W (hW:Below w.heap.size w W)=>OJ (.slice ta t.length a6) t path W M (d3.below hW)
  have f3:=JY g2;have h0:∀y∈t,y.path.length≤1000:=fun y hy=>(b0 y hy).path
  generalize R.at_ t path=x at*;clear d9 d8 f1 b7 g4 g3 e5 c6 b0 g2;go_enter Tryz.func122,Tryz.ntmps122;go_wp2_with fail
  refine b8.mono ?_;rintro e w1 ⟨rfl,rfl⟩;go_wp2_with fail
  refine a8.mono ?_;rintro e w2 ⟨rfl,c8⟩;have g1:=c8.size;have e1:=(c8.cell (p:=⟨B,1,none⟩) d7).trans c1;have e2:=(c8.cell (p:=⟨g,i*3+2,none⟩) b9).trans d2;go_wp2_with fail
  refine(f4 _ c8).mono ?_;rintro e w3 ⟨iv,rfl,g8,e3⟩;obtain⟨ia,ic,f8,f5,f6,f7⟩:=g8;dsimp only at f8;subst f8;have d5:It w3 M (x,.slice ia x.items.length ic):=Rd.below ⟨ia,ic,rfl,f5,f6,f7⟩ e3;clear f5 f6 f7 e1 e2;have c7:Below w1.heap.size w1 w3:=c8.trans (e3.mono g1);have k1:=(c7.cell (p:=⟨B,1,none⟩) d7).trans c1;have k2:=(c7.cell (p:=⟨g,i*3+2,none⟩) b9).trans d2;have k3:=(c7.frozen (p:=⟨g,i*3+2,none⟩) b9).trans (e4 _);have h3:=c7.size;have e6:Tr w3 M (.slice ta t.length a6) t:=d3.below c7;clear f4 a8 b8 c8 e3 g1;unfold LC;dsimp only;generalize hJ:w3.alloc (.cells #[.string ⟨x.path.toArray⟩,.int .u8 x.kind,.int .i64 x.n,.string ⟨x.text.toArray⟩,.slice ia x.items.length ic] 216)=wJ;have a5:Below w1.heap.size w1 wJ:=by rw[←hJ];exact c7.alloc h3 _
  have i7:wJ.heap.size=w3.heap.size+1:=by rw[←hJ];simp
  have b6:=a5.size;have j1:=(a5.cell (p:=⟨B,1,none⟩) d7).trans c1;have j2:=(a5.cell (p:=⟨g,i*3+2,none⟩) b9).trans d2;have j3:=(a5.frozen (p:=⟨g,i*3+2,none⟩) b9).trans (e4 _);have x0:wJ.cell? ⟨w3.heap.size,0,none⟩=some (.string ⟨x.path.toArray⟩):=by rw[←hJ];simp
  have x1:wJ.cell? ⟨w3.heap.size,1,none⟩=some (.int .u8 x.kind):=by rw[←hJ];simp
  have x2:wJ.cell? ⟨w3.heap.size,2,none⟩=some (.int .i64 x.n):=by rw[←hJ];simp
  have x3:wJ.cell? ⟨w3.heap.size,3,none⟩=some (.string ⟨x.text.toArray⟩):=by rw[←hJ];simp
  have x4:wJ.cell? ⟨w3.heap.size,4,none⟩=some (.slice ia x.items.length ic):=by rw[←hJ];simp
  have g9:It wJ M (x,.slice ia x.items.length ic):=by rw[←hJ];exact Rd.below d5 ((j0g _ _).alloc (j0a _) _)
  have e8:Hid (∀W,Below w1.heap.size w1 W→W.cell? ⟨B,1,none⟩=some (.slice (some ⟨g,0,none⟩) LB.length cap)):=fun W hW=>(hW.cell (p:=⟨B,1,none⟩) d7).trans c1
  have e9:Hid (∀W,Below w1.heap.size w1 W→W.cell? ⟨g,i*3+2,none⟩=some (.slice ta t.length a6)):=fun W hW=>(hW.cell (p:=⟨g,i*3+2,none⟩) b9).trans d2
  have f0:Hid (∀W,Below w1.heap.size w1 W→W.frozen? ⟨g,i*3+2,none⟩=false):=fun W hW=>(hW.frozen (p:=⟨g,i*3+2,none⟩) b9).trans (e4 _)
  have a1:∀o,(wJ.alloc o).cell? ⟨B,1,none⟩=some (.slice (some ⟨g,0,none⟩) LB.length cap):=fun o=>by rw[World.cell?_alloc_past _ _ _ (by omega)];exact j1
  have a2:∀o,(wJ.alloc o).cell? ⟨g,i*3+2,none⟩=some (.slice ta t.length a6):=fun o=>by rw[World.cell?_alloc_past _ _ _ (by omega)];exact j2
  have a3:∀o,(wJ.alloc o).frozen? ⟨g,i*3+2,none⟩=false:=fun o=>by rw[World.frozen?_alloc_past _ _ _ (by omega)];exact j3
  have e7:Tr wJ M (.slice ta t.length a6) t:=d3.below a5;clear d5 e6 k1 k2 k3;obtain⟨_,i0,i1,_,_,_⟩:=g7;have hT:=Xd ⟨text.toArray⟩ wJ (by simpa[ByteArray.size]using h7);simp only at hT;generalize R.isText text=fine at hT;have a4:=Q8 (.slice ta t.length a6) t path wJ M e7;have HV:Hid (R.valV 35 t x path n text=R.addV t x path n):=by show _=_;rw[R.valV,if_neg (by decide),if_neg (by decide),if_pos rfl]
  by_cases h6:x.kind≠0∧x.kind≠35
  ·have HZ:Hid (R.valV 35 t x path n text=(6,x)):=by show _=_;rw[HV.out,R.addV,if_pos h6]
   have b1:(x.kind==0)=false:=by simpa using h6.1
   have b2:(x.kind==35)=false:=by simpa using h6.2
   have n1:(x.kind !=0)=true:=by rw[bne,b1];rfl
   have n2:(x.kind !=35)=true:=by rw[bne,b2];rfl
   clear h6;have HE:Hid (R.change st 35 a0 path n text=(6,st)):=by show _=_;rw[HC.out,HZ.out];rfl
   go_wp2_with fail
   refine hT.mono ?_;rintro e w4 ⟨rfl,rfl⟩;go_wp2;go_ret;exact⟨zq (by rw[HE.out]),by rw[HE.out];exact zG.same a9 a5⟩
  cases c9:R.blocked t path
  ·rw[c9]at a4
   by_cases h8:1000000000-x.n<n∨n< -1000000000-x.n
   ·have HZ:Hid (R.valV 35 t x path n text=(8,x)):=by show _=_;rw[HV.out,R.addV,if_neg h6,if_neg (by simp[c9]),if_pos h8]
    have HE:Hid (R.change st 35 a0 path n text=(8,st)):=by show _=_;rw[HC.out,HZ.out];rfl
    rcases h8 with h8|h8
    ·rcases ZZ x.kind 0 with⟨b1,h1⟩|⟨b1,h1⟩
     ·have n1:(x.kind !=0)=false:=by rw[bne,b1];rfl
      clear h6 h1;go_wp2_with fail
      refine hT.mono ?_;rintro e w4 ⟨rfl,rfl⟩;go_wp2_with fail
      refine a4.mono ?_;rintro e w4 ⟨rfl,rfl⟩;go_wp2;go_ret;exact⟨zq (by rw[HE.out]),by rw[HE.out];exact zG.same a9 (a5.alloc b6 _)⟩
     ·have h2:x.kind=35:=Classical.byContradiction fun e=>h6 ⟨h1,e⟩
      have b2:(x.kind==35)=true:=by simpa using h2
      have n1:(x.kind !=0)=true:=by rw[bne,b1];rfl
      have n2:(x.kind !=35)=false:=by rw[bne,b2];rfl
      clear h6 h1 h2;go_wp2_with fail
      refine hT.mono ?_;rintro e w4 ⟨rfl,rfl⟩;go_wp2_with fail
      refine a4.mono ?_;rintro e w4 ⟨rfl,rfl⟩;go_wp2;go_ret;exact⟨zq (by rw[HE.out]),by rw[HE.out];exact zG.same a9 (a5.alloc b6 _)⟩
    ·have i2 :¬1000000000-x.n<n:=by omega
     rcases ZZ x.kind 0 with⟨b1,h1⟩|⟨b1,h1⟩
     ·have n1:(x.kind !=0)=false:=by rw[bne,b1];rfl
      clear h6 h1;go_wp2_with fail
      refine hT.mono ?_;rintro e w4 ⟨rfl,rfl⟩;go_wp2_with fail
      refine a4.mono ?_;rintro e w4 ⟨rfl,rfl⟩;go_wp2;go_ret;exact⟨zq (by rw[HE.out]),by rw[HE.out];exact zG.same a9 (a5.alloc b6 _)⟩
     ·have h2:x.kind=35:=Classical.byContradiction fun e=>h6 ⟨h1,e⟩
      have b2:(x.kind==35)=true:=by simpa using h2
      have n1:(x.kind !=0)=true:=by rw[bne,b1];rfl
      have n2:(x.kind !=35)=false:=by rw[bne,b2];rfl
      clear h6 h1 h2;go_wp2_with fail
      refine hT.mono ?_;rintro e w4 ⟨rfl,rfl⟩;go_wp2_with fail
      refine a4.mono ?_;rintro e w4 ⟨rfl,rfl⟩;go_wp2;go_ret;exact⟨zq (by rw[HE.out]),by rw[HE.out];exact zG.same a9 (a5.alloc b6 _)⟩
   ·have i3:¬1000000000-x.n<n:=by omega
    have i4:¬n< -1000000000-x.n:=by omega
    by_cases h4:x.kind=0∧24≤t.length
    ·have HZ:Hid (R.valV 35 t x path n text=(4,x)):=by show _=_;rw[HV.out,R.addV,if_neg h6,if_neg (by simp[c9]),if_neg h8,if_pos h4]
     have b1:(x.kind==0)=true:=by simpa using h4.1
     have b3:(24:Int)≤(t.length:Int):=by omega
     have n1:(x.kind !=0)=false:=by rw[bne,b1];rfl
     clear h6 h4;have HE:Hid (R.change st 35 a0 path n text=(4,st)):=by show _=_;rw[HC.out,HZ.out];rfl
     go_wp2_with fail
     refine hT.mono ?_;rintro e w4 ⟨rfl,rfl⟩;go_wp2_with fail
     refine a4.mono ?_;rintro e w4 ⟨rfl,rfl⟩;go_wp2;go_ret;exact⟨zq (by rw[HE.out]),by rw[HE.out];exact zG.same a9 (a5.alloc b6 _)⟩
    ·have HZ:Hid (R.valV 35 t x path n text=(0,{path:=path,kind:=35,n:=x.n+n,text:=[],items:=[]})):=by show _=_;rw[HV.out,R.addV,if_neg h6,if_neg (by simp[c9]),if_neg h8,if_neg h4]
     have HE:Hid (R.change st 35 a0 path n text=(0,R.setWork st i (R.set t {path:=path,kind:=35,n:=x.n+n,text:=[],items:=[]}))):=by show _=_;rw[HC.out,HZ.out];rfl
     have d6:∀W,Below w1.heap.size w1 W→Calls Tryz.prog 170 #[.slice ta t.length a6,.agg #[.string ⟨path.toArray⟩,.int .u8 35,.int .i64 (x.n+n),.string ⟨#[]⟩,.slice none 0 0]] W fun e w' =>∃v',e= .returned v' ∧Tr w' M v' (R.set t {path:=path,kind:=35,n:=x.n+n,text:=[],items:=[]})∧Below W.heap.size W w' :=fun W hW=>
      Jz (.slice ta t.length a6) t {path:=path,kind:=35,n:=x.n+n,text:=[],items:=[]} (.slice none 0 0) W M (d3.below hW) ⟨none,0,rfl,j0a _,by unfold maxLen;omega,fun h=>absurd h (Nat.lt_irrefl _)⟩ (fun b hb=>j0b (hM b hb) hW.size) h0 (by dsimp only;omega) (by omega)
     rcases ZZ x.kind 0 with⟨b1,h1⟩|⟨b1,h1⟩
     ·have n1:(x.kind !=0)=false:=by rw[bne,b1];rfl
      have b3:¬(24:Int)≤(t.length:Int):=by omega
      clear h6 h1 h4;go_wp2_with fail
      refine hT.mono ?_;rintro e w4 ⟨rfl,rfl⟩;go_wp2_with fail
      refine a4.mono ?_;rintro e w4 ⟨rfl,rfl⟩;go_wp2;go_region_with ((go_at_call 170;refine(d6 _ (by first|exact a5.drew|exact(a5.alloc b6 _).drew|exact hBY.drew)).mono ?_;rintro e w5 ⟨v5,rfl,b4,d4⟩;have b5:Below w1.heap.size w1 w5:=Below.trans (by first|exact a5.drew|exact(a5.alloc b6 _).drew|exact hBY.drew) (d4.mono (by first|(simp;omega)|omega));have m1:=e8.out w5 b5;have m2:=e9.out w5 b5;have m3:=f0.out w5 b5;obtain⟨va,vc,rfl⟩:=XJ b4))
      all_goals go_wp2
      all_goals go_ret
      all_goals exact⟨zq (by rw[HE.out]),by rw[HE.out];exact f3.out _ _ _ b5 b4⟩
     ·have h2:x.kind=35:=Classical.byContradiction fun e=>h6 ⟨h1,e⟩
      have b2:(x.kind==35)=true:=by simpa using h2
      have n1:(x.kind !=0)=true:=by rw[bne,b1];rfl
      have n2:(x.kind !=35)=false:=by rw[bne,b2];rfl
      clear h6 h1 h2 h4;go_wp2_with fail
      refine hT.mono ?_;rintro e w4 ⟨rfl,rfl⟩;go_wp2_with fail
      refine a4.mono ?_;rintro e w4 ⟨rfl,rfl⟩;go_wp2;go_region_with ((go_at_call 170;refine(d6 _ (by first|exact a5.drew|exact(a5.alloc b6 _).drew|exact hBY.drew)).mono ?_;rintro e w5 ⟨v5,rfl,b4,d4⟩;have b5:Below w1.heap.size w1 w5:=Below.trans (by first|exact a5.drew|exact(a5.alloc b6 _).drew|exact hBY.drew) (d4.mono (by first|(simp;omega)|omega));have m1:=e8.out w5 b5;have m2:=e9.out w5 b5;have m3:=f0.out w5 b5;obtain⟨va,vc,rfl⟩:=XJ b4))
      all_goals go_wp2
      all_goals go_ret
      all_goals exact⟨zq (by rw[HE.out]),by rw[HE.out];exact f3.out _ _ _ b5 b4⟩
  ·rw[c9]at a4
   have HZ:Hid (R.valV 35 t x path n text=(7,x)):=by show _=_;rw[HV.out,R.addV,if_neg h6,if_pos c9]
   have HE:Hid (R.change st 35 a0 path n text=(7,st)):=by show _=_;rw[HC.out,HZ.out];rfl
   rcases ZZ x.kind 0 with⟨b1,h1⟩|⟨b1,h1⟩
   ·have n1:(x.kind !=0)=false:=by rw[bne,b1];rfl
    clear h6 h1;go_wp2_with fail
    refine hT.mono ?_;rintro e w4 ⟨rfl,rfl⟩;go_wp2_with fail
    refine a4.mono ?_;rintro e w4 ⟨rfl,rfl⟩;go_wp2;go_ret;exact⟨zq (by rw[HE.out]),by rw[HE.out];exact zG.same a9 a5⟩
   ·have h2:x.kind=35:=Classical.byContradiction fun e=>h6 ⟨h1,e⟩
    have b2:(x.kind==35)=true:=by simpa using h2
    have n1:(x.kind !=0)=true:=by rw[bne,b1];rfl
    have n2:(x.kind !=35)=false:=by rw[bne,b2];rfl
    clear h6 h1 h2;go_wp2_with fail
    refine hT.mono ?_;rintro e w4 ⟨rfl,rfl⟩;go_wp2_with fail
    refine a4.mono ?_;rintro e w4 ⟨rfl,rfl⟩;go_wp2;go_ret;exact⟨zq (by rw[HE.out]),by rw[HE.out];exact zG.same a9 a5⟩
theorem fP (B:Nat)(st:R.St)(a0 path text:List UInt8)(n:Int)(w:World)(M O:Nat→Prop)(h:RS w M O B st)(hM:∀b,M b→b<w.heap.size)(hf:R.Fine st)(h3:path.length≤maxLen)(j4:text.length≤maxLen)(_hn1:n≤9223372036854775807)(_hn2: -9223372036854775808≤n):
  Calls Tryz.prog 122 #[.pointer (some ⟨B,0,none⟩),.int .u8 42,.string ⟨a0.toArray⟩,.string ⟨path.toArray⟩,.int .i64 n,.string ⟨text.toArray⟩] w fun e w' =>
   e= .returned (.int .i64 (R.change st 42 a0 path n text).1)∧zG w w' M O B (R.change st 42 a0 path n text).2:=by
 have b8:=h;obtain⟨cv,bv,LB,j5,hR⟩:=h;have c1:=hR.c1;have e9:=hR.lt B hR.own;obtain⟨a,cap,rfl,j7,hm,f0,f3⟩:=za hR.row;have HL:Hid (LB.length=st.brs.length):=by show _=_;rw[←hR.brs,List.length_map]
 have c6:=yJ B st a0 w M O b8;unfold maxLen at hm;rcases R.fndI_cases st.brs a0 with⟨f1,f2⟩|⟨f1,f2⟩
 ·have HS:Hid (R.change st 42 a0 path n text=(5,st)):=by show _=_;rw[R.change,if_pos (by omega)]
  rw[HS.out];rw[f1]at c6;clear f3 f0 f1 f2;go_enter Tryz.func122,Tryz.ntmps122;go_wp2_with fail
  refine c6.mono ?_;rintro e w1 ⟨rfl,rfl⟩;go_wp2;go_ret;exact⟨rfl,zG.same b8 (j0g _ _)⟩
 cases c8:R.isPath path
 ·have HS:Hid (R.change st 42 a0 path n text=(2,st)):=by show _=_;rw[R.change,if_neg (by omega),if_pos c8]
  rw[HS.out];rw[f1]at c6;have b5 :=y7 path w h3;rw[c8]at b5;clear f3 f0 f1;go_enter Tryz.func122,Tryz.ntmps122;go_wp2_with fail
  refine c6.mono ?_;rintro e w1 ⟨rfl,rfl⟩;go_wp2_with fail
  refine b5.mono ?_;rintro e w2 ⟨rfl,hb⟩;go_wp2;go_ret;exact⟨rfl,zG.same b8 hb⟩
 have b0:R.fnd st.brs a0<LB.length:=by rw[HL.out];exact f2
 have i0:R.workOf st a0=(LB[R.fnd st.brs a0]'b0).1.work:=by
  rw[R.workOf,j0d f2];simp[←hR.brs]
 have g0:=hR.mem_brs (j0c b0);have d7:=hR.work _ (j0c b0);have b6:=hf.good _ g0;have i3:=hf.few _ g0;have b5 :=y7 path w h3;rw[c8]at b5;have h0:path.length≤100:=by simp[R.isPath]at c8;exact c8.1
 cases a with
 |none=>have:=(f0 rfl).1;omega
 |some ad=>
  obtain⟨g,rfl,_,j6,_,b9⟩:=f3 ad rfl;obtain⟨-, -,d2⟩:=ZS b9 _ b0;have i4:=hR.rowO g rfl;have c7:=hR.lt g i4.1;have f6:∀o,w.frozen? ⟨g,o,none⟩=false:=by assumption
  have HC:Hid (R.change st 42 a0 path n text=if(R.valV 42 (LB[R.fnd st.brs a0]'b0).1.work (R.at_ (LB[R.fnd st.brs a0]'b0).1.work path) path n text).1=0 then
    (0,R.setWork st (R.fnd st.brs a0) (R.set (LB[R.fnd st.brs a0]'b0).1.work (R.valV 42 (LB[R.fnd st.brs a0]'b0).1.work (R.at_ (LB[R.fnd st.brs a0]'b0).1.work path) path n text).2))
    else((R.valV 42 (LB[R.fnd st.brs a0]'b0).1.work (R.at_ (LB[R.fnd st.brs a0]'b0).1.work path) path n text).1,st)):=by
   show _=_;rw[R.change,if_neg (by omega),if_neg (by simp[c8]),i0]
  obtain⟨ta,a5,h9⟩:∃ta a5,(LB[R.fnd st.brs a0]'b0).2= .slice ta (LB[R.fnd st.brs a0]'b0).1.work.length a5:=by
   obtain⟨L,hL,⟨a,cap,e,_⟩,_⟩:=d7;exact⟨a,cap,by rw[e,←hL,List.length_map]⟩
  rw[h9]at d7 d2;rw[f1]at c6;have h7:∀(w5:World) (v' :Value) (t' :List R.Leaf),Below w.heap.size w w5→Tr w5 M v' t' →zG w (w5.setCell ⟨g,R.fnd st.brs a0*3+2,none⟩ v') M O B (R.setWork st (R.fnd st.brs a0) t'):=fun w5 v' t' f5 j0=>xj hR b0 f5 j0
  generalize(LB[R.fnd st.brs a0]'b0).1.work=t at*;generalize R.fnd st.brs a0=i at*;have i5:R.Good (R.at_ t path):=V2 t path b6 (by omega);have g5:=fun W (hW:Below w.heap.size w W)=>OJ (.slice ta t.length a5) t path W M (d7.below hW)
  have i2:=JY h7;have i8:∀y∈t,y.path.length≤1000:=fun y hy=>(b6 y hy).path
  generalize R.at_ t path=x at*;clear f3 f0 f1 b9 i0 h9 g0 c8 b6 h7;go_enter Tryz.func122,Tryz.ntmps122;go_wp2_with fail
  refine c6.mono ?_;rintro e w1 ⟨rfl,rfl⟩;go_wp2_with fail
  refine b5.mono ?_;rintro e w2 ⟨rfl,d4⟩;have h5:=d4.size;have e1:=(d4.cell (p:=⟨B,1,none⟩) e9).trans c1;have e2:=(d4.cell (p:=⟨g,i*3+2,none⟩) c7).trans d2;go_wp2_with fail
  refine(g5 _ d4).mono ?_;rintro e w3 ⟨iv,rfl,i7,f4⟩;obtain⟨ia,ic,g9,g6,g7,g8⟩:=i7;dsimp only at g9;subst g9;have d9:It w3 M (x,.slice ia x.items.length ic):=Rd.below ⟨ia,ic,rfl,g6,g7,g8⟩ f4;clear g6 g7 g8 e1 e2;have c9:Below w1.heap.size w1 w3:=d4.trans (f4.mono h5);have k1:=(c9.cell (p:=⟨B,1,none⟩) e9).trans c1;have k2:=(c9.cell (p:=⟨g,i*3+2,none⟩) c7).trans d2;have k3:=(c9.frozen (p:=⟨g,i*3+2,none⟩) c7).trans (f6 _);have i9:=c9.size;have g3:Tr w3 M (.slice ta t.length a5) t:=d7.below c9;clear g5 b5 c6 d4 f4 h5;unfold LC;dsimp only;generalize hJ:w3.alloc (.cells #[.string ⟨x.path.toArray⟩,.int .u8 x.kind,.int .i64 x.n,.string ⟨x.text.toArray⟩,.slice ia x.items.length ic] 216)=wJ;have b4:Below w1.heap.size w1 wJ:=by rw[←hJ];exact c9.alloc i9 _
  have a6:wJ.heap.size=w3.heap.size+1:=by rw[←hJ];simp
  have g1:=b4.size;have j1:=(b4.cell (p:=⟨B,1,none⟩) e9).trans c1;have j2:=(b4.cell (p:=⟨g,i*3+2,none⟩) c7).trans d2;have j3:=(b4.frozen (p:=⟨g,i*3+2,none⟩) c7).trans (f6 _);have x0:wJ.cell? ⟨w3.heap.size,0,none⟩=some (.string ⟨x.path.toArray⟩):=by rw[←hJ];simp
  have x1:wJ.cell? ⟨w3.heap.size,1,none⟩=some (.int .u8 x.kind):=by rw[←hJ];simp
  have x2:wJ.cell? ⟨w3.heap.size,2,none⟩=some (.int .i64 x.n):=by rw[←hJ];simp
  have x3:wJ.cell? ⟨w3.heap.size,3,none⟩=some (.string ⟨x.text.toArray⟩):=by rw[←hJ];simp
  have x4:wJ.cell? ⟨w3.heap.size,4,none⟩=some (.slice ia x.items.length ic):=by rw[←hJ];simp
  have f8:It wJ M (x,.slice ia x.items.length ic):=by rw[←hJ];exact Rd.below d9 ((j0g _ _).alloc (j0a _) _)
  have e5:Hid (∀W,Below w1.heap.size w1 W→W.cell? ⟨B,1,none⟩=some (.slice (some ⟨g,0,none⟩) LB.length cap)):=fun W hW=>(hW.cell (p:=⟨B,1,none⟩) e9).trans c1
  have e6:Hid (∀W,Below w1.heap.size w1 W→W.cell? ⟨g,i*3+2,none⟩=some (.slice ta t.length a5)):=fun W hW=>(hW.cell (p:=⟨g,i*3+2,none⟩) c7).trans d2
  have e7:Hid (∀W,Below w1.heap.size w1 W→W.frozen? ⟨g,i*3+2,none⟩=false):=fun W hW=>(hW.frozen (p:=⟨g,i*3+2,none⟩) c7).trans (f6 _)
  have a1:∀o,(wJ.alloc o).cell? ⟨B,1,none⟩=some (.slice (some ⟨g,0,none⟩) LB.length cap):=fun o=>by rw[World.cell?_alloc_past _ _ _ (by omega)];exact j1
  have a2:∀o,(wJ.alloc o).cell? ⟨g,i*3+2,none⟩=some (.slice ta t.length a5):=fun o=>by rw[World.cell?_alloc_past _ _ _ (by omega)];exact j2
  have a3:∀o,(wJ.alloc o).frozen? ⟨g,i*3+2,none⟩=false:=fun o=>by rw[World.frozen?_alloc_past _ _ _ (by omega)];exact j3
  have g4:Tr wJ M (.slice ta t.length a5) t:=d7.below b4;clear d9 g3 k1 k2 k3;have hT:=Xd ⟨text.toArray⟩ wJ (by simpa[ByteArray.size]using j4);simp only at hT;have a9:=Q8 (.slice ta t.length a5) t path wJ M g4;have i6:x.items.length≤1000:=by have:=i5.many;omega
  have b7:=fun W (hW:Below wJ.heap.size wJ W)=>f9 (.slice ia x.items.length ic) x.items text W M (Rd.below f8 hW) i6
  have j8:(R.item x.items text).length≤1001:=by have:=R.item_length text x.items false;unfold R.item;omega
  have HV:Hid (R.valV 42 t x path n text=R.putV t x path text):=by show _=_;rw[R.valV,if_neg (by decide),if_neg (by decide),if_neg (by decide),if_neg (by decide)]
  cases hX:R.isText text
  ·have HZ:Hid (R.valV 42 t x path n text=(3,x)):=by show _=_;rw[HV.out,R.putV,if_pos (by simp[hX])]
   rw[hX]at hT;have HE:Hid (R.change st 42 a0 path n text=(3,st)):=by show _=_;rw[HC.out,HZ.out];rfl
   go_wp2_with fail
   refine hT.mono ?_;rintro e w4 ⟨rfl,rfl⟩;go_wp2;go_ret;exact⟨zq (by rw[HE.out]),by rw[HE.out];exact zG.same b8 b4⟩
  rw[hX]at hT
  cases hE:(text==([]:List UInt8))
  case true=>
   have HZ:Hid (R.valV 42 t x path n text=(3,x)):=by show _=_;rw[HV.out,R.putV,if_pos (by simp[hE])]
   have HE:Hid (R.change st 42 a0 path n text=(3,st)):=by show _=_;rw[HC.out,HZ.out];rfl
   go_wp2_with fail
   refine hT.mono ?_;rintro e w4 ⟨rfl,rfl⟩;go_wp2;go_ret;exact⟨zq (by rw[HE.out]),by rw[HE.out];exact zG.same b8 b4⟩
  have HT:Hid (¬(!R.isText text||text==([]:List UInt8))=true):=by intro h;rw[hX,hE]at h;cases h
  by_cases h6:x.kind≠0∧x.kind≠42
  ·have HZ:Hid (R.valV 42 t x path n text=(6,x)):=by show _=_;rw[HV.out,R.putV,if_neg HT.out,if_pos h6]
   have b1:(x.kind==0)=false:=by simpa using h6.1
   have b2:(x.kind==42)=false:=by simpa using h6.2
   have n1:(x.kind !=0)=true:=by rw[bne,b1];rfl
   have n2:(x.kind !=42)=true:=by rw[bne,b2];rfl
   clear h6;have HE:Hid (R.change st 42 a0 path n text=(6,st)):=by show _=_;rw[HC.out,HZ.out];rfl
   go_wp2_with fail
   refine hT.mono ?_;rintro e w4 ⟨rfl,rfl⟩;go_wp2;go_ret;exact⟨zq (by rw[HE.out]),by rw[HE.out];exact zG.same b8 b4⟩
  cases d5:R.blocked t path
  ·rw[d5]at a9
   by_cases h8:8<(R.item x.items text).length
   ·have HZ:Hid (R.valV 42 t x path n text=(4,x)):=by show _=_;rw[HV.out,R.putV,if_neg HT.out,if_neg h6,if_neg (by simp[d5]),if_pos h8]
    have HE:Hid (R.change st 42 a0 path n text=(4,st)):=by show _=_;rw[HC.out,HZ.out];rfl
    rcases ZZ x.kind 0 with⟨b1,h1⟩|⟨b1,h1⟩
    all_goals
     first
      |(have n1:(x.kind !=0)=false:=by rw[bne,b1];rfl
        clear h6 h1)
      |(have h2:x.kind=42:=Classical.byContradiction fun e=>h6 ⟨h1,e⟩
        have b2:(x.kind==42)=true:=by simpa using h2
        have n1:(x.kind !=0)=true:=by rw[bne,b1];rfl
        have n2:(x.kind !=42)=false:=by rw[bne,b2];rfl
        clear h6 h1 h2)
     go_wp2_with fail
     refine hT.mono ?_;rintro e w4 ⟨rfl,rfl⟩;go_wp2_with fail
     refine a9.mono ?_;rintro e w4 ⟨rfl,rfl⟩;go_wp2_with fail
     refine(b7 _ (j0g _ _|>.alloc (j0a _) _)).mono ?_;rintro e w6 ⟨v6,rfl,d6,a7⟩;obtain⟨va,vc,rfl,_,_,_,_⟩:=za d6;have e4:=a7.size;simp only[World.size_alloc,a6]at e4;have d8:Below w1.heap.size w1 w6:=(b4.alloc g1 _).trans (a7.mono (by simp;omega));generalize a4:w6.setCell ⟨w3.heap.size+1,4,none⟩ (.slice va (R.item x.items text).length vc)=w7;have i1:w7.heap.size=w6.heap.size:=by rw[←a4];simp
     have d3:zj (fun b=>b=w3.heap.size+1) w6 w7:=by rw[←a4];exact(zj.refl (fun b=>b=w3.heap.size+1) w6).setCell (p:=⟨w3.heap.size+1,4,none⟩) (.inl rfl) _
     have a8:Below w1.heap.size w1 w7:=by rw[←a4];exact d8.setCell (p:=⟨w3.heap.size+1,4,none⟩) (by dsimp only;omega) _
     have y6:∀o u,#[Value.string ⟨path.toArray⟩,.int .u8 42,.int .i64 0,.string ⟨#[]⟩,.slice none 0 0][o]? =some u→w6.cell? ⟨w3.heap.size+1,o,none⟩=some u:=fun o u hu=>by
      rw[a7.cell (p:=⟨w3.heap.size+1,o,none⟩) (by simp[a6]),World.cell?_alloc_at _ _ _ _ a6.symm];exact hu
     have y4:=y6 4 _ rfl;have fy:w6.frozen? ⟨w3.heap.size+1,4,none⟩=false:=by rw[a7.frozen (p:=⟨w3.heap.size+1,4,none⟩) (by simp[a6]),World.frozen?_alloc_at _ _ _ _ a6.symm]
     have z0:w7.cell? ⟨w3.heap.size+1,0,none⟩=some (.string ⟨path.toArray⟩):=by rw[←a4,z9 _ _ _ _ _ (by omega)];exact y6 0 _ rfl
     have z1:w7.cell? ⟨w3.heap.size+1,1,none⟩=some (.int .u8 42):=by rw[←a4,z9 _ _ _ _ _ (by omega)];exact y6 1 _ rfl
     have z2:w7.cell? ⟨w3.heap.size+1,2,none⟩=some (.int .i64 0):=by rw[←a4,z9 _ _ _ _ _ (by omega)];exact y6 2 _ rfl
     have z3:w7.cell? ⟨w3.heap.size+1,3,none⟩=some (.string ⟨#[]⟩):=by rw[←a4,z9 _ _ _ _ _ (by omega)];exact y6 3 _ rfl
     have z4:w7.cell? ⟨w3.heap.size+1,4,none⟩=some (.slice va (R.item x.items text).length vc):=by rw[←a4];exact zD _ _ _ _ _ y4
     have zx:w7.cell? ⟨w3.heap.size,1,none⟩=some (.int .u8 x.kind):=by
      rw[d3.cell (p:=⟨w3.heap.size,1,none⟩) (by dsimp only;omega) (by dsimp only;omega),a7.cell (p:=⟨w3.heap.size,1,none⟩) (by simp[a6];omega),World.cell?_alloc_past _ _ _ (by omega)];exact x1
     have zB:=e5.out w7 a8;have zg:=e6.out w7 a8;have zf:=e7.out w7 a8;clear y6;go_wp2;go_ret;exact⟨zq (by rw[HE.out]),by rw[HE.out];exact zG.same b8 a8⟩
   ·by_cases h4:x.kind=0∧24≤t.length
    ·have HZ:Hid (R.valV 42 t x path n text=(4,x)):=by show _=_;rw[HV.out,R.putV,if_neg HT.out,if_neg h6,if_neg (by simp[d5]),if_neg h8,if_pos h4]
     have b1:(x.kind==0)=true:=by simpa using h4.1
     have b3:(24:Int)≤(t.length:Int):=by omega
     have n1:(x.kind !=0)=false:=by rw[bne,b1];rfl
     clear h6 h4;have HE:Hid (R.change st 42 a0 path n text=(4,st)):=by show _=_;rw[HC.out,HZ.out];rfl
     go_wp2_with fail
     refine hT.mono ?_;rintro e w4 ⟨rfl,rfl⟩;go_wp2_with fail
     refine a9.mono ?_;rintro e w4 ⟨rfl,rfl⟩;go_wp2_with fail
     refine(b7 _ (j0g _ _|>.alloc (j0a _) _)).mono ?_;rintro e w6 ⟨v6,rfl,d6,a7⟩;obtain⟨va,vc,rfl,_,_,_,_⟩:=za d6;have e4:=a7.size;simp only[World.size_alloc,a6]at e4;have d8:Below w1.heap.size w1 w6:=(b4.alloc g1 _).trans (a7.mono (by simp;omega));generalize a4:w6.setCell ⟨w3.heap.size+1,4,none⟩ (.slice va (R.item x.items text).length vc)=w7;have i1:w7.heap.size=w6.heap.size:=by rw[←a4];simp
     have d3:zj (fun b=>b=w3.heap.size+1) w6 w7:=by rw[←a4];exact(zj.refl (fun b=>b=w3.heap.size+1) w6).setCell (p:=⟨w3.heap.size+1,4,none⟩) (.inl rfl) _
     have a8:Below w1.heap.size w1 w7:=by rw[←a4];exact d8.setCell (p:=⟨w3.heap.size+1,4,none⟩) (by dsimp only;omega) _
     have y6:∀o u,#[Value.string ⟨path.toArray⟩,.int .u8 42,.int .i64 0,.string ⟨#[]⟩,.slice none 0 0][o]? =some u→w6.cell? ⟨w3.heap.size+1,o,none⟩=some u:=fun o u hu=>by
      rw[a7.cell (p:=⟨w3.heap.size+1,o,none⟩) (by simp[a6]),World.cell?_alloc_at _ _ _ _ a6.symm];exact hu
     have y4:=y6 4 _ rfl;have fy:w6.frozen? ⟨w3.heap.size+1,4,none⟩=false:=by rw[a7.frozen (p:=⟨w3.heap.size+1,4,none⟩) (by simp[a6]),World.frozen?_alloc_at _ _ _ _ a6.symm]
     have z0:w7.cell? ⟨w3.heap.size+1,0,none⟩=some (.string ⟨path.toArray⟩):=by rw[←a4,z9 _ _ _ _ _ (by omega)];exact y6 0 _ rfl
     have z1:w7.cell? ⟨w3.heap.size+1,1,none⟩=some (.int .u8 42):=by rw[←a4,z9 _ _ _ _ _ (by omega)];exact y6 1 _ rfl
     have z2:w7.cell? ⟨w3.heap.size+1,2,none⟩=some (.int .i64 0):=by rw[←a4,z9 _ _ _ _ _ (by omega)];exact y6 2 _ rfl
     have z3:w7.cell? ⟨w3.heap.size+1,3,none⟩=some (.string ⟨#[]⟩):=by rw[←a4,z9 _ _ _ _ _ (by omega)];exact y6 3 _ rfl
     have z4:w7.cell? ⟨w3.heap.size+1,4,none⟩=some (.slice va (R.item x.items text).length vc):=by rw[←a4];exact zD _ _ _ _ _ y4
     have zx:w7.cell? ⟨w3.heap.size,1,none⟩=some (.int .u8 x.kind):=by
      rw[d3.cell (p:=⟨w3.heap.size,1,none⟩) (by dsimp only;omega) (by dsimp only;omega),a7.cell (p:=⟨w3.heap.size,1,none⟩) (by simp[a6];omega),World.cell?_alloc_past _ _ _ (by omega)];exact x1
     have zB:=e5.out w7 a8;have zg:=e6.out w7 a8;have zf:=e7.out w7 a8;clear y6;go_wp2;go_ret;exact⟨zq (by rw[HE.out]),by rw[HE.out];exact zG.same b8 a8⟩
    ·have HZ:Hid (R.valV 42 t x path n text=(0,{path:=path,kind:=42,n:=0,text:=[],items:=R.item x.items text})):=by show _=_;rw[HV.out,R.putV,if_neg HT.out,if_neg h6,if_neg (by simp[d5]),if_neg h8,if_neg h4]
     have HE:Hid (R.change st 42 a0 path n text=(0,R.setWork st i (R.set t {path:=path,kind:=42,n:=0,text:=[],items:=R.item x.items text}))):=by show _=_;rw[HC.out,HZ.out];rfl
     rcases ZZ x.kind 0 with⟨b1,h1⟩|⟨b1,h1⟩
     all_goals
      first
       |(have n1:(x.kind !=0)=false:=by rw[bne,b1];rfl
         have b3:¬(24:Int)≤(t.length:Int):=by omega
         clear h6 h1 h4)
       |(have h2:x.kind=42:=Classical.byContradiction fun e=>h6 ⟨h1,e⟩
         have b2:(x.kind==42)=true:=by simpa using h2
         have n1:(x.kind !=0)=true:=by rw[bne,b1];rfl
         have n2:(x.kind !=42)=false:=by rw[bne,b2];rfl
         clear h6 h1 h2 h4)
      go_wp2_with fail
      refine hT.mono ?_;rintro e w4 ⟨rfl,rfl⟩;go_wp2_with fail
      refine a9.mono ?_;rintro e w4 ⟨rfl,rfl⟩;go_wp2_with fail
      refine(b7 _ (j0g _ _|>.alloc (j0a _) _)).mono ?_;rintro e w6 ⟨v6,rfl,d6,a7⟩;obtain⟨va,vc,rfl,_,_,_,_⟩:=za d6;have e4:=a7.size;simp only[World.size_alloc,a6]at e4;have d8:Below w1.heap.size w1 w6:=(b4.alloc g1 _).trans (a7.mono (by simp;omega));generalize a4:w6.setCell ⟨w3.heap.size+1,4,none⟩ (.slice va (R.item x.items text).length vc)=w7;have i1:w7.heap.size=w6.heap.size:=by rw[←a4];simp
      have d3:zj (fun b=>b=w3.heap.size+1) w6 w7:=by rw[←a4];exact(zj.refl (fun b=>b=w3.heap.size+1) w6).setCell (p:=⟨w3.heap.size+1,4,none⟩) (.inl rfl) _
      have a8:Below w1.heap.size w1 w7:=by rw[←a4];exact d8.setCell (p:=⟨w3.heap.size+1,4,none⟩) (by dsimp only;omega) _
      have y6:∀o u,#[Value.string ⟨path.toArray⟩,.int .u8 42,.int .i64 0,.string ⟨#[]⟩,.slice none 0 0][o]? =some u→w6.cell? ⟨w3.heap.size+1,o,none⟩=some u:=fun o u hu=>by
       rw[a7.cell (p:=⟨w3.heap.size+1,o,none⟩) (by simp[a6]),World.cell?_alloc_at _ _ _ _ a6.symm];exact hu
      have y4:=y6 4 _ rfl;have fy:w6.frozen? ⟨w3.heap.size+1,4,none⟩=false:=by rw[a7.frozen (p:=⟨w3.heap.size+1,4,none⟩) (by simp[a6]),World.frozen?_alloc_at _ _ _ _ a6.symm]
      have z0:w7.cell? ⟨w3.heap.size+1,0,none⟩=some (.string ⟨path.toArray⟩):=by rw[←a4,z9 _ _ _ _ _ (by omega)];exact y6 0 _ rfl
      have z1:w7.cell? ⟨w3.heap.size+1,1,none⟩=some (.int .u8 42):=by rw[←a4,z9 _ _ _ _ _ (by omega)];exact y6 1 _ rfl
      have z2:w7.cell? ⟨w3.heap.size+1,2,none⟩=some (.int .i64 0):=by rw[←a4,z9 _ _ _ _ _ (by omega)];exact y6 2 _ rfl
      have z3:w7.cell? ⟨w3.heap.size+1,3,none⟩=some (.string ⟨#[]⟩):=by rw[←a4,z9 _ _ _ _ _ (by omega)];exact y6 3 _ rfl
      have z4:w7.cell? ⟨w3.heap.size+1,4,none⟩=some (.slice va (R.item x.items text).length vc):=by rw[←a4];exact zD _ _ _ _ _ y4
      have zx:w7.cell? ⟨w3.heap.size,1,none⟩=some (.int .u8 x.kind):=by
       rw[d3.cell (p:=⟨w3.heap.size,1,none⟩) (by dsimp only;omega) (by dsimp only;omega),a7.cell (p:=⟨w3.heap.size,1,none⟩) (by simp[a6];omega),World.cell?_alloc_past _ _ _ (by omega)];exact x1
      have zB:=e5.out w7 a8;have zg:=e6.out w7 a8;have zf:=e7.out w7 a8;clear y6;have f7:It w7 M ({path:=path,kind:=42,n:=0,text:=[],items:=R.item x.items text},.slice va (R.item x.items text).length vc):=Rd.step (M:=fun b=>M b∨b=w3.heap.size+1) (M' :=M) (O:=fun b=>b=w3.heap.size+1) (Rd.of_owns d6 (fun b hb=>by
       rcases hb with hb|hb
       ·have:=hM b hb;simp[a6];omega
       ·simp[a6];omega)) d3 (fun b e=> .inr e) (fun b hb=> .inl (.inl hb))
      have g2:∀W,Below w7.heap.size w7 W→Calls Tryz.prog 170 #[.slice ta t.length a5,.agg #[.string ⟨path.toArray⟩,.int .u8 42,.int .i64 0,.string ⟨#[]⟩,.slice va (R.item x.items text).length vc]] W fun e w' =>∃v',e= .returned v' ∧Tr w' M v' (R.set t {path:=path,kind:=42,n:=0,text:=[],items:=R.item x.items text})∧Below W.heap.size W w' :=fun W hW=>
       Jz (.slice ta t.length a5) t {path:=path,kind:=42,n:=0,text:=[],items:=R.item x.items text} (.slice va (R.item x.items text).length vc) W M ((d7.below a8).below hW) (Rd.below f7 hW) (fun b hb=>j0b (hM b hb) (j0f a8.size hW.size)) i8 (by dsimp only;omega) (by omega)
      go_wp2;go_region_with ((go_at_call 170;refine(g2 _ (j0g _ _).drew).mono ?_;rintro e w5 ⟨v5,rfl,e3,f5⟩;have e8:Below w1.heap.size w1 w5:=a8.drew.trans (f5.mono (by simp;omega));have m1:=e5.out w5 e8;have m2:=e6.out w5 e8;have m3:=e7.out w5 e8;obtain⟨va,vc,rfl⟩:=XJ e3))
      all_goals go_wp2
      all_goals go_ret
      all_goals exact⟨zq (by rw[HE.out]),by rw[HE.out];exact i2.out _ _ _ e8 e3⟩
  ·rw[d5]at a9
   have HZ:Hid (R.valV 42 t x path n text=(7,x)):=by show _=_;rw[HV.out,R.putV,if_neg HT.out,if_neg h6,if_pos d5]
   have HE:Hid (R.change st 42 a0 path n text=(7,st)):=by show _=_;rw[HC.out,HZ.out];rfl
   rcases ZZ x.kind 0 with⟨b1,h1⟩|⟨b1,h1⟩
   ·have n1:(x.kind !=0)=false:=by rw[bne,b1];rfl
    clear h6 h1;go_wp2_with fail
    refine hT.mono ?_;rintro e w4 ⟨rfl,rfl⟩;go_wp2_with fail
    refine a9.mono ?_;rintro e w4 ⟨rfl,rfl⟩;go_wp2;go_ret;exact⟨zq (by rw[HE.out]),by rw[HE.out];exact zG.same b8 b4⟩
   ·have h2:x.kind=42:=Classical.byContradiction fun e=>h6 ⟨h1,e⟩
    have b2:(x.kind==42)=true:=by simpa using h2
    have n1:(x.kind !=0)=true:=by rw[bne,b1];rfl
    have n2:(x.kind !=42)=false:=by rw[bne,b2];rfl
    clear h6 h1 h2;go_wp2_with fail
    refine hT.mono ?_;rintro e w4 ⟨rfl,rfl⟩;go_wp2_with fail
    refine a9.mono ?_;rintro e w4 ⟨rfl,rfl⟩;go_wp2;go_ret;exact⟨zq (by rw[HE.out]),by rw[HE.out];exact zG.same b8 b4⟩
