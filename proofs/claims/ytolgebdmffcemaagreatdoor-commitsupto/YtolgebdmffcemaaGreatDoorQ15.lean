import Derived.Test.YtolgebdmffcemaaGreatDoorQ14
set_option linter.all false
set_option maxHeartbeats 20000000
set_option maxRecDepth 1000000
namespace Go.Proofs.YtolgebdmffcemaaGreatDoor
open Go.RowKit
theorem Gz (t:List R.Leaf)(path:List UInt8)(h:∀y∈t,y.kind≠0):(R.at_ t path).kind=0→(R.at_ t path).items=[]:=by
 unfold R.at_
 cases e:t.find? (fun x=>x.path==path)with
 |none=>intro _;rfl
 |some y=>intro hk;exact absurd hk (h y (List.mem_of_find?_eq_some e))
theorem fb (B:Nat)(st:R.St)(a4 path text:List UInt8)(n:Int)(w:World)(M O:Nat→Prop)(h:RS w M O B st)(hM:∀b,M b→b<w.heap.size)(hf:R.Fine st)(hz:∀b∈st.brs,∀y∈b.work,y.kind≠0)(i2:path.length≤maxLen)(l2:text.length≤maxLen)(_hn1:n≤9223372036854775807)(_hn2: -9223372036854775808≤n):
  Calls Tryz.prog 122 #[.pointer (some ⟨B,0,none⟩),.int .u8 45,.string ⟨a4.toArray⟩,.string ⟨path.toArray⟩,.int .i64 n,.string ⟨text.toArray⟩] w fun e w' =>
   e= .returned (.int .i64 (R.change st 45 a4 path n text).1)∧zG w w' M O B (R.change st 45 a4 path n text).2:=by
 have b0:=h;obtain⟨cv,bv,LB,l7,hR⟩:=h;have c1:=hR.c1;have e4:=hR.lt B hR.own;obtain⟨a,cap,rfl,m0,hm,e6,e7⟩:=za hR.row;have HL:Hid (LB.length=st.brs.length):=by show _=_;rw[←hR.brs,List.length_map]
 have b5:=yJ B st a4 w M O b0;unfold maxLen at hm;rcases R.fndI_cases st.brs a4 with⟨f1,f2⟩|⟨f1,f2⟩
 ·have HS:Hid (R.change st 45 a4 path n text=(5,st)):=by show _=_;rw[R.change,if_pos (by omega)]
  rw[HS.out];rw[f1]at b5;clear e7 e6 f1 f2;go_enter Tryz.func122,Tryz.ntmps122;go_wp2_with fail
  refine b5.mono ?_;rintro e w1 ⟨rfl,rfl⟩;go_wp2;go_ret;exact⟨rfl,zG.same b0 (j0g _ _)⟩
 cases b9:R.isPath path
 ·have HS:Hid (R.change st 45 a4 path n text=(2,st)):=by show _=_;rw[R.change,if_neg (by omega),if_pos b9]
  rw[HS.out];rw[f1]at b5;have a7 :=y7 path w i2;rw[b9]at a7;clear e7 e6 f1;go_enter Tryz.func122,Tryz.ntmps122;go_wp2_with fail
  refine b5.mono ?_;rintro e w1 ⟨rfl,rfl⟩;go_wp2_with fail
  refine a7.mono ?_;rintro e w2 ⟨rfl,hb⟩;go_wp2;go_ret;exact⟨rfl,zG.same b0 hb⟩
 have a6:R.fnd st.brs a4<LB.length:=by rw[HL.out];exact f2
 have i6:R.workOf st a4=(LB[R.fnd st.brs a4]'a6).1.work:=by
  rw[R.workOf,j0d f2];simp[←hR.brs]
 have e5:=hR.mem_brs (j0c a6);have d3:=hR.work _ (j0c a6);have a9:=hf.good _ e5;have j7:=hf.few _ e5;have i7:=hz _ e5;have a7 :=y7 path w i2;rw[b9]at a7;have i1:path.length≤100:=by simp[R.isPath]at b9;exact b9.1
 cases a with
 |none=>have:=(e6 rfl).1;omega
 |some ad=>
  obtain⟨g,rfl,_,l9,_,b3⟩:=e7 ad rfl;obtain⟨-, -,d2⟩:=ZS b3 _ a6;have j8:=hR.rowO g rfl;have b7:=hR.lt g j8.1;have f5:∀o,w.frozen? ⟨g,o,none⟩=false:=by assumption
  have HC:Hid (R.change st 45 a4 path n text=if(R.valV 45 (LB[R.fnd st.brs a4]'a6).1.work (R.at_ (LB[R.fnd st.brs a4]'a6).1.work path) path n text).1=0 then
    (0,R.setWork st (R.fnd st.brs a4) (R.set (LB[R.fnd st.brs a4]'a6).1.work (R.valV 45 (LB[R.fnd st.brs a4]'a6).1.work (R.at_ (LB[R.fnd st.brs a4]'a6).1.work path) path n text).2))
    else((R.valV 45 (LB[R.fnd st.brs a4]'a6).1.work (R.at_ (LB[R.fnd st.brs a4]'a6).1.work path) path n text).1,st)):=by
   show _=_;rw[R.change,if_neg (by omega),if_neg (by simp[b9]),i6]
  obtain⟨ta,a5,i5⟩:∃ta a5,(LB[R.fnd st.brs a4]'a6).2= .slice ta (LB[R.fnd st.brs a4]'a6).1.work.length a5:=by
   obtain⟨L,hL,⟨a,cap,e,_⟩,_⟩:=d3;exact⟨a,cap,by rw[e,←hL,List.length_map]⟩
  rw[i5]at d3 d2;rw[f1]at b5;have i4:∀(w5:World) (v' :Value) (t' :List R.Leaf),Below w.heap.size w w5→Tr w5 M v' t' →zG w (w5.setCell ⟨g,R.fnd st.brs a4*3+2,none⟩ v') M O B (R.setWork st (R.fnd st.brs a4) t'):=fun w5 v' t' f4 l1=>xj hR a6 f4 l1
  generalize(LB[R.fnd st.brs a4]'a6).1.work=t at*;generalize R.fnd st.brs a4=i at*;have j9:R.Good (R.at_ t path):=V2 t path a9 (by omega);have g7:=fun W (hW:Below w.heap.size w W)=>OJ (.slice ta t.length a5) t path W M (d3.below hW)
  have j0:=JY i4;have j4:Hid ((R.at_ t path).kind=0→(R.at_ t path).items=[]):=Gz t path i7;have k8:∀y∈t,y.path.length≤1000:=fun y hy=>(a9 y hy).path
  generalize R.at_ t path=x at*;clear e7 e6 f1 b3 i6 i5 e5 b9 a9 i4 i7;go_enter Tryz.func122,Tryz.ntmps122;go_wp2_with fail
  refine b5.mono ?_;rintro e w1 ⟨rfl,rfl⟩;go_wp2_with fail
  refine a7.mono ?_;rintro e w2 ⟨rfl,c9⟩;have i3:=c9.size;have e1:=(c9.cell (p:=⟨B,1,none⟩) e4).trans c1;have e2:=(c9.cell (p:=⟨g,i*3+2,none⟩) b7).trans d2;go_wp2_with fail
  refine(g7 _ c9).mono ?_;rintro e w3 ⟨iv,rfl,k6,f3⟩;obtain⟨ia,ic,h5,h0,h3,h4⟩:=k6;dsimp only at h5;subst h5;have d5:It w3 M (x,.slice ia x.items.length ic):=Rd.below ⟨ia,ic,rfl,h0,h3,h4⟩ f3;clear h0 h3 h4 e1 e2;have c7:Below w1.heap.size w1 w3:=c9.trans (f3.mono i3);have k1:=(c7.cell (p:=⟨B,1,none⟩) e4).trans c1;have k2:=(c7.cell (p:=⟨g,i*3+2,none⟩) b7).trans d2;have k3:=(c7.frozen (p:=⟨g,i*3+2,none⟩) b7).trans (f5 _);have k9:=c7.size;have f9:Tr w3 M (.slice ta t.length a5) t:=d3.below c7;clear g7 a7 b5 c9 f3 i3;unfold LC;dsimp only;generalize hJ:w3.alloc (.cells #[.string ⟨x.path.toArray⟩,.int .u8 x.kind,.int .i64 x.n,.string ⟨x.text.toArray⟩,.slice ia x.items.length ic] 216)=wJ;have a8:Below w1.heap.size w1 wJ:=by rw[←hJ];exact c7.alloc k9 _
  have d7:wJ.heap.size=w3.heap.size+1:=by rw[←hJ];simp
  have l0:=a8.size;have j1:=(a8.cell (p:=⟨B,1,none⟩) e4).trans c1;have j2:=(a8.cell (p:=⟨g,i*3+2,none⟩) b7).trans d2;have j3:=(a8.frozen (p:=⟨g,i*3+2,none⟩) b7).trans (f5 _);have x0:wJ.cell? ⟨w3.heap.size,0,none⟩=some (.string ⟨x.path.toArray⟩):=by rw[←hJ];simp
  have x1:wJ.cell? ⟨w3.heap.size,1,none⟩=some (.int .u8 x.kind):=by rw[←hJ];simp
  have x2:wJ.cell? ⟨w3.heap.size,2,none⟩=some (.int .i64 x.n):=by rw[←hJ];simp
  have x3:wJ.cell? ⟨w3.heap.size,3,none⟩=some (.string ⟨x.text.toArray⟩):=by rw[←hJ];simp
  have x4:wJ.cell? ⟨w3.heap.size,4,none⟩=some (.slice ia x.items.length ic):=by rw[←hJ];simp
  have c6:It wJ M (x,.slice ia x.items.length ic):=by rw[←hJ];exact Rd.below d5 ((j0g _ _).alloc (j0a _) _)
  have g2:Hid (∀W,Below w1.heap.size w1 W→W.cell? ⟨B,1,none⟩=some (.slice (some ⟨g,0,none⟩) LB.length cap)):=fun W hW=>(hW.cell (p:=⟨B,1,none⟩) e4).trans c1
  have g3:Hid (∀W,Below w1.heap.size w1 W→W.cell? ⟨g,i*3+2,none⟩=some (.slice ta t.length a5)):=fun W hW=>(hW.cell (p:=⟨g,i*3+2,none⟩) b7).trans d2
  have g4:Hid (∀W,Below w1.heap.size w1 W→W.frozen? ⟨g,i*3+2,none⟩=false):=fun W hW=>(hW.frozen (p:=⟨g,i*3+2,none⟩) b7).trans (f5 _)
  have a1:∀o,(wJ.alloc o).cell? ⟨B,1,none⟩=some (.slice (some ⟨g,0,none⟩) LB.length cap):=fun o=>by rw[World.cell?_alloc_past _ _ _ (by omega)];exact j1
  have a2:∀o,(wJ.alloc o).cell? ⟨g,i*3+2,none⟩=some (.slice ta t.length a5):=fun o=>by rw[World.cell?_alloc_past _ _ _ (by omega)];exact j2
  have a3:∀o,(wJ.alloc o).frozen? ⟨g,i*3+2,none⟩=false:=fun o=>by rw[World.frozen?_alloc_past _ _ _ (by omega)];exact j3
  have g0:Tr wJ M (.slice ta t.length a5) t:=d3.below a8;clear d5 f9 k1 k2 k3;have hT:=Xd ⟨text.toArray⟩ wJ (by simpa[ByteArray.size]using l2);simp only at hT;have d4:=Fb (.slice ia x.items.length ic) x.items text wJ M c6;have HV:Hid (R.valV 45 t x path n text=R.takeV x path text):=by show _=_;rw[R.valV,if_neg (by decide),if_pos rfl]
  cases hX:R.isText text
  ·have HZ:Hid (R.valV 45 t x path n text=(3,x)):=by show _=_;rw[HV.out,R.takeV,if_pos (by simp[hX])]
   rw[hX]at hT;have HE:Hid (R.change st 45 a4 path n text=(3,st)):=by show _=_;rw[HC.out,HZ.out];rfl
   go_wp2_with fail
   refine hT.mono ?_;rintro e w4 ⟨rfl,rfl⟩;go_wp2;go_ret;exact⟨zq (by rw[HE.out]),by rw[HE.out];exact zG.same b0 a8⟩
  rw[hX]at hT
  cases hE:(text==([]:List UInt8))
  case true=>
   have HZ:Hid (R.valV 45 t x path n text=(3,x)):=by show _=_;rw[HV.out,R.takeV,if_pos (by simp[hE])]
   have HE:Hid (R.change st 45 a4 path n text=(3,st)):=by show _=_;rw[HC.out,HZ.out];rfl
   go_wp2_with fail
   refine hT.mono ?_;rintro e w4 ⟨rfl,rfl⟩;go_wp2;go_ret;exact⟨zq (by rw[HE.out]),by rw[HE.out];exact zG.same b0 a8⟩
  have HT:Hid (¬(!R.isText text||text==([]:List UInt8))=true):=by intro h;rw[hX,hE]at h;cases h
  by_cases h6:x.kind≠0∧x.kind≠42
  ·have HZ:Hid (R.valV 45 t x path n text=(6,x)):=by show _=_;rw[HV.out,R.takeV,if_neg HT.out,if_pos h6]
   have b1:(x.kind==0)=false:=by simpa using h6.1
   have b2:(x.kind==42)=false:=by simpa using h6.2
   have n1:(x.kind !=0)=true:=by rw[bne,b1];rfl
   have n2:(x.kind !=42)=true:=by rw[bne,b2];rfl
   clear h6;have HE:Hid (R.change st 45 a4 path n text=(6,st)):=by show _=_;rw[HC.out,HZ.out];rfl
   go_wp2_with fail
   refine hT.mono ?_;rintro e w4 ⟨rfl,rfl⟩;go_wp2;go_ret;exact⟨zq (by rw[HE.out]),by rw[HE.out];exact zG.same b0 a8⟩
  cases hI:(x.items.any fun y=>y==text)
  ·rw[hI]at d4
   have HZ:Hid (R.valV 45 t x path n text=(10,x)):=by show _=_;rw[HV.out,R.takeV,if_neg HT.out,if_neg h6,if_pos hI]
   have HE:Hid (R.change st 45 a4 path n text=(10,st)):=by show _=_;rw[HC.out,HZ.out];rfl
   rcases ZZ x.kind 0 with⟨b1,h1⟩|⟨b1,h1⟩
   ·have n1:(x.kind !=0)=false:=by rw[bne,b1];rfl
    clear h6 h1;go_wp2_with fail
    refine hT.mono ?_;rintro e w4 ⟨rfl,rfl⟩;go_wp2_with fail
    refine d4.mono ?_;rintro e w4 ⟨rfl,rfl⟩;go_wp2;go_ret;exact⟨zq (by rw[HE.out]),by rw[HE.out];exact zG.same b0 a8⟩
   ·have h2:x.kind=42:=Classical.byContradiction fun e=>h6 ⟨h1,e⟩
    have b2:(x.kind==42)=true:=by simpa using h2
    have n1:(x.kind !=0)=true:=by rw[bne,b1];rfl
    have n2:(x.kind !=42)=false:=by rw[bne,b2];rfl
    clear h6 h1 h2;go_wp2_with fail
    refine hT.mono ?_;rintro e w4 ⟨rfl,rfl⟩;go_wp2_with fail
    refine d4.mono ?_;rintro e w4 ⟨rfl,rfl⟩;go_wp2;go_ret;exact⟨zq (by rw[HE.out]),by rw[HE.out];exact zG.same b0 a8⟩
  ·rw[hI]at d4
   have HZ:Hid (R.valV 45 t x path n text=(0,{path:=path,kind:=if R.without x.items text=[]then 0 else 42,n:=0,text:=[],items:=R.without x.items text})):=by show _=_;rw[HV.out,R.takeV,if_neg HT.out,if_neg h6,if_neg (by simp[hI])]
   have HE:Hid (R.change st 45 a4 path n text=(0,R.setWork st i (R.set t {path:=path,kind:=if R.without x.items text=[]then 0 else 42,n:=0,text:=[],items:=R.without x.items text}))):=by show _=_;rw[HC.out,HZ.out];rfl
   have h1:x.kind≠0:=fun e=>by rw[j4.out e]at hI;cases hI
   have b1:(x.kind==0)=false:=by simpa using h1
   have h2:x.kind=42:=Classical.byContradiction fun e=>h6 ⟨h1,e⟩
   have b2:(x.kind==42)=true:=by simpa using h2
   have n1:(x.kind !=0)=true:=by rw[bne,b1];rfl
   have n2:(x.kind !=42)=false:=by rw[bne,b2];rfl
   clear h6 h1 h2;go_wp2_with fail
   refine hT.mono ?_;rintro e w4 ⟨rfl,rfl⟩;go_wp2_with fail
   refine d4.mono ?_;rintro e w4 ⟨rfl,rfl⟩;have k5:=j9.many;have HY:=JY c6;clear c6 g0;go_wp2;generalize hY:w4.alloc (.cells #[.string ⟨path.toArray⟩,.int .u8 0,.int .i64 0,.string ⟨#[]⟩,.slice none 0 0] 216)=wY;have m7:wY.heap.size=w3.heap.size+1+1:=by rw[←hY];simp[d7]
   have e9:Below w4.heap.size w4 wY:=by rw[←hY];exact(j0g _ _).alloc (j0a _) _
   have j5:Below w1.heap.size w1 wY:=a8.trans (e9.mono l0);have yc:∀o u,#[Value.string ⟨path.toArray⟩,.int .u8 0,.int .i64 0,.string ⟨#[]⟩,.slice none 0 0][o]? =some u→wY.cell? ⟨w3.heap.size+1,o,none⟩=some u:=fun o u hu=>by
    rw[←hY,World.cell?_alloc_at _ _ _ _ d7.symm];exact hu
   have yf:∀o,wY.frozen? ⟨w3.heap.size+1,o,none⟩=false:=fun o=>by rw[←hY,World.frozen?_alloc_at _ _ _ _ d7.symm]
   have y0:=yc 0 _ rfl;have y1:=yc 1 _ rfl;have y2:=yc 2 _ rfl;have y3:=yc 3 _ rfl;have y4:=yc 4 _ rfl;have yx:wY.cell? ⟨w3.heap.size,4,none⟩=some (.slice ia x.items.length ic):=(e9.cell (p:=⟨w3.heap.size,4,none⟩) (by simp[d7])).trans x4;clear yc hY;go_loopw [21] (fun i wr=>∃(k:Nat) (v:Value),k≤x.items.length∧i= .int .i64 k∧wr.cell? ⟨w3.heap.size+1,4,none⟩=some v∧wr.ownsRow (w3.heap.size+2) 9 1 v (R.without (x.items.take k) text).length ((R.without (x.items.take k) text).map S)∧
     wr.cell? ⟨w3.heap.size+1,1,none⟩=some (.int .u8 (if R.without (x.items.take k) text=[]then 0 else 42))∧wr.cell? ⟨w3.heap.size+1,0,none⟩=some (.string ⟨path.toArray⟩)∧wr.cell? ⟨w3.heap.size+1,2,none⟩=some (.int .i64 0)∧wr.cell? ⟨w3.heap.size+1,3,none⟩=some (.string ⟨#[]⟩)∧
     (∀o,wr.frozen? ⟨w3.heap.size+1,o,none⟩=false)∧Below (w3.heap.size+1) wY wr) (fun i _=>x.items.length-(intOf i).toNat)
   case atStart=>exact⟨0,.slice none 0 0,Nat.zero_le _,rfl,y4,World.ownsRow_nil _ _ _ _,y1,y0,y2,y3,yf,j0g _ _⟩
   case round=>
    obtain⟨k,v,hk,rfl,q4,qo,q1,q0,q2,q3,qf,qb⟩:=hrel;have m4:=qb.size;have qx:=(qb.cell (p:=⟨w3.heap.size,4,none⟩) (Nat.lt_succ_self _)).trans yx;have b4:Below w1.heap.size w1 wr:=j5.trans (qb.mono (by omega));obtain⟨va,vc,rfl,_,_,_,_⟩:=za qo;have l3:(R.without (x.items.take k) text).length≤100:=j0f (List.length_filter_le _ _) (j0f (List.length_take_le' _ _) k5);clear y0 y1 y2 y3 y4 yf yx;by_cases h8:k<x.items.length
    ·obtain⟨b,off,k4,g8,g9⟩:∃b off,ia=some ⟨b,off,none⟩∧b<w3.heap.size+1∧w4.cell? ⟨b,off+k,none⟩=some (.string ⟨x.items[k].toArray⟩):=by
      obtain⟨a0,c0,e0,_,_,hh⟩:=HY.out;obtain⟨b,off,rfl,hb,_,hc⟩:=hh (by dsimp only;omega);simp only[Value.slice.injEq]at e0;exact⟨b,off,e0.1,by omega,hc k _ (by simp[S,h8])⟩
     subst k4;have qi:wr.cell? ⟨b,off+k,none⟩=some (.string ⟨x.items[k].toArray⟩):=(qb.cell (p:=⟨b,off+k,none⟩) g8).trans ((e9.cell (p:=⟨b,off+k,none⟩) (by rw[d7];exact g8)).trans g9);clear g9;have g6:Hid (R.without (x.items.take (k+1)) text=R.without (x.items.take k) text++if x.items[k]==text then []else [x.items[k]]):=by
      show _=_;rw[R.without,List.take_succ_eq_append_getElem h8,List.filter_append]
      cases hq:(x.items[k]==text)<;>simp[R.without,hq]
     cases h7:(x.items[k]==text)
     ·have e8:=JY h7
      generalize hS:wr.setCell ⟨w3.heap.size+1,1,none⟩ (.int .u8 42)=wS;have m6:w3.heap.size+1+1≤wS.heap.size:=by rw[←hS];simp;omega
      have f0:zj (fun b=>b=w3.heap.size+1) wr wS:=by rw[←hS];exact(zj.refl (fun b=>b=w3.heap.size+1) wr).setCell (p:=⟨w3.heap.size+1,1,none⟩) (.inl rfl) _
      have s4:wS.cell? ⟨w3.heap.size+1,4,none⟩=some (.slice va (R.without (x.items.take k) text).length vc):=by rw[←hS,z9 _ _ _ _ _ (by omega)];exact q4
      have s0:wS.cell? ⟨w3.heap.size+1,0,none⟩=some (.string ⟨path.toArray⟩):=by rw[←hS,z9 _ _ _ _ _ (by omega)];exact q0
      have s2:wS.cell? ⟨w3.heap.size+1,2,none⟩=some (.int .i64 0):=by rw[←hS,z9 _ _ _ _ _ (by omega)];exact q2
      have s3:wS.cell? ⟨w3.heap.size+1,3,none⟩=some (.string ⟨#[]⟩):=by rw[←hS,z9 _ _ _ _ _ (by omega)];exact q3
      have s1:wS.cell? ⟨w3.heap.size+1,1,none⟩=some (.int .u8 42):=by rw[←hS];exact zD _ _ _ _ _ q1
      have sx:=(f0.cell (p:=⟨w3.heap.size,4,none⟩) (by dsimp only;omega) (by dsimp only;omega)).trans qx;have si:=(f0.cell (p:=⟨b,off+k,none⟩) (by dsimp only;omega) (by dsimp only;omega)).trans qi;have sf:∀o,wS.frozen? ⟨w3.heap.size+1,o,none⟩=false:=fun o=>by rw[←hS,World.frozen?_setCell];exact qf o
      have so:=zh qo f0 (fun g hg e=>by have:=(qo.lt g hg).1;omega);have sb:Below (w3.heap.size+1) wY wS:=by rw[←hS];exact qb.setCell (p:=⟨w3.heap.size+1,1,none⟩) (j0a _) _
      have m8:=qf 1;have d8:Hid (∀o j u,wS.cell? ⟨w3.heap.size+1,j,none⟩=some u→(wS.alloc o).cell? ⟨w3.heap.size+1,j,none⟩=some u):=fun o j u h=>by rw[World.cell?_alloc_past _ _ _ (by omega)];exact h
      have i8:Hid (∀o j,(wS.alloc o).frozen? ⟨w3.heap.size+1,j,none⟩=false):=fun o j=>by rw[World.frozen?_alloc_past _ _ _ (by omega)];exact sf j
      have i9:Hid (∀o,Below (w3.heap.size+1) wY (wS.alloc o)):=fun o=>sb.alloc (by omega) o
      have r4:∀o,(wS.alloc o).cell? ⟨w3.heap.size+1,4,none⟩=some (.slice va (R.without (x.items.take k) text).length vc):=fun o=>by rw[World.cell?_alloc_past _ _ _ (by omega)];exact s4
      have rx:∀o,(wS.alloc o).cell? ⟨w3.heap.size,4,none⟩=some (.slice (some ⟨b,off,none⟩) x.items.length ic):=fun o=>by rw[World.cell?_alloc_past _ _ _ (by omega)];exact sx
      have rf:∀o,(wS.alloc o).frozen? ⟨w3.heap.size+1,4,none⟩=false:=fun o=>by rw[World.frozen?_alloc_past _ _ _ (by omega)];exact sf 4
      obtain⟨i0,hi,l4,l5,l6⟩:=info_parts Tryz.info9;go_wp2;go_region_law ((refine step_append_lies _ (by rfl) _ _ 45 (by rfl) (w3.heap.size+2) 9 i0 (.string ⟨#[]⟩) 1 16 Tryz.underlying45 hi l4 l5 l6 rfl (by decide) _ _ _ (by rfl) (by exact so.alloc _) ⟨wS.heap.size,0,none⟩ 1 1 [.string ⟨x.items[k].toArray⟩] (by rfl) rfl (by exact zE wS #[.string ⟨x.items[k].toArray⟩] 9) (by intro u hu;simp at hu;subst hu;rfl) (by decide) (by unfold maxLen;omega) (by omega) (by simp;omega) (wS.heap.size+1) (by simp) ?_;intro gg cc w8 h9 b6 j6 k7;have c8:w8.cell? ⟨w3.heap.size+1,4,none⟩=some (.slice va (R.without (x.items.take k) text).length vc):=b6.cell (by exact r4 _) (fun e=>by have:=(so.lt _ e.symm).1;dsimp only at this;omega);have f8:∀o,w8.frozen? ⟨w3.heap.size+1,o,none⟩=false:=fun o=>(World.frozen?_of_block (a:=⟨w3.heap.size+1,o,none⟩) (b6.block (w3.heap.size+1) (by simp;omega) (fun e=>by have:=(so.lt _ e.symm).1;omega))).trans (by exact i8.out _ o);have l8:=f8 4;have e0:=b6.cell (a:=⟨w3.heap.size+1,0,none⟩) (by exact d8.out _ 0 _ s0) (fun e=>by have:=(so.lt _ e.symm).1;dsimp only at this;omega);have e1:=b6.cell (a:=⟨w3.heap.size+1,1,none⟩) (by exact d8.out _ 1 _ s1) (fun e=>by have:=(so.lt _ e.symm).1;dsimp only at this;omega);have e2:=b6.cell (a:=⟨w3.heap.size+1,2,none⟩) (by exact d8.out _ 2 _ s2) (fun e=>by have:=(so.lt _ e.symm).1;dsimp only at this;omega);have e3:=b6.cell (a:=⟨w3.heap.size+1,3,none⟩) (by exact d8.out _ 3 _ s3) (fun e=>by have:=(so.lt _ e.symm).1;dsimp only at this;omega);have b8:Below (w3.heap.size+1) wY w8:=Below.grown (by exact(i9.out _).drew) b6 (by simp;omega) (fun j hj=>by have:=(so.lt j hj).1;omega)))
      all_goals
       go_wp2;go_roundw
       case rel=>
        have e:R.without (x.items.take (k+1)) text=R.without (x.items.take k) text++ [x.items[k]]:=by rw[g6.out,e8.out];simp
        refine⟨k+1,_,by omega,by go_num,zD _ _ _ _ _ c8,?_,?_,?_,?_,?_,?_,?_⟩
        ·rw[e,List.length_append,List.map_append]
         exact zh h9 ((zj.refl (fun b=>b=w3.heap.size+1) w8).setCell (p:=⟨w3.heap.size+1,4,none⟩) (.inl rfl) _) (fun g hg e=>by have:=(h9.lt g hg).1;omega)
        ·rw[z9 _ _ _ _ _ (by omega),e1,e,if_neg (by simp)]
        ·rw[z9 _ _ _ _ _ (by omega)];exact e0
        ·rw[z9 _ _ _ _ _ (by omega)];exact e2
        ·rw[z9 _ _ _ _ _ (by omega)];exact e3
        ·intro o;rw[World.frozen?_setCell];exact f8 o
        ·exact b8.setCell (p:=⟨w3.heap.size+1,4,none⟩) (j0a _) _
       case measure=>simp[intOf];omega
     ·have e8:=JY h7
      go_wp2;go_roundw
      case rel=>
       have e:R.without (x.items.take (k+1)) text=R.without (x.items.take k) text:=by rw[g6.out,e8.out];simp
       rw[←e]at q4 qo q1;exact⟨k+1,_,by omega,by go_num,q4,qo,q1,q0,q2,q3,qf,qb⟩
      case measure=>simp[intOf];omega
    ·have HW:Hid (R.without (x.items.take k) text=R.without x.items text):=by show _=_;rw[List.take_of_length_le (by omega)]
     rw[HW.out]at q4 qo q1 l3;obtain⟨kd,g5⟩:∃kd:Int,Hid ((if R.without x.items text=[]then(0:Int)else 42)=kd):=⟨_,rfl⟩
     rw[g5.out]at q1;have g1:Hid (R.change st 45 a4 path n text=(0,R.setWork st i (R.set t {path:=path,kind:=kd,n:=0,text:=[],items:=R.without x.items text}))):=by show _=_;rw[HE.out,g5.out]
     have f6:It wr M ({path:=path,kind:=kd,n:=0,text:=[],items:=R.without x.items text},.slice va (R.without x.items text).length vc):=Rd.of_owns qo (fun b hb=>by have:=hM b hb;omega);have f7:∀W,Below wr.heap.size wr W→Calls Tryz.prog 170 #[.slice ta t.length a5,.agg #[.string ⟨path.toArray⟩,.int .u8 kd,.int .i64 0,.string ⟨#[]⟩,.slice va (R.without x.items text).length vc]] W fun e w' =>∃v',e= .returned v' ∧Tr w' M v' (R.set t {path:=path,kind:=kd,n:=0,text:=[],items:=R.without x.items text})∧Below W.heap.size W w' :=fun W hW=>
      Jz (.slice ta t.length a5) t {path:=path,kind:=kd,n:=0,text:=[],items:=R.without x.items text} (.slice va (R.without x.items text).length vc) W M ((d3.below b4).below hW) (Rd.below f6 hW) (fun b hb=>j0b (hM b hb) (j0f b4.size hW.size)) k8 (by dsimp only;omega) (by omega)
     have zB:=g2.out wr b4;have zg:=g3.out wr b4;have zf:=g4.out wr b4;have m5:=b4.size;clear HE;go_wp2;go_region_with ((go_at_call 170;refine(f7 _ (j0g _ _).drew).mono ?_;rintro e w5 ⟨v5,rfl,d6,f4⟩;have d9:Below w1.heap.size w1 w5:=b4.drew.trans (f4.mono (by simp;omega));have m1:=g2.out w5 d9;have m2:=g3.out w5 d9;have m3:=g4.out w5 d9;obtain⟨va,vc,rfl⟩:=XJ d6))
     all_goals go_wp2
     all_goals go_ret
     all_goals exact⟨zq (by rw[g1.out]),by rw[g1.out];exact j0.out _ _ _ d9 d6⟩
