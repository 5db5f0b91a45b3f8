import Derived.Test.YtolgebdmffcemaaGreatDoorQ25
import Derived.Lib.MinMaxS
set_option linter.all false
set_option maxHeartbeats 20000000
set_option maxRecDepth 1000000
namespace Go.Proofs.YtolgebdmffcemaaGreatDoor
open Go.RowKit
theorem uZ (x:R.Leaf)(iv:Value)(s:List UInt8)(w:World)(M:Nat→Prop)(hM:∀b,M b→b<w.heap.size)(h:It w M (x,iv))(hl:x.items.length≤100)(a0:Z6 x.items)(hk:x=R.none x.path∨x=Zw x x.items):
  Calls Tryz.prog 99 #[.agg #[.int .i64 (pk x),.int .i64 x.n,.string ⟨x.text.toArray⟩,iv],.string ⟨s.toArray⟩] w fun e w' =>∃ia ic,e= .returned (.agg #[.int .i64 3,.int .i64 0,.string ⟨#[]⟩,.slice ia (R.item x.items s).length ic])∧It w' M (Zw x (R.item x.items s),.slice ia (R.item x.items s).length ic)∧Below w.heap.size w w' :=by
 obtain⟨ia,ic,b9,h1,h2,h3⟩:=h;dsimp only at b9 h1 h2 h3;subst b9;have a5:It w M (x,.slice ia x.items.length ic):=⟨ia,ic,rfl,h1,h2,h3⟩
 have a7:=fun W (hW:Below w.heap.size w W)=>x4 (.slice ia x.items.length ic) x.items s W M (Rd.below a5 hW) (by omega) a0 (a0.mono s)
 have b1:=fun W (hW:Below w.heap.size w W)=>un (.slice ia x.items.length ic) x.items W M (Rd.below a5 hW) (by omega)
 cases a1:(x.items.any fun y=>y==s)
 ·have HI:Hid (R.item x.items s=x.items.take (qS x.items s)++s::x.items.drop (qS x.items s)):=Xm a0 s a1
  have d7:qS x.items s≤x.items.length:=List.findIdx_le_length;rw[a1]at a7;clear h1 h2 h3 a0 hk;generalize qS x.items s=p at*;go_enter Tryz.func99,Tryz.ntmps99;go_wp2_with fail
  refine(a7 _ (((j0g _ _).alloc (j0a _) _).alloc (by simp) _)).mono ?_;rintro e w1 ⟨rfl,b6⟩;subst b6;go_wp2_with fail
  refine(b1 _ (((j0g _ _).alloc (j0a _) _).alloc (by simp) _)).mono ?_;rintro e w2 ⟨v2,rfl,ho,a4⟩;have e1:w.heap.size+2≤w2.heap.size:=by have:=a4.size;simpa using this
  have x0:w2.cell? ⟨w.heap.size+1,0,none⟩=some (.int .i64 0):=by rw[a4.cell (p:=⟨w.heap.size+1,0,none⟩) (by simp)];simp
  have x1:w2.cell? ⟨w.heap.size+1,1,none⟩=some (.int .i64 0):=by rw[a4.cell (p:=⟨w.heap.size+1,1,none⟩) (by simp)];simp
  have x2:w2.cell? ⟨w.heap.size+1,2,none⟩=some (.string ⟨#[]⟩):=by rw[a4.cell (p:=⟨w.heap.size+1,2,none⟩) (by simp)];simp
  have x3:w2.cell? ⟨w.heap.size+1,3,none⟩=some (.slice none 0 0):=by rw[a4.cell (p:=⟨w.heap.size+1,3,none⟩) (by simp)];simp
  have fz:∀j,w2.frozen? ⟨w.heap.size+1,j,none⟩=false:=fun j=>by rw[a4.frozen (p:=⟨w.heap.size+1,j,none⟩) (by simp)];simp
  have b7:Hid (Below w.heap.size w w2):=(((j0g _ _).alloc (j0a _) _).alloc (by simp) _).trans (a4.mono (by simp;omega));have b3 :w2.ownsRow (w.heap.size+2) 9 1 v2 x.items.length (x.items.map S):=by simpa using ho
  have a6:=fun W (hW:Below w2.heap.size w2 W) vb (d8:W.heap[vb]? =some (.cells #[.string ⟨s.toArray⟩] 9 (0,0))) (d6:v2.ownBlock≠some vb)=>Oi c_ v2 x.items.length p vb (w.heap.size+2) (x.items.map S) #[.string ⟨s.toArray⟩] W (Zi b3 hW) (by have:=hW.size;omega) d7 (by omega) d8 rfl d6 (fx _) (by intro u hu;simp at hu;subst hu;rfl)
  have a9:Hid (∀g,v2.ownBlock=some g→w.heap.size+2≤g∧g<w2.heap.size):=b3.lt;clear a4 ho b3 a5 b1 a7;go_wp2_with fail
  refine(a6 _ ((j0g _ _).alloc (j0a _) _) w2.heap.size (heap_alloc_new w2 _) (fun e=>by have:=a9.out _ e;omega)).mono ?_;rintro e w3 ⟨v3,rfl,b4,b0,_⟩;have e3:w2.heap.size+1≤w3.heap.size:=by have:=b0.size;simpa using this
  have a2:w3.heap[w.heap.size+1]? =w2.heap[w.heap.size+1]? :=by
   rw[b0.block _ (by simp;omega) (fun e=>by have:=a9.out _ e.symm;omega)];exact heap_alloc_old w2 _ (by omega)
  have y0:=(World.cell?_of_block (a:=⟨w.heap.size+1,0,none⟩) a2).trans x0;have y1:=(World.cell?_of_block (a:=⟨w.heap.size+1,1,none⟩) a2).trans x1;have y2:=(World.cell?_of_block (a:=⟨w.heap.size+1,2,none⟩) a2).trans x2;have y3:=(World.cell?_of_block (a:=⟨w.heap.size+1,3,none⟩) a2).trans x3;have f0:=(World.frozen?_of_block (a:=⟨w.heap.size+1,0,none⟩) a2).trans (fz 0);have f1:=(World.frozen?_of_block (a:=⟨w.heap.size+1,1,none⟩) a2).trans (fz 1);have f2:=(World.frozen?_of_block (a:=⟨w.heap.size+1,2,none⟩) a2).trans (fz 2);have f3:=(World.frozen?_of_block (a:=⟨w.heap.size+1,3,none⟩) a2).trans (fz 3);have d3:Hid (Below w.heap.size w w3):=(b7.out.alloc (by omega) _).grown b0 (by simp;omega) (fun k hk=>by have:=a9.out k hk;omega);have a8:(R.item x.items s).length=x.items.length+1:=by
   rw[HI.out];simp only[List.length_append,List.length_take,List.length_cons,List.length_drop];omega
  have b8:Hid (w3.ownsRow (w.heap.size+2) 9 1 v3 (R.item x.items s).length ((R.item x.items s).map S)):=by
   show w3.ownsRow _ _ _ _ _ _;rw[a8,HI.out];simpa[S,List.map_take,List.map_drop]using b4
  have b2:v3.ownBlock≠some (w.heap.size+1):=fun e=>by have:=(b4.lt _ e).1;omega
  obtain⟨a3,c3,c9,_,_,_,_⟩:=zn b8.out;have d9:=z8 c9;subst c9;clear a2 x0 x1 x2 x3 fz b0 b4 a6 a8 a1 b7 a9;go_wp2;obtain⟨z0,z1,z2,z3⟩:=vP w3 (w.heap.size+1) (.int .i64 3) (.int .i64 0) (.string ⟨#[]⟩) (.slice a3 (R.item x.items s).length c3) _ _ _ _ y0 y1 y2 y3;have hK:zh (fun k=>k=w.heap.size+1) w3 ((((w3.setCell ⟨w.heap.size+1,0,none⟩ (.int .i64 3)).setCell ⟨w.heap.size+1,1,none⟩ (.int .i64 0)).setCell ⟨w.heap.size+1,2,none⟩ (.string ⟨#[]⟩)).setCell ⟨w.heap.size+1,3,none⟩ (.slice a3 (R.item x.items s).length c3)):=
   ((((zh.refl (fun k=>k=w.heap.size+1) w3).setCell (p:=⟨w.heap.size+1,0,none⟩) (.inl rfl) _).setCell (p:=⟨w.heap.size+1,1,none⟩) (.inl rfl) _).setCell (p:=⟨w.heap.size+1,2,none⟩) (.inl rfl) _).setCell (p:=⟨w.heap.size+1,3,none⟩) (.inl rfl) _
  have d5:Below w.heap.size w ((((w3.setCell ⟨w.heap.size+1,0,none⟩ (.int .i64 3)).setCell ⟨w.heap.size+1,1,none⟩ (.int .i64 0)).setCell ⟨w.heap.size+1,2,none⟩ (.string ⟨#[]⟩)).setCell ⟨w.heap.size+1,3,none⟩ (.slice a3 (R.item x.items s).length c3)):=
   (((d3.out.setCell (p:=⟨w.heap.size+1,0,none⟩) (Nat.le_succ _) _).setCell (p:=⟨w.heap.size+1,1,none⟩) (Nat.le_succ _) _).setCell (p:=⟨w.heap.size+1,2,none⟩) (Nat.le_succ _) _).setCell (p:=⟨w.heap.size+1,3,none⟩) (Nat.le_succ _) _
  generalize((((w3.setCell ⟨w.heap.size+1,0,none⟩ (.int .i64 3)).setCell ⟨w.heap.size+1,1,none⟩ (.int .i64 0)).setCell ⟨w.heap.size+1,2,none⟩ (.string ⟨#[]⟩)).setCell ⟨w.heap.size+1,3,none⟩ (.slice a3 (R.item x.items s).length c3))=w9 at*;have b5:=zp b8.out hK (fun g e e2=>b2 (by rw[e,e2]));exact bodyPost_ret (v:= .agg #[.int .i64 3,.int .i64 0,.string ⟨#[]⟩,.slice a3 (R.item x.items s).length c3]) (by simp[results,Tryz.results99,go_sem,z0,z1,z2,z3]) rfl ⟨a3,c3,rfl,Rd.of_owns b5 (fun b hb=>by have:=hM b hb;omega),d5⟩
 ·have hx:x=Zw x x.items:=by
   rcases hk with hk|hk
   ·rw[hk]at a1;simp[R.none]at a1
   ·exact hk
  have c7:pk x=3:=by rw[hx];rfl
  have c6:x.n=0:=by rw[hx];rfl
  have c8:x.text=[]:=by rw[hx];rfl
  rw[Xn a0 s a1,c7,c6,c8];rw[hx]at a5;rw[a1]at a7;have d4:Hid (It w M (Zw x x.items,.slice ia x.items.length ic)):=a5;clear h1 h2 h3 a0 hk hx c7 c6 c8 a5 a1 b1;generalize qS x.items s=p at*;generalize x.items.length=n at*;go_enter Tryz.func99,Tryz.ntmps99;go_wp2_with fail
  refine(a7 _ (((j0g _ _).alloc (j0a _) _).alloc (by simp) _)).mono ?_;rintro e w1 ⟨rfl,b6⟩;subst b6;go_wp2;have HB:Below w.heap.size w ((w.alloc (Obj.cells #[.int .i64 3,.int .i64 0,.string ⟨#[]⟩,.slice ia n ic] 137)).alloc (Obj.cells #[.int .i64 3,.int .i64 0,.string ⟨#[]⟩,.slice ia n ic] 137)):=((j0g _ _).alloc (j0a _) _).alloc (by simp) _;exact bodyPost_ret (v:= .agg #[.int .i64 3,.int .i64 0,.string ⟨#[]⟩,.slice ia n ic]) (by simp[results,Tryz.results99,go_sem]) rfl ⟨ia,ic,rfl,Rd.below d4.out HB,HB⟩
theorem Z2 {w w1:World}{n:Nat}(B:Nat)(h:Below n w w1)(hB:n≤B)(a b c d:Value):Below n w ((((w1.setCell ⟨B,0,none⟩ a).setCell ⟨B,1,none⟩ b).setCell ⟨B,2,none⟩ c).setCell ⟨B,3,none⟩ d):=
 (((h.setCell (p:=⟨B,0,none⟩) hB _).setCell (p:=⟨B,1,none⟩) hB _).setCell (p:=⟨B,2,none⟩) hB _).setCell (p:=⟨B,3,none⟩) hB _
theorem kI (k1 k2 k3 n1 n2 n3:Int)(t1 t2 t3 p:List UInt8)(a1 a2 a3:Option Addr)(l1 l2 l3 c1 c2 c3:Nat)(w:World)(h1:n1≤1000000000∧ -1000000000≤n1)(h2:n2≤1000000000∧ -1000000000≤n2)(h3:n3≤1000000000∧ -1000000000≤n3):
  Calls Tryz.prog 185 #[.agg #[.int .i64 k1,.int .i64 n1,.string ⟨t1.toArray⟩,.slice a1 l1 c1],.agg #[.int .i64 k2,.int .i64 n2,.string ⟨t2.toArray⟩,.slice a2 l2 c2],.agg #[.int .i64 k3,.int .i64 n3,.string ⟨t3.toArray⟩,.slice a3 l3 c3]] w fun e w' =>
   e= .returned (.tuple #[.agg #[.int .i64 (pk (R.counterJ p (n2+n3-n1)).1),.int .i64 (R.counterJ p (n2+n3-n1)).1.n,.string ⟨#[]⟩,.slice none 0 0],.int .i64 (R.counterJ p (n2+n3-n1)).2])∧Below w.heap.size w w' :=by
 obtain⟨h1,a0⟩:=h1;obtain⟨h2,a4⟩:=h2;obtain⟨h3,a5⟩:=h3;have four:∀o1 o2 o3 o4:Obj,Below w.heap.size w ((((w.alloc o1).alloc o2).alloc o3).alloc o4):=fun o1 o2 o3 o4=>((((j0g _ _).alloc (j0a _) _).alloc (by simp) _).alloc (by simp;omega) _).alloc (by simp;omega) _
 have H4:=z8 four;clear four;by_cases hb:1000000000<n2+n3-n1∨n2+n3-n1< -1000000000
 ·have e0:R.counterJ p (n2+n3-n1)=(R.none [],8):=by unfold R.counterJ R.bad;rw[if_pos hb]
  rw[e0];clear e0;rcases hb with hb|hb
  all_goals
   go_enter Tryz.func185,Tryz.ntmps185;go_wp2;exact bodyPost_ret (v:= .tuple #[.agg #[.int .i64 0,.int .i64 0,.string ⟨#[]⟩,.slice none 0 0],.int .i64 8]) (by simp[results,Tryz.results185,go_sem]) rfl ⟨rfl,H4.out _ _ _ _⟩
 ·have e0:R.counterJ p (n2+n3-n1)=({path:=p,kind:=35,n:=n2+n3-n1,text:=[],items:=[]},0):=by unfold R.counterJ;rw[if_neg hb]
  rw[e0];clear e0;have a6:n2+n3-n1≤1000000000:=by omega
  have a7: -1000000000≤n2+n3-n1:=by omega
  clear hb;go_enter Tryz.func185,Tryz.ntmps185;go_wp2;exact bodyPost_ret (v:= .tuple #[.agg #[.int .i64 1,.int .i64 (n2+n3-n1),.string ⟨#[]⟩,.slice none 0 0],.int .i64 0]) (by simp[results,Tryz.results185,go_sem]) rfl ⟨rfl,H4.out _ _ _ _⟩
def Yb (l:List (List UInt8)):R.Leaf:={path:=[],kind:=if l=[]then 0 else 42,n:=0,text:=[],items:=l}
theorem gW (l:List (List UInt8)):Yb l=R.none (Yb l).path∨Yb l=Zw (Yb l) (Yb l).items:=by
 by_cases h:l=[]
 ·subst h;exact .inl rfl
 ·right;simp[Yb,Zw,h]
theorem Jl (l:List (List UInt8))(h:l≠ []):pk (Yb l)=3:=by simp[pk,Yb,h]
theorem OkL.full {y:R.Leaf}(h:OkL y)(hk:y.kind=42):y.items≠ []:=by
 rcases h.kind with h|h|h
 ·rw[hk]at h;simp at h
 ·rw[hk]at h;simp at h
 ·exact h.2.2.2
structure VB (w:World)(B:Nat)(k n:Int)(t:List UInt8)(iv:Value):Prop where
 c0:w.cell? ⟨B,0,none⟩=some (.int .i64 k)
 c1:w.cell? ⟨B,1,none⟩=some (.int .i64 n)
 c2:w.cell? ⟨B,2,none⟩=some (.string ⟨t.toArray⟩)
 c3:w.cell? ⟨B,3,none⟩=some iv
theorem VB.kept {w w' :World}{Z:Nat→Prop}{B:Nat}{k n:Int}{t:List UInt8}{iv:Value}(h:VB w B k n t iv)(hk:zh Z w w')(hB:B<w.heap.size)(hZ:¬Z B):VB w' B k n t iv:=
 ⟨by rw[hk.cell (p:=⟨B,0,none⟩) hB hZ];exact h.c0,by rw[hk.cell (p:=⟨B,1,none⟩) hB hZ];exact h.c1,by rw[hk.cell (p:=⟨B,2,none⟩) hB hZ];exact h.c2,by rw[hk.cell (p:=⟨B,3,none⟩) hB hZ];exact h.c3⟩
theorem VB.below {w w' :World}{m B:Nat}{k n:Int}{t:List UInt8}{iv:Value}(h:VB w B k n t iv)(hb:Below m w w')(hB:B<m):VB w' B k n t iv:=
 ⟨by rw[hb.cell (p:=⟨B,0,none⟩) hB];exact h.c0,by rw[hb.cell (p:=⟨B,1,none⟩) hB];exact h.c1,by rw[hb.cell (p:=⟨B,2,none⟩) hB];exact h.c2,by rw[hb.cell (p:=⟨B,3,none⟩) hB];exact h.c3⟩
theorem VB.four {w:World}{B:Nat}{k n:Int}{t:List UInt8}{iv:Value}(h:VB w B k n t iv)(k' n' :Int)(t' :List UInt8)(a0 :Value):VB ((((w.setCell ⟨B,0,none⟩ (.int .i64 k')).setCell ⟨B,1,none⟩ (.int .i64 n')).setCell ⟨B,2,none⟩ (.string ⟨t'.toArray⟩)).setCell ⟨B,3,none⟩ a0) B k' n' t' a0 :=by
 have n1:∀{a b:Nat},a≠b→(⟨B,a,none⟩:Addr)≠⟨B,b,none⟩:=fun h e=>h (by injection e)
 refine⟨?_,?_,?_,?_⟩
 ·rw[World.cell?_setCell_other _ _ _ _ (n1 (by decide)),World.cell?_setCell_other _ _ _ _ (n1 (by decide)),World.cell?_setCell_other _ _ _ _ (n1 (by decide))];exact World.cell?_setCell_same _ _ _ h.c0
 ·rw[World.cell?_setCell_other _ _ _ _ (n1 (by decide)),World.cell?_setCell_other _ _ _ _ (n1 (by decide))];exact World.cell?_setCell_same _ _ _ (by rw[World.cell?_setCell_other _ _ _ _ (n1 (by decide))];exact h.c1)
 ·rw[World.cell?_setCell_other _ _ _ _ (n1 (by decide))];exact World.cell?_setCell_same _ _ _ (by rw[World.cell?_setCell_other _ _ _ _ (n1 (by decide)),World.cell?_setCell_other _ _ _ _ (n1 (by decide))];exact h.c2)
 ·exact World.cell?_setCell_same _ _ _ (by rw[World.cell?_setCell_other _ _ _ _ (n1 (by decide)),World.cell?_setCell_other _ _ _ _ (n1 (by decide)),World.cell?_setCell_other _ _ _ _ (n1 (by decide))];exact h.c3)
theorem zh.four {Z:Nat→Prop}{a w:World}(h:zh Z a w){B:Nat}(hB:Z B∨a.heap.size≤B)(u0 u1 u2 u3:Value):zh Z a ((((w.setCell ⟨B,0,none⟩ u0).setCell ⟨B,1,none⟩ u1).setCell ⟨B,2,none⟩ u2).setCell ⟨B,3,none⟩ u3):=
 (((h.setCell (p:=⟨B,0,none⟩) hB _).setCell (p:=⟨B,1,none⟩) hB _).setCell (p:=⟨B,2,none⟩) hB _).setCell (p:=⟨B,3,none⟩) hB _
theorem Ud (x y z:R.Leaf)(xa ya za:Option Addr)(xc yc zc:Nat)(p:List UInt8)(w:World)(M:Nat→Prop)(hM:∀b,M b→b<w.heap.size)(hx:VO p x)(hy:OkL y∧y.kind=42)(hz:OkL z∧z.kind=42)
  (ix:It w M (x,.slice xa x.items.length xc))(iy:It w M (y,.slice ya y.items.length yc))(iz:It w M (z,.slice za z.items.length zc)):
  Calls Tryz.prog 186 #[.agg #[.int .i64 (pk x),.int .i64 x.n,.string ⟨x.text.toArray⟩,.slice xa x.items.length xc],.agg #[.int .i64 (pk y),.int .i64 y.n,.string ⟨y.text.toArray⟩,.slice ya y.items.length yc],.agg #[.int .i64 (pk z),.int .i64 z.n,.string ⟨z.text.toArray⟩,.slice za z.items.length zc]] w fun e w' =>
   ∃ia ic,e= .returned (.tuple #[.agg #[.int .i64 (pk (R.bagV p (R.bagJ x.items y.items z.items)).1),.int .i64 0,.string ⟨#[]⟩,.slice ia (R.bagV p (R.bagJ x.items y.items z.items)).1.items.length ic],.int .i64 (R.bagV p (R.bagJ x.items y.items z.items)).2])∧
    It w' M ((R.bagV p (R.bagJ x.items y.items z.items)).1,.slice ia (R.bagV p (R.bagJ x.items y.items z.items)).1.items.length ic)∧Below w.heap.size w w' :=by
 have j6:y.items≠ []:=hy.1.full hy.2;have j7:z.items≠ []:=hz.1.full hz.2;have m3:=hy.1.many;have m6:=hz.1.many;have h4:0<y.items.length:=List.length_pos_iff.2 j6;have h7:0<z.items.length:=List.length_pos_iff.2 j7;have j0:=fun W s (hW:Below w.heap.size w W)=>VA x (.slice xa x.items.length xc) s W M (Rd.below ix hW) (by have:=hx.few;omega) hx.sort
 have j1:=fun W s (hW:Below w.heap.size w W)=>VA y (.slice ya y.items.length yc) s W M (Rd.below iy hW) (by omega) hy.1.sort
 have j2:=fun W s (hW:Below w.heap.size w W)=>VA z (.slice za z.items.length zc) s W M (Rd.below iz hW) (by omega) hz.1.sort
 have j5:∀(W:World) (M:Nat→Prop) (l:List (List UInt8)) (ia:Option Addr) (ic:Nat) (s:List UInt8),(∀b,M b→b<W.heap.size)→It W M (Yb l,.slice ia l.length ic)→l.length≤100→Z6 l→
   Calls Tryz.prog 99 #[.agg #[.int .i64 (pk (Yb l)),.int .i64 0,.string ⟨#[]⟩,.slice ia l.length ic],.string ⟨s.toArray⟩] W fun e w' =>∃ia ic,e= .returned (.agg #[.int .i64 3,.int .i64 0,.string ⟨#[]⟩,.slice ia (R.item l s).length ic])∧It w' M (Yb (R.item l s),.slice ia (R.item l s).length ic)∧Below W.heap.size W w' :=
  fun W M l ia ic s hM l9 hl d9=>uZ (Yb l) (.slice ia l.length ic) s W M hM l9 hl d9 (gW l)
 have i8:∀(W:World) (b0:Nat),Below w.heap.size w W→W.cell? ⟨b0,0,none⟩=some (.slice ya y.items.length yc)→W.cell? ⟨b0,1,none⟩=some (.slice za z.items.length zc)→b0<W.heap.size→
   Calls Tryz.prog 223 #[.slice (some ⟨b0,0,none⟩) 2 2] W fun e w' =>∃v',e= .returned v' ∧w'.ownsRow W.heap.size 9 1 v' (y.items++z.items).length ((y.items++z.items).map S)∧Below W.heap.size W w' :=by
  intro W b0 hW h0 h1 l5;obtain⟨o3,o4,m4,n4,n5,m2⟩:=Rd.below iy hW;obtain⟨o5,o6,m7,n7,n8,m5⟩:=Rd.below iz hW;injection m4 with e1 e2 e3
  injection m7 with f1 f2 f3
  subst e1 f1;obtain⟨yb,yo,rfl,n6⟩:=m2 h4;obtain⟨zb,zo,rfl,n9⟩:=m5 h7;have hT:yX [y.items,z.items] [y.items,z.items].length=y.items.length+z.items.length:=by simp[yX]
  have:=Gl b0 2 [y.items,z.items] [] W M (by simp) (fun j hj=>by
   match j,hj with
   |0,_=>exact⟨_,_,h0,Rd.below iy hW,h4⟩
   |1,_=>exact⟨_,_,h1,Rd.below iz hW,h7⟩) (by rw[hT];omega) (by rw[hT];omega) l5
  simpa using this
 have hJ:R.bagJ x.items y.items z.items=Za (fun s=>(R.inL y.items s&&R.inL z.items s)|| !R.inL x.items s) [] (y.items++z.items):=fq hy.1.item hz.1.item;have d4:∀i∈y.items++z.items,R.isText i=true∧i≠ []:=fun i hi=>by
  rcases List.mem_append.1 hi with h|h
  ·exact hy.1.item i h
  ·exact hz.1.item i h
 have a4:Hid (∀k,OkI (Za (fun s=>(R.inL y.items s&&R.inL z.items s)|| !R.inL x.items s) [] ((y.items++z.items).take k))∧(Za (fun s=>(R.inL y.items s&&R.inL z.items s)|| !R.inL x.items s) [] ((y.items++z.items).take k)).length≤16):=fun k=>by
  refine⟨qj _ _ _ OkI.nil fun i hi=>d4 i (List.mem_of_mem_take hi),?_⟩;have:=jv (fun s=>(R.inL y.items s&&R.inL z.items s)|| !R.inL x.items s) ((y.items++z.items).take k) [];simp only[List.length_nil,List.length_take,List.length_append]at this;omega
 have f6:Hid (∀k (h:k<(y.items++z.items).length),Za (fun s=>(R.inL y.items s&&R.inL z.items s)|| !R.inL x.items s) [] ((y.items++z.items).take (k+1))=if((R.inL y.items (y.items++z.items)[k]&&R.inL z.items (y.items++z.items)[k])|| !R.inL x.items (y.items++z.items)[k])then R.item (Za (fun s=>(R.inL y.items s&&R.inL z.items s)|| !R.inL x.items s) [] ((y.items++z.items).take k)) (y.items++z.items)[k]else Za (fun s=>(R.inL y.items s&&R.inL z.items s)|| !R.inL x.items s) [] ((y.items++z.items).take k)):=fun k h=>by
  rw[List.take_succ_eq_append_getElem h,oq]
 have a9:Hid (R.bagJ x.items y.items z.items=Za (fun s=>(R.inL y.items s&&R.inL z.items s)|| !R.inL x.items s) [] ((y.items++z.items).take (y.items++z.items).length)):=by
  show _=_;rw[List.take_length];exact hJ
 generalize b7:(fun k=>Za (fun s=>(R.inL y.items s&&R.inL z.items s)|| !R.inL x.items s) [] ((y.items++z.items).take k))=acc;have i7:∀k,Za (fun s=>(R.inL y.items s&&R.inL z.items s)|| !R.inL x.items s) [] ((y.items++z.items).take k)=acc k:=fun k=>by rw[←b7]
 have i6:acc 0=[]:=by rw[←b7];rfl
 simp only[i7]at a4 f6 a9;have d7:∀(W:World) (M:Nat→Prop),It W M (Yb [],.slice none 0 0):=fun W M=>⟨none,0,rfl,j0a _,by unfold maxLen;omega,fun h=>absurd h (Nat.lt_irrefl _)⟩
 have b5:=z8 d7;have i2:=z8 j0;have k4:=z8 j1;have k5:=z8 j2;have g9:=z8 j5;have k6:(y.items++z.items).length≤16:=by rw[List.length_append];omega
 clear j0 j1 j2 j5 d7 hJ d4 b7 i7 hx hy hz ix iy iz j6 j7 h4 h7 m3 m6;go_enter Tryz.func186,Tryz.ntmps186;go_wp2_with fail
 refine(i8 _ _ ((((((((j0g _ _).alloc (j0a _) _).alloc (by simp) _).alloc (by simp;omega) _).alloc (by simp;omega) _).alloc (by simp;omega) _).alloc (by simp;omega) _)) (by simp[go_sem]) (by simp[go_sem]) (by simp)).mono ?_;rintro e w1 ⟨v1,rfl,f8,a7⟩;have j4:=a7.size;simp only[World.size_alloc]at j4 f8;have VX:VB w1 w.heap.size (pk x) x.n x.text (.slice xa x.items.length xc):=by
  refine VB.below ?_ a7 (by simp only[World.size_alloc];omega);exact⟨by simp[go_sem],by simp[go_sem],by simp[go_sem],by simp[go_sem]⟩
 have VY:VB w1 (w.heap.size+1) (pk y) y.n y.text (.slice ya y.items.length yc):=by
  refine VB.below ?_ a7 (by simp only[World.size_alloc];omega);exact⟨by simp[go_sem],by simp[go_sem],by simp[go_sem],by simp[go_sem]⟩
 have VZ:VB w1 (w.heap.size+1+1) (pk z) z.n z.text (.slice za z.items.length zc):=by
  refine VB.below ?_ a7 (by simp only[World.size_alloc];omega);exact⟨by simp[go_sem],by simp[go_sem],by simp[go_sem],by simp[go_sem]⟩
 have VR:VB w1 (w.heap.size+1+1+1) 0 0 [] (.slice none 0 0):=by
  refine VB.below ?_ a7 (by simp only[World.size_alloc];omega);exact⟨by simp[go_sem],by simp[go_sem],by simp[go_sem],by simp[go_sem]⟩
 have FR:Hid (∀j,w1.frozen? ⟨w.heap.size+1+1+1,j,none⟩=false):=fun j=>by rw[a7.frozen (p:=⟨w.heap.size+1+1+1,j,none⟩) (by simp only[World.size_alloc];omega)];simp[go_sem]
 have VV:VB w1 (w.heap.size+1+1+1+1) 0 0 [] (.slice none 0 0):=by
  refine VB.below ?_ a7 (by simp only[World.size_alloc];omega);exact⟨by simp[go_sem],by simp[go_sem],by simp[go_sem],by simp[go_sem]⟩
 have FV:Hid (∀j,w1.frozen? ⟨w.heap.size+1+1+1+1,j,none⟩=false):=fun j=>by rw[a7.frozen (p:=⟨w.heap.size+1+1+1+1,j,none⟩) (by simp only[World.size_alloc];omega)];simp[go_sem]
 have k3:Hid (Below w.heap.size w w1):=((((((((j0g _ _).alloc (j0a _) _).alloc (by simp) _).alloc (by simp;omega) _).alloc (by simp;omega) _).alloc (by simp;omega) _).alloc (by simp;omega) _)).trans (a7.mono (by simp;omega));obtain⟨a1,c1,m1,n0,m9,d8,a6⟩:=zn f8;have k7:=z8 f8;subst m1;clear a7 f8 i8;generalize k9:w.heap.size+1=B1 at*;generalize l0:B1+1=B2 at*;generalize l3:B2+1=B3 at*;generalize l4:B3+1=B4 at*;have g1:w.heap.size<B1:=by omega
 have g2:B1<B2:=by omega
 have g3:B2<B3:=by omega
 have g4:B3<B4:=by omega
 have g5:B4<w1.heap.size:=by omega
 have m8:Hid (∀g,a1=some g→B4<g.block):=fun g hg=>by
  obtain⟨g',rfl,l6,_⟩:=a6 g hg;show B4<g';omega
 clear k9 l0 l3 l4 j4 k7;have g7:=z8 a6;have b6:=z8 d8;clear a6 d8;go_wp2_with fail
 go_loopw [19] (fun i wr=>∃k ia ic,k≤(y.items++z.items).length∧i= .int .i64 (k:Nat)∧zh (fun b=>b=B4) w1 wr∧VB wr B4 (pk (Yb (acc k))) 0 [] (.slice ia (acc k).length ic)∧It wr (fun b=>M b∨b=B4∨b=B3) (Yb (acc k),.slice ia (acc k).length ic)∧∀j,wr.frozen? ⟨B4,j,none⟩=false) (fun i _=>(y.items++z.items).length-(intOf i).toNat)
 case atStart=>exact⟨0,none,0,Nat.zero_le _,rfl,zh.refl _ _,by rw[i6];exact VV,by rw[i6];exact b5.out _ _,FV.out⟩
 case round=>
  obtain⟨k,ia,ic,hk,rfl,hK,hV,hI,hF⟩:=hrel;have c8:Hid (∀W,zh (fun b=>b=B4) w1 W→Below w.heap.size w W):=fun W hK=>k3.out.trans ⟨hK.os,hK.tape,hK.output,hK.size,fun b hb=>hK.block b (by omega) (by omega)⟩
  have g6:Hid (∀W,zh (fun b=>b=B4) w1 W→∀b,M b∨b=B4∨b=B3→b<W.heap.size):=fun W hK b hb=>by
   have:=hK.size;rcases hb with hb|hb|hb
   ·have:=hM b hb;omega
   ·omega
   ·omega
  have n3:=hK.size;by_cases b8:k<(y.items++z.items).length
  ·cases a1 with
   |none=>have:=(b6.out rfl).1;omega
   |some ad=>
   obtain⟨g,rfl,l6,l8,l7,i9⟩:=g7.out ad rfl;have hs:=f6.out k b8;have e0:wr.cell? ⟨g,k,none⟩=some (.string ⟨((y.items++z.items)[k]'b8).toArray⟩):=(hK.cell (p:=⟨g,k,none⟩) l8 (by show¬g=B4;omega)).trans (i9 k _ (by rw[List.getElem?_map,j0d b8];rfl));have h2 :k<y.items.length+z.items.length:=by simpa using b8
   generalize(y.items++z.items)[k]'b8=s at*;have HS:=z8 hs;have a8:=z8 (a4.out k);have HI:=z8 hI;obtain⟨y0,y1,y2,y3⟩:=VY.kept hK (by omega) (by show¬B1=B4;omega);have i5:=z8 VX;have k8:=z8 VZ;have i4:=z8 hV;have i0:=z8 hF;have g0:=z8 hK;clear i9 l7 g7 b6 f6 a4 a9 b5 hs VX VY VZ VR VV hV hF hK hI;go_wp2_with fail
   refine(k4.out _ s (c8.out _ g0.out)).mono ?_;rintro e w2 ⟨rfl,d5⟩;have b1:Hid (zh (fun b=>b=B4) w1 w2):=g0.out.trans (zh.of_below d5);have f7:Hid (VB w2 B4 (pk (Yb (acc k))) 0 [] (.slice ia (acc k).length ic)):=i4.out.below d5 (by omega);have e9:Hid (∀j,w2.frozen? ⟨B4,j,none⟩=false):=fun j=>(d5.frozen (p:=⟨B4,j,none⟩) (by show B4<_;omega)).trans (i0.out j)
   have f4:Hid (It w2 (fun b=>M b∨b=B4∨b=B3) (Yb (acc k),.slice ia (acc k).length ic)):=Rd.below HI.out d5;clear d5 g0 i4 i0 HI y0 y1 y2 y3 e0
   cases e8:(y.items.any fun y=>y==s)
   ·obtain⟨q0,q1,q2,q3⟩:=i5.out.kept b1.out (by omega) (by show¬_=B4;omega)
    go_wp2_with fail
    refine(i2.out _ s (c8.out _ b1.out)).mono ?_;rintro e w3 ⟨rfl,a5⟩;have b9:=b1.out.size;have a3:Hid (zh (fun b=>b=B4) w1 w3):=b1.out.trans (zh.of_below a5);have b2:Hid (VB w3 B4 (pk (Yb (acc k))) 0 [] (.slice ia (acc k).length ic)):=f7.out.below a5 (by omega);have c6:Hid (∀j,w3.frozen? ⟨B4,j,none⟩=false):=fun j=>(a5.frozen (p:=⟨B4,j,none⟩) (by show B4<_;omega)).trans (e9.out j)
    have c7:Hid (It w3 (fun b=>M b∨b=B4∨b=B3) (Yb (acc k),.slice ia (acc k).length ic)):=Rd.below f4.out a5;clear a5 b9 f7 e9 f4 q0 q1 q2 q3
    cases e7:(x.items.any fun y=>y==s)
    ·have HE:Hid (acc (k+1)=R.item (acc k) s):=by show _=_;rw[HS.out];exact if_pos (by simp[R.inL,e8,e7])
     have e6:=a3.out.size;obtain⟨v0,v1,v2,v3⟩:=b2.out;go_wp2_with fail
     refine(g9.out _ _ (acc k) ia ic s (g6.out _ a3.out) c7.out (by have:=a8.out.2;omega) a8.out.1.sort).mono ?_;rintro e w9 ⟨ib,id,rfl,b4,a2⟩;have d3:Hid (zh (fun b=>b=B4) w1 w9):=a3.out.trans (zh.of_below a2);have b3:Hid (VB w9 B4 (pk (Yb (acc k))) 0 [] (.slice ia (acc k).length ic)):=b2.out.below a2 (by omega);have a0:Hid (∀j,w9.frozen? ⟨B4,j,none⟩=false):=fun j=>(a2.frozen (p:=⟨B4,j,none⟩) (by show B4<_;omega)).trans (c6.out j)
     have c9:=z8 b4;obtain⟨j8,j9,k1,k2⟩:=b3.out;have f0:=a0.out 0;have f1:=a0.out 1;have f2:=a0.out 2;have f3:=a0.out 3;clear v0 v1 v2 v3 a2 b4;go_wp2;go_roundw
     case rel=>
      refine⟨k+1,ib,id,by omega,by go_num,d3.out.four (.inl rfl) _ _ _ _,?_,?_,fun j=>by simpa using a0.out j⟩
      ·rw[HE.out,Jl _ (fun e=>by have:=qN a8.out.1 s;rw[e]at this;cases this)];exact b3.out.four 3 0 [] _
      ·rw[HE.out];exact Rd.step c9.out (zh.four (Z:=fun b=>b=B4) (zh.refl _ _) (.inl rfl) _ _ _ _) (fun b hb=> .inr (.inl hb)) (fun b hb=> .inl hb)
     case measure=>simp[intOf];omega
    ·have HE:Hid (acc (k+1)=acc k):=by show _=_;rw[HS.out];exact if_neg (by simp[R.inL,e8,e7])
     go_wp2;go_roundw
     case rel=>
      refine⟨k+1,ia,ic,by omega,by go_num,a3.out,?_,?_,c6.out⟩
      ·rw[HE.out];exact b2.out
      ·rw[HE.out];exact c7.out
     case measure=>simp[intOf];omega
   ·obtain⟨q0,q1,q2,q3⟩:=k8.out.kept b1.out (by omega) (by show¬_=B4;omega)
    go_wp2_with fail
    refine(k5.out _ s (c8.out _ b1.out)).mono ?_;rintro e w3 ⟨rfl,a5⟩;have b9:=b1.out.size;have a3:Hid (zh (fun b=>b=B4) w1 w3):=b1.out.trans (zh.of_below a5);have b2:Hid (VB w3 B4 (pk (Yb (acc k))) 0 [] (.slice ia (acc k).length ic)):=f7.out.below a5 (by omega);have c6:Hid (∀j,w3.frozen? ⟨B4,j,none⟩=false):=fun j=>(a5.frozen (p:=⟨B4,j,none⟩) (by show B4<_;omega)).trans (e9.out j)
    have c7:Hid (It w3 (fun b=>M b∨b=B4∨b=B3) (Yb (acc k),.slice ia (acc k).length ic)):=Rd.below f4.out a5;clear a5 b9 f7 e9 f4 q0 q1 q2 q3
    cases h5:(z.items.any fun y=>y==s)
    ·obtain⟨q0,q1,q2,q3⟩:=i5.out.kept a3.out (by omega) (by show¬_=B4;omega)
     go_wp2_with fail
     refine(i2.out _ s (c8.out _ a3.out)).mono ?_;rintro e w4 ⟨rfl,d6⟩;have h3:=a3.out.size;have f5:Hid (zh (fun b=>b=B4) w1 w4):=a3.out.trans (zh.of_below d6);have g8:Hid (VB w4 B4 (pk (Yb (acc k))) 0 [] (.slice ia (acc k).length ic)):=b2.out.below d6 (by omega);have i1:Hid (∀j,w4.frozen? ⟨B4,j,none⟩=false):=fun j=>(d6.frozen (p:=⟨B4,j,none⟩) (by show B4<_;omega)).trans (c6.out j)
     have i3:Hid (It w4 (fun b=>M b∨b=B4∨b=B3) (Yb (acc k),.slice ia (acc k).length ic)):=Rd.below c7.out d6;clear d6 h3 b2 c6 c7 q0 q1 q2 q3
     cases e7:(x.items.any fun y=>y==s)
     ·have HE:Hid (acc (k+1)=R.item (acc k) s):=by show _=_;rw[HS.out];exact if_pos (by simp[R.inL,e8,h5,e7])
      have e6:=f5.out.size;obtain⟨v0,v1,v2,v3⟩:=g8.out;go_wp2_with fail
      refine(g9.out _ _ (acc k) ia ic s (g6.out _ f5.out) i3.out (by have:=a8.out.2;omega) a8.out.1.sort).mono ?_;rintro e w9 ⟨ib,id,rfl,b4,a2⟩;have d3:Hid (zh (fun b=>b=B4) w1 w9):=f5.out.trans (zh.of_below a2);have b3:Hid (VB w9 B4 (pk (Yb (acc k))) 0 [] (.slice ia (acc k).length ic)):=g8.out.below a2 (by omega);have a0:Hid (∀j,w9.frozen? ⟨B4,j,none⟩=false):=fun j=>(a2.frozen (p:=⟨B4,j,none⟩) (by show B4<_;omega)).trans (i1.out j)
      have c9:=z8 b4;obtain⟨j8,j9,k1,k2⟩:=b3.out;have f0:=a0.out 0;have f1:=a0.out 1;have f2:=a0.out 2;have f3:=a0.out 3;clear v0 v1 v2 v3 a2 b4;go_wp2;go_roundw
      case rel=>
       refine⟨k+1,ib,id,by omega,by go_num,d3.out.four (.inl rfl) _ _ _ _,?_,?_,fun j=>by simpa using a0.out j⟩
       ·rw[HE.out,Jl _ (fun e=>by have:=qN a8.out.1 s;rw[e]at this;cases this)];exact b3.out.four 3 0 [] _
       ·rw[HE.out];exact Rd.step c9.out (zh.four (Z:=fun b=>b=B4) (zh.refl _ _) (.inl rfl) _ _ _ _) (fun b hb=> .inr (.inl hb)) (fun b hb=> .inl hb)
      case measure=>simp[intOf];omega
     ·have HE:Hid (acc (k+1)=acc k):=by show _=_;rw[HS.out];exact if_neg (by simp[R.inL,e8,h5,e7])
      go_wp2;go_roundw
      case rel=>
       refine⟨k+1,ia,ic,by omega,by go_num,f5.out,?_,?_,i1.out⟩
       ·rw[HE.out];exact g8.out
       ·rw[HE.out];exact i3.out
      case measure=>simp[intOf];omega
    ·have HE:Hid (acc (k+1)=R.item (acc k) s):=by show _=_;rw[HS.out];exact if_pos (by simp[R.inL,e8,h5])
     have e6:=a3.out.size;obtain⟨v0,v1,v2,v3⟩:=b2.out;go_wp2_with fail
     refine(g9.out _ _ (acc k) ia ic s (g6.out _ a3.out) c7.out (by have:=a8.out.2;omega) a8.out.1.sort).mono ?_;rintro e w9 ⟨ib,id,rfl,b4,a2⟩;have d3:Hid (zh (fun b=>b=B4) w1 w9):=a3.out.trans (zh.of_below a2);have b3:Hid (VB w9 B4 (pk (Yb (acc k))) 0 [] (.slice ia (acc k).length ic)):=b2.out.below a2 (by omega);have a0:Hid (∀j,w9.frozen? ⟨B4,j,none⟩=false):=fun j=>(a2.frozen (p:=⟨B4,j,none⟩) (by show B4<_;omega)).trans (c6.out j)
     have c9:=z8 b4;obtain⟨j8,j9,k1,k2⟩:=b3.out;have f0:=a0.out 0;have f1:=a0.out 1;have f2:=a0.out 2;have f3:=a0.out 3;clear v0 v1 v2 v3 a2 b4;go_wp2;go_roundw
     case rel=>
      refine⟨k+1,ib,id,by omega,by go_num,d3.out.four (.inl rfl) _ _ _ _,?_,?_,fun j=>by simpa using a0.out j⟩
      ·rw[HE.out,Jl _ (fun e=>by have:=qN a8.out.1 s;rw[e]at this;cases this)];exact b3.out.four 3 0 [] _
      ·rw[HE.out];exact Rd.step c9.out (zh.four (Z:=fun b=>b=B4) (zh.refl _ _) (.inl rfl) _ _ _ _) (fun b hb=> .inr (.inl hb)) (fun b hb=> .inl hb)
     case measure=>simp[intOf];omega
  ·have j3:k=(y.items++z.items).length:=by omega
   have h2 :¬k<y.items.length+z.items.length:=by simpa using b8
   have HE:Hid (R.bagJ x.items y.items z.items=acc k):=by show _=_;rw[a9.out,j3]
   obtain⟨v0,v1,v2,v3⟩:=hV;obtain⟨r0,r1,r2,r3⟩:=VR.kept hK (by omega) (by show¬_=B4;omega);have fr:=fun j=>(hK.frozen (p:=⟨B3,j,none⟩) (by show B3<_;omega) (by show¬B3=B4;omega)).trans (FR.out j)
   have f0:=fr 0;have f1:=fr 1;have f2:=fr 2;have f3:=fr 3;have HI:=z8 hI;have h9:=z8 (c8.out _ hK);have m0:=(a4.out k).2;clear j3 b8 hK hF hI g7 b6 f6 a4 a9 b5 VX VY VZ VV VR;by_cases h8:8<(acc k).length
   ·have f9:Hid (R.bagV p (R.bagJ x.items y.items z.items)=R.bad 4):=by show _=_;rw[HE.out,R.bagV,if_pos h8]
    go_wp2;refine bodyPost_ret (v:= .tuple #[.agg #[.int .i64 0,.int .i64 0,.string ⟨#[]⟩,.slice none 0 0],.int .i64 4]) (by simp[results,Tryz.results186,go_sem, *]) rfl ?_;rw[f9.out];exact⟨none,0,rfl,⟨none,0,rfl,j0a _,by unfold maxLen;omega,fun h=>absurd h (Nat.lt_irrefl _)⟩,Z2 B3 h9.out (by omega) _ _ _ _⟩
   ·have f9:Hid (R.bagV p (R.bagJ x.items y.items z.items)=({path:=p,kind:=if acc k=[]then 0 else 42,n:=0,text:=[],items:=acc k},0)):=by show _=_;rw[HE.out,R.bagV,if_neg h8]
    go_wp2;refine bodyPost_ret (v:= .tuple #[.agg #[.int .i64 (pk (Yb (acc k))),.int .i64 0,.string ⟨#[]⟩,.slice ia (acc k).length ic],.int .i64 0]) (by simp[results,Tryz.results186,go_sem, *]) rfl ?_;rw[f9.out];exact⟨ia,ic,rfl,Rd.step HI.out (zh.four (Z:=fun b=>b=B3) (zh.refl _ _) (.inl rfl) _ _ _ _) (fun b hb=> .inr (.inr hb)) (fun b hb=> .inl (.inl hb)),Z2 B3 h9.out (by omega) _ _ _ _⟩
theorem ou {p:List UInt8}{x y:R.Leaf}(hx:VO p x)(hy:VO p y)(h:pk x=pk y):x.kind=y.kind:=by
 have h1:x.kind=0∨x.kind=35∨x.kind=61∨x.kind=42:=by
  by_cases e:x.kind=0
  ·exact .inl e
  ·exact .inr (hx.ok e).kinds
 have h2:y.kind=0∨y.kind=35∨y.kind=61∨y.kind=42:=by
  by_cases e:y.kind=0
  ·exact .inl e
  ·exact .inr (hy.ok e).kinds
 unfold pk at h;rcases h1 with e|e|e|e<;>rcases h2 with e' |e' |e' |e' <;>rw[e,e']at h⊢<;>simp at h
theorem uj {p:List UInt8}{x y:R.Leaf}(hx:VO p x)(hy:VO p y):yY x y=R.same x y:=by
 rw[Bool.eq_iff_iff,Gg hx hy];constructor
 ·intro h
  obtain⟨h1,h2,h3,h4⟩:=of_decide_eq_true h;have hk:=ou hx hy h1;have hp:x.path=y.path:=by rw[hx.path,hy.path]
  obtain⟨p1,k,n,t,it⟩:=x;obtain⟨p2,k',n',t',a0⟩:=y;simp only at hp h2 h3 h4 hk;subst hp h2 h3 h4 hk;rfl
 ·intro h
  subst h;simp[yY]
theorem cf {x:R.Leaf}(k:Int)(h:x.kind=k):pk x=if k=35 then 1 else if k=61 then 2 else if k=42 then 3 else 0:=by rw[pk,h]
def Q1 (x:R.Leaf)(iv:Value):Value:= .agg #[.int .i64 (pk x),.int .i64 x.n,.string ⟨x.text.toArray⟩,iv]
theorem OX (a b:List UInt8)(w:World)(ts:Array TypeId)(t:TypeId):(Builtin.max_ ts t #[.string ⟨a.toArray⟩,.string ⟨b.toArray⟩]).run Tryz.prog w= .ok (.string ⟨(R.later a b).toArray⟩) w:=by
 rw[Lib.run_max_strs];congr 2
 unfold Lib.maxS R.later;rw[Go.Proofs.bytesLess_eq];by_cases h:a<b
 ·simp[h]
 ·simp[h]
theorem kS {p:List UInt8}{x:R.Leaf}(hx:VO p x):pk x=0↔x.kind=0:=by
 constructor
 ·intro h
  have:=ou hx (y:=R.none p) (.inl rfl) (by rw[h];rfl);exact this
 ·intro h
  rw[cf 0 h];rfl
theorem It.nil (w:World)(M:Nat→Prop)(x:R.Leaf)(h:x.items=[]):It w M (x,.slice none x.items.length 0):=by
 unfold It;rw[h];exact⟨none,0,rfl,j0a _,by unfold maxLen;omega,fun h=>absurd h (Nat.lt_irrefl _)⟩
theorem jg (x y z:R.Leaf)(xa ya za:Option Addr)(xc yc zc:Nat)(p:List UInt8)(w:World)(M:Nat→Prop)(hM:∀b,M b→b<w.heap.size)(hx:VO p x)(hy:VO p y)(hz:VO p z)
  (ix:It w M (x,.slice xa x.items.length xc))(iy:It w M (y,.slice ya y.items.length yc))(iz:It w M (z,.slice za z.items.length zc)):
  Calls Tryz.prog 138 #[Q1 x (.slice xa x.items.length xc),Q1 y (.slice ya y.items.length yc),Q1 z (.slice za z.items.length zc)] w fun e w' =>
   ∃ia ic,e= .returned (.tuple #[Q1 (R.joinedV x y z).1 (.slice ia (R.joinedV x y z).1.items.length ic),.int .i64 (R.joinedV x y z).2])∧
    It w' M ((R.joinedV x y z).1,.slice ia (R.joinedV x y z).1.items.length ic)∧Below w.heap.size w w' :=by
 unfold Q1;have b1:∀W,Below w.heap.size w W→Calls Tryz.prog 132 #[.agg #[.int .i64 (pk y),.int .i64 y.n,.string ⟨y.text.toArray⟩,.slice ya y.items.length yc],.agg #[.int .i64 (pk x),.int .i64 x.n,.string ⟨x.text.toArray⟩,.slice xa x.items.length xc]] W fun e w' =>e= .returned (.bool (R.same y x))∧Below W.heap.size W w' :=fun W hW=>by
  rw[←uj hy hx];exact JD y x ya xa yc xc W M (Rd.below iy hW) (Rd.below ix hW)
 have b4:∀W,Below w.heap.size w W→Calls Tryz.prog 132 #[.agg #[.int .i64 (pk z),.int .i64 z.n,.string ⟨z.text.toArray⟩,.slice za z.items.length zc],.agg #[.int .i64 (pk x),.int .i64 x.n,.string ⟨x.text.toArray⟩,.slice xa x.items.length xc]] W fun e w' =>e= .returned (.bool (R.same z x))∧Below W.heap.size W w' :=fun W hW=>by
  rw[←uj hz hx];exact JD z x za xa zc xc W M (Rd.below iz hW) (Rd.below ix hW)
 have c6:∀W (N:Nat→Prop),Below w.heap.size w W→(∀b,N b→M b∨w.heap.size≤b)→It W N (x,.slice xa x.items.length xc):=fun W N hW hN=>Rd.step ix (zh.of_below (M:=fun _=>False) hW) (fun _ e=>e.elim) hN
 have c7:∀W (N:Nat→Prop),Below w.heap.size w W→(∀b,N b→M b∨w.heap.size≤b)→It W N (y,.slice ya y.items.length yc):=fun W N hW hN=>Rd.step iy (zh.of_below (M:=fun _=>False) hW) (fun _ e=>e.elim) hN
 have c8:∀W (N:Nat→Prop),Below w.heap.size w W→(∀b,N b→M b∨w.heap.size≤b)→It W N (z,.slice za z.items.length zc):=fun W N hW hN=>Rd.step iz (zh.of_below (M:=fun _=>False) hW) (fun _ e=>e.elim) hN
 have b8:=z8 b1;have b9:=z8 b4;have d4:=z8 c6;have b6:=z8 c7;have b7:=z8 c8;have HX:=z8 hx;have HY:=z8 hy;have HZ:=z8 hz;clear b1 b4 c6 c7 c8 ix iy iz hx hy hz;go_enter Tryz.func138,Tryz.ntmps138;go_wp2_with fail
 refine(b8.out _ ((((j0g _ _).alloc (j0a _) _).alloc (by simp) _).alloc (by simp;omega) _|>.alloc (by simp;omega) _)).mono ?_;rintro e w1 ⟨rfl,a4⟩;have b1:=a4.size;simp only[World.size_alloc]at b1;have VX:VB w1 w.heap.size (pk x) x.n x.text (.slice xa x.items.length xc):=by
  refine VB.below ?_ a4 (by simp only[World.size_alloc];omega);exact⟨by simp[go_sem],by simp[go_sem],by simp[go_sem],by simp[go_sem]⟩
 have VY:VB w1 (w.heap.size+1) (pk y) y.n y.text (.slice ya y.items.length yc):=by
  refine VB.below ?_ a4 (by simp only[World.size_alloc];omega);exact⟨by simp[go_sem],by simp[go_sem],by simp[go_sem],by simp[go_sem]⟩
 have VZ:VB w1 (w.heap.size+1+1) (pk z) z.n z.text (.slice za z.items.length zc):=by
  refine VB.below ?_ a4 (by simp only[World.size_alloc];omega);exact⟨by simp[go_sem],by simp[go_sem],by simp[go_sem],by simp[go_sem]⟩
 have VR:VB w1 (w.heap.size+1+1+1) 0 0 [] (.slice none 0 0):=by
  refine VB.below ?_ a4 (by simp only[World.size_alloc];omega);exact⟨by simp[go_sem],by simp[go_sem],by simp[go_sem],by simp[go_sem]⟩
 have FR:∀j,w1.frozen? ⟨w.heap.size+1+1+1,j,none⟩=false:=fun j=>by rw[a4.frozen (p:=⟨w.heap.size+1+1+1,j,none⟩) (by simp only[World.size_alloc];omega)];simp[go_sem]
 have a9:Hid (Below w.heap.size w w1):=((((j0g _ _).alloc (j0a _) _).alloc (by simp) _).alloc (by simp;omega) _|>.alloc (by simp;omega) _).trans (a4.mono (by simp;omega));clear a4 b8;generalize d8:w.heap.size+1=B1 at*;generalize d9:B1+1=B2 at*;generalize e1:B2+1=B3 at*;have g1:w.heap.size<B1:=by omega
 have g2:B1<B2:=by omega
 have g3:B2<B3:=by omega
 have g4:B3<w1.heap.size:=by omega
 clear d8 d9 e1 b1;obtain⟨x0,x1,x2,x3⟩:=VX;obtain⟨y0,y1,y2,y3⟩:=VY;obtain⟨z0,z1,z2,z3⟩:=VZ;obtain⟨r0,r1,r2,r3⟩:=VR;have f0:=FR 0;have f1:=FR 1;have f2:=FR 2;have f3:=FR 3
 cases h1:R.same y x
 ·have VX:VB w1 w.heap.size (pk x) x.n x.text (.slice xa x.items.length xc):=⟨x0,x1,x2,x3⟩
  have VY:VB w1 B1 (pk y) y.n y.text (.slice ya y.items.length yc):=⟨y0,y1,y2,y3⟩
  have VZ:VB w1 B2 (pk z) z.n z.text (.slice za z.items.length zc):=⟨z0,z1,z2,z3⟩
  have VR:VB w1 B3 0 0 [] (.slice none 0 0):=⟨r0,r1,r2,r3⟩
  go_wp2_with fail
  refine(b9.out _ a9.out).mono ?_;rintro e w2 ⟨rfl,a5⟩;have b4:=a5.size;have d5 :=VX.below a5 (by omega);have d6 :=VY.below a5 (by omega);have d7 :=VZ.below a5 (by omega);have a6 :=VR.below a5 (by omega);have a3 :∀j,w2.frozen? ⟨B3,j,none⟩=false:=fun j=>(a5.frozen (p:=⟨B3,j,none⟩) (by show B3<_;omega)).trans (FR j)
  have a1:Hid (Below w.heap.size w w2):=a9.out.trans (a5.mono (by omega));clear x0 x1 x2 x3 y0 y1 y2 y3 z0 z1 z2 z3 r0 r1 r2 r3 f0 f1 f2 f3 VX VY VZ VR FR a5 a9 b9;obtain⟨x0,x1,x2,x3⟩:=d5;obtain⟨y0,y1,y2,y3⟩:=d6;obtain⟨z0,z1,z2,z3⟩:=d7;obtain⟨r0,r1,r2,r3⟩:=a6;have f0:=a3 0;have f1:=a3 1;have f2:=a3 2;have f3:=a3 3;have g5:B3<w2.heap.size:=by omega
  clear b4 g4
  cases h2:R.same z x
  ·by_cases k3:y.kind=0
   ·have HJ:Hid (R.joinedV x y z=(z,0)):=by show _=_;rw[R.joinedV,if_neg (by simp[h1]),if_neg (by simp[h2]),if_pos k3]
    have q3:(pk y==0)=true:=by simpa using(kS HY.out).2 k3
    clear h1 h2 k3;go_wp2;refine bodyPost_ret (v:= .tuple #[.agg #[.int .i64 (pk z),.int .i64 z.n,.string ⟨z.text.toArray⟩,.slice za z.items.length zc],.int .i64 0]) (by simp[results,Tryz.results138,go_sem, *]) rfl ?_;rw[HJ.out];exact⟨za,zc,rfl,b7.out _ _ (Z2 B3 a1.out (by omega) _ _ _ _) (fun b hb=> .inl hb),Z2 B3 a1.out (by omega) _ _ _ _⟩
   ·have q3:(pk y==0)=false:=by simpa using fun e=>k3 ((kS HY.out).1 e)
    by_cases k4:z.kind=0
    ·have HJ:Hid (R.joinedV x y z=(y,0)):=by show _=_;rw[R.joinedV,if_neg (by simp[h1]),if_neg (by simp[h2]),if_neg k3,if_pos k4]
     have q4:(pk z==0)=true:=by simpa using(kS HZ.out).2 k4
     clear h1 h2 k3 k4;go_wp2;refine bodyPost_ret (v:= .tuple #[.agg #[.int .i64 (pk y),.int .i64 y.n,.string ⟨y.text.toArray⟩,.slice ya y.items.length yc],.int .i64 0]) (by simp[results,Tryz.results138,go_sem, *]) rfl ?_;rw[HJ.out];exact⟨ya,yc,rfl,b6.out _ _ (Z2 B3 a1.out (by omega) _ _ _ _) (fun b hb=> .inl hb),Z2 B3 a1.out (by omega) _ _ _ _⟩
    ·have q4:(pk z==0)=false:=by simpa using fun e=>k4 ((kS HZ.out).1 e)
     by_cases k5:y.kind=z.kind
     ·have q5:(pk y==pk z)=true:=by simp[pk,k5]
      have b0:=HY.out.ok k3;have b3:=HZ.out.ok k4;have a8:R.joinedV x y z=if y.kind=35 then R.counterJ y.path (y.n+z.n-R.baseN x 35)else if y.kind=61 then({path:=y.path,kind:=61,n:=0,text:=R.later y.text z.text,items:=[]},0)else R.bagV y.path (R.bagJ (R.baseI x y.kind) y.items z.items):=by
       rw[R.joinedV,if_neg (by simp[h1]),if_neg (by simp[h2]),if_neg k3,if_neg k4,if_neg (by simp[k5])]
      rcases b0.kinds with k6|k6|k6
      ·have q6:(pk y==1)=true:=by simp[pk,k6]
       have HJ:Hid (R.joinedV x y z=R.counterJ p (y.n+z.n-x.n)):=by show _=_;rw[a8,if_pos k6,HY.out.path,HX.out.baseN]
       have HC:Hid (∀W,Calls Tryz.prog 185 #[.agg #[.int .i64 (pk x),.int .i64 x.n,.string ⟨x.text.toArray⟩,.slice xa x.items.length xc],.agg #[.int .i64 (pk y),.int .i64 y.n,.string ⟨y.text.toArray⟩,.slice ya y.items.length yc],.agg #[.int .i64 (pk z),.int .i64 z.n,.string ⟨z.text.toArray⟩,.slice za z.items.length zc]] W fun e w' =>e= .returned (.tuple #[.agg #[.int .i64 (pk (R.counterJ p (y.n+z.n-x.n)).1),.int .i64 (R.counterJ p (y.n+z.n-x.n)).1.n,.string ⟨#[]⟩,.slice none 0 0],.int .i64 (R.counterJ p (y.n+z.n-x.n)).2])∧Below W.heap.size W w'):=fun W=>kI _ _ _ _ _ _ _ _ _ p _ _ _ _ _ _ _ _ _ W HX.out.n_hi HY.out.n_hi HZ.out.n_hi
       clear h1 h2 k3 k4 k5 k6 a8 b0 b3;go_wp2_with fail
       refine(HC.out _).mono ?_;rintro e w3 ⟨rfl,a2⟩;have e2:=a2.size;have b5:Hid (Below w.heap.size w w3):=a1.out.trans (a2.mono (by omega));have a6 :VB w2 B3 0 0 [] (.slice none 0 0):=⟨r0,r1,r2,r3⟩
       have a7 :=a6.below a2 (by omega);have a0 :∀j,w3.frozen? ⟨B3,j,none⟩=false:=fun j=>(a2.frozen (p:=⟨B3,j,none⟩) (by show B3<_;omega)).trans (a3 j)
       clear x0 x1 x2 x3 y0 y1 y2 y3 z0 z1 z2 z3 r0 r1 r2 r3 f0 f1 f2 f3 a6 a3 a2 a1;obtain⟨r0,r1,r2,r3⟩:=a7;have f0:=a0 0;have f1:=a0 1;have f2:=a0 2;have f3:=a0 3;have HT:Hid ((R.counterJ p (y.n+z.n-x.n)).1.text=[]∧(R.counterJ p (y.n+z.n-x.n)).1.items=[]):=by
        show _∧_;unfold R.counterJ R.bad;split<;>exact⟨rfl,rfl⟩
       generalize R.counterJ p (y.n+z.n-x.n)=cj at*;go_wp2;refine bodyPost_ret (v:= .tuple #[.agg #[.int .i64 (pk cj.1),.int .i64 cj.1.n,.string ⟨#[]⟩,.slice none 0 0],.int .i64 cj.2]) (by simp[results,Tryz.results138,go_sem, *]) rfl ?_;rw[HJ.out];refine⟨none,0,by rw[HT.out.1,HT.out.2];rfl,It.nil _ _ _ HT.out.2,Z2 B3 b5.out (by omega) _ _ _ _⟩
      ·have q6:(pk y==1)=false:=by simp[pk,k6]
       have q7:(pk y==3)=false:=by simp[pk,k6]
       have HJ:Hid (R.joinedV x y z=({path:=y.path,kind:=61,n:=0,text:=R.later y.text z.text,items:=[]},0)):=by show _=_;rw[a8,if_neg (by simp[k6]),if_pos k6]
       have mx:=OX y.text z.text;clear h1 h2 k3 k4 k5 k6 a8 b0 b3;go_wp2;refine bodyPost_ret (v:= .tuple #[.agg #[.int .i64 2,.int .i64 0,.string ⟨(R.later y.text z.text).toArray⟩,.slice none 0 0],.int .i64 0]) (by simp[results,Tryz.results138,go_sem, *]) rfl ?_;rw[HJ.out];exact⟨none,0,rfl,It.nil _ _ _ rfl,Z2 B3 a1.out (by omega) _ _ _ _⟩
      ·have q6:(pk y==1)=false:=by simp[pk,k6]
       have q7:(pk y==3)=true:=by simp[pk,k6]
       have HJ:Hid (R.joinedV x y z=R.bagV p (R.bagJ x.items y.items z.items)):=by show _=_;rw[a8,if_neg (by simp[k6]),if_neg (by simp[k6]),HY.out.path,k6,HX.out.baseI]
       have HN:Hid (∀b,(fun b=>M b∨b=B3) b→b<w2.heap.size):=fun b hb=>by
        rcases hb with hb|hb
        ·have:=hM b hb;omega
        ·omega
       have b2:∀b,(fun b=>M b∨b=B3) b→M b∨w.heap.size≤b:=fun b hb=>by
        rcases hb with hb|hb
        ·exact .inl hb
        ·exact .inr (by omega)
       have hC:=Ud x y z xa ya za xc yc zc p w2 (fun b=>M b∨b=B3) HN.out HX.out ⟨b0,k6⟩ ⟨b3,by rw[←k5];exact k6⟩ (d4.out _ _ a1.out b2) (b6.out _ _ a1.out b2) (b7.out _ _ a1.out b2);have HC:=z8 hC;clear h1 h2 k3 k4 k5 k6 a8 b0 b3 hC b2;go_wp2_with fail
       refine HC.out.mono ?_;rintro e w3 ⟨ia,ic,rfl,c9,a2⟩;have d3:=z8 c9;have e2:=a2.size;have b5:Hid (Below w.heap.size w w3):=a1.out.trans (a2.mono (by omega));have a6 :VB w2 B3 0 0 [] (.slice none 0 0):=⟨r0,r1,r2,r3⟩
       have a7 :=a6.below a2 (by omega);have a0 :∀j,w3.frozen? ⟨B3,j,none⟩=false:=fun j=>(a2.frozen (p:=⟨B3,j,none⟩) (by show B3<_;omega)).trans (a3 j)
       clear x0 x1 x2 x3 y0 y1 y2 y3 z0 z1 z2 z3 r0 r1 r2 r3 f0 f1 f2 f3 a6 a3 a2 a1 c9 HC;obtain⟨r0,r1,r2,r3⟩:=a7;have f0:=a0 0;have f1:=a0 1;have f2:=a0 2;have f3:=a0 3;have HT:Hid ((R.bagV p (R.bagJ x.items y.items z.items)).1.text=[]∧(R.bagV p (R.bagJ x.items y.items z.items)).1.n=0):=by
        show _∧_;unfold R.bagV R.bad;split<;>exact⟨rfl,rfl⟩
       generalize R.bagV p (R.bagJ x.items y.items z.items)=cj at*;go_wp2;refine bodyPost_ret (v:= .tuple #[.agg #[.int .i64 (pk cj.1),.int .i64 0,.string ⟨#[]⟩,.slice ia cj.1.items.length ic],.int .i64 cj.2]) (by simp[results,Tryz.results138,go_sem, *]) rfl ?_;rw[HJ.out];exact⟨ia,ic,by rw[HT.out.1,HT.out.2],Rd.step d3.out (zh.four (Z:=fun b=>b=B3) (zh.refl _ _) (.inl rfl) _ _ _ _) (fun b hb=> .inr hb) (fun b hb=> .inl (.inl hb)),Z2 B3 b5.out (by omega) _ _ _ _⟩
     ·have q5:(pk y==pk z)=false:=by simpa using fun e=>k5 (ou HY.out HZ.out e)
      have HJ:Hid (R.joinedV x y z=R.bad 6):=by show _=_;rw[R.joinedV,if_neg (by simp[h1]),if_neg (by simp[h2]),if_neg k3,if_neg k4,if_pos k5]
      clear h1 h2 k3 k4 k5;go_wp2;refine bodyPost_ret (v:= .tuple #[.agg #[.int .i64 0,.int .i64 0,.string ⟨#[]⟩,.slice none 0 0],.int .i64 6]) (by simp[results,Tryz.results138,go_sem, *]) rfl ?_;rw[HJ.out];exact⟨none,0,rfl,It.nil _ _ _ rfl,Z2 B3 a1.out (by omega) _ _ _ _⟩
  ·have HJ:Hid (R.joinedV x y z=(y,0)):=by show _=_;rw[R.joinedV,if_neg (by simp[h1]),if_pos h2]
   clear h1 h2;go_wp2;refine bodyPost_ret (v:= .tuple #[.agg #[.int .i64 (pk y),.int .i64 y.n,.string ⟨y.text.toArray⟩,.slice ya y.items.length yc],.int .i64 0]) (by simp[results,Tryz.results138,go_sem, *]) rfl ?_;rw[HJ.out];exact⟨ya,yc,rfl,b6.out _ _ (Z2 B3 a1.out (by omega) _ _ _ _) (fun b hb=> .inl hb),Z2 B3 a1.out (by omega) _ _ _ _⟩
 ·have HJ:Hid (R.joinedV x y z=(z,0)):=by show _=_;rw[R.joinedV,if_pos h1]
  clear h1;go_wp2;refine bodyPost_ret (v:= .tuple #[.agg #[.int .i64 (pk z),.int .i64 z.n,.string ⟨z.text.toArray⟩,.slice za z.items.length zc],.int .i64 0]) (by simp[results,Tryz.results138,go_sem, *]) rfl ?_;rw[HJ.out];exact⟨za,zc,rfl,b7.out _ _ (Z2 B3 a9.out (by omega) _ _ _ _) (fun b hb=> .inl hb),Z2 B3 a9.out (by omega) _ _ _ _⟩
def ZF (TS:List (List R.Leaf)):List (List UInt8):=TS.flatten.map R.Leaf.path
theorem OZ (TS:List (List R.Leaf))(k:Nat)(hk:k<TS.length):ZF (TS.take (k+1))=ZF (TS.take k)++TS[k].map R.Leaf.path:=by
 unfold ZF;rw[List.take_succ_eq_append_getElem hk,List.flatten_append,List.map_append];simp
theorem fW (TS:List (List R.Leaf))(k:Nat):(ZF (TS.take k)).length≤(ZF TS).length:=by
 unfold ZF;rw[List.length_map,List.length_map];conv=>rhs;rw[←List.take_append_drop k TS,List.flatten_append,List.length_append]
 omega
theorem GY (b0 c0:Nat)(TS:List (List R.Leaf))(w:World)(M:Nat→Prop)(d7:TS.length≤c0∧c0≤100)(hn:(ZF TS).length≤1000)(d8:b0<w.heap.size)
  (c6:∀j (hj:j<TS.length),∃a c,w.cell? ⟨b0,j,none⟩=some (.slice a TS[j].length c)∧PT w M (.slice a TS[j].length c) TS[j])
  (b6:∀(W:World) (v:Value),Below w.heap.size w W→W.ownsRow w.heap.size 9 1 v (ZF TS).length ((ZF TS).map S)→Calls Tryz.prog 183 #[v] W fun e w' =>e= .returned (.tuple #[])∧Below w.heap.size w w' ∧w'.ownsRow w.heap.size 9 1 v (ZF TS).length (((ZF TS).mergeSort fun x y=>decide (x≤y)).map S))
  (b1:∀(W:World) (v:Value),Below w.heap.size w W→W.ownsRow w.heap.size 9 1 v (ZF TS).length (((ZF TS).mergeSort fun x y=>decide (x≤y)).map S)→Calls Tryz.prog 184 #[v] W fun e w' =>∃a c,e= .returned (.slice a (Lib.compact ((ZF TS).mergeSort fun x y=>decide (x≤y))).length c)∧Below w.heap.size w w' ∧w'.ownsRow w.heap.size 9 1 (.slice a (Lib.compact ((ZF TS).mergeSort fun x y=>decide (x≤y))).length c) (Lib.compact ((ZF TS).mergeSort fun x y=>decide (x≤y))).length ((Lib.compact ((ZF TS).mergeSort fun x y=>decide (x≤y))).map S)):
  Calls Tryz.prog 137 #[.slice (some ⟨b0,0,none⟩) TS.length c0] w fun e w' =>∃a c,e= .returned (.slice a (Lib.compact ((ZF TS).mergeSort fun x y=>decide (x≤y))).length c)∧Below w.heap.size w w' ∧w'.ownsRow w.heap.size 9 1 (.slice a (Lib.compact ((ZF TS).mergeSort fun x y=>decide (x≤y))).length c) (Lib.compact ((ZF TS).mergeSort fun x y=>decide (x≤y))).length ((Lib.compact ((ZF TS).mergeSort fun x y=>decide (x≤y))).map S):=by
 have a8 :=z8 b6;have a6 :=z8 b1;clear b6 b1;obtain⟨f5,f6⟩:=d7;have b2:Hid (∀k,(ZF (TS.take k)).length≤(ZF TS).length):=fW TS;have b5:Hid (∀k (hk:k<TS.length),ZF (TS.take (k+1))=ZF (TS.take k)++TS[k].map R.Leaf.path):=OZ TS;have d5:=z8 c6;clear c6;go_enter Tryz.func137,Tryz.ntmps137;go_wp2;go_loopw [3,10] (fun s i wr=>∃k:Nat,k≤TS.length∧i= .int .i64 k∧(∃va vc,s= .slice va (ZF (TS.take k)).length vc)∧wr.ownsRow w.heap.size 9 1 s (ZF (TS.take k)).length ((ZF (TS.take k)).map S)∧Below w.heap.size w wr) (fun _ i _=>TS.length-(intOf i).toNat)
 case atStart=>exact⟨0,Nat.zero_le _,rfl,⟨none,0,rfl⟩,World.ownsRow_nil _ _ _ _,j0g _ _⟩
 case round=>
  obtain⟨k,hk,rfl,⟨va,vc,rfl⟩,ho,hb⟩:=hrel;have c9:=hb.size;by_cases a9:k<TS.length
  ·obtain⟨ta,tc,b8,L,hL,⟨g0,g1,f0,f9,f3,d3⟩,hI⟩:=d5.out k a9
   injection f0 with e1 e2 e3
   subst e1 e3;have e0:=(hb.cell (p:=⟨b0,k,none⟩) d8).trans b8;have b4:=z8 (b5.out k a9);have f7:=b2.out k;have f8:=b2.out (k+1);have a5:(ZF (TS.take (k+1))).length=(ZF (TS.take k)).length+TS[k].length:=by rw[b5.out k a9,List.length_append,List.length_map]
   rw[←hL]at b4 a5 e0;rw[List.length_map]at a5 e0;unfold maxLen at f3;clear b8 hL e2;generalize ZF (TS.take k)=P0 at*;generalize b7:ZF (TS.take (k+1))=P1 at*;have b3:=z8 b7;clear b7;have HO:=z8 ho;clear ho;go_wp2;go_loopw [3,16] (fun s i wq=>∃m:Nat,m≤L.length∧i= .int .i64 m∧(∃va vc,s= .slice va (P0.length+m) vc)∧wq.ownsRow w.heap.size 9 1 s (P0.length+m) ((P0++(L.take m).map fun p=>p.1.path).map S)∧Below w.heap.size w wq) (fun _ i _=>L.length-(intOf i).toNat)
   case atStart=>exact⟨0,Nat.zero_le _,rfl,⟨va,vc,rfl⟩,by simpa using HO.out,hb⟩
   case round=>
    rename World=>wq
    obtain⟨m,hm,rfl,⟨va,vc,rfl⟩,ho,hb⟩:=hrel;have c9:=hb.size;by_cases c7:m<L.length
    ·obtain⟨b,off,rfl,a4,_,a0⟩:=d3 (by omega)
     obtain⟨x,ia,ic,HL,e7,c0,c1,c2,c3,c4⟩:=XI hI a0 m c7;have e0:=(hb.cell (p:=⟨b,off+m*5,none⟩) a4).trans c0;have e1:=(hb.cell (p:=⟨b,off+m*5+1,none⟩) a4).trans c1;have e2:=(hb.cell (p:=⟨b,off+m*5+2,none⟩) a4).trans c2;have e3:=(hb.cell (p:=⟨b,off+m*5+3,none⟩) a4).trans c3;have e4:=(hb.cell (p:=⟨b,off+m*5+4,none⟩) a4).trans c4;have HT:Hid ((P0++(L.take (m+1)).map fun p=>p.1.path).map S=(P0++(L.take m).map fun p=>p.1.path).map S++ [.string ⟨x.path.toArray⟩]):=by
      show _=_;rw[List.take_succ_eq_append_getElem c7,HL.out];simp[S]
     have HO:=z8 ho;clear a0 d3 hI c0 c1 c2 c3 c4 e7 HL ho;go_wp2_with (at_builtin;go_loud (refine FL _ (by rfl) _ _ 45 (by rfl) w.heap.size 9 (.string ⟨#[]⟩) 1 16 Tryz.underlying45 Tryz.info9 (by rfl) (by decide) (HO.out.alloc _) #[.string ⟨x.path.toArray⟩] rfl (by rfl) (by rw[World.size_alloc];rfl) (by intro u hu;simp at hu;subst hu;rfl) (by unfold maxLen;omega) (by omega) (by simp;omega) ?_))
     intro v' w1 a3 b9;have a7:=z8 a3;have d4:Hid (Below w.heap.size w w1):=(hb.alloc c9 _).grown b9 (by simp;omega) (fun j hj=>(HO.out.lt j hj).1);obtain⟨a1,c1,f4,_⟩:=zn a3;subst f4;clear a3 b9 hb;go_wp2;go_roundw
     case rel=>
      refine⟨m+1,by omega,by go_num,⟨a1,c1,rfl⟩,?_,d4.out⟩;have:=a7.out;rw[show P0.length+(m+1)=P0.length+m+1 from rfl,HT.out];simpa using this
     case measure=>simp[intOf];omega
    ·have e9:m=L.length:=by omega
     subst e9;have HO:=z8 ho;clear ho;go_wp2;go_roundw
     case rel=>
      refine⟨k+1,by omega,by go_num,⟨va,vc,?_⟩,?_,hb⟩
      ·rw[b3.out,a5]
      ·have:=HO.out
       rw[List.take_length]at this;rw[b3.out,a5,b4.out,List.map_map];exact this
     case measure=>simp[intOf];omega
  ·have e8:k=TS.length:=by omega
   subst e8;rw[List.take_length]at ho;have HO:=z8 ho;clear ho;rw[List.take_length];go_wp2_with fail
   refine(a8.out _ _ hb HO.out).mono ?_;rintro e w1 ⟨rfl,d9,a3⟩;have a7:=z8 a3;clear a3;go_wp2_with fail
   refine(a6.out _ _ d9 a7.out).mono ?_;rintro e w2 ⟨a2,c2,rfl,e6,c8⟩;have d6:=z8 c8;clear c8;go_wp2;go_ret;exact⟨a2,c2,rfl,e6,d6.out⟩
theorem ct (B:Nat)(v:Value)(t:List R.Leaf)(x:R.Leaf)(ia:Option Addr)(il ic:Nat)(w:World)(M:Nat→Prop)(h:PT w M v t)(hg:∀x∈t,x.path.length≤1000)(a2:x.path.length≤1000)(hB:B<w.heap.size)(hc:w.cell? ⟨B,0,none⟩=some v):
  Calls Tryz.prog 188 #[.agg #[.string ⟨x.path.toArray⟩,.int .i64 (pk x),.int .i64 x.n,.string ⟨x.text.toArray⟩,.slice ia il ic],.pointer (some ⟨B,0,none⟩)] w fun e w' =>e= .returned (.bool (R.blocked t x.path))∧Below w.heap.size w w' :=by
 obtain⟨va,vc,hv⟩:=ve h;have a1:=fun W (hW:Below w.heap.size w W)=>Ui v t x.path W M (h.below hW) hg a2
 subst hv;have a4:=z8 a1;clear a1 h hg a2;go_enter Tryz.func188,Tryz.ntmps188;go_wp2_with fail
 refine(a4.out _ ((j0g _ _).alloc (j0a _) _)).mono ?_;rintro e w1 ⟨rfl,a0⟩;have a3:Hid (Below w.heap.size w w1):=((j0g _ _).alloc (j0a _) _).trans (a0.mono (by simp));clear a0;go_wp2;go_ret;exact⟨rfl,a3.out⟩
theorem GW (B:Nat)(v:Value)(t:List R.Leaf)(w:World)(M:Nat→Prop)(h:PT w M v t)(hg:∀x∈t,x.path.length≤1000)(hB:B<w.heap.size)(a9:w.cell? ⟨B,0,none⟩=some v):
  Calls Tryz.prog 224 #[v,.func (.func 188) #[] #[.pointer (some ⟨B,0,none⟩)]] w fun e w' =>∃i:Int,e= .returned (.int .i64 i)∧decide (0≤i)=R.tangled t∧Below w.heap.size w w' :=by
 have h1:=fun(x:R.Leaf) (ia:Option Addr) (il ic:Nat) (hx:x∈t) (W:World) (hW:Below w.heap.size w W)=>ct B v t x ia il ic W M (h.below hW) hg (hg x hx) (j0b hB hW.size) ((hW.cell (p:=⟨B,0,none⟩) hB).trans a9)
 obtain⟨L,hL,⟨a,cap,rfl,hn,hm,hc⟩,hI⟩:=h;have HT:Hid (R.tangled t=L.any fun p=>R.blocked t p.1.path):=by
  show _=_;unfold R.tangled;conv=>lhs;arg 1;rw[←hL]
  rw[List.any_map];rfl
 have HM:Hid (∀p∈L,p.1∈t):=fun p hp=>by rw[←hL];exact List.mem_map_of_mem hp
 have H1:=z8 h1;unfold maxLen at hm;clear h1 hL hg a9;have b1:∀args w,(callFunc 188 args).run Tryz.prog w= .ok (.enter 188 args) w:=enters_of Tryz.func188 (by kernel_rfl) rfl
 go_enter Tryz.func224,Tryz.ntmps224;go_wp2;go_loopw [8] (fun i wr=>∃k:Nat,k≤L.length∧i= .int .i64 k∧(∀j (hj:j<L.length),j<k→R.blocked t (L[j]'hj).1.path=false)∧Below w.heap.size w wr) (fun i _=>L.length-(intOf i).toNat)
 case atStart=>exact⟨0,Nat.zero_le _,rfl,fun j hj h=>by omega,j0g _ _⟩
 case round=>
  obtain⟨k,hk,rfl,a3,hb⟩:=hrel;have a2:=z8 a3;clear a3;have b0:=hb.size;by_cases a6:k<L.length
  ·obtain⟨b,off,rfl,a5,_,a1⟩:=hc (by omega)
   obtain⟨x,ia,ic,HL,b2,c0,c1,c2,c3,c4⟩:=XI hI a1 k a6;have e0:=(hb.cell (p:=⟨b,off+k*5,none⟩) a5).trans c0;have e1:=(hb.cell (p:=⟨b,off+k*5+1,none⟩) a5).trans c1;have e2:=(hb.cell (p:=⟨b,off+k*5+2,none⟩) a5).trans c2;have e3:=(hb.cell (p:=⟨b,off+k*5+3,none⟩) a5).trans c3;have e4:=(hb.cell (p:=⟨b,off+k*5+4,none⟩) a5).trans c4;have HX:Hid ((L[k]'a6).1=x):=by show _=_;rw[HL.out]
   have a8:x∈t:=by rw[←HX.out];exact HM.out _ (j0c a6)
   have a0:=H1.out x ia x.items.length ic a8 wr hb;clear a1 hc hI c0 c1 c2 c3 c4 b2
   cases hq:R.blocked t x.path
   ·rw[hq]at a0
    have HQ:=z8 hq;have HC:=z8 a0;clear hq a0 a8;go_wp2_with fail
    refine HC.out.mono ?_;rintro e w1 ⟨rfl,a4⟩;have a7:Hid (Below w.heap.size w w1):=hb.trans (a4.mono b0);clear a4;go_wp2;go_roundw
    case rel=>
     refine⟨k+1,by omega,by go_num,fun j hj b4=> ?_,a7.out⟩;by_cases e:j=k
     ·subst e;rw[HX.out];exact HQ.out
     ·exact a2.out j hj (by omega)
    case measure=>simp[intOf];omega
   ·rw[hq]at a0
    have HQ:=z8 hq;have HC:=z8 a0;clear hq a0 a8;go_wp2_with fail
    refine HC.out.mono ?_;rintro e w1 ⟨rfl,a4⟩;have a7:Hid (Below w.heap.size w w1):=hb.trans (a4.mono b0);clear a4;go_wp2;go_ret;refine⟨k,rfl,?_,a7.out⟩;rw[HT.out,Bool.eq_iff_iff,List.any_eq_true];exact⟨fun _=>⟨_,j0c a6,by rw[HX.out];exact HQ.out⟩,fun _=>decide_eq_true (by omega)⟩
  ·have b3:k=L.length:=by omega
   subst b3;go_wp2;go_ret;refine⟨-1,rfl,?_,hb⟩;rw[HT.out];symm
   show _=false;rw[List.any_eq_false];intro p hp;obtain⟨j,hj,rfl⟩:=List.getElem_of_mem hp;rw[a2.out j hj hj];simp
theorem gG (v:Value)(t:List R.Leaf)(w:World)(M:Nat→Prop)(h:PT w M v t)(hg:∀x∈t,x.path.length≤1000):
  Calls Tryz.prog 139 #[v] w fun e w' =>e= .returned (.bool (R.tangled t))∧Below w.heap.size w w' :=by
 have a1:=fun(B:Nat) (W:World) (hW:Below w.heap.size w W) (hB:B<W.heap.size) (hc:W.cell? ⟨B,0,none⟩=some v)=>GW B v t W M (h.below hW) hg hB hc
 have a2:∀(B:Nat) (W:World) (hW:Below w.heap.size w W) (hB:B<W.heap.size) (hc:W.cell? ⟨B,0,none⟩=some v),Calls Tryz.prog 187 #[v,.func (.func 188) #[] #[.pointer (some ⟨B,0,none⟩)]] W fun e w' =>e= .returned (.bool (R.tangled t))∧Below W.heap.size W w' :=by
  intro B W hW hB hc;have a5:=z8 (a1 B W hW hB hc);obtain⟨va,vc,hv⟩:=ve h;subst hv;clear a1 h hg hc;go_enter Tryz.func187,Tryz.ntmps187;go_wp2_with fail
  refine a5.out.mono ?_;rintro e w1 ⟨i,rfl,hi,a0⟩;have HI:=z8 hi;clear hi;go_wp2;go_ret;exact⟨zz (by rw[←HI.out]),a0⟩
 have a4:=z8 a2;obtain⟨va,vc,hv⟩:=ve h;subst hv;clear a1 a2 h hg;go_enter Tryz.func139,Tryz.ntmps139;go_wp2_with fail
 refine(a4.out _ _ ((j0g _ _).alloc (j0a _) _) (by simp) (by simp)).mono ?_;rintro e w1 ⟨rfl,a0⟩;have a3:Hid (Below w.heap.size w w1):=((j0g _ _).alloc (j0a _) _).trans (a0.mono (by simp));clear a0;go_wp2;go_ret;exact⟨rfl,a3.out⟩
