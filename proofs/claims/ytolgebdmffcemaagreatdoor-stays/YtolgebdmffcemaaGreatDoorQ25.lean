import Derived.Test.YtolgebdmffcemaaGreatDoorQ24
import Derived.Lib.MinMaxS
set_option linter.all false
set_option maxHeartbeats 20000000
set_option maxRecDepth 1000000
namespace Go.Proofs.YtolgebdmffcemaaGreatDoor
open Go.RowKit
theorem cd (n:Nat)(w:World)(h0:0<n)(h1:n≤1000):
  Calls Tryz.prog 257 #[.slice none 0 0,.int .i64 n] w fun e w' =>∃v',e= .returned v' ∧w'.ownsRow w.heap.size 9 1 v' 0 []∧Below w.heap.size w w' :=by
 obtain⟨i0,hi,a3,a4,a6⟩:=info_parts Tryz.info9;have a0 :i0.bytes=16:=a6;have a5 :i0.size=1:=a4;have a2:=fun ty=>Lib.run_append_grow_zeros w 45 3 ty 9 i0 (.string ⟨#[]⟩) .i64 .i64 Tryz.underlying45 Tryz.underlying3 hi a3 none 0 0 [] (run_firstCells_none w.drew i0.size 0 0 0) n h0 (by omega) (by omega) (by omega) (by rw[a0];omega) (by rw[a0];exact growslice_fits (by omega) (by omega))
 simp only[Nat.zero_add]at a2;have hG:=grownCap_ge w n 0 9;have a1:=grownCap_le_maxLen w n 0 9 (by unfold maxLen;omega);generalize grownCap w n 0 9=G at*;have HR:Hid ((w.drew.alloc (.cells (([]:List Value).toArray++Builtin.zeroCells (Value.string ⟨#[]⟩).cells n++Builtin.zeroCells (Value.string ⟨#[]⟩).cells (G-n)) 9)).ownsRow w.heap.size 9 1 (.slice (some ⟨w.heap.size,0,none⟩) 0 G) 0 []):=by
  refine World.ownsRow_made (base:=w.heap.size) (e:=9) (size:=1) w.drew _ G (j0a _) a1 ?_;have hc:(Value.string ⟨#[]⟩).cells= #[Value.string ⟨#[]⟩]:=rfl;simp[Builtin.zeroCells,hc];omega
 have HB:Hid (Below w.heap.size w (w.drew.alloc (.cells (([]:List Value).toArray++Builtin.zeroCells (Value.string ⟨#[]⟩).cells n++Builtin.zeroCells (Value.string ⟨#[]⟩).cells (G-n)) 9))):=(below_drewN (j0g _ _) 1).alloc (j0a _) _;unfold maxLen at a1;generalize Obj.cells (([]:List Value).toArray++Builtin.zeroCells (Value.string ⟨#[]⟩).cells n++Builtin.zeroCells (Value.string ⟨#[]⟩).cells (G-n)) 9=ob at*;go_enter Tryz.func257,Tryz.ntmps257;go_wp2_with (at_builtin;refine Lib.wpList_append_run _ rfl _ _ _ _ rfl _ _ rfl rfl _ _ (a2 _) ?_)
 go_ret;exact⟨_,rfl,HR.out,HB.out⟩
def Yk (Ls:List (List (List UInt8)))(k:Nat):Nat:=((Ls.take k).map List.length).sum
theorem KP (Ls:List (List (List UInt8)))(k:Nat)(h:k<Ls.length):Yk Ls (k+1)=Yk Ls k+Ls[k].length:=by
 unfold Yk;rw[List.take_succ_eq_append_getElem h,List.map_append,List.sum_append];simp only[List.map_cons,List.map_nil,List.sum_cons,List.sum_nil,Nat.add_zero]
theorem vO (Ls:List (List (List UInt8)))(k:Nat):Yk Ls k≤Yk Ls Ls.length:=by
 unfold Yk;rw[List.take_length];conv=>rhs;rw[←List.take_append_drop k Ls,List.map_append,List.sum_append]
 exact Nat.le_add_right _ _
theorem Oh (Ls:List (List (List UInt8)))(k:Nat):Yk Ls k=(Ls.take k).flatten.length:=by unfold Yk;rw[List.length_flatten]
theorem fD (b0 c0:Nat)(Ls:List (List (List UInt8)))(vs:List Value)(w:World)(M:Nat→Prop)(hn:Ls.length≤1000)(a0:∀j (h:j<Ls.length),∃a c,w.cell? ⟨b0,j,none⟩=some (.slice (some a) Ls[j].length c)∧Rd w M (.slice (some a) Ls[j].length c) Ls[j].length (Ls[j].map S)∧0<Ls[j].length)(a5:Yk Ls Ls.length≤1000)(a4:0<Yk Ls Ls.length)(d3:b0<w.heap.size):
  Calls Tryz.prog 223 #[.slice (some ⟨b0,0,none⟩) Ls.length c0] w fun e w' =>∃v',e= .returned v' ∧w'.ownsRow w.heap.size 9 1 v' Ls.flatten.length (Ls.flatten.map S)∧Below w.heap.size w w' :=by
 have HC:=z9 a0;clear a0;go_enter Tryz.func223,Tryz.ntmps223;go_wp2;go_loopw [11,3] (fun i s wr=>∃k q:Nat,k≤Ls.length∧i= .int .i64 k∧s= .int .i64 (Yk Ls k:Nat)∧wr=w.drewN q) (fun i _ _=>Ls.length-(intOf i).toNat)
 case atStart=>exact⟨0,0,Nat.zero_le _,rfl,rfl,rfl⟩
 case round=>
  obtain⟨k,q,hk,rfl,rfl,rfl⟩:=hrel;have a6:=vO Ls k;by_cases a3:k<Ls.length
  ·obtain⟨a,c,d1,_,_⟩:=HC.out k a3
   have HT:=z9 (KP Ls k a3);have a2:=vO Ls (k+1);rw[HT.out]at a2;generalize Ls[k].length=m at*;generalize Yk Ls k=tk at*;go_wp2;go_roundw
   case rel=>exact⟨k+1,q,by omega,by go_num,by rw[HT.out];go_num,rfl⟩
   case measure=>simp[intOf];omega
  ·obtain rfl:k=Ls.length:=by omega
   have a8:=cd (Yk Ls Ls.length) (w.drewN q) a4 a5;have hx:∀X:Nat,X=Yk Ls Ls.length→True:=fun _ _=>trivial
   clear a6 hx;generalize b6:Yk Ls Ls.length=tt at*;have c7:=z9 b6;clear b6;go_wp2_with fail
   refine a8.mono ?_;rintro e w1 ⟨v1,rfl,b3,a9⟩;have b9:Hid (w1.ownsRow w.heap.size 9 1 v1 0 []):=b3;have a7:Hid (Below w.heap.size w w1):=(below_drewN (j0g _ _) q).trans a9;have d6:w.heap.size≤w1.heap.size:=a7.out.size;clear b3 a9 a8;go_wp2_with fail
   go_loopw [27,6] (fun i s wr=>∃k:Nat,k≤Ls.length∧i= .int .i64 k∧wr.ownsRow w.heap.size 9 1 s (Yk Ls k) ((Ls.take k).flatten.map S)∧Below w.heap.size w wr) (fun i _ _=>Ls.length-(intOf i).toNat)
   case atStart=>exact⟨0,Nat.zero_le _,rfl,b9.out,a7.out⟩
   case round=>
    obtain⟨k,hk,rfl,ho,hb⟩:=hrel;have HO:=z9 ho;have HB:=z9 hb;have a6:=vO Ls k;have b5:=hb.size;clear ho hb;by_cases a3:k<Ls.length
    ·obtain⟨a,c,d1,c9,hp⟩:=HC.out k a3
     have HT:=z9 (KP Ls k a3);have a2:=vO Ls (k+1);rw[HT.out]at a2;have e1:=(HB.out.cell (p:=⟨b0,k,none⟩) d3).trans d1;obtain⟨a',c',hv,_,_,b1⟩:=c9;obtain⟨b,off,ha,d4,_,a0⟩:=b1 hp;injection hv with h1 h2 h3
     subst h1;injection ha with ha
     subst ha;have a1 :∀j u,(Ls[k].map S)[j]? =some u→wr.cell? ⟨b,off+j,none⟩=some u:=fun j u hu=>(HB.out.cell (p:=⟨b,off+j,none⟩) d4).trans (a0 j u hu)
     have d5:(Ls[k].map S).length=Ls[k].length*1:=by simp
     have c8:=gX Ls[k];have HN:Hid ((Ls.take (k+1)).flatten.map S=(Ls.take k).flatten.map S++Ls[k].map S):=by
      show _=_;rw[List.take_succ_eq_append_getElem a3,List.flatten_append,List.map_append];simp
     clear d1 a0 b1;have b8:=z9 a1;clear a1;rw[c7.out]at a6 a2;generalize Ls[k].map S=xs at*;generalize Ls[k].length=m at*;go_wp2_with (at_builtin;go_loud (refine KD _ (by rfl) _ _ 45 (by rfl) w.heap.size 9 (.string ⟨#[]⟩) 1 16 Tryz.underlying45 Tryz.info9 (by rfl) (by decide) HO.out (some ⟨b,off,none⟩) m _ xs d5 (fun e=>by cases e) (fun ad e j u hu=>by injection e with e;subst e;rw[yt];exact b8.out j u hu) (by rfl) (by rfl) c8 (by unfold maxLen;omega) (by omega) b5 ?_))
     intro v2 w2 b4 b2;have c6:=z9 b4;have b7:Hid (Below w.heap.size w w2):=HB.out.grown b2 b5 (fun g hg=>(HO.out.lt g hg).1);clear b4 b2;go_wp2_with fail
     go_roundw
     case rel=>exact⟨k+1,by omega,by go_num,by rw[HT.out,HN.out];simpa[List.map_flatten,List.map_take]using c6.out,b7.out⟩
     case measure=>simp[intOf];omega
    ·obtain rfl:k=Ls.length:=by omega
     go_wp2_with fail
     go_ret;refine⟨_,rfl,?_,HB.out⟩;have:=HO.out;rw[Oh,List.take_length]at this;exact this
theorem o9 (x:R.Leaf)(iv:Value)(s:List UInt8)(w:World)(M:Nat→Prop)(hM:∀b,M b→b<w.heap.size)(h:It w M (x,iv))(hl:x.items.length≤100)(a0:Ze x.items)(hk:x=R.none x.path∨x=ZO x x.items):
  Calls Tryz.prog 99 #[.agg #[.int .i64 (pk x),.int .i64 x.n,.string ⟨x.text.toArray⟩,iv],.string ⟨s.toArray⟩] w fun e w' =>∃ia ic,e= .returned (.agg #[.int .i64 3,.int .i64 0,.string ⟨#[]⟩,.slice ia (R.item x.items s).length ic])∧It w' M (ZO x (R.item x.items s),.slice ia (R.item x.items s).length ic)∧Below w.heap.size w w' :=by
 obtain⟨ia,ic,c6,h1,h2,h3⟩:=h;dsimp only at c6 h1 h2 h3;subst c6;have a5:It w M (x,.slice ia x.items.length ic):=⟨ia,ic,rfl,h1,h2,h3⟩
 have a7:=fun W (hW:Below w.heap.size w W)=>Y7 (.slice ia x.items.length ic) x.items s W M (Rd.below a5 hW) (by omega) a0 (a0.mono s)
 have b2:=fun W (hW:Below w.heap.size w W)=>KU (.slice ia x.items.length ic) x.items W M (Rd.below a5 hW) (by omega)
 cases a1:(x.items.any fun y=>y==s)
 ·have HI:Hid (R.item x.items s=x.items.take (xL x.items s)++s::x.items.drop (xL x.items s)):=XE a0 s a1
  have d8:xL x.items s≤x.items.length:=List.findIdx_le_length;rw[a1]at a7;clear h1 h2 h3 a0 hk;generalize xL x.items s=p at*;go_enter Tryz.func99,Tryz.ntmps99;go_wp2_with fail
  refine(a7 _ (((j0g _ _).alloc (j0a _) _).alloc (by simp) _)).mono ?_;rintro e w1 ⟨rfl,b7⟩;subst b7;go_wp2_with fail
  refine(b2 _ (((j0g _ _).alloc (j0a _) _).alloc (by simp) _)).mono ?_;rintro e w2 ⟨v2,rfl,ho,a4⟩;have e3:w.heap.size+2≤w2.heap.size:=by have:=a4.size;simpa using this
  have x0:w2.cell? ⟨w.heap.size+1,0,none⟩=some (.int .i64 0):=by rw[a4.cell (p:=⟨w.heap.size+1,0,none⟩) (by simp)];simp
  have x1:w2.cell? ⟨w.heap.size+1,1,none⟩=some (.int .i64 0):=by rw[a4.cell (p:=⟨w.heap.size+1,1,none⟩) (by simp)];simp
  have x2:w2.cell? ⟨w.heap.size+1,2,none⟩=some (.string ⟨#[]⟩):=by rw[a4.cell (p:=⟨w.heap.size+1,2,none⟩) (by simp)];simp
  have x3:w2.cell? ⟨w.heap.size+1,3,none⟩=some (.slice none 0 0):=by rw[a4.cell (p:=⟨w.heap.size+1,3,none⟩) (by simp)];simp
  have fz:∀j,w2.frozen? ⟨w.heap.size+1,j,none⟩=false:=fun j=>by rw[a4.frozen (p:=⟨w.heap.size+1,j,none⟩) (by simp)];simp
  have b8:Hid (Below w.heap.size w w2):=(((j0g _ _).alloc (j0a _) _).alloc (by simp) _).trans (a4.mono (by simp;omega));have b4 :w2.ownsRow (w.heap.size+2) 9 1 v2 x.items.length (x.items.map S):=by simpa using ho
  have a6:=fun W (hW:Below w2.heap.size w2 W) vb (d9:W.heap[vb]? =some (.cells #[.string ⟨s.toArray⟩] 9 (0,0))) (d7:v2.ownBlock≠some vb)=>gv bg v2 x.items.length p vb (w.heap.size+2) (x.items.map S) #[.string ⟨s.toArray⟩] W (Zt b4 hW) (by have:=hW.size;omega) d8 (by omega) d9 rfl d7 (gX _) (by intro u hu;simp at hu;subst hu;rfl)
  have a9:Hid (∀g,v2.ownBlock=some g→w.heap.size+2≤g∧g<w2.heap.size):=b4.lt;clear a4 ho b4 a5 b2 a7;go_wp2_with fail
  refine(a6 _ ((j0g _ _).alloc (j0a _) _) w2.heap.size (heap_alloc_new w2 _) (fun e=>by have:=a9.out _ e;omega)).mono ?_;rintro e w3 ⟨v3,rfl,b5,b1,_⟩;have e6:w2.heap.size+1≤w3.heap.size:=by have:=b1.size;simpa using this
  have a2:w3.heap[w.heap.size+1]? =w2.heap[w.heap.size+1]? :=by
   rw[b1.block _ (by simp;omega) (fun e=>by have:=a9.out _ e.symm;omega)];exact heap_alloc_old w2 _ (by omega)
  have y0:=(World.cell?_of_block (a:=⟨w.heap.size+1,0,none⟩) a2).trans x0;have y1:=(World.cell?_of_block (a:=⟨w.heap.size+1,1,none⟩) a2).trans x1;have y2:=(World.cell?_of_block (a:=⟨w.heap.size+1,2,none⟩) a2).trans x2;have y3:=(World.cell?_of_block (a:=⟨w.heap.size+1,3,none⟩) a2).trans x3;have f0:=(World.frozen?_of_block (a:=⟨w.heap.size+1,0,none⟩) a2).trans (fz 0);have f1:=(World.frozen?_of_block (a:=⟨w.heap.size+1,1,none⟩) a2).trans (fz 1);have f2:=(World.frozen?_of_block (a:=⟨w.heap.size+1,2,none⟩) a2).trans (fz 2);have f3:=(World.frozen?_of_block (a:=⟨w.heap.size+1,3,none⟩) a2).trans (fz 3);have d4:Hid (Below w.heap.size w w3):=(b8.out.alloc (by omega) _).grown b1 (by simp;omega) (fun k hk=>by have:=a9.out k hk;omega);have a8:(R.item x.items s).length=x.items.length+1:=by
   rw[HI.out];simp only[List.length_append,List.length_take,List.length_cons,List.length_drop];omega
  have b9:Hid (w3.ownsRow (w.heap.size+2) 9 1 v3 (R.item x.items s).length ((R.item x.items s).map S)):=by
   show w3.ownsRow _ _ _ _ _ _;rw[a8,HI.out];simpa[S,List.map_take,List.map_drop]using b5
  have b3:v3.ownBlock≠some (w.heap.size+1):=fun e=>by have:=(b5.lt _ e).1;omega
  obtain⟨a3,c3,d3,_,_,_,_⟩:=zl b9.out;have e1:=z9 d3;subst d3;clear a2 x0 x1 x2 x3 fz b1 b5 a6 a8 a1 b8 a9;go_wp2;obtain⟨z0,z1,z2,z3⟩:=qZ w3 (w.heap.size+1) (.int .i64 3) (.int .i64 0) (.string ⟨#[]⟩) (.slice a3 (R.item x.items s).length c3) _ _ _ _ y0 y1 y2 y3;have hK:zh (fun k=>k=w.heap.size+1) w3 ((((w3.setCell ⟨w.heap.size+1,0,none⟩ (.int .i64 3)).setCell ⟨w.heap.size+1,1,none⟩ (.int .i64 0)).setCell ⟨w.heap.size+1,2,none⟩ (.string ⟨#[]⟩)).setCell ⟨w.heap.size+1,3,none⟩ (.slice a3 (R.item x.items s).length c3)):=
   ((((zh.refl (fun k=>k=w.heap.size+1) w3).setCell (p:=⟨w.heap.size+1,0,none⟩) (.inl rfl) _).setCell (p:=⟨w.heap.size+1,1,none⟩) (.inl rfl) _).setCell (p:=⟨w.heap.size+1,2,none⟩) (.inl rfl) _).setCell (p:=⟨w.heap.size+1,3,none⟩) (.inl rfl) _
  have d6:Below w.heap.size w ((((w3.setCell ⟨w.heap.size+1,0,none⟩ (.int .i64 3)).setCell ⟨w.heap.size+1,1,none⟩ (.int .i64 0)).setCell ⟨w.heap.size+1,2,none⟩ (.string ⟨#[]⟩)).setCell ⟨w.heap.size+1,3,none⟩ (.slice a3 (R.item x.items s).length c3)):=
   (((d4.out.setCell (p:=⟨w.heap.size+1,0,none⟩) (Nat.le_succ _) _).setCell (p:=⟨w.heap.size+1,1,none⟩) (Nat.le_succ _) _).setCell (p:=⟨w.heap.size+1,2,none⟩) (Nat.le_succ _) _).setCell (p:=⟨w.heap.size+1,3,none⟩) (Nat.le_succ _) _
  generalize((((w3.setCell ⟨w.heap.size+1,0,none⟩ (.int .i64 3)).setCell ⟨w.heap.size+1,1,none⟩ (.int .i64 0)).setCell ⟨w.heap.size+1,2,none⟩ (.string ⟨#[]⟩)).setCell ⟨w.heap.size+1,3,none⟩ (.slice a3 (R.item x.items s).length c3))=w9 at*;have b6:=zp b9.out hK (fun g e e2=>b3 (by rw[e,e2]));exact bodyPost_ret (v:= .agg #[.int .i64 3,.int .i64 0,.string ⟨#[]⟩,.slice a3 (R.item x.items s).length c3]) (by simp[results,Tryz.results99,go_sem,z0,z1,z2,z3]) rfl ⟨a3,c3,rfl,Rd.of_owns b6 (fun b hb=>by have:=hM b hb;omega),d6⟩
 ·have hx:x=ZO x x.items:=by
   rcases hk with hk|hk
   ·rw[hk]at a1;simp[R.none]at a1
   ·exact hk
  have c8:pk x=3:=by rw[hx];rfl
  have c7:x.n=0:=by rw[hx];rfl
  have c9:x.text=[]:=by rw[hx];rfl
  rw[XF a0 s a1,c8,c7,c9];rw[hx]at a5;rw[a1]at a7;have d5:Hid (It w M (ZO x x.items,.slice ia x.items.length ic)):=a5;clear h1 h2 h3 a0 hk hx c8 c7 c9 a5 a1 b2;generalize xL x.items s=p at*;generalize x.items.length=n at*;go_enter Tryz.func99,Tryz.ntmps99;go_wp2_with fail
  refine(a7 _ (((j0g _ _).alloc (j0a _) _).alloc (by simp) _)).mono ?_;rintro e w1 ⟨rfl,b7⟩;subst b7;go_wp2;have HB:Below w.heap.size w ((w.alloc (Obj.cells #[.int .i64 3,.int .i64 0,.string ⟨#[]⟩,.slice ia n ic] 137)).alloc (Obj.cells #[.int .i64 3,.int .i64 0,.string ⟨#[]⟩,.slice ia n ic] 137)):=((j0g _ _).alloc (j0a _) _).alloc (by simp) _;exact bodyPost_ret (v:= .agg #[.int .i64 3,.int .i64 0,.string ⟨#[]⟩,.slice ia n ic]) (by simp[results,Tryz.results99,go_sem]) rfl ⟨ia,ic,rfl,Rd.below d5.out HB,HB⟩
theorem Zg {w w1:World}{n:Nat}(B:Nat)(h:Below n w w1)(hB:n≤B)(a b c d:Value):Below n w ((((w1.setCell ⟨B,0,none⟩ a).setCell ⟨B,1,none⟩ b).setCell ⟨B,2,none⟩ c).setCell ⟨B,3,none⟩ d):=
 (((h.setCell (p:=⟨B,0,none⟩) hB _).setCell (p:=⟨B,1,none⟩) hB _).setCell (p:=⟨B,2,none⟩) hB _).setCell (p:=⟨B,3,none⟩) hB _
theorem Km (k1 k2 k3 n1 n2 n3:Int)(t1 t2 t3 p:List UInt8)(a1 a2 a3:Option Addr)(l1 l2 l3 c1 c2 c3:Nat)(w:World)(h1:n1≤1000000000∧ -1000000000≤n1)(h2:n2≤1000000000∧ -1000000000≤n2)(h3:n3≤1000000000∧ -1000000000≤n3):
  Calls Tryz.prog 185 #[.agg #[.int .i64 k1,.int .i64 n1,.string ⟨t1.toArray⟩,.slice a1 l1 c1],.agg #[.int .i64 k2,.int .i64 n2,.string ⟨t2.toArray⟩,.slice a2 l2 c2],.agg #[.int .i64 k3,.int .i64 n3,.string ⟨t3.toArray⟩,.slice a3 l3 c3]] w fun e w' =>
   e= .returned (.tuple #[.agg #[.int .i64 (pk (R.counterJ p (n2+n3-n1)).1),.int .i64 (R.counterJ p (n2+n3-n1)).1.n,.string ⟨#[]⟩,.slice none 0 0],.int .i64 (R.counterJ p (n2+n3-n1)).2])∧Below w.heap.size w w' :=by
 obtain⟨h1,a0⟩:=h1;obtain⟨h2,a4⟩:=h2;obtain⟨h3,a5⟩:=h3;have four:∀o1 o2 o3 o4:Obj,Below w.heap.size w ((((w.alloc o1).alloc o2).alloc o3).alloc o4):=fun o1 o2 o3 o4=>((((j0g _ _).alloc (j0a _) _).alloc (by simp) _).alloc (by simp;omega) _).alloc (by simp;omega) _
 have H4:=z9 four;clear four;by_cases hb:1000000000<n2+n3-n1∨n2+n3-n1< -1000000000
 ·have e0:R.counterJ p (n2+n3-n1)=(R.none [],8):=by unfold R.counterJ R.bad;rw[if_pos hb]
  rw[e0];clear e0;rcases hb with hb|hb
  all_goals
   go_enter Tryz.func185,Tryz.ntmps185;go_wp2;exact bodyPost_ret (v:= .tuple #[.agg #[.int .i64 0,.int .i64 0,.string ⟨#[]⟩,.slice none 0 0],.int .i64 8]) (by simp[results,Tryz.results185,go_sem]) rfl ⟨rfl,H4.out _ _ _ _⟩
 ·have e0:R.counterJ p (n2+n3-n1)=({path:=p,kind:=35,n:=n2+n3-n1,text:=[],items:=[]},0):=by unfold R.counterJ;rw[if_neg hb]
  rw[e0];clear e0;have a6:n2+n3-n1≤1000000000:=by omega
  have a7: -1000000000≤n2+n3-n1:=by omega
  clear hb;go_enter Tryz.func185,Tryz.ntmps185;go_wp2;exact bodyPost_ret (v:= .tuple #[.agg #[.int .i64 1,.int .i64 (n2+n3-n1),.string ⟨#[]⟩,.slice none 0 0],.int .i64 0]) (by simp[results,Tryz.results185,go_sem]) rfl ⟨rfl,H4.out _ _ _ _⟩
def Yy (l:List (List UInt8)):R.Leaf:={path:=[],kind:=if l=[]then 0 else 42,n:=0,text:=[],items:=l}
theorem GY (l:List (List UInt8)):Yy l=R.none (Yy l).path∨Yy l=ZO (Yy l) (Yy l).items:=by
 by_cases h:l=[]
 ·subst h;exact .inl rfl
 ·right;simp[Yy,ZO,h]
theorem ud (l:List (List UInt8))(h:l≠ []):pk (Yy l)=3:=by simp[pk,Yy,h]
theorem OkL.full {y:R.Leaf}(h:OkL y)(hk:y.kind=42):y.items≠ []:=by
 rcases h.kind with h|h|h
 ·rw[hk]at h;simp at h
 ·rw[hk]at h;simp at h
 ·exact h.2.2.2
structure VB (w:World)(B:Nat)(k n:Int)(t:List UInt8)(iv:Value):Prop where
 c0:w.cell? ⟨B,0,none⟩=some (.int .i64 k)
 c1:w.cell? ⟨B,1,none⟩=some (.int .i64 n)
 c2:w.cell? ⟨B,2,none⟩=some (.string ⟨t.toArray⟩)
 c3:w.cell? ⟨B,3,none⟩=some iv
theorem VB.kept {w w' :World}{Z:Nat→Prop}{B:Nat}{k n:Int}{t:List UInt8}{iv:Value}(h:VB w B k n t iv)(hk:zh Z w w')(hB:B<w.heap.size)(hZ:¬Z B):VB w' B k n t iv:=
 ⟨by rw[hk.cell (p:=⟨B,0,none⟩) hB hZ];exact h.c0,by rw[hk.cell (p:=⟨B,1,none⟩) hB hZ];exact h.c1,by rw[hk.cell (p:=⟨B,2,none⟩) hB hZ];exact h.c2,by rw[hk.cell (p:=⟨B,3,none⟩) hB hZ];exact h.c3⟩
theorem VB.below {w w' :World}{m B:Nat}{k n:Int}{t:List UInt8}{iv:Value}(h:VB w B k n t iv)(hb:Below m w w')(hB:B<m):VB w' B k n t iv:=
 ⟨by rw[hb.cell (p:=⟨B,0,none⟩) hB];exact h.c0,by rw[hb.cell (p:=⟨B,1,none⟩) hB];exact h.c1,by rw[hb.cell (p:=⟨B,2,none⟩) hB];exact h.c2,by rw[hb.cell (p:=⟨B,3,none⟩) hB];exact h.c3⟩
theorem VB.four {w:World}{B:Nat}{k n:Int}{t:List UInt8}{iv:Value}(h:VB w B k n t iv)(k' n' :Int)(t' :List UInt8)(a0 :Value):VB ((((w.setCell ⟨B,0,none⟩ (.int .i64 k')).setCell ⟨B,1,none⟩ (.int .i64 n')).setCell ⟨B,2,none⟩ (.string ⟨t'.toArray⟩)).setCell ⟨B,3,none⟩ a0) B k' n' t' a0 :=by
 have n1:∀{a b:Nat},a≠b→(⟨B,a,none⟩:Addr)≠⟨B,b,none⟩:=fun h e=>h (by injection e)
 refine⟨?_,?_,?_,?_⟩
 ·rw[World.cell?_setCell_other _ _ _ _ (n1 (by decide)),World.cell?_setCell_other _ _ _ _ (n1 (by decide)),World.cell?_setCell_other _ _ _ _ (n1 (by decide))];exact World.cell?_setCell_same _ _ _ h.c0
 ·rw[World.cell?_setCell_other _ _ _ _ (n1 (by decide)),World.cell?_setCell_other _ _ _ _ (n1 (by decide))];exact World.cell?_setCell_same _ _ _ (by rw[World.cell?_setCell_other _ _ _ _ (n1 (by decide))];exact h.c1)
 ·rw[World.cell?_setCell_other _ _ _ _ (n1 (by decide))];exact World.cell?_setCell_same _ _ _ (by rw[World.cell?_setCell_other _ _ _ _ (n1 (by decide)),World.cell?_setCell_other _ _ _ _ (n1 (by decide))];exact h.c2)
 ·exact World.cell?_setCell_same _ _ _ (by rw[World.cell?_setCell_other _ _ _ _ (n1 (by decide)),World.cell?_setCell_other _ _ _ _ (n1 (by decide)),World.cell?_setCell_other _ _ _ _ (n1 (by decide))];exact h.c3)
theorem zh.four {Z:Nat→Prop}{a w:World}(h:zh Z a w){B:Nat}(hB:Z B∨a.heap.size≤B)(u0 u1 u2 u3:Value):zh Z a ((((w.setCell ⟨B,0,none⟩ u0).setCell ⟨B,1,none⟩ u1).setCell ⟨B,2,none⟩ u2).setCell ⟨B,3,none⟩ u3):=
 (((h.setCell (p:=⟨B,0,none⟩) hB _).setCell (p:=⟨B,1,none⟩) hB _).setCell (p:=⟨B,2,none⟩) hB _).setCell (p:=⟨B,3,none⟩) hB _
theorem ol (x y z:R.Leaf)(xa ya za:Option Addr)(xc yc zc:Nat)(p:List UInt8)(w:World)(M:Nat→Prop)(hM:∀b,M b→b<w.heap.size)(hx:VO p x)(hy:OkL y∧y.kind=42)(hz:OkL z∧z.kind=42)
  (ix:It w M (x,.slice xa x.items.length xc))(iy:It w M (y,.slice ya y.items.length yc))(iz:It w M (z,.slice za z.items.length zc)):
  Calls Tryz.prog 186 #[.agg #[.int .i64 (pk x),.int .i64 x.n,.string ⟨x.text.toArray⟩,.slice xa x.items.length xc],.agg #[.int .i64 (pk y),.int .i64 y.n,.string ⟨y.text.toArray⟩,.slice ya y.items.length yc],.agg #[.int .i64 (pk z),.int .i64 z.n,.string ⟨z.text.toArray⟩,.slice za z.items.length zc]] w fun e w' =>
   ∃ia ic,e= .returned (.tuple #[.agg #[.int .i64 (pk (R.bagV p (R.bagJ x.items y.items z.items)).1),.int .i64 0,.string ⟨#[]⟩,.slice ia (R.bagV p (R.bagJ x.items y.items z.items)).1.items.length ic],.int .i64 (R.bagV p (R.bagJ x.items y.items z.items)).2])∧
    It w' M ((R.bagV p (R.bagJ x.items y.items z.items)).1,.slice ia (R.bagV p (R.bagJ x.items y.items z.items)).1.items.length ic)∧Below w.heap.size w w' :=by
 have j6:y.items≠ []:=hy.1.full hy.2;have j7:z.items≠ []:=hz.1.full hz.2;have m3:=hy.1.many;have m6:=hz.1.many;have h4:0<y.items.length:=List.length_pos_iff.2 j6;have h7:0<z.items.length:=List.length_pos_iff.2 j7;have j0:=fun W s (hW:Below w.heap.size w W)=>Qn x (.slice xa x.items.length xc) s W M (Rd.below ix hW) (by have:=hx.few;omega) hx.sort
 have j1:=fun W s (hW:Below w.heap.size w W)=>Qn y (.slice ya y.items.length yc) s W M (Rd.below iy hW) (by omega) hy.1.sort
 have j2:=fun W s (hW:Below w.heap.size w W)=>Qn z (.slice za z.items.length zc) s W M (Rd.below iz hW) (by omega) hz.1.sort
 have j5:∀(W:World) (M:Nat→Prop) (l:List (List UInt8)) (ia:Option Addr) (ic:Nat) (s:List UInt8),(∀b,M b→b<W.heap.size)→It W M (Yy l,.slice ia l.length ic)→l.length≤100→Ze l→
   Calls Tryz.prog 99 #[.agg #[.int .i64 (pk (Yy l)),.int .i64 0,.string ⟨#[]⟩,.slice ia l.length ic],.string ⟨s.toArray⟩] W fun e w' =>∃ia ic,e= .returned (.agg #[.int .i64 3,.int .i64 0,.string ⟨#[]⟩,.slice ia (R.item l s).length ic])∧It w' M (Yy (R.item l s),.slice ia (R.item l s).length ic)∧Below W.heap.size W w' :=
  fun W M l ia ic s hM l9 hl d9=>o9 (Yy l) (.slice ia l.length ic) s W M hM l9 hl d9 (GY l)
 have i8:∀(W:World) (b0:Nat),Below w.heap.size w W→W.cell? ⟨b0,0,none⟩=some (.slice ya y.items.length yc)→W.cell? ⟨b0,1,none⟩=some (.slice za z.items.length zc)→b0<W.heap.size→
   Calls Tryz.prog 223 #[.slice (some ⟨b0,0,none⟩) 2 2] W fun e w' =>∃v',e= .returned v' ∧w'.ownsRow W.heap.size 9 1 v' (y.items++z.items).length ((y.items++z.items).map S)∧Below W.heap.size W w' :=by
  intro W b0 hW h0 h1 l5;obtain⟨o4,o5,m4,n5,n6,m2⟩:=Rd.below iy hW;obtain⟨o6,o7,m7,n8,n9,m5⟩:=Rd.below iz hW;injection m4 with e1 e2 e3
  injection m7 with f1 f2 f3
  subst e1 f1;obtain⟨yb,yo,rfl,n7⟩:=m2 h4;obtain⟨zb,zo,rfl,o3⟩:=m5 h7;have hT:Yk [y.items,z.items] [y.items,z.items].length=y.items.length+z.items.length:=by simp[Yk]
  have:=fD b0 2 [y.items,z.items] [] W M (by simp) (fun j hj=>by
   match j,hj with
   |0,_=>exact⟨_,_,h0,Rd.below iy hW,h4⟩
   |1,_=>exact⟨_,_,h1,Rd.below iz hW,h7⟩) (by rw[hT];omega) (by rw[hT];omega) l5
  simpa using this
 have hJ:R.bagJ x.items y.items z.items=Zl (fun s=>(R.inL y.items s&&R.inL z.items s)|| !R.inL x.items s) [] (y.items++z.items):=FB hy.1.item hz.1.item;have d4:∀i∈y.items++z.items,R.isText i=true∧i≠ []:=fun i hi=>by
  rcases List.mem_append.1 hi with h|h
  ·exact hy.1.item i h
  ·exact hz.1.item i h
 have a4:Hid (∀k,OkI (Zl (fun s=>(R.inL y.items s&&R.inL z.items s)|| !R.inL x.items s) [] ((y.items++z.items).take k))∧(Zl (fun s=>(R.inL y.items s&&R.inL z.items s)|| !R.inL x.items s) [] ((y.items++z.items).take k)).length≤16):=fun k=>by
  refine⟨qJ _ _ _ OkI.nil fun i hi=>d4 i (List.mem_of_mem_take hi),?_⟩;have:=Jd (fun s=>(R.inL y.items s&&R.inL z.items s)|| !R.inL x.items s) ((y.items++z.items).take k) [];simp only[List.length_nil,List.length_take,List.length_append]at this;omega
 have f6:Hid (∀k (h:k<(y.items++z.items).length),Zl (fun s=>(R.inL y.items s&&R.inL z.items s)|| !R.inL x.items s) [] ((y.items++z.items).take (k+1))=if((R.inL y.items (y.items++z.items)[k]&&R.inL z.items (y.items++z.items)[k])|| !R.inL x.items (y.items++z.items)[k])then R.item (Zl (fun s=>(R.inL y.items s&&R.inL z.items s)|| !R.inL x.items s) [] ((y.items++z.items).take k)) (y.items++z.items)[k]else Zl (fun s=>(R.inL y.items s&&R.inL z.items s)|| !R.inL x.items s) [] ((y.items++z.items).take k)):=fun k h=>by
  rw[List.take_succ_eq_append_getElem h,OB]
 have a9:Hid (R.bagJ x.items y.items z.items=Zl (fun s=>(R.inL y.items s&&R.inL z.items s)|| !R.inL x.items s) [] ((y.items++z.items).take (y.items++z.items).length)):=by
  show _=_;rw[List.take_length];exact hJ
 generalize b7:(fun k=>Zl (fun s=>(R.inL y.items s&&R.inL z.items s)|| !R.inL x.items s) [] ((y.items++z.items).take k))=acc;have i7:∀k,Zl (fun s=>(R.inL y.items s&&R.inL z.items s)|| !R.inL x.items s) [] ((y.items++z.items).take k)=acc k:=fun k=>by rw[←b7]
 have i6:acc 0=[]:=by rw[←b7];rfl
 simp only[i7]at a4 f6 a9;have d7:∀(W:World) (M:Nat→Prop),It W M (Yy [],.slice none 0 0):=fun W M=>⟨none,0,rfl,j0a _,by unfold maxLen;omega,fun h=>absurd h (Nat.lt_irrefl _)⟩
 have b5:=z9 d7;have i2:=z9 j0;have k4:=z9 j1;have k5:=z9 j2;have g9:=z9 j5;have k6:(y.items++z.items).length≤16:=by rw[List.length_append];omega
 clear j0 j1 j2 j5 d7 hJ d4 b7 i7 hx hy hz ix iy iz j6 j7 h4 h7 m3 m6;go_enter Tryz.func186,Tryz.ntmps186;go_wp2_with fail
 refine(i8 _ _ ((((((((j0g _ _).alloc (j0a _) _).alloc (by simp) _).alloc (by simp;omega) _).alloc (by simp;omega) _).alloc (by simp;omega) _).alloc (by simp;omega) _)) (by simp[go_sem]) (by simp[go_sem]) (by simp)).mono ?_;rintro e w1 ⟨v1,rfl,f8,a7⟩;have j4:=a7.size;simp only[World.size_alloc]at j4 f8;have VX:VB w1 w.heap.size (pk x) x.n x.text (.slice xa x.items.length xc):=by
  refine VB.below ?_ a7 (by simp only[World.size_alloc];omega);exact⟨by simp[go_sem],by simp[go_sem],by simp[go_sem],by simp[go_sem]⟩
 have VY:VB w1 (w.heap.size+1) (pk y) y.n y.text (.slice ya y.items.length yc):=by
  refine VB.below ?_ a7 (by simp only[World.size_alloc];omega);exact⟨by simp[go_sem],by simp[go_sem],by simp[go_sem],by simp[go_sem]⟩
 have VZ:VB w1 (w.heap.size+1+1) (pk z) z.n z.text (.slice za z.items.length zc):=by
  refine VB.below ?_ a7 (by simp only[World.size_alloc];omega);exact⟨by simp[go_sem],by simp[go_sem],by simp[go_sem],by simp[go_sem]⟩
 have VR:VB w1 (w.heap.size+1+1+1) 0 0 [] (.slice none 0 0):=by
  refine VB.below ?_ a7 (by simp only[World.size_alloc];omega);exact⟨by simp[go_sem],by simp[go_sem],by simp[go_sem],by simp[go_sem]⟩
 have FR:Hid (∀j,w1.frozen? ⟨w.heap.size+1+1+1,j,none⟩=false):=fun j=>by rw[a7.frozen (p:=⟨w.heap.size+1+1+1,j,none⟩) (by simp only[World.size_alloc];omega)];simp[go_sem]
 have VV:VB w1 (w.heap.size+1+1+1+1) 0 0 [] (.slice none 0 0):=by
  refine VB.below ?_ a7 (by simp only[World.size_alloc];omega);exact⟨by simp[go_sem],by simp[go_sem],by simp[go_sem],by simp[go_sem]⟩
 have FV:Hid (∀j,w1.frozen? ⟨w.heap.size+1+1+1+1,j,none⟩=false):=fun j=>by rw[a7.frozen (p:=⟨w.heap.size+1+1+1+1,j,none⟩) (by simp only[World.size_alloc];omega)];simp[go_sem]
 have k3:Hid (Below w.heap.size w w1):=((((((((j0g _ _).alloc (j0a _) _).alloc (by simp) _).alloc (by simp;omega) _).alloc (by simp;omega) _).alloc (by simp;omega) _).alloc (by simp;omega) _)).trans (a7.mono (by simp;omega));obtain⟨a1,c1,m1,n3,m9,d8,a6⟩:=zl f8;have k7:=z9 f8;subst m1;clear a7 f8 i8;generalize k9:w.heap.size+1=B1 at*;generalize l0:B1+1=B2 at*;generalize l3:B2+1=B3 at*;generalize l4:B3+1=B4 at*;have g1:w.heap.size<B1:=by omega
 have g2:B1<B2:=by omega
 have g3:B2<B3:=by omega
 have g4:B3<B4:=by omega
 have g5:B4<w1.heap.size:=by omega
 have m8:Hid (∀g,a1=some g→B4<g.block):=fun g hg=>by
  obtain⟨g',rfl,l6,_⟩:=a6 g hg;show B4<g';omega
 clear k9 l0 l3 l4 j4 k7;have g7:=z9 a6;have b6:=z9 d8;clear a6 d8;go_wp2_with fail
 go_loopw [19] (fun i wr=>∃k ia ic,k≤(y.items++z.items).length∧i= .int .i64 (k:Nat)∧zh (fun b=>b=B4) w1 wr∧VB wr B4 (pk (Yy (acc k))) 0 [] (.slice ia (acc k).length ic)∧It wr (fun b=>M b∨b=B4∨b=B3) (Yy (acc k),.slice ia (acc k).length ic)∧∀j,wr.frozen? ⟨B4,j,none⟩=false) (fun i _=>(y.items++z.items).length-(intOf i).toNat)
 case atStart=>exact⟨0,none,0,Nat.zero_le _,rfl,zh.refl _ _,by rw[i6];exact VV,by rw[i6];exact b5.out _ _,FV.out⟩
 case round=>
  obtain⟨k,ia,ic,hk,rfl,hK,hV,hI,hF⟩:=hrel;have c8:Hid (∀W,zh (fun b=>b=B4) w1 W→Below w.heap.size w W):=fun W hK=>k3.out.trans ⟨hK.os,hK.tape,hK.output,hK.size,fun b hb=>hK.block b (by omega) (by omega)⟩
  have g6:Hid (∀W,zh (fun b=>b=B4) w1 W→∀b,M b∨b=B4∨b=B3→b<W.heap.size):=fun W hK b hb=>by
   have:=hK.size;rcases hb with hb|hb|hb
   ·have:=hM b hb;omega
   ·omega
   ·omega
  have n4:=hK.size;by_cases b8:k<(y.items++z.items).length
  ·cases a1 with
   |none=>have:=(b6.out rfl).1;omega
   |some ad=>
   obtain⟨g,rfl,l6,l8,l7,i9⟩:=g7.out ad rfl;have hs:=f6.out k b8;have e0:wr.cell? ⟨g,k,none⟩=some (.string ⟨((y.items++z.items)[k]'b8).toArray⟩):=(hK.cell (p:=⟨g,k,none⟩) l8 (by show¬g=B4;omega)).trans (i9 k _ (by rw[List.getElem?_map,j0d b8];rfl));have h2 :k<y.items.length+z.items.length:=by simpa using b8
   generalize(y.items++z.items)[k]'b8=s at*;have HS:=z9 hs;have a8:=z9 (a4.out k);have HI:=z9 hI;obtain⟨y0,y1,y2,y3⟩:=VY.kept hK (by omega) (by show¬B1=B4;omega);have i5:=z9 VX;have k8:=z9 VZ;have i4:=z9 hV;have i0:=z9 hF;have g0:=z9 hK;clear i9 l7 g7 b6 f6 a4 a9 b5 hs VX VY VZ VR VV hV hF hK hI;go_wp2_with fail
   refine(k4.out _ s (c8.out _ g0.out)).mono ?_;rintro e w2 ⟨rfl,d5⟩;have b1:Hid (zh (fun b=>b=B4) w1 w2):=g0.out.trans (zh.of_below d5);have f7:Hid (VB w2 B4 (pk (Yy (acc k))) 0 [] (.slice ia (acc k).length ic)):=i4.out.below d5 (by omega);have e9:Hid (∀j,w2.frozen? ⟨B4,j,none⟩=false):=fun j=>(d5.frozen (p:=⟨B4,j,none⟩) (by show B4<_;omega)).trans (i0.out j)
   have f4:Hid (It w2 (fun b=>M b∨b=B4∨b=B3) (Yy (acc k),.slice ia (acc k).length ic)):=Rd.below HI.out d5;clear d5 g0 i4 i0 HI y0 y1 y2 y3 e0
   cases e8:(y.items.any fun y=>y==s)
   ·obtain⟨q0,q1,q2,q3⟩:=i5.out.kept b1.out (by omega) (by show¬_=B4;omega)
    go_wp2_with fail
    refine(i2.out _ s (c8.out _ b1.out)).mono ?_;rintro e w3 ⟨rfl,a5⟩;have b9:=b1.out.size;have a3:Hid (zh (fun b=>b=B4) w1 w3):=b1.out.trans (zh.of_below a5);have b2:Hid (VB w3 B4 (pk (Yy (acc k))) 0 [] (.slice ia (acc k).length ic)):=f7.out.below a5 (by omega);have c6:Hid (∀j,w3.frozen? ⟨B4,j,none⟩=false):=fun j=>(a5.frozen (p:=⟨B4,j,none⟩) (by show B4<_;omega)).trans (e9.out j)
    have c7:Hid (It w3 (fun b=>M b∨b=B4∨b=B3) (Yy (acc k),.slice ia (acc k).length ic)):=Rd.below f4.out a5;clear a5 b9 f7 e9 f4 q0 q1 q2 q3
    cases e7:(x.items.any fun y=>y==s)
    ·have HE:Hid (acc (k+1)=R.item (acc k) s):=by show _=_;rw[HS.out];exact if_pos (by simp[R.inL,e8,e7])
     have e6:=a3.out.size;obtain⟨v0,v1,v2,v3⟩:=b2.out;go_wp2_with fail
     refine(g9.out _ _ (acc k) ia ic s (g6.out _ a3.out) c7.out (by have:=a8.out.2;omega) a8.out.1.sort).mono ?_;rintro e w9 ⟨ib,id,rfl,b4,a2⟩;have d3:Hid (zh (fun b=>b=B4) w1 w9):=a3.out.trans (zh.of_below a2);have b3:Hid (VB w9 B4 (pk (Yy (acc k))) 0 [] (.slice ia (acc k).length ic)):=b2.out.below a2 (by omega);have a0:Hid (∀j,w9.frozen? ⟨B4,j,none⟩=false):=fun j=>(a2.frozen (p:=⟨B4,j,none⟩) (by show B4<_;omega)).trans (c6.out j)
     have c9:=z9 b4;obtain⟨j8,j9,k1,k2⟩:=b3.out;have f0:=a0.out 0;have f1:=a0.out 1;have f2:=a0.out 2;have f3:=a0.out 3;clear v0 v1 v2 v3 a2 b4;go_wp2;go_roundw
     case rel=>
      refine⟨k+1,ib,id,by omega,by go_num,d3.out.four (.inl rfl) _ _ _ _,?_,?_,fun j=>by simpa using a0.out j⟩
      ·rw[HE.out,ud _ (fun e=>by have:=Qm a8.out.1 s;rw[e]at this;cases this)];exact b3.out.four 3 0 [] _
      ·rw[HE.out];exact Rd.step c9.out (zh.four (Z:=fun b=>b=B4) (zh.refl _ _) (.inl rfl) _ _ _ _) (fun b hb=> .inr (.inl hb)) (fun b hb=> .inl hb)
     case measure=>simp[intOf];omega
    ·have HE:Hid (acc (k+1)=acc k):=by show _=_;rw[HS.out];exact if_neg (by simp[R.inL,e8,e7])
     go_wp2;go_roundw
     case rel=>
      refine⟨k+1,ia,ic,by omega,by go_num,a3.out,?_,?_,c6.out⟩
      ·rw[HE.out];exact b2.out
      ·rw[HE.out];exact c7.out
     case measure=>simp[intOf];omega
   ·obtain⟨q0,q1,q2,q3⟩:=k8.out.kept b1.out (by omega) (by show¬_=B4;omega)
    go_wp2_with fail
    refine(k5.out _ s (c8.out _ b1.out)).mono ?_;rintro e w3 ⟨rfl,a5⟩;have b9:=b1.out.size;have a3:Hid (zh (fun b=>b=B4) w1 w3):=b1.out.trans (zh.of_below a5);have b2:Hid (VB w3 B4 (pk (Yy (acc k))) 0 [] (.slice ia (acc k).length ic)):=f7.out.below a5 (by omega);have c6:Hid (∀j,w3.frozen? ⟨B4,j,none⟩=false):=fun j=>(a5.frozen (p:=⟨B4,j,none⟩) (by show B4<_;omega)).trans (e9.out j)
    have c7:Hid (It w3 (fun b=>M b∨b=B4∨b=B3) (Yy (acc k),.slice ia (acc k).length ic)):=Rd.below f4.out a5;clear a5 b9 f7 e9 f4 q0 q1 q2 q3
    cases h5:(z.items.any fun y=>y==s)
    ·obtain⟨q0,q1,q2,q3⟩:=i5.out.kept a3.out (by omega) (by show¬_=B4;omega)
     go_wp2_with fail
     refine(i2.out _ s (c8.out _ a3.out)).mono ?_;rintro e w4 ⟨rfl,d6⟩;have h3:=a3.out.size;have f5:Hid (zh (fun b=>b=B4) w1 w4):=a3.out.trans (zh.of_below d6);have g8:Hid (VB w4 B4 (pk (Yy (acc k))) 0 [] (.slice ia (acc k).length ic)):=b2.out.below d6 (by omega);have i1:Hid (∀j,w4.frozen? ⟨B4,j,none⟩=false):=fun j=>(d6.frozen (p:=⟨B4,j,none⟩) (by show B4<_;omega)).trans (c6.out j)
     have i3:Hid (It w4 (fun b=>M b∨b=B4∨b=B3) (Yy (acc k),.slice ia (acc k).length ic)):=Rd.below c7.out d6;clear d6 h3 b2 c6 c7 q0 q1 q2 q3
     cases e7:(x.items.any fun y=>y==s)
     ·have HE:Hid (acc (k+1)=R.item (acc k) s):=by show _=_;rw[HS.out];exact if_pos (by simp[R.inL,e8,h5,e7])
      have e6:=f5.out.size;obtain⟨v0,v1,v2,v3⟩:=g8.out;go_wp2_with fail
      refine(g9.out _ _ (acc k) ia ic s (g6.out _ f5.out) i3.out (by have:=a8.out.2;omega) a8.out.1.sort).mono ?_;rintro e w9 ⟨ib,id,rfl,b4,a2⟩;have d3:Hid (zh (fun b=>b=B4) w1 w9):=f5.out.trans (zh.of_below a2);have b3:Hid (VB w9 B4 (pk (Yy (acc k))) 0 [] (.slice ia (acc k).length ic)):=g8.out.below a2 (by omega);have a0:Hid (∀j,w9.frozen? ⟨B4,j,none⟩=false):=fun j=>(a2.frozen (p:=⟨B4,j,none⟩) (by show B4<_;omega)).trans (i1.out j)
      have c9:=z9 b4;obtain⟨j8,j9,k1,k2⟩:=b3.out;have f0:=a0.out 0;have f1:=a0.out 1;have f2:=a0.out 2;have f3:=a0.out 3;clear v0 v1 v2 v3 a2 b4;go_wp2;go_roundw
      case rel=>
       refine⟨k+1,ib,id,by omega,by go_num,d3.out.four (.inl rfl) _ _ _ _,?_,?_,fun j=>by simpa using a0.out j⟩
       ·rw[HE.out,ud _ (fun e=>by have:=Qm a8.out.1 s;rw[e]at this;cases this)];exact b3.out.four 3 0 [] _
       ·rw[HE.out];exact Rd.step c9.out (zh.four (Z:=fun b=>b=B4) (zh.refl _ _) (.inl rfl) _ _ _ _) (fun b hb=> .inr (.inl hb)) (fun b hb=> .inl hb)
      case measure=>simp[intOf];omega
     ·have HE:Hid (acc (k+1)=acc k):=by show _=_;rw[HS.out];exact if_neg (by simp[R.inL,e8,h5,e7])
      go_wp2;go_roundw
      case rel=>
       refine⟨k+1,ia,ic,by omega,by go_num,f5.out,?_,?_,i1.out⟩
       ·rw[HE.out];exact g8.out
       ·rw[HE.out];exact i3.out
      case measure=>simp[intOf];omega
    ·have HE:Hid (acc (k+1)=R.item (acc k) s):=by show _=_;rw[HS.out];exact if_pos (by simp[R.inL,e8,h5])
     have e6:=a3.out.size;obtain⟨v0,v1,v2,v3⟩:=b2.out;go_wp2_with fail
     refine(g9.out _ _ (acc k) ia ic s (g6.out _ a3.out) c7.out (by have:=a8.out.2;omega) a8.out.1.sort).mono ?_;rintro e w9 ⟨ib,id,rfl,b4,a2⟩;have d3:Hid (zh (fun b=>b=B4) w1 w9):=a3.out.trans (zh.of_below a2);have b3:Hid (VB w9 B4 (pk (Yy (acc k))) 0 [] (.slice ia (acc k).length ic)):=b2.out.below a2 (by omega);have a0:Hid (∀j,w9.frozen? ⟨B4,j,none⟩=false):=fun j=>(a2.frozen (p:=⟨B4,j,none⟩) (by show B4<_;omega)).trans (c6.out j)
     have c9:=z9 b4;obtain⟨j8,j9,k1,k2⟩:=b3.out;have f0:=a0.out 0;have f1:=a0.out 1;have f2:=a0.out 2;have f3:=a0.out 3;clear v0 v1 v2 v3 a2 b4;go_wp2;go_roundw
     case rel=>
      refine⟨k+1,ib,id,by omega,by go_num,d3.out.four (.inl rfl) _ _ _ _,?_,?_,fun j=>by simpa using a0.out j⟩
      ·rw[HE.out,ud _ (fun e=>by have:=Qm a8.out.1 s;rw[e]at this;cases this)];exact b3.out.four 3 0 [] _
      ·rw[HE.out];exact Rd.step c9.out (zh.four (Z:=fun b=>b=B4) (zh.refl _ _) (.inl rfl) _ _ _ _) (fun b hb=> .inr (.inl hb)) (fun b hb=> .inl hb)
     case measure=>simp[intOf];omega
  ·have j3:k=(y.items++z.items).length:=by omega
   have h2 :¬k<y.items.length+z.items.length:=by simpa using b8
   have HE:Hid (R.bagJ x.items y.items z.items=acc k):=by show _=_;rw[a9.out,j3]
   obtain⟨v0,v1,v2,v3⟩:=hV;obtain⟨r0,r1,r2,r3⟩:=VR.kept hK (by omega) (by show¬_=B4;omega);have fr:=fun j=>(hK.frozen (p:=⟨B3,j,none⟩) (by show B3<_;omega) (by show¬B3=B4;omega)).trans (FR.out j)
   have f0:=fr 0;have f1:=fr 1;have f2:=fr 2;have f3:=fr 3;have HI:=z9 hI;have h9:=z9 (c8.out _ hK);have m0:=(a4.out k).2;clear j3 b8 hK hF hI g7 b6 f6 a4 a9 b5 VX VY VZ VV VR;by_cases h8:8<(acc k).length
   ·have f9:Hid (R.bagV p (R.bagJ x.items y.items z.items)=R.bad 4):=by show _=_;rw[HE.out,R.bagV,if_pos h8]
    go_wp2;refine bodyPost_ret (v:= .tuple #[.agg #[.int .i64 0,.int .i64 0,.string ⟨#[]⟩,.slice none 0 0],.int .i64 4]) (by simp[results,Tryz.results186,go_sem, *]) rfl ?_;rw[f9.out];exact⟨none,0,rfl,⟨none,0,rfl,j0a _,by unfold maxLen;omega,fun h=>absurd h (Nat.lt_irrefl _)⟩,Zg B3 h9.out (by omega) _ _ _ _⟩
   ·have f9:Hid (R.bagV p (R.bagJ x.items y.items z.items)=({path:=p,kind:=if acc k=[]then 0 else 42,n:=0,text:=[],items:=acc k},0)):=by show _=_;rw[HE.out,R.bagV,if_neg h8]
    go_wp2;refine bodyPost_ret (v:= .tuple #[.agg #[.int .i64 (pk (Yy (acc k))),.int .i64 0,.string ⟨#[]⟩,.slice ia (acc k).length ic],.int .i64 0]) (by simp[results,Tryz.results186,go_sem, *]) rfl ?_;rw[f9.out];exact⟨ia,ic,rfl,Rd.step HI.out (zh.four (Z:=fun b=>b=B3) (zh.refl _ _) (.inl rfl) _ _ _ _) (fun b hb=> .inr (.inr hb)) (fun b hb=> .inl (.inl hb)),Zg B3 h9.out (by omega) _ _ _ _⟩
theorem OC {p:List UInt8}{x y:R.Leaf}(hx:VO p x)(hy:VO p y)(h:pk x=pk y):x.kind=y.kind:=by
 have h1:x.kind=0∨x.kind=35∨x.kind=61∨x.kind=42:=by
  by_cases e:x.kind=0
  ·exact .inl e
  ·exact .inr (hx.ok e).kinds
 have h2:y.kind=0∨y.kind=35∨y.kind=61∨y.kind=42:=by
  by_cases e:y.kind=0
  ·exact .inl e
  ·exact .inr (hy.ok e).kinds
 unfold pk at h;rcases h1 with e|e|e|e<;>rcases h2 with e' |e' |e' |e' <;>rw[e,e']at h⊢<;>simp at h
theorem Uu {p:List UInt8}{x y:R.Leaf}(hx:VO p x)(hy:VO p y):Yl x y=R.same x y:=by
 rw[Bool.eq_iff_iff,fv hx hy];constructor
 ·intro h
  obtain⟨h1,h2,h3,h4⟩:=of_decide_eq_true h;have hk:=OC hx hy h1;have hp:x.path=y.path:=by rw[hx.path,hy.path]
  obtain⟨p1,k,n,t,it⟩:=x;obtain⟨p2,k',n',t',a0⟩:=y;simp only at hp h2 h3 h4 hk;subst hp h2 h3 h4 hk;rfl
 ·intro h
  subst h;simp[Yl]
theorem Cu {x:R.Leaf}(k:Int)(h:x.kind=k):pk x=if k=35 then 1 else if k=61 then 2 else if k=42 then 3 else 0:=by rw[pk,h]
def QB (x:R.Leaf)(iv:Value):Value:= .agg #[.int .i64 (pk x),.int .i64 x.n,.string ⟨x.text.toArray⟩,iv]
theorem Gc (a b:List UInt8)(w:World)(ts:Array TypeId)(t:TypeId):(Builtin.max_ ts t #[.string ⟨a.toArray⟩,.string ⟨b.toArray⟩]).run Tryz.prog w= .ok (.string ⟨(R.later a b).toArray⟩) w:=by
 rw[Lib.run_max_strs];congr 2
 unfold Lib.maxS R.later;rw[Go.Proofs.bytesLess_eq];by_cases h:a<b
 ·simp[h]
 ·simp[h]
theorem Ku {p:List UInt8}{x:R.Leaf}(hx:VO p x):pk x=0↔x.kind=0:=by
 constructor
 ·intro h
  have:=OC hx (y:=R.none p) (.inl rfl) (by rw[h];rfl);exact this
 ·intro h
  rw[Cu 0 h];rfl
theorem It.nil (w:World)(M:Nat→Prop)(x:R.Leaf)(h:x.items=[]):It w M (x,.slice none x.items.length 0):=by
 unfold It;rw[h];exact⟨none,0,rfl,j0a _,by unfold maxLen;omega,fun h=>absurd h (Nat.lt_irrefl _)⟩
theorem jX (x y z:R.Leaf)(xa ya za:Option Addr)(xc yc zc:Nat)(p:List UInt8)(w:World)(M:Nat→Prop)(hM:∀b,M b→b<w.heap.size)(hx:VO p x)(hy:VO p y)(hz:VO p z)
  (ix:It w M (x,.slice xa x.items.length xc))(iy:It w M (y,.slice ya y.items.length yc))(iz:It w M (z,.slice za z.items.length zc)):
  Calls Tryz.prog 138 #[QB x (.slice xa x.items.length xc),QB y (.slice ya y.items.length yc),QB z (.slice za z.items.length zc)] w fun e w' =>
   ∃ia ic,e= .returned (.tuple #[QB (R.joinedV x y z).1 (.slice ia (R.joinedV x y z).1.items.length ic),.int .i64 (R.joinedV x y z).2])∧
    It w' M ((R.joinedV x y z).1,.slice ia (R.joinedV x y z).1.items.length ic)∧Below w.heap.size w w' :=by
 unfold QB;have b2:∀W,Below w.heap.size w W→Calls Tryz.prog 132 #[.agg #[.int .i64 (pk y),.int .i64 y.n,.string ⟨y.text.toArray⟩,.slice ya y.items.length yc],.agg #[.int .i64 (pk x),.int .i64 x.n,.string ⟨x.text.toArray⟩,.slice xa x.items.length xc]] W fun e w' =>e= .returned (.bool (R.same y x))∧Below W.heap.size W w' :=fun W hW=>by
  rw[←Uu hy hx];exact uD y x ya xa yc xc W M (Rd.below iy hW) (Rd.below ix hW)
 have b5:∀W,Below w.heap.size w W→Calls Tryz.prog 132 #[.agg #[.int .i64 (pk z),.int .i64 z.n,.string ⟨z.text.toArray⟩,.slice za z.items.length zc],.agg #[.int .i64 (pk x),.int .i64 x.n,.string ⟨x.text.toArray⟩,.slice xa x.items.length xc]] W fun e w' =>e= .returned (.bool (R.same z x))∧Below W.heap.size W w' :=fun W hW=>by
  rw[←Uu hz hx];exact uD z x za xa zc xc W M (Rd.below iz hW) (Rd.below ix hW)
 have c7:∀W (N:Nat→Prop),Below w.heap.size w W→(∀b,N b→M b∨w.heap.size≤b)→It W N (x,.slice xa x.items.length xc):=fun W N hW hN=>Rd.step ix (zh.of_below (M:=fun _=>False) hW) (fun _ e=>e.elim) hN
 have c8:∀W (N:Nat→Prop),Below w.heap.size w W→(∀b,N b→M b∨w.heap.size≤b)→It W N (y,.slice ya y.items.length yc):=fun W N hW hN=>Rd.step iy (zh.of_below (M:=fun _=>False) hW) (fun _ e=>e.elim) hN
 have c9:∀W (N:Nat→Prop),Below w.heap.size w W→(∀b,N b→M b∨w.heap.size≤b)→It W N (z,.slice za z.items.length zc):=fun W N hW hN=>Rd.step iz (zh.of_below (M:=fun _=>False) hW) (fun _ e=>e.elim) hN
 have b9:=z9 b2;have c6:=z9 b5;have d5:=z9 c7;have b7:=z9 c8;have b8:=z9 c9;have HX:=z9 hx;have HY:=z9 hy;have HZ:=z9 hz;clear b2 b5 c7 c8 c9 ix iy iz hx hy hz;go_enter Tryz.func138,Tryz.ntmps138;go_wp2_with fail
 refine(b9.out _ ((((j0g _ _).alloc (j0a _) _).alloc (by simp) _).alloc (by simp;omega) _|>.alloc (by simp;omega) _)).mono ?_;rintro e w1 ⟨rfl,a4⟩;have b2:=a4.size;simp only[World.size_alloc]at b2;have VX:VB w1 w.heap.size (pk x) x.n x.text (.slice xa x.items.length xc):=by
  refine VB.below ?_ a4 (by simp only[World.size_alloc];omega);exact⟨by simp[go_sem],by simp[go_sem],by simp[go_sem],by simp[go_sem]⟩
 have VY:VB w1 (w.heap.size+1) (pk y) y.n y.text (.slice ya y.items.length yc):=by
  refine VB.below ?_ a4 (by simp only[World.size_alloc];omega);exact⟨by simp[go_sem],by simp[go_sem],by simp[go_sem],by simp[go_sem]⟩
 have VZ:VB w1 (w.heap.size+1+1) (pk z) z.n z.text (.slice za z.items.length zc):=by
  refine VB.below ?_ a4 (by simp only[World.size_alloc];omega);exact⟨by simp[go_sem],by simp[go_sem],by simp[go_sem],by simp[go_sem]⟩
 have VR:VB w1 (w.heap.size+1+1+1) 0 0 [] (.slice none 0 0):=by
  refine VB.below ?_ a4 (by simp only[World.size_alloc];omega);exact⟨by simp[go_sem],by simp[go_sem],by simp[go_sem],by simp[go_sem]⟩
 have FR:∀j,w1.frozen? ⟨w.heap.size+1+1+1,j,none⟩=false:=fun j=>by rw[a4.frozen (p:=⟨w.heap.size+1+1+1,j,none⟩) (by simp only[World.size_alloc];omega)];simp[go_sem]
 have a9:Hid (Below w.heap.size w w1):=((((j0g _ _).alloc (j0a _) _).alloc (by simp) _).alloc (by simp;omega) _|>.alloc (by simp;omega) _).trans (a4.mono (by simp;omega));clear a4 b9;generalize d9:w.heap.size+1=B1 at*;generalize e1:B1+1=B2 at*;generalize e2:B2+1=B3 at*;have g1:w.heap.size<B1:=by omega
 have g2:B1<B2:=by omega
 have g3:B2<B3:=by omega
 have g4:B3<w1.heap.size:=by omega
 clear d9 e1 e2 b2;obtain⟨x0,x1,x2,x3⟩:=VX;obtain⟨y0,y1,y2,y3⟩:=VY;obtain⟨z0,z1,z2,z3⟩:=VZ;obtain⟨r0,r1,r2,r3⟩:=VR;have f0:=FR 0;have f1:=FR 1;have f2:=FR 2;have f3:=FR 3
 cases h1:R.same y x
 ·have VX:VB w1 w.heap.size (pk x) x.n x.text (.slice xa x.items.length xc):=⟨x0,x1,x2,x3⟩
  have VY:VB w1 B1 (pk y) y.n y.text (.slice ya y.items.length yc):=⟨y0,y1,y2,y3⟩
  have VZ:VB w1 B2 (pk z) z.n z.text (.slice za z.items.length zc):=⟨z0,z1,z2,z3⟩
  have VR:VB w1 B3 0 0 [] (.slice none 0 0):=⟨r0,r1,r2,r3⟩
  go_wp2_with fail
  refine(c6.out _ a9.out).mono ?_;rintro e w2 ⟨rfl,a5⟩;have b5:=a5.size;have d6 :=VX.below a5 (by omega);have d7 :=VY.below a5 (by omega);have d8 :=VZ.below a5 (by omega);have a6 :=VR.below a5 (by omega);have a3 :∀j,w2.frozen? ⟨B3,j,none⟩=false:=fun j=>(a5.frozen (p:=⟨B3,j,none⟩) (by show B3<_;omega)).trans (FR j)
  have a1:Hid (Below w.heap.size w w2):=a9.out.trans (a5.mono (by omega));clear x0 x1 x2 x3 y0 y1 y2 y3 z0 z1 z2 z3 r0 r1 r2 r3 f0 f1 f2 f3 VX VY VZ VR FR a5 a9 c6;obtain⟨x0,x1,x2,x3⟩:=d6;obtain⟨y0,y1,y2,y3⟩:=d7;obtain⟨z0,z1,z2,z3⟩:=d8;obtain⟨r0,r1,r2,r3⟩:=a6;have f0:=a3 0;have f1:=a3 1;have f2:=a3 2;have f3:=a3 3;have g5:B3<w2.heap.size:=by omega
  clear b5 g4
  cases h2:R.same z x
  ·by_cases k3:y.kind=0
   ·have HJ:Hid (R.joinedV x y z=(z,0)):=by show _=_;rw[R.joinedV,if_neg (by simp[h1]),if_neg (by simp[h2]),if_pos k3]
    have q3:(pk y==0)=true:=by simpa using(Ku HY.out).2 k3
    clear h1 h2 k3;go_wp2;refine bodyPost_ret (v:= .tuple #[.agg #[.int .i64 (pk z),.int .i64 z.n,.string ⟨z.text.toArray⟩,.slice za z.items.length zc],.int .i64 0]) (by simp[results,Tryz.results138,go_sem, *]) rfl ?_;rw[HJ.out];exact⟨za,zc,rfl,b8.out _ _ (Zg B3 a1.out (by omega) _ _ _ _) (fun b hb=> .inl hb),Zg B3 a1.out (by omega) _ _ _ _⟩
   ·have q3:(pk y==0)=false:=by simpa using fun e=>k3 ((Ku HY.out).1 e)
    by_cases k4:z.kind=0
    ·have HJ:Hid (R.joinedV x y z=(y,0)):=by show _=_;rw[R.joinedV,if_neg (by simp[h1]),if_neg (by simp[h2]),if_neg k3,if_pos k4]
     have q4:(pk z==0)=true:=by simpa using(Ku HZ.out).2 k4
     clear h1 h2 k3 k4;go_wp2;refine bodyPost_ret (v:= .tuple #[.agg #[.int .i64 (pk y),.int .i64 y.n,.string ⟨y.text.toArray⟩,.slice ya y.items.length yc],.int .i64 0]) (by simp[results,Tryz.results138,go_sem, *]) rfl ?_;rw[HJ.out];exact⟨ya,yc,rfl,b7.out _ _ (Zg B3 a1.out (by omega) _ _ _ _) (fun b hb=> .inl hb),Zg B3 a1.out (by omega) _ _ _ _⟩
    ·have q4:(pk z==0)=false:=by simpa using fun e=>k4 ((Ku HZ.out).1 e)
     by_cases k5:y.kind=z.kind
     ·have q5:(pk y==pk z)=true:=by simp[pk,k5]
      have b1:=HY.out.ok k3;have b4:=HZ.out.ok k4;have a8:R.joinedV x y z=if y.kind=35 then R.counterJ y.path (y.n+z.n-R.baseN x 35)else if y.kind=61 then({path:=y.path,kind:=61,n:=0,text:=R.later y.text z.text,items:=[]},0)else R.bagV y.path (R.bagJ (R.baseI x y.kind) y.items z.items):=by
       rw[R.joinedV,if_neg (by simp[h1]),if_neg (by simp[h2]),if_neg k3,if_neg k4,if_neg (by simp[k5])]
      rcases b1.kinds with k6|k6|k6
      ·have q6:(pk y==1)=true:=by simp[pk,k6]
       have HJ:Hid (R.joinedV x y z=R.counterJ p (y.n+z.n-x.n)):=by show _=_;rw[a8,if_pos k6,HY.out.path,HX.out.baseN]
       have HC:Hid (∀W,Calls Tryz.prog 185 #[.agg #[.int .i64 (pk x),.int .i64 x.n,.string ⟨x.text.toArray⟩,.slice xa x.items.length xc],.agg #[.int .i64 (pk y),.int .i64 y.n,.string ⟨y.text.toArray⟩,.slice ya y.items.length yc],.agg #[.int .i64 (pk z),.int .i64 z.n,.string ⟨z.text.toArray⟩,.slice za z.items.length zc]] W fun e w' =>e= .returned (.tuple #[.agg #[.int .i64 (pk (R.counterJ p (y.n+z.n-x.n)).1),.int .i64 (R.counterJ p (y.n+z.n-x.n)).1.n,.string ⟨#[]⟩,.slice none 0 0],.int .i64 (R.counterJ p (y.n+z.n-x.n)).2])∧Below W.heap.size W w'):=fun W=>Km _ _ _ _ _ _ _ _ _ p _ _ _ _ _ _ _ _ _ W HX.out.n_hi HY.out.n_hi HZ.out.n_hi
       clear h1 h2 k3 k4 k5 k6 a8 b1 b4;go_wp2_with fail
       refine(HC.out _).mono ?_;rintro e w3 ⟨rfl,a2⟩;have e3:=a2.size;have b6:Hid (Below w.heap.size w w3):=a1.out.trans (a2.mono (by omega));have a6 :VB w2 B3 0 0 [] (.slice none 0 0):=⟨r0,r1,r2,r3⟩
       have a7 :=a6.below a2 (by omega);have a0 :∀j,w3.frozen? ⟨B3,j,none⟩=false:=fun j=>(a2.frozen (p:=⟨B3,j,none⟩) (by show B3<_;omega)).trans (a3 j)
       clear x0 x1 x2 x3 y0 y1 y2 y3 z0 z1 z2 z3 r0 r1 r2 r3 f0 f1 f2 f3 a6 a3 a2 a1;obtain⟨r0,r1,r2,r3⟩:=a7;have f0:=a0 0;have f1:=a0 1;have f2:=a0 2;have f3:=a0 3;have HT:Hid ((R.counterJ p (y.n+z.n-x.n)).1.text=[]∧(R.counterJ p (y.n+z.n-x.n)).1.items=[]):=by
        show _∧_;unfold R.counterJ R.bad;split<;>exact⟨rfl,rfl⟩
       generalize R.counterJ p (y.n+z.n-x.n)=cj at*;go_wp2;refine bodyPost_ret (v:= .tuple #[.agg #[.int .i64 (pk cj.1),.int .i64 cj.1.n,.string ⟨#[]⟩,.slice none 0 0],.int .i64 cj.2]) (by simp[results,Tryz.results138,go_sem, *]) rfl ?_;rw[HJ.out];refine⟨none,0,by rw[HT.out.1,HT.out.2];rfl,It.nil _ _ _ HT.out.2,Zg B3 b6.out (by omega) _ _ _ _⟩
      ·have q6:(pk y==1)=false:=by simp[pk,k6]
       have q7:(pk y==3)=false:=by simp[pk,k6]
       have HJ:Hid (R.joinedV x y z=({path:=y.path,kind:=61,n:=0,text:=R.later y.text z.text,items:=[]},0)):=by show _=_;rw[a8,if_neg (by simp[k6]),if_pos k6]
       have mx:=Gc y.text z.text;clear h1 h2 k3 k4 k5 k6 a8 b1 b4;go_wp2;refine bodyPost_ret (v:= .tuple #[.agg #[.int .i64 2,.int .i64 0,.string ⟨(R.later y.text z.text).toArray⟩,.slice none 0 0],.int .i64 0]) (by simp[results,Tryz.results138,go_sem, *]) rfl ?_;rw[HJ.out];exact⟨none,0,rfl,It.nil _ _ _ rfl,Zg B3 a1.out (by omega) _ _ _ _⟩
      ·have q6:(pk y==1)=false:=by simp[pk,k6]
       have q7:(pk y==3)=true:=by simp[pk,k6]
       have HJ:Hid (R.joinedV x y z=R.bagV p (R.bagJ x.items y.items z.items)):=by show _=_;rw[a8,if_neg (by simp[k6]),if_neg (by simp[k6]),HY.out.path,k6,HX.out.baseI]
       have HN:Hid (∀b,(fun b=>M b∨b=B3) b→b<w2.heap.size):=fun b hb=>by
        rcases hb with hb|hb
        ·have:=hM b hb;omega
        ·omega
       have b3:∀b,(fun b=>M b∨b=B3) b→M b∨w.heap.size≤b:=fun b hb=>by
        rcases hb with hb|hb
        ·exact .inl hb
        ·exact .inr (by omega)
       have hC:=ol x y z xa ya za xc yc zc p w2 (fun b=>M b∨b=B3) HN.out HX.out ⟨b1,k6⟩ ⟨b4,by rw[←k5];exact k6⟩ (d5.out _ _ a1.out b3) (b7.out _ _ a1.out b3) (b8.out _ _ a1.out b3);have HC:=z9 hC;clear h1 h2 k3 k4 k5 k6 a8 b1 b4 hC b3;go_wp2_with fail
       refine HC.out.mono ?_;rintro e w3 ⟨ia,ic,rfl,d3,a2⟩;have d4:=z9 d3;have e3:=a2.size;have b6:Hid (Below w.heap.size w w3):=a1.out.trans (a2.mono (by omega));have a6 :VB w2 B3 0 0 [] (.slice none 0 0):=⟨r0,r1,r2,r3⟩
       have a7 :=a6.below a2 (by omega);have a0 :∀j,w3.frozen? ⟨B3,j,none⟩=false:=fun j=>(a2.frozen (p:=⟨B3,j,none⟩) (by show B3<_;omega)).trans (a3 j)
       clear x0 x1 x2 x3 y0 y1 y2 y3 z0 z1 z2 z3 r0 r1 r2 r3 f0 f1 f2 f3 a6 a3 a2 a1 d3 HC;obtain⟨r0,r1,r2,r3⟩:=a7;have f0:=a0 0;have f1:=a0 1;have f2:=a0 2;have f3:=a0 3;have HT:Hid ((R.bagV p (R.bagJ x.items y.items z.items)).1.text=[]∧(R.bagV p (R.bagJ x.items y.items z.items)).1.n=0):=by
        show _∧_;unfold R.bagV R.bad;split<;>exact⟨rfl,rfl⟩
       generalize R.bagV p (R.bagJ x.items y.items z.items)=cj at*;go_wp2;refine bodyPost_ret (v:= .tuple #[.agg #[.int .i64 (pk cj.1),.int .i64 0,.string ⟨#[]⟩,.slice ia cj.1.items.length ic],.int .i64 cj.2]) (by simp[results,Tryz.results138,go_sem, *]) rfl ?_;rw[HJ.out];exact⟨ia,ic,by rw[HT.out.1,HT.out.2],Rd.step d4.out (zh.four (Z:=fun b=>b=B3) (zh.refl _ _) (.inl rfl) _ _ _ _) (fun b hb=> .inr hb) (fun b hb=> .inl (.inl hb)),Zg B3 b6.out (by omega) _ _ _ _⟩
     ·have q5:(pk y==pk z)=false:=by simpa using fun e=>k5 (OC HY.out HZ.out e)
      have HJ:Hid (R.joinedV x y z=R.bad 6):=by show _=_;rw[R.joinedV,if_neg (by simp[h1]),if_neg (by simp[h2]),if_neg k3,if_neg k4,if_pos k5]
      clear h1 h2 k3 k4 k5;go_wp2;refine bodyPost_ret (v:= .tuple #[.agg #[.int .i64 0,.int .i64 0,.string ⟨#[]⟩,.slice none 0 0],.int .i64 6]) (by simp[results,Tryz.results138,go_sem, *]) rfl ?_;rw[HJ.out];exact⟨none,0,rfl,It.nil _ _ _ rfl,Zg B3 a1.out (by omega) _ _ _ _⟩
  ·have HJ:Hid (R.joinedV x y z=(y,0)):=by show _=_;rw[R.joinedV,if_neg (by simp[h1]),if_pos h2]
   clear h1 h2;go_wp2;refine bodyPost_ret (v:= .tuple #[.agg #[.int .i64 (pk y),.int .i64 y.n,.string ⟨y.text.toArray⟩,.slice ya y.items.length yc],.int .i64 0]) (by simp[results,Tryz.results138,go_sem, *]) rfl ?_;rw[HJ.out];exact⟨ya,yc,rfl,b7.out _ _ (Zg B3 a1.out (by omega) _ _ _ _) (fun b hb=> .inl hb),Zg B3 a1.out (by omega) _ _ _ _⟩
 ·have HJ:Hid (R.joinedV x y z=(z,0)):=by show _=_;rw[R.joinedV,if_pos h1]
  clear h1;go_wp2;refine bodyPost_ret (v:= .tuple #[.agg #[.int .i64 (pk z),.int .i64 z.n,.string ⟨z.text.toArray⟩,.slice za z.items.length zc],.int .i64 0]) (by simp[results,Tryz.results138,go_sem, *]) rfl ?_;rw[HJ.out];exact⟨za,zc,rfl,b8.out _ _ (Zg B3 a9.out (by omega) _ _ _ _) (fun b hb=> .inl hb),Zg B3 a9.out (by omega) _ _ _ _⟩
