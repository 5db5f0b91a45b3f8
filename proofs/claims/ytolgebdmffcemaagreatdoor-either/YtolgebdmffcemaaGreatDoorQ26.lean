import Derived.Test.YtolgebdmffcemaaGreatDoorQ25
set_option linter.all false
set_option maxHeartbeats 20000000
set_option maxRecDepth 1000000
open Go.Proofs.Tryz renaming prog→rJ,func51→EF,ntmps51→EG,func22→EH,ntmps22→EI,func59→EJ,ntmps59→EK,func99→EM,ntmps99→EN,results99→EP,underlying45→tJ,func185→ER,ntmps185→ES,results185→EU,results186→EX
open Nat renaming lt_irrefl→EL,le_succ→EO,zero_le→sQ
open List renaming getElem?_map→rN,findIdx_le_length→nG,length_append→mB,length_take→nP,length_cons→mC,length_drop→nQ,map_take→rX,map_drop→rY,take_succ_eq_append_getElem→mD,map_append→rP,sum_append→EQ,take_length→wN,length_pos_iff→wP
open Go.World renaming cell?_of_block→pU,frozen?_of_block→DL,cell?_setCell_other→EV,cell?_setCell_same→EW,size_alloc→aL
open Go.Builtin renaming zeroCells→rG
namespace Go.Proofs.YtolgebdmffcemaaGreatDoor
open Go.RowKit
theorem ZV {w:World}{M O:Nat→Prop}{B:Nat}{st:R.St}(h:PS w M O B st)(n:Int):
  Calls rJ 51 #[.pointer (some ⟨B,0,none⟩),.int .i64 n] w fun e w' =>e= .returned (.bool (decide (1≤n∧n≤(st.cms.length:Int))))∧w' =w:=by
 obtain⟨a,c,e0,h1,h2⟩:=h.cms1;unfold maxLen at h2;clear h;by_cases hn:1≤n
 ·by_cases hm:n≤(st.cms.length:Int)
  ·have HS:Hid (decide (1≤n∧n≤(st.cms.length:Int))=true):=decide_eq_true ⟨hn,hm⟩
   rw[HS.out];go_enter EF,EG;go_wp2;go_ret;exact⟨rfl,rfl⟩
  ·have HS:Hid (decide (1≤n∧n≤(st.cms.length:Int))=false):=decide_eq_false (fun e=>hm e.2)
   rw[HS.out];go_enter EF,EG;go_wp2;go_ret;exact⟨rfl,rfl⟩
 ·have HS:Hid (decide (1≤n∧n≤(st.cms.length:Int))=false):=decide_eq_false (fun e=>hn e.1)
  rw[HS.out];go_enter EF,EG;go_wp2;go_ret;exact⟨rfl,rfl⟩
theorem Bk (B:Nat)(st:R.St)(n:Int)(w:World)(M O:Nat→Prop)(h:PS w M O B st)(hi:Inv st)(hG:Zy w):
  Calls rJ 22 #[.pointer (some ⟨B,0,none⟩),.int .i64 n] w fun e w' =>e= .returned (.tuple #[.string ⟨(R.treeAt st n).1.toArray⟩,.int .i64 (R.treeAt st n).2])∧Below w.heap.size w w' :=by
 have a1:=ZV h n;have HH:=z6 a1;by_cases hc:n<1∨(st.cms.length:Int)<n
 ·have HS:Hid (R.treeAt st n=([],10)):=by show _=_;rw[R.treeAt,if_pos hc]
  have HD:Hid (decide (1≤n∧n≤(st.cms.length:Int))=false):=decide_eq_false (by omega);rw[HD.out]at HH;clear h hi hG a1 hc;go_enter EH,EI;go_wp2_with fail
  refine HH.out.mono ?_;rintro e w1 ⟨rfl,a3⟩;subst a3;go_wp2;go_ret2;exact⟨uY (by rw[HS.out]) (by rw[HS.out]),j0g _ _⟩
 ·obtain⟨m,rfl⟩:∃m:Nat,n=(m:Int):=⟨n.toNat,by omega⟩
  have HS:Hid (R.treeAt st (m:Int)=(R.Written (R.treeOf st m),0)):=by show _=_;rw[R.treeAt,if_neg hc];rfl
  have HD:Hid (decide (1≤(m:Int)∧(m:Int)≤(st.cms.length:Int))=true):=decide_eq_true (by omega);rw[HD.out]at HH;have a2:=Ys hi m;obtain⟨bv,cv,LB,LCm,hP⟩:=h;have HT:=z6 (Ye hP m (by omega) hi.few);have HW:Hid (∀ta tc,PT w M (.slice ta (R.treeOf st m).length tc) (R.treeOf st m)→Calls rJ 50 #[.slice ta (R.treeOf st m).length tc] w fun e w' =>e= .returned (.string ⟨(R.Written (R.treeOf st m)).toArray⟩)∧Below w.heap.size w w'):=fun ta tc a0=>Yz _ _ w M a0 a2.ok (by have:=a2.few;omega) hG
  clear hP hi hG a1 hc a2;generalize R.treeOf st m=t at*;go_enter EH,EI;go_wp2_with fail
  refine HH.out.mono ?_;rintro e w1 ⟨rfl,a3⟩;subst a3;go_wp2_with fail
  refine HT.out.mono ?_;rintro e w2 ⟨ta,tc,rfl,a0,a6⟩;subst a6;have a4:=z6 (HW.out ta tc a0);clear a0;go_wp2_with fail
  refine a4.out.mono ?_;rintro e w3 ⟨rfl,a5⟩;go_wp2;go_ret2;exact⟨uY (by rw[HS.out]) (by rw[HS.out]),a5⟩
theorem Oe (n:Nat)(w:World):
  Calls rJ 59 #[.int .i64 (n:Int)] w fun e w' =>∃pa pc,e= .returned (.slice pa (R.parsOf n).length pc)∧Rd w' (fun b=>b<w.heap.size) (.slice pa (R.parsOf n).length pc) (R.parsOf n).length (Xa (R.parsOf n))∧Below w.heap.size w w' :=by
 by_cases h0:n=0
 ·subst h0
  go_enter EJ,EK;go_wp2;go_ret;exact⟨none,0,rfl,⟨none,0,rfl,j0a _,by unfold maxLen;omega,fun h=>absurd h (by simp[R.parsOf])⟩,j0g _ _⟩
 ·have HS:Hid (R.parsOf n=[n]):=by show _=_;rw[R.parsOf,if_neg h0]
  have b0:((n:Int)==0)=false:=by simp;omega
  clear h0;go_enter EJ,EK;go_wp2;go_ret;rw[HS.out];refine⟨some ⟨w.heap.size,0,none⟩,1,rfl,⟨_,1,rfl,j0a _,by unfold maxLen;omega,fun _=>⟨w.heap.size,0,rfl,by simp,EL _,fun j u hu=> ?_⟩⟩,(j0g _ _).alloc (j0a _) _⟩;match j,hu with
  |0,hu=>simp[Xa]at hu;subst hu;simp
theorem On {w:World}{M O:Nat→Prop}{B:Nat}{st:R.St}{bv cv:Value}{LB:List BrP}{LCm:List (R.Cm×Value×Value)}(hP:PSx w M O B st bv cv LB LCm)(hi:Inv st)(p:BrP)(hp:p∈LB):
  Calls rJ 46 #[.pointer (some ⟨B,0,none⟩),.pointer (some ⟨p.2.1,0,none⟩)] w fun e w' =>∃b:Bool,(b=false↔p.1.work=R.treeOf st p.1.head)∧e= .returned (.bool b)∧Below w.heap.size w w' :=by
 have a3:=hP.at_ p hp;have a6:p.1∈st.brs:=by rw[←hP.brs];exact List.mem_map_of_mem hp
 have a1:=hi.work _ a6;have a2:=Ys hi p.1.head;have b3:=hP.lt _ (hP.blk p hp).1;have c1:=a3.c1;have c2:=a3.c2;have a4:=a3.work;obtain⟨ta,tn,tc,a8⟩:∃a n k,p.2.2= .slice a n k:=by obtain⟨L,_,⟨a,k,e,_⟩,_⟩:=a4;exact⟨a,_,k,e⟩
 rw[a8]at c2 a4;have HT:Hid (∀q,Calls rJ 52 #[.pointer (some ⟨B,0,none⟩),.int .i64 (p.1.head:Int)] (w.drewN q) fun e w' =>∃ta tc,e= .returned (.slice ta (R.treeOf st p.1.head).length tc)∧PT (w.drewN q) M (.slice ta (R.treeOf st p.1.head).length tc) (R.treeOf st p.1.head)∧w' =w.drewN q):=fun q=>Ye (hP.kept (Z:=fun _=>False) (ze.of_below (below_drewN (j0g _ _) q)) (fun _ e=>e.elim) (fun b e=> .inl e) hP.sub) p.1.head (hi.heads _ a6) hi.few
 have HS:Hid (∀q va vc,PT (w.drewN q) M (.slice va (R.treeOf st p.1.head).length vc) (R.treeOf st p.1.head)→Calls rJ 83 #[.slice ta tn tc,.slice va (R.treeOf st p.1.head).length vc] (w.drewN q) fun e w' =>∃b:Bool,(b=true↔p.1.work=R.treeOf st p.1.head)∧e= .returned (.bool b)∧Below w.heap.size (w.drewN q) w'):=fun q va vc h=>CZ _ _ _ _ _ M (a4.below (below_drewN (j0g _ _) q)) h a1.ok a2.ok
 clear a3 a1 a2 a4 a8 hP hi a6 hp;generalize R.treeOf st p.1.head=t at*;generalize p.1.head=hd at*;generalize p.1.work=wk at*;generalize p.2.1=bb at*;go_enter Tryz.func46,Tryz.ntmps46;go_wp2;go_region_held3 (fun w' =>w'.cell? ⟨bb,1,none⟩=some (.int .i64 (hd:Int))∧w'.cell? ⟨bb,2,none⟩=some (.slice ta tn tc)) (go_keep)
  (first
   |(go_at_call 52;refine(HT.out 1).mono ?_;rintro e w9 ⟨va,vc,rfl,a7,b4⟩;subst b4;have b2:=z6 a7;clear a7)
   |(go_at_call 83;refine(HS.out 1 _ _ b2.out).mono ?_;rintro e w9 ⟨b,hb,rfl,a5⟩;have b5:∀o,w9.cell? ⟨bb,o,none⟩=_:=fun o=>a5.cell (p:=⟨bb,o,none⟩) b3;have b1:=z6 a5;have a9:=z6 hb;clear a5 hb))
 all_goals
  rename_i a0;clear a0;go_wp2;go_ret;refine⟨_,?_,rfl,(below_drewN (j0g _ _) 1).trans b1.out⟩;have:=a9.out
  cases b<;>simp at this⊢<;>first|exact this|trivial
theorem ju (v:Value)(l:List (List UInt8))(w:World)(M:Nat→Prop)(h:Rd w M v l.length (l.map S))(hl:l.length≤1000000):
  Calls rJ 150 #[v] w fun e w' =>∃v',e= .returned v' ∧w'.ownsRow w.heap.size 9 1 v' l.length (l.map S)∧Below w.heap.size w w' :=by
 obtain⟨a,cap,rfl,hn,hm,hc⟩:=h;rcases Nat.eq_zero_or_pos l.length with h0|h0
 ·have a1:l=[]:=List.eq_nil_of_length_eq_zero h0
  subst a1
  cases a with
  |none=>
   refine(Tryz.slices_Clone_string_nil _ _ w).mono ?_;rintro e w' ⟨rfl,rfl⟩;exact⟨_,rfl,World.ownsRow_nil _ _ _ _,j0g _ _⟩
  |some ad=>
   refine(Tryz.slices_Clone_string_zero ad cap w).mono ?_;rintro e w' ⟨v',rfl,ho,_,hb⟩;exact⟨v',rfl,ho,hb⟩
 ·obtain⟨b,off,rfl,hb,_,a0⟩:=hc h0
  have hC:=Tryz.slices_Clone_string b off l.length cap (l.map fun x=>(⟨x.toArray⟩:ByteArray)) w (by simp) (by omega) (fun j hj=>by
   rw[List.length_map]at hj;rw[a0 j (S l[j]) (by rw[rN,j0d hj];rfl)];simp[S,hj])
  refine hC.mono ?_;rintro e w' ⟨v',rfl,ho,_,hb⟩;refine⟨v',rfl,?_,hb⟩;rw[List.take_of_length_le (by simp),List.map_map]at ho;exact ho
def ZW (x:R.Leaf)(l:List (List UInt8)):R.Leaf:={path:=x.path,kind:=42,n:=0,text:=[],items:=l}
theorem GP (l:List (List UInt8)):∀u∈l.map S,u.oneCell' =true:=by
 intro u hu;obtain⟨y,_,rfl⟩:=List.mem_map.1 hu;rfl
theorem gY (x:R.Leaf)(iv:Value)(s:List UInt8)(w:World)(M:Nat→Prop)(hM:∀b,M b→b<w.heap.size)(h:It w M (x,iv))(hk:x=R.none x.path∨(OkL x∧x.kind=42)):
  Calls rJ 99 #[.agg #[.int .i64 (pk x),.int .i64 x.n,.string ⟨x.text.toArray⟩,iv],.string ⟨s.toArray⟩] w fun e w' =>∃ia ic,e= .returned (.agg #[.int .i64 3,.int .i64 0,.string ⟨#[]⟩,.slice ia (R.item x.items s).length ic])∧It w' M (ZW x (R.item x.items s),.slice ia (R.item x.items s).length ic)∧Below w.heap.size w w' :=by
 have hl:x.items.length≤8:=by
  rcases hk with hk|⟨hk,_⟩
  ·rw[hk];simp[R.none]
  ·exact hk.many
 have a0:Zb x.items:=by
  rcases hk with hk|⟨hk,_⟩
  ·rw[hk];intro i j hi;simp[R.none]at hi
  ·exact hk.sort
 obtain⟨ia,ic,c7,h1,h2,h3⟩:=h;dsimp only at c7 h1 h2 h3;subst c7;have a5:It w M (x,.slice ia x.items.length ic):=⟨ia,ic,rfl,h1,h2,h3⟩
 have a7:=fun W (hW:Below w.heap.size w W)=>Yb (.slice ia x.items.length ic) x.items s W M (Rd.below a5 hW) (by omega) a0 (a0.mono s)
 have b3:=fun W (hW:Below w.heap.size w W)=>ju (.slice ia x.items.length ic) x.items W M (Rd.below a5 hW) (by omega)
 cases a1:(x.items.any fun y=>y==s)
 ·have HI:Hid (R.item x.items s=x.items.take (xq x.items s)++s::x.items.drop (xq x.items s)):=xE a0 s a1
  have d9:xq x.items s≤x.items.length:=nG;rw[a1]at a7;clear h1 h2 h3 a0 hk;generalize xq x.items s=p at*;go_enter EM,EN;go_wp2_with fail
  refine(a7 _ (((j0g _ _).alloc (j0a _) _).alloc (by simp) _)).mono ?_;rintro e w1 ⟨rfl,b8⟩;subst b8;go_wp2_with fail
  refine(b3 _ (((j0g _ _).alloc (j0a _) _).alloc (by simp) _)).mono ?_;rintro e w2 ⟨v2,rfl,ho,a4⟩;have e6:w.heap.size+2≤w2.heap.size:=by have:=a4.size;simpa using this
  have x0:w2.cell? ⟨w.heap.size+1,0,none⟩=some (.int .i64 0):=by rw[a4.cell (p:=⟨w.heap.size+1,0,none⟩) (by simp)];simp
  have x1:w2.cell? ⟨w.heap.size+1,1,none⟩=some (.int .i64 0):=by rw[a4.cell (p:=⟨w.heap.size+1,1,none⟩) (by simp)];simp
  have x2:w2.cell? ⟨w.heap.size+1,2,none⟩=some (.string ⟨#[]⟩):=by rw[a4.cell (p:=⟨w.heap.size+1,2,none⟩) (by simp)];simp
  have x3:w2.cell? ⟨w.heap.size+1,3,none⟩=some (.slice none 0 0):=by rw[a4.cell (p:=⟨w.heap.size+1,3,none⟩) (by simp)];simp
  have fz:∀j,w2.frozen? ⟨w.heap.size+1,j,none⟩=false:=fun j=>by rw[a4.frozen (p:=⟨w.heap.size+1,j,none⟩) (by simp)];simp
  have b9:Hid (Below w.heap.size w w2):=(((j0g _ _).alloc (j0a _) _).alloc (by simp) _).trans (a4.mono (by simp;omega));have b5 :w2.ownsRow (w.heap.size+2) 9 1 v2 x.items.length (x.items.map S):=by simpa using ho
  have a6:=fun W (hW:Below w2.heap.size w2 W) vb (e1:W.heap[vb]? =some (.cells #[.string ⟨s.toArray⟩] 9 (0,0))) (d8:v2.ownBlock≠some vb)=>Gl B_ v2 x.items.length p vb (w.heap.size+2) (x.items.map S) #[.string ⟨s.toArray⟩] W (Zm b5 hW) (by have:=hW.size;omega) d9 (by omega) e1 rfl d8 (GP _) (by intro u hu;simp at hu;subst hu;rfl)
  have b1:Hid (∀g,v2.ownBlock=some g→w.heap.size+2≤g∧g<w2.heap.size):=b5.lt;clear a4 ho b5 a5 b3 a7;go_wp2_with fail
  refine(a6 _ ((j0g _ _).alloc (j0a _) _) w2.heap.size (heap_alloc_new w2 _) (fun e=>by have:=b1.out _ e;omega)).mono ?_;rintro e w3 ⟨v3,rfl,b6,b2,_⟩;have e7:w2.heap.size+1≤w3.heap.size:=by have:=b2.size;simpa using this
  have a2:w3.heap[w.heap.size+1]? =w2.heap[w.heap.size+1]? :=by
   rw[b2.block _ (by simp;omega) (fun e=>by have:=b1.out _ e.symm;omega)];exact heap_alloc_old w2 _ (by omega)
  have y0:=(pU (a:=⟨w.heap.size+1,0,none⟩) a2).trans x0;have y1:=(pU (a:=⟨w.heap.size+1,1,none⟩) a2).trans x1;have y2:=(pU (a:=⟨w.heap.size+1,2,none⟩) a2).trans x2;have y3:=(pU (a:=⟨w.heap.size+1,3,none⟩) a2).trans x3;have f0:=(DL (a:=⟨w.heap.size+1,0,none⟩) a2).trans (fz 0);have f1:=(DL (a:=⟨w.heap.size+1,1,none⟩) a2).trans (fz 1);have f2:=(DL (a:=⟨w.heap.size+1,2,none⟩) a2).trans (fz 2);have f3:=(DL (a:=⟨w.heap.size+1,3,none⟩) a2).trans (fz 3);have d5:Hid (Below w.heap.size w w3):=(b9.out.alloc (by omega) _).grown b2 (by simp;omega) (fun k hk=>by have:=b1.out k hk;omega);have a9:(R.item x.items s).length=x.items.length+1:=by
   rw[HI.out];simp only[mB,nP,mC,nQ];omega
  have c6:Hid (w3.ownsRow (w.heap.size+2) 9 1 v3 (R.item x.items s).length ((R.item x.items s).map S)):=by
   show w3.ownsRow _ _ _ _ _ _;rw[a9,HI.out];simpa[S,rX,rY]using b6
  have b4:v3.ownBlock≠some (w.heap.size+1):=fun e=>by have:=(b6.lt _ e).1;omega
  obtain⟨a3,c3,d4,_,_,_,_⟩:=zl c6.out;have e3:=z9 d4;subst d4;clear a2 x0 x1 x2 x3 fz b2 b6 a6 a9 a1 b9 b1;go_wp2;obtain⟨z0,z1,z2,z3⟩:=Qc w3 (w.heap.size+1) (.int .i64 3) (.int .i64 0) (.string ⟨#[]⟩) (.slice a3 (R.item x.items s).length c3) _ _ _ _ y0 y1 y2 y3;have hK:ze (fun k=>k=w.heap.size+1) w3 ((((w3.setCell ⟨w.heap.size+1,0,none⟩ (.int .i64 3)).setCell ⟨w.heap.size+1,1,none⟩ (.int .i64 0)).setCell ⟨w.heap.size+1,2,none⟩ (.string ⟨#[]⟩)).setCell ⟨w.heap.size+1,3,none⟩ (.slice a3 (R.item x.items s).length c3)):=
   ((((ze.refl (fun k=>k=w.heap.size+1) w3).setCell (p:=⟨w.heap.size+1,0,none⟩) (.inl rfl) _).setCell (p:=⟨w.heap.size+1,1,none⟩) (.inl rfl) _).setCell (p:=⟨w.heap.size+1,2,none⟩) (.inl rfl) _).setCell (p:=⟨w.heap.size+1,3,none⟩) (.inl rfl) _
  have d7:Below w.heap.size w ((((w3.setCell ⟨w.heap.size+1,0,none⟩ (.int .i64 3)).setCell ⟨w.heap.size+1,1,none⟩ (.int .i64 0)).setCell ⟨w.heap.size+1,2,none⟩ (.string ⟨#[]⟩)).setCell ⟨w.heap.size+1,3,none⟩ (.slice a3 (R.item x.items s).length c3)):=
   (((d5.out.setCell (p:=⟨w.heap.size+1,0,none⟩) (EO _) _).setCell (p:=⟨w.heap.size+1,1,none⟩) (EO _) _).setCell (p:=⟨w.heap.size+1,2,none⟩) (EO _) _).setCell (p:=⟨w.heap.size+1,3,none⟩) (EO _) _
  generalize((((w3.setCell ⟨w.heap.size+1,0,none⟩ (.int .i64 3)).setCell ⟨w.heap.size+1,1,none⟩ (.int .i64 0)).setCell ⟨w.heap.size+1,2,none⟩ (.string ⟨#[]⟩)).setCell ⟨w.heap.size+1,3,none⟩ (.slice a3 (R.item x.items s).length c3))=w9 at*;have b7:=zq c6.out hK (fun g e e2=>b4 (by rw[e,e2]));exact bodyPost_ret (v:= .agg #[.int .i64 3,.int .i64 0,.string ⟨#[]⟩,.slice a3 (R.item x.items s).length c3]) (by simp[results,EP,go_sem,z0,z1,z2,z3]) rfl ⟨a3,c3,rfl,Rd.of_owns b7 (fun b hb=>by have:=hM b hb;omega),d7⟩
 ·have a8:OkL x∧x.kind=42:=by
   rcases hk with hk|hk
   ·rw[hk]at a1;simp[R.none]at a1
   ·exact hk
  have hx:x=ZW x x.items:=by
   rcases a8.1.kind with h|h|h
   ·rw[a8.2]at h;simp at h
   ·rw[a8.2]at h;simp at h
   ·cases x;simp only[ZW]at h⊢;simp only[R.Leaf.mk.injEq];exact⟨trivial,h.1,h.2.1,h.2.2.1,trivial⟩
  have c9:pk x=3:=by unfold pk;rw[a8.2];simp
  have c8:x.n=0:=by rw[hx];rfl
  have d3:x.text=[]:=by rw[hx];rfl
  rw[XT a0 s a1,c9,c8,d3];rw[hx]at a5;rw[a1]at a7;have d6:Hid (It w M (ZW x x.items,.slice ia x.items.length ic)):=a5;clear h1 h2 h3 a0 hk a8 hx c9 c8 d3 a5 a1 b3;generalize xq x.items s=p at*;generalize x.items.length=n at*;go_enter EM,EN;go_wp2_with fail
  refine(a7 _ (((j0g _ _).alloc (j0a _) _).alloc (by simp) _)).mono ?_;rintro e w1 ⟨rfl,b8⟩;subst b8;go_wp2;have HB:Below w.heap.size w ((w.alloc (Obj.cells #[.int .i64 3,.int .i64 0,.string ⟨#[]⟩,.slice ia n ic] 137)).alloc (Obj.cells #[.int .i64 3,.int .i64 0,.string ⟨#[]⟩,.slice ia n ic] 137)):=((j0g _ _).alloc (j0a _) _).alloc (by simp) _;exact bodyPost_ret (v:= .agg #[.int .i64 3,.int .i64 0,.string ⟨#[]⟩,.slice ia n ic]) (by simp[results,EP,go_sem]) rfl ⟨ia,ic,rfl,Rd.below d6.out HB,HB⟩
theorem Cw (n:Nat)(w:World)(h0:0<n)(h1:n≤1000):
  Calls rJ 257 #[.slice none 0 0,.int .i64 n] w fun e w' =>∃v',e= .returned v' ∧w'.ownsRow w.heap.size 9 1 v' 0 []∧Below w.heap.size w w' :=by
 obtain⟨i0,hi,a3,a4,a6⟩:=info_parts Tryz.info9;have a0 :i0.bytes=16:=a6;have a5 :i0.size=1:=a4;have a2:=fun ty=>Lib.run_append_grow_zeros w 45 3 ty 9 i0 (.string ⟨#[]⟩) .i64 .i64 tJ Tryz.underlying3 hi a3 none 0 0 [] (run_firstCells_none w.drew i0.size 0 0 0) n h0 (by omega) (by omega) (by omega) (by rw[a0];omega) (by rw[a0];exact growslice_fits (by omega) (by omega))
 simp only[Nat.zero_add]at a2;have hG:=grownCap_ge w n 0 9;have a1:=grownCap_le_maxLen w n 0 9 (by unfold maxLen;omega);generalize grownCap w n 0 9=G at*;have HR:Hid ((w.drew.alloc (.cells (([]:List Value).toArray++rG (Value.string ⟨#[]⟩).cells n++rG (Value.string ⟨#[]⟩).cells (G-n)) 9)).ownsRow w.heap.size 9 1 (.slice (some ⟨w.heap.size,0,none⟩) 0 G) 0 []):=by
  refine World.ownsRow_made (base:=w.heap.size) (e:=9) (size:=1) w.drew _ G (j0a _) a1 ?_;have hc:(Value.string ⟨#[]⟩).cells= #[Value.string ⟨#[]⟩]:=rfl;simp[rG,hc];omega
 have HB:Hid (Below w.heap.size w (w.drew.alloc (.cells (([]:List Value).toArray++rG (Value.string ⟨#[]⟩).cells n++rG (Value.string ⟨#[]⟩).cells (G-n)) 9))):=(below_drewN (j0g _ _) 1).alloc (j0a _) _;unfold maxLen at a1;generalize Obj.cells (([]:List Value).toArray++rG (Value.string ⟨#[]⟩).cells n++rG (Value.string ⟨#[]⟩).cells (G-n)) 9=ob at*;go_enter Tryz.func257,Tryz.ntmps257;go_wp2_with (at_builtin;refine Lib.wpList_append_run _ rfl _ _ _ _ rfl _ _ rfl rfl _ _ (a2 _) ?_)
 go_ret;exact⟨_,rfl,HR.out,HB.out⟩
def Yn (Ls:List (List (List UInt8)))(k:Nat):Nat:=((Ls.take k).map List.length).sum
theorem jm (Ls:List (List (List UInt8)))(k:Nat)(h:k<Ls.length):Yn Ls (k+1)=Yn Ls k+Ls[k].length:=by
 unfold Yn;rw[mD h,rP,EQ];simp only[List.map_cons,List.map_nil,List.sum_cons,List.sum_nil,Nat.add_zero]
theorem Vg (Ls:List (List (List UInt8)))(k:Nat):Yn Ls k≤Yn Ls Ls.length:=by
 unfold Yn;rw[wN];conv=>rhs;rw[←List.take_append_drop k Ls,rP,EQ]
 exact Nat.le_add_right _ _
theorem gi (Ls:List (List (List UInt8)))(k:Nat):Yn Ls k=(Ls.take k).flatten.length:=by unfold Yn;rw[List.length_flatten]
theorem FK (b0 c0:Nat)(Ls:List (List (List UInt8)))(vs:List Value)(w:World)(M:Nat→Prop)(hn:Ls.length≤1000)(a0:∀j (h:j<Ls.length),∃a c,w.cell? ⟨b0,j,none⟩=some (.slice (some a) Ls[j].length c)∧Rd w M (.slice (some a) Ls[j].length c) Ls[j].length (Ls[j].map S)∧0<Ls[j].length)(a5:Yn Ls Ls.length≤1000)(a4:0<Yn Ls Ls.length)(d3:b0<w.heap.size):
  Calls rJ 223 #[.slice (some ⟨b0,0,none⟩) Ls.length c0] w fun e w' =>∃v',e= .returned v' ∧w'.ownsRow w.heap.size 9 1 v' Ls.flatten.length (Ls.flatten.map S)∧Below w.heap.size w w' :=by
 have HC:=z9 a0;clear a0;go_enter Tryz.func223,Tryz.ntmps223;go_wp2;go_loopw [11,3] (fun i s wr=>∃k q:Nat,k≤Ls.length∧i= .int .i64 k∧s= .int .i64 (Yn Ls k:Nat)∧wr=w.drewN q) (fun i _ _=>Ls.length-(intOf i).toNat)
 case atStart=>exact⟨0,0,sQ _,rfl,rfl,rfl⟩
 case round=>
  obtain⟨k,q,hk,rfl,rfl,rfl⟩:=hrel;have a6:=Vg Ls k;by_cases a3:k<Ls.length
  ·obtain⟨a,c,d1,_,_⟩:=HC.out k a3
   have HT:=z9 (jm Ls k a3);have a2:=Vg Ls (k+1);rw[HT.out]at a2;generalize Ls[k].length=m at*;generalize Yn Ls k=tk at*;go_wp2;go_roundw
   case rel=>exact⟨k+1,q,by omega,by go_num,by rw[HT.out];go_num,rfl⟩
   case measure=>simp[intOf];omega
  ·obtain rfl:k=Ls.length:=by omega
   have a8:=Cw (Yn Ls Ls.length) (w.drewN q) a4 a5;have hx:∀X:Nat,X=Yn Ls Ls.length→True:=fun _ _=>trivial
   clear a6 hx;generalize b6:Yn Ls Ls.length=tt at*;have c7:=z9 b6;clear b6;go_wp2_with fail
   refine a8.mono ?_;rintro e w1 ⟨v1,rfl,b3,a9⟩;have b9:Hid (w1.ownsRow w.heap.size 9 1 v1 0 []):=b3;have a7:Hid (Below w.heap.size w w1):=(below_drewN (j0g _ _) q).trans a9;have d6:w.heap.size≤w1.heap.size:=a7.out.size;clear b3 a9 a8;go_wp2_with fail
   go_loopw [27,6] (fun i s wr=>∃k:Nat,k≤Ls.length∧i= .int .i64 k∧wr.ownsRow w.heap.size 9 1 s (Yn Ls k) ((Ls.take k).flatten.map S)∧Below w.heap.size w wr) (fun i _ _=>Ls.length-(intOf i).toNat)
   case atStart=>exact⟨0,sQ _,rfl,b9.out,a7.out⟩
   case round=>
    obtain⟨k,hk,rfl,ho,hb⟩:=hrel;have HO:=z9 ho;have HB:=z9 hb;have a6:=Vg Ls k;have b5:=hb.size;clear ho hb;by_cases a3:k<Ls.length
    ·obtain⟨a,c,d1,c9,hp⟩:=HC.out k a3
     have HT:=z9 (jm Ls k a3);have a2:=Vg Ls (k+1);rw[HT.out]at a2;have e1:=(HB.out.cell (p:=⟨b0,k,none⟩) d3).trans d1;obtain⟨a',c',hv,_,_,b1⟩:=c9;obtain⟨b,off,ha,d4,_,a0⟩:=b1 hp;injection hv with h1 h2 h3
     subst h1;injection ha with ha
     subst ha;have a1 :∀j u,(Ls[k].map S)[j]? =some u→wr.cell? ⟨b,off+j,none⟩=some u:=fun j u hu=>(HB.out.cell (p:=⟨b,off+j,none⟩) d4).trans (a0 j u hu)
     have d5:(Ls[k].map S).length=Ls[k].length*1:=by simp
     have c8:=GP Ls[k];have HN:Hid ((Ls.take (k+1)).flatten.map S=(Ls.take k).flatten.map S++Ls[k].map S):=by
      show _=_;rw[mD a3,List.flatten_append,rP];simp
     clear d1 a0 b1;have b8:=z9 a1;clear a1;rw[c7.out]at a6 a2;generalize Ls[k].map S=xs at*;generalize Ls[k].length=m at*;go_wp2_with (at_builtin;go_loud (refine j9 _ (by rfl) _ _ 45 (by rfl) w.heap.size 9 (.string ⟨#[]⟩) 1 16 tJ Tryz.info9 (by rfl) (by decide) HO.out (some ⟨b,off,none⟩) m _ xs d5 (fun e=>by cases e) (fun ad e j u hu=>by injection e with e;subst e;rw[yz];exact b8.out j u hu) (by rfl) (by rfl) c8 (by unfold maxLen;omega) (by omega) b5 ?_))
     intro v2 w2 b4 b2;have c6:=z9 b4;have b7:Hid (Below w.heap.size w w2):=HB.out.grown b2 b5 (fun g hg=>(HO.out.lt g hg).1);clear b4 b2;go_wp2_with fail
     go_roundw
     case rel=>exact⟨k+1,by omega,by go_num,by rw[HT.out,HN.out];simpa[List.map_flatten,rX]using c6.out,b7.out⟩
     case measure=>simp[intOf];omega
    ·obtain rfl:k=Ls.length:=by omega
     go_wp2_with fail
     go_ret;refine⟨_,rfl,?_,HB.out⟩;have:=HO.out;rw[gi,wN]at this;exact this
theorem Ob (x:R.Leaf)(iv:Value)(s:List UInt8)(w:World)(M:Nat→Prop)(hM:∀b,M b→b<w.heap.size)(h:It w M (x,iv))(hl:x.items.length≤100)(a0:Zb x.items)(hk:x=R.none x.path∨x=ZW x x.items):
  Calls rJ 99 #[.agg #[.int .i64 (pk x),.int .i64 x.n,.string ⟨x.text.toArray⟩,iv],.string ⟨s.toArray⟩] w fun e w' =>∃ia ic,e= .returned (.agg #[.int .i64 3,.int .i64 0,.string ⟨#[]⟩,.slice ia (R.item x.items s).length ic])∧It w' M (ZW x (R.item x.items s),.slice ia (R.item x.items s).length ic)∧Below w.heap.size w w' :=by
 obtain⟨ia,ic,c6,h1,h2,h3⟩:=h;dsimp only at c6 h1 h2 h3;subst c6;have a5:It w M (x,.slice ia x.items.length ic):=⟨ia,ic,rfl,h1,h2,h3⟩
 have a7:=fun W (hW:Below w.heap.size w W)=>Yb (.slice ia x.items.length ic) x.items s W M (Rd.below a5 hW) (by omega) a0 (a0.mono s)
 have b2:=fun W (hW:Below w.heap.size w W)=>ju (.slice ia x.items.length ic) x.items W M (Rd.below a5 hW) (by omega)
 cases a1:(x.items.any fun y=>y==s)
 ·have HI:Hid (R.item x.items s=x.items.take (xq x.items s)++s::x.items.drop (xq x.items s)):=xE a0 s a1
  have d8:xq x.items s≤x.items.length:=nG;rw[a1]at a7;clear h1 h2 h3 a0 hk;generalize xq x.items s=p at*;go_enter EM,EN;go_wp2_with fail
  refine(a7 _ (((j0g _ _).alloc (j0a _) _).alloc (by simp) _)).mono ?_;rintro e w1 ⟨rfl,b7⟩;subst b7;go_wp2_with fail
  refine(b2 _ (((j0g _ _).alloc (j0a _) _).alloc (by simp) _)).mono ?_;rintro e w2 ⟨v2,rfl,ho,a4⟩;have e3:w.heap.size+2≤w2.heap.size:=by have:=a4.size;simpa using this
  have x0:w2.cell? ⟨w.heap.size+1,0,none⟩=some (.int .i64 0):=by rw[a4.cell (p:=⟨w.heap.size+1,0,none⟩) (by simp)];simp
  have x1:w2.cell? ⟨w.heap.size+1,1,none⟩=some (.int .i64 0):=by rw[a4.cell (p:=⟨w.heap.size+1,1,none⟩) (by simp)];simp
  have x2:w2.cell? ⟨w.heap.size+1,2,none⟩=some (.string ⟨#[]⟩):=by rw[a4.cell (p:=⟨w.heap.size+1,2,none⟩) (by simp)];simp
  have x3:w2.cell? ⟨w.heap.size+1,3,none⟩=some (.slice none 0 0):=by rw[a4.cell (p:=⟨w.heap.size+1,3,none⟩) (by simp)];simp
  have fz:∀j,w2.frozen? ⟨w.heap.size+1,j,none⟩=false:=fun j=>by rw[a4.frozen (p:=⟨w.heap.size+1,j,none⟩) (by simp)];simp
  have b8:Hid (Below w.heap.size w w2):=(((j0g _ _).alloc (j0a _) _).alloc (by simp) _).trans (a4.mono (by simp;omega));have b4 :w2.ownsRow (w.heap.size+2) 9 1 v2 x.items.length (x.items.map S):=by simpa using ho
  have a6:=fun W (hW:Below w2.heap.size w2 W) vb (d9:W.heap[vb]? =some (.cells #[.string ⟨s.toArray⟩] 9 (0,0))) (d7:v2.ownBlock≠some vb)=>Gl B_ v2 x.items.length p vb (w.heap.size+2) (x.items.map S) #[.string ⟨s.toArray⟩] W (Zm b4 hW) (by have:=hW.size;omega) d8 (by omega) d9 rfl d7 (GP _) (by intro u hu;simp at hu;subst hu;rfl)
  have a9:Hid (∀g,v2.ownBlock=some g→w.heap.size+2≤g∧g<w2.heap.size):=b4.lt;clear a4 ho b4 a5 b2 a7;go_wp2_with fail
  refine(a6 _ ((j0g _ _).alloc (j0a _) _) w2.heap.size (heap_alloc_new w2 _) (fun e=>by have:=a9.out _ e;omega)).mono ?_;rintro e w3 ⟨v3,rfl,b5,b1,_⟩;have e6:w2.heap.size+1≤w3.heap.size:=by have:=b1.size;simpa using this
  have a2:w3.heap[w.heap.size+1]? =w2.heap[w.heap.size+1]? :=by
   rw[b1.block _ (by simp;omega) (fun e=>by have:=a9.out _ e.symm;omega)];exact heap_alloc_old w2 _ (by omega)
  have y0:=(pU (a:=⟨w.heap.size+1,0,none⟩) a2).trans x0;have y1:=(pU (a:=⟨w.heap.size+1,1,none⟩) a2).trans x1;have y2:=(pU (a:=⟨w.heap.size+1,2,none⟩) a2).trans x2;have y3:=(pU (a:=⟨w.heap.size+1,3,none⟩) a2).trans x3;have f0:=(DL (a:=⟨w.heap.size+1,0,none⟩) a2).trans (fz 0);have f1:=(DL (a:=⟨w.heap.size+1,1,none⟩) a2).trans (fz 1);have f2:=(DL (a:=⟨w.heap.size+1,2,none⟩) a2).trans (fz 2);have f3:=(DL (a:=⟨w.heap.size+1,3,none⟩) a2).trans (fz 3);have d4:Hid (Below w.heap.size w w3):=(b8.out.alloc (by omega) _).grown b1 (by simp;omega) (fun k hk=>by have:=a9.out k hk;omega);have a8:(R.item x.items s).length=x.items.length+1:=by
   rw[HI.out];simp only[mB,nP,mC,nQ];omega
  have b9:Hid (w3.ownsRow (w.heap.size+2) 9 1 v3 (R.item x.items s).length ((R.item x.items s).map S)):=by
   show w3.ownsRow _ _ _ _ _ _;rw[a8,HI.out];simpa[S,rX,rY]using b5
  have b3:v3.ownBlock≠some (w.heap.size+1):=fun e=>by have:=(b5.lt _ e).1;omega
  obtain⟨a3,c3,d3,_,_,_,_⟩:=zl b9.out;have e1:=z9 d3;subst d3;clear a2 x0 x1 x2 x3 fz b1 b5 a6 a8 a1 b8 a9;go_wp2;obtain⟨z0,z1,z2,z3⟩:=Qc w3 (w.heap.size+1) (.int .i64 3) (.int .i64 0) (.string ⟨#[]⟩) (.slice a3 (R.item x.items s).length c3) _ _ _ _ y0 y1 y2 y3;have hK:ze (fun k=>k=w.heap.size+1) w3 ((((w3.setCell ⟨w.heap.size+1,0,none⟩ (.int .i64 3)).setCell ⟨w.heap.size+1,1,none⟩ (.int .i64 0)).setCell ⟨w.heap.size+1,2,none⟩ (.string ⟨#[]⟩)).setCell ⟨w.heap.size+1,3,none⟩ (.slice a3 (R.item x.items s).length c3)):=
   ((((ze.refl (fun k=>k=w.heap.size+1) w3).setCell (p:=⟨w.heap.size+1,0,none⟩) (.inl rfl) _).setCell (p:=⟨w.heap.size+1,1,none⟩) (.inl rfl) _).setCell (p:=⟨w.heap.size+1,2,none⟩) (.inl rfl) _).setCell (p:=⟨w.heap.size+1,3,none⟩) (.inl rfl) _
  have d6:Below w.heap.size w ((((w3.setCell ⟨w.heap.size+1,0,none⟩ (.int .i64 3)).setCell ⟨w.heap.size+1,1,none⟩ (.int .i64 0)).setCell ⟨w.heap.size+1,2,none⟩ (.string ⟨#[]⟩)).setCell ⟨w.heap.size+1,3,none⟩ (.slice a3 (R.item x.items s).length c3)):=
   (((d4.out.setCell (p:=⟨w.heap.size+1,0,none⟩) (EO _) _).setCell (p:=⟨w.heap.size+1,1,none⟩) (EO _) _).setCell (p:=⟨w.heap.size+1,2,none⟩) (EO _) _).setCell (p:=⟨w.heap.size+1,3,none⟩) (EO _) _
  generalize((((w3.setCell ⟨w.heap.size+1,0,none⟩ (.int .i64 3)).setCell ⟨w.heap.size+1,1,none⟩ (.int .i64 0)).setCell ⟨w.heap.size+1,2,none⟩ (.string ⟨#[]⟩)).setCell ⟨w.heap.size+1,3,none⟩ (.slice a3 (R.item x.items s).length c3))=w9 at*;have b6:=zq b9.out hK (fun g e e2=>b3 (by rw[e,e2]));exact bodyPost_ret (v:= .agg #[.int .i64 3,.int .i64 0,.string ⟨#[]⟩,.slice a3 (R.item x.items s).length c3]) (by simp[results,EP,go_sem,z0,z1,z2,z3]) rfl ⟨a3,c3,rfl,Rd.of_owns b6 (fun b hb=>by have:=hM b hb;omega),d6⟩
 ·have hx:x=ZW x x.items:=by
   rcases hk with hk|hk
   ·rw[hk]at a1;simp[R.none]at a1
   ·exact hk
  have c8:pk x=3:=by rw[hx];rfl
  have c7:x.n=0:=by rw[hx];rfl
  have c9:x.text=[]:=by rw[hx];rfl
  rw[XT a0 s a1,c8,c7,c9];rw[hx]at a5;rw[a1]at a7;have d5:Hid (It w M (ZW x x.items,.slice ia x.items.length ic)):=a5;clear h1 h2 h3 a0 hk hx c8 c7 c9 a5 a1 b2;generalize xq x.items s=p at*;generalize x.items.length=n at*;go_enter EM,EN;go_wp2_with fail
  refine(a7 _ (((j0g _ _).alloc (j0a _) _).alloc (by simp) _)).mono ?_;rintro e w1 ⟨rfl,b7⟩;subst b7;go_wp2;have HB:Below w.heap.size w ((w.alloc (Obj.cells #[.int .i64 3,.int .i64 0,.string ⟨#[]⟩,.slice ia n ic] 137)).alloc (Obj.cells #[.int .i64 3,.int .i64 0,.string ⟨#[]⟩,.slice ia n ic] 137)):=((j0g _ _).alloc (j0a _) _).alloc (by simp) _;exact bodyPost_ret (v:= .agg #[.int .i64 3,.int .i64 0,.string ⟨#[]⟩,.slice ia n ic]) (by simp[results,EP,go_sem]) rfl ⟨ia,ic,rfl,Rd.below d5.out HB,HB⟩
theorem Zg {w w1:World}{n:Nat}(B:Nat)(h:Below n w w1)(hB:n≤B)(a b c d:Value):Below n w ((((w1.setCell ⟨B,0,none⟩ a).setCell ⟨B,1,none⟩ b).setCell ⟨B,2,none⟩ c).setCell ⟨B,3,none⟩ d):=
 (((h.setCell (p:=⟨B,0,none⟩) hB _).setCell (p:=⟨B,1,none⟩) hB _).setCell (p:=⟨B,2,none⟩) hB _).setCell (p:=⟨B,3,none⟩) hB _
theorem KM (k1 k2 k3 n1 n2 n3:Int)(t1 t2 t3 p:List UInt8)(a1 a2 a3:Option Addr)(l1 l2 l3 c1 c2 c3:Nat)(w:World)(h1:n1≤1000000000∧ -1000000000≤n1)(h2:n2≤1000000000∧ -1000000000≤n2)(h3:n3≤1000000000∧ -1000000000≤n3):
  Calls rJ 185 #[.agg #[.int .i64 k1,.int .i64 n1,.string ⟨t1.toArray⟩,.slice a1 l1 c1],.agg #[.int .i64 k2,.int .i64 n2,.string ⟨t2.toArray⟩,.slice a2 l2 c2],.agg #[.int .i64 k3,.int .i64 n3,.string ⟨t3.toArray⟩,.slice a3 l3 c3]] w fun e w' =>
   e= .returned (.tuple #[.agg #[.int .i64 (pk (R.counterJ p (n2+n3-n1)).1),.int .i64 (R.counterJ p (n2+n3-n1)).1.n,.string ⟨#[]⟩,.slice none 0 0],.int .i64 (R.counterJ p (n2+n3-n1)).2])∧Below w.heap.size w w' :=by
 obtain⟨h1,a0⟩:=h1;obtain⟨h2,a4⟩:=h2;obtain⟨h3,a5⟩:=h3;have four:∀o1 o2 o3 o4:Obj,Below w.heap.size w ((((w.alloc o1).alloc o2).alloc o3).alloc o4):=fun o1 o2 o3 o4=>((((j0g _ _).alloc (j0a _) _).alloc (by simp) _).alloc (by simp;omega) _).alloc (by simp;omega) _
 have H4:=z9 four;clear four;by_cases hb:1000000000<n2+n3-n1∨n2+n3-n1< -1000000000
 ·have e0:R.counterJ p (n2+n3-n1)=(R.none [],8):=by unfold R.counterJ R.bad;rw[if_pos hb]
  rw[e0];clear e0;rcases hb with hb|hb
  all_goals
   go_enter ER,ES;go_wp2;exact bodyPost_ret (v:= .tuple #[.agg #[.int .i64 0,.int .i64 0,.string ⟨#[]⟩,.slice none 0 0],.int .i64 8]) (by simp[results,EU,go_sem]) rfl ⟨rfl,H4.out _ _ _ _⟩
 ·have e0:R.counterJ p (n2+n3-n1)=({path:=p,kind:=35,n:=n2+n3-n1,text:=[],items:=[]},0):=by unfold R.counterJ;rw[if_neg hb]
  rw[e0];clear e0;have a6:n2+n3-n1≤1000000000:=by omega
  have a7: -1000000000≤n2+n3-n1:=by omega
  clear hb;go_enter ER,ES;go_wp2;exact bodyPost_ret (v:= .tuple #[.agg #[.int .i64 1,.int .i64 (n2+n3-n1),.string ⟨#[]⟩,.slice none 0 0],.int .i64 0]) (by simp[results,EU,go_sem]) rfl ⟨rfl,H4.out _ _ _ _⟩
def YG (l:List (List UInt8)):R.Leaf:={path:=[],kind:=if l=[]then 0 else 42,n:=0,text:=[],items:=l}
theorem Ff (l:List (List UInt8)):YG l=R.none (YG l).path∨YG l=ZW (YG l) (YG l).items:=by
 by_cases h:l=[]
 ·subst h;exact .inl rfl
 ·right;simp[YG,ZW,h]
theorem u_ (l:List (List UInt8))(h:l≠ []):pk (YG l)=3:=by simp[pk,YG,h]
theorem OkL.full {y:R.Leaf}(h:OkL y)(hk:y.kind=42):y.items≠ []:=by
 rcases h.kind with h|h|h
 ·rw[hk]at h;simp at h
 ·rw[hk]at h;simp at h
 ·exact h.2.2.2
structure VB (w:World)(B:Nat)(k n:Int)(t:List UInt8)(iv:Value):Prop where
 c0:w.cell? ⟨B,0,none⟩=some (.int .i64 k)
 c1:w.cell? ⟨B,1,none⟩=some (.int .i64 n)
 c2:w.cell? ⟨B,2,none⟩=some (.string ⟨t.toArray⟩)
 c3:w.cell? ⟨B,3,none⟩=some iv
theorem VB.kept {w w' :World}{Z:Nat→Prop}{B:Nat}{k n:Int}{t:List UInt8}{iv:Value}(h:VB w B k n t iv)(hk:ze Z w w')(hB:B<w.heap.size)(hZ:¬Z B):VB w' B k n t iv:=
 ⟨by rw[hk.cell (p:=⟨B,0,none⟩) hB hZ];exact h.c0,by rw[hk.cell (p:=⟨B,1,none⟩) hB hZ];exact h.c1,by rw[hk.cell (p:=⟨B,2,none⟩) hB hZ];exact h.c2,by rw[hk.cell (p:=⟨B,3,none⟩) hB hZ];exact h.c3⟩
theorem VB.below {w w' :World}{m B:Nat}{k n:Int}{t:List UInt8}{iv:Value}(h:VB w B k n t iv)(hb:Below m w w')(hB:B<m):VB w' B k n t iv:=
 ⟨by rw[hb.cell (p:=⟨B,0,none⟩) hB];exact h.c0,by rw[hb.cell (p:=⟨B,1,none⟩) hB];exact h.c1,by rw[hb.cell (p:=⟨B,2,none⟩) hB];exact h.c2,by rw[hb.cell (p:=⟨B,3,none⟩) hB];exact h.c3⟩
theorem VB.four {w:World}{B:Nat}{k n:Int}{t:List UInt8}{iv:Value}(h:VB w B k n t iv)(k' n' :Int)(t' :List UInt8)(a0 :Value):VB ((((w.setCell ⟨B,0,none⟩ (.int .i64 k')).setCell ⟨B,1,none⟩ (.int .i64 n')).setCell ⟨B,2,none⟩ (.string ⟨t'.toArray⟩)).setCell ⟨B,3,none⟩ a0) B k' n' t' a0 :=by
 have n1:∀{a b:Nat},a≠b→(⟨B,a,none⟩:Addr)≠⟨B,b,none⟩:=fun h e=>h (by injection e)
 refine⟨?_,?_,?_,?_⟩
 ·rw[EV _ _ _ _ (n1 (by decide)),EV _ _ _ _ (n1 (by decide)),EV _ _ _ _ (n1 (by decide))];exact EW _ _ _ h.c0
 ·rw[EV _ _ _ _ (n1 (by decide)),EV _ _ _ _ (n1 (by decide))];exact EW _ _ _ (by rw[EV _ _ _ _ (n1 (by decide))];exact h.c1)
 ·rw[EV _ _ _ _ (n1 (by decide))];exact EW _ _ _ (by rw[EV _ _ _ _ (n1 (by decide)),EV _ _ _ _ (n1 (by decide))];exact h.c2)
 ·exact EW _ _ _ (by rw[EV _ _ _ _ (n1 (by decide)),EV _ _ _ _ (n1 (by decide)),EV _ _ _ _ (n1 (by decide))];exact h.c3)
theorem ze.four {Z:Nat→Prop}{a w:World}(h:ze Z a w){B:Nat}(hB:Z B∨a.heap.size≤B)(u0 u1 u2 u3:Value):ze Z a ((((w.setCell ⟨B,0,none⟩ u0).setCell ⟨B,1,none⟩ u1).setCell ⟨B,2,none⟩ u2).setCell ⟨B,3,none⟩ u3):=
 (((h.setCell (p:=⟨B,0,none⟩) hB _).setCell (p:=⟨B,1,none⟩) hB _).setCell (p:=⟨B,2,none⟩) hB _).setCell (p:=⟨B,3,none⟩) hB _
theorem Of (x y z:R.Leaf)(xa ya za:Option Addr)(xc yc zc:Nat)(p:List UInt8)(w:World)(M:Nat→Prop)(hM:∀b,M b→b<w.heap.size)(hx:VO p x)(hy:OkL y∧y.kind=42)(hz:OkL z∧z.kind=42)
  (ix:It w M (x,.slice xa x.items.length xc))(iy:It w M (y,.slice ya y.items.length yc))(iz:It w M (z,.slice za z.items.length zc)):
  Calls rJ 186 #[.agg #[.int .i64 (pk x),.int .i64 x.n,.string ⟨x.text.toArray⟩,.slice xa x.items.length xc],.agg #[.int .i64 (pk y),.int .i64 y.n,.string ⟨y.text.toArray⟩,.slice ya y.items.length yc],.agg #[.int .i64 (pk z),.int .i64 z.n,.string ⟨z.text.toArray⟩,.slice za z.items.length zc]] w fun e w' =>
   ∃ia ic,e= .returned (.tuple #[.agg #[.int .i64 (pk (R.bagV p (R.bagJ x.items y.items z.items)).1),.int .i64 0,.string ⟨#[]⟩,.slice ia (R.bagV p (R.bagJ x.items y.items z.items)).1.items.length ic],.int .i64 (R.bagV p (R.bagJ x.items y.items z.items)).2])∧
    It w' M ((R.bagV p (R.bagJ x.items y.items z.items)).1,.slice ia (R.bagV p (R.bagJ x.items y.items z.items)).1.items.length ic)∧Below w.heap.size w w' :=by
 have k3:y.items≠ []:=hy.1.full hy.2;have k4:z.items≠ []:=hz.1.full hz.2;have m9:=hy.1.many;have n5:=hz.1.many;have i2:0<y.items.length:=wP.2 k3;have i4:0<z.items.length:=wP.2 k4;have j6:=fun W s (hW:Below w.heap.size w W)=>QD x (.slice xa x.items.length xc) s W M (Rd.below ix hW) (by have:=hx.few;omega) hx.sort
 have j7:=fun W s (hW:Below w.heap.size w W)=>QD y (.slice ya y.items.length yc) s W M (Rd.below iy hW) (by omega) hy.1.sort
 have j8:=fun W s (hW:Below w.heap.size w W)=>QD z (.slice za z.items.length zc) s W M (Rd.below iz hW) (by omega) hz.1.sort
 have k2:∀(W:World) (M:Nat→Prop) (l:List (List UInt8)) (ia:Option Addr) (ic:Nat) (s:List UInt8),(∀b,M b→b<W.heap.size)→It W M (YG l,.slice ia l.length ic)→l.length≤100→Zb l→
   Calls rJ 99 #[.agg #[.int .i64 (pk (YG l)),.int .i64 0,.string ⟨#[]⟩,.slice ia l.length ic],.string ⟨s.toArray⟩] W fun e w' =>∃ia ic,e= .returned (.agg #[.int .i64 3,.int .i64 0,.string ⟨#[]⟩,.slice ia (R.item l s).length ic])∧It w' M (YG (R.item l s),.slice ia (R.item l s).length ic)∧Below W.heap.size W w' :=
  fun W M l ia ic s hM m5 hl d9=>Ob (YG l) (.slice ia l.length ic) s W M hM m5 hl d9 (Ff l)
 have j4:∀(W:World) (b0:Nat),Below w.heap.size w W→W.cell? ⟨b0,0,none⟩=some (.slice ya y.items.length yc)→W.cell? ⟨b0,1,none⟩=some (.slice za z.items.length zc)→b0<W.heap.size→
   Calls rJ 223 #[.slice (some ⟨b0,0,none⟩) 2 2] W fun e w' =>∃v',e= .returned v' ∧w'.ownsRow W.heap.size 9 1 v' (y.items++z.items).length ((y.items++z.items).map S)∧Below W.heap.size W w' :=by
  intro W b0 hW h0 h1 m1;obtain⟨p0,p3,n3,o4,o5,m8⟩:=Rd.below iy hW;obtain⟨p4,p5,n6,o7,o8,n4⟩:=Rd.below iz hW;injection n3 with e1 e2 e3
  injection n6 with f1 f2 f3
  subst e1 f1;obtain⟨yb,yo,rfl,o6⟩:=m8 i2;obtain⟨zb,zo,rfl,o9⟩:=n4 i4;have hT:Yn [y.items,z.items] [y.items,z.items].length=y.items.length+z.items.length:=by simp[Yn]
  have:=FK b0 2 [y.items,z.items] [] W M (by simp) (fun j hj=>by
   match j,hj with
   |0,_=>exact⟨_,_,h0,Rd.below iy hW,i2⟩
   |1,_=>exact⟨_,_,h1,Rd.below iz hW,i4⟩) (by rw[hT];omega) (by rw[hT];omega) m1
  simpa using this
 have hJ:R.bagJ x.items y.items z.items=Zk (fun s=>(R.inL y.items s&&R.inL z.items s)|| !R.inL x.items s) [] (y.items++z.items):=OS hy.1.item hz.1.item;have d4:∀i∈y.items++z.items,R.isText i=true∧i≠ []:=fun i hi=>by
  rcases List.mem_append.1 hi with h|h
  ·exact hy.1.item i h
  ·exact hz.1.item i h
 have a4:Hid (∀k,OkI (Zk (fun s=>(R.inL y.items s&&R.inL z.items s)|| !R.inL x.items s) [] ((y.items++z.items).take k))∧(Zk (fun s=>(R.inL y.items s&&R.inL z.items s)|| !R.inL x.items s) [] ((y.items++z.items).take k)).length≤16):=fun k=>by
  refine⟨qU _ _ _ OkI.nil fun i hi=>d4 i (List.mem_of_mem_take hi),?_⟩;have:=JW (fun s=>(R.inL y.items s&&R.inL z.items s)|| !R.inL x.items s) ((y.items++z.items).take k) [];simp only[List.length_nil,nP,mB]at this;omega
 have f6:Hid (∀k (h:k<(y.items++z.items).length),Zk (fun s=>(R.inL y.items s&&R.inL z.items s)|| !R.inL x.items s) [] ((y.items++z.items).take (k+1))=if((R.inL y.items (y.items++z.items)[k]&&R.inL z.items (y.items++z.items)[k])|| !R.inL x.items (y.items++z.items)[k])then R.item (Zk (fun s=>(R.inL y.items s&&R.inL z.items s)|| !R.inL x.items s) [] ((y.items++z.items).take k)) (y.items++z.items)[k]else Zk (fun s=>(R.inL y.items s&&R.inL z.items s)|| !R.inL x.items s) [] ((y.items++z.items).take k)):=fun k h=>by
  rw[mD h,gF]
 have a9:Hid (R.bagJ x.items y.items z.items=Zk (fun s=>(R.inL y.items s&&R.inL z.items s)|| !R.inL x.items s) [] ((y.items++z.items).take (y.items++z.items).length)):=by
  show _=_;rw[wN];exact hJ
 generalize b7:(fun k=>Zk (fun s=>(R.inL y.items s&&R.inL z.items s)|| !R.inL x.items s) [] ((y.items++z.items).take k))=acc;have j3:∀k,Zk (fun s=>(R.inL y.items s&&R.inL z.items s)|| !R.inL x.items s) [] ((y.items++z.items).take k)=acc k:=fun k=>by rw[←b7]
 have j2:acc 0=[]:=by rw[←b7];rfl
 simp only[j3]at a4 f6 a9;have d7:∀(W:World) (M:Nat→Prop),It W M (YG [],.slice none 0 0):=fun W M=>⟨none,0,rfl,j0a _,by unfold maxLen;omega,fun h=>absurd h (EL _)⟩
 have b5:=z9 d7;have i8:=z9 j6;have l0:=z9 j7;have l3:=z9 j8;have g9:=z9 k2;have l4:(y.items++z.items).length≤16:=by rw[mB];omega
 clear j6 j7 j8 k2 d7 hJ d4 b7 j3 hx hy hz ix iy iz k3 k4 i2 i4 m9 n5;go_enter Tryz.func186,Tryz.ntmps186;go_wp2_with fail
 refine(j4 _ _ ((((((((j0g _ _).alloc (j0a _) _).alloc (by simp) _).alloc (by simp;omega) _).alloc (by simp;omega) _).alloc (by simp;omega) _).alloc (by simp;omega) _)) (by simp[go_sem]) (by simp[go_sem]) (by simp)).mono ?_;rintro e w1 ⟨v1,rfl,f8,a7⟩;have k1:=a7.size;simp only[aL]at k1 f8;have VX:VB w1 w.heap.size (pk x) x.n x.text (.slice xa x.items.length xc):=by
  refine VB.below ?_ a7 (by simp only[aL];omega);exact⟨by simp[go_sem],by simp[go_sem],by simp[go_sem],by simp[go_sem]⟩
 have VY:VB w1 (w.heap.size+1) (pk y) y.n y.text (.slice ya y.items.length yc):=by
  refine VB.below ?_ a7 (by simp only[aL];omega);exact⟨by simp[go_sem],by simp[go_sem],by simp[go_sem],by simp[go_sem]⟩
 have VZ:VB w1 (w.heap.size+1+1) (pk z) z.n z.text (.slice za z.items.length zc):=by
  refine VB.below ?_ a7 (by simp only[aL];omega);exact⟨by simp[go_sem],by simp[go_sem],by simp[go_sem],by simp[go_sem]⟩
 have VR:VB w1 (w.heap.size+1+1+1) 0 0 [] (.slice none 0 0):=by
  refine VB.below ?_ a7 (by simp only[aL];omega);exact⟨by simp[go_sem],by simp[go_sem],by simp[go_sem],by simp[go_sem]⟩
 have FR:Hid (∀j,w1.frozen? ⟨w.heap.size+1+1+1,j,none⟩=false):=fun j=>by rw[a7.frozen (p:=⟨w.heap.size+1+1+1,j,none⟩) (by simp only[aL];omega)];simp[go_sem]
 have VV:VB w1 (w.heap.size+1+1+1+1) 0 0 [] (.slice none 0 0):=by
  refine VB.below ?_ a7 (by simp only[aL];omega);exact⟨by simp[go_sem],by simp[go_sem],by simp[go_sem],by simp[go_sem]⟩
 have FV:Hid (∀j,w1.frozen? ⟨w.heap.size+1+1+1+1,j,none⟩=false):=fun j=>by rw[a7.frozen (p:=⟨w.heap.size+1+1+1+1,j,none⟩) (by simp only[aL];omega)];simp[go_sem]
 have k9:Hid (Below w.heap.size w w1):=((((((((j0g _ _).alloc (j0a _) _).alloc (by simp) _).alloc (by simp;omega) _).alloc (by simp;omega) _).alloc (by simp;omega) _).alloc (by simp;omega) _)).trans (a7.mono (by simp;omega));obtain⟨a1,c1,m7,n9,n8,d8,a6⟩:=zl f8;have l5:=z9 f8;subst m7;clear a7 f8 j4;generalize l7:w.heap.size+1=B1 at*;generalize l8:B1+1=B2 at*;generalize l9:B2+1=B3 at*;generalize m0:B3+1=B4 at*;have g1:w.heap.size<B1:=by omega
 have g2:B1<B2:=by omega
 have g3:B2<B3:=by omega
 have g4:B3<B4:=by omega
 have g5:B4<w1.heap.size:=by omega
 have n7:Hid (∀g,a1=some g→B4<g.block):=fun g hg=>by
  obtain⟨g',rfl,m2,_⟩:=a6 g hg;show B4<g';omega
 clear l7 l8 l9 m0 k1 l5;have g7:=z9 a6;have b6:=z9 d8;clear a6 d8;go_wp2_with fail
 go_loopw [19] (fun i wr=>∃k ia ic,k≤(y.items++z.items).length∧i= .int .i64 (k:Nat)∧ze (fun b=>b=B4) w1 wr∧VB wr B4 (pk (YG (acc k))) 0 [] (.slice ia (acc k).length ic)∧It wr (fun b=>M b∨b=B4∨b=B3) (YG (acc k),.slice ia (acc k).length ic)∧∀j,wr.frozen? ⟨B4,j,none⟩=false) (fun i _=>(y.items++z.items).length-(intOf i).toNat)
 case atStart=>exact⟨0,none,0,sQ _,rfl,ze.refl _ _,by rw[j2];exact VV,by rw[j2];exact b5.out _ _,FV.out⟩
 case round=>
  obtain⟨k,ia,ic,hk,rfl,hK,hV,hI,hF⟩:=hrel;have c8:Hid (∀W,ze (fun b=>b=B4) w1 W→Below w.heap.size w W):=fun W hK=>k9.out.trans ⟨hK.os,hK.tape,hK.output,hK.size,fun b hb=>hK.block b (by omega) (by omega)⟩
  have g6:Hid (∀W,ze (fun b=>b=B4) w1 W→∀b,M b∨b=B4∨b=B3→b<W.heap.size):=fun W hK b hb=>by
   have:=hK.size;rcases hb with hb|hb|hb
   ·have:=hM b hb;omega
   ·omega
   ·omega
  have o3:=hK.size;by_cases b8:k<(y.items++z.items).length
  ·cases a1 with
   |none=>have:=(b6.out rfl).1;omega
   |some ad=>
   obtain⟨g,rfl,m2,m4,m3,j5⟩:=g7.out ad rfl;have hs:=f6.out k b8;have e0:wr.cell? ⟨g,k,none⟩=some (.string ⟨((y.items++z.items)[k]'b8).toArray⟩):=(hK.cell (p:=⟨g,k,none⟩) m4 (by show¬g=B4;omega)).trans (j5 k _ (by rw[rN,j0d b8];rfl));have i0 :k<y.items.length+z.items.length:=by simpa using b8
   generalize(y.items++z.items)[k]'b8=s at*;have HS:=z9 hs;have a8:=z9 (a4.out k);have HI:=z9 hI;obtain⟨y0,y1,y2,y3⟩:=VY.kept hK (by omega) (by show¬B1=B4;omega);have j1:=z9 VX;have l6:=z9 VZ;have j0:=z9 hV;have i6:=z9 hF;have g0:=z9 hK;clear j5 m3 g7 b6 f6 a4 a9 b5 hs VX VY VZ VR VV hV hF hK hI;go_wp2_with fail
   refine(l0.out _ s (c8.out _ g0.out)).mono ?_;rintro e w2 ⟨rfl,d5⟩;have b1:Hid (ze (fun b=>b=B4) w1 w2):=g0.out.trans (ze.of_below d5);have f7:Hid (VB w2 B4 (pk (YG (acc k))) 0 [] (.slice ia (acc k).length ic)):=j0.out.below d5 (by omega);have e9:Hid (∀j,w2.frozen? ⟨B4,j,none⟩=false):=fun j=>(d5.frozen (p:=⟨B4,j,none⟩) (by show B4<_;omega)).trans (i6.out j)
   have f4:Hid (It w2 (fun b=>M b∨b=B4∨b=B3) (YG (acc k),.slice ia (acc k).length ic)):=Rd.below HI.out d5;clear d5 g0 j0 i6 HI y0 y1 y2 y3 e0
   cases e8:(y.items.any fun y=>y==s)
   ·obtain⟨q0,q1,q2,q3⟩:=j1.out.kept b1.out (by omega) (by show¬_=B4;omega)
    go_wp2_with fail
    refine(i8.out _ s (c8.out _ b1.out)).mono ?_;rintro e w3 ⟨rfl,a5⟩;have b9:=b1.out.size;have a3:Hid (ze (fun b=>b=B4) w1 w3):=b1.out.trans (ze.of_below a5);have b2:Hid (VB w3 B4 (pk (YG (acc k))) 0 [] (.slice ia (acc k).length ic)):=f7.out.below a5 (by omega);have c6:Hid (∀j,w3.frozen? ⟨B4,j,none⟩=false):=fun j=>(a5.frozen (p:=⟨B4,j,none⟩) (by show B4<_;omega)).trans (e9.out j)
    have c7:Hid (It w3 (fun b=>M b∨b=B4∨b=B3) (YG (acc k),.slice ia (acc k).length ic)):=Rd.below f4.out a5;clear a5 b9 f7 e9 f4 q0 q1 q2 q3
    cases e7:(x.items.any fun y=>y==s)
    ·have HE:Hid (acc (k+1)=R.item (acc k) s):=by show _=_;rw[HS.out];exact if_pos (by simp[R.inL,e8,e7])
     have e6:=a3.out.size;obtain⟨v0,v1,v2,v3⟩:=b2.out;go_wp2_with fail
     refine(g9.out _ _ (acc k) ia ic s (g6.out _ a3.out) c7.out (by have:=a8.out.2;omega) a8.out.1.sort).mono ?_;rintro e w9 ⟨ib,id,rfl,b4,a2⟩;have d3:Hid (ze (fun b=>b=B4) w1 w9):=a3.out.trans (ze.of_below a2);have b3:Hid (VB w9 B4 (pk (YG (acc k))) 0 [] (.slice ia (acc k).length ic)):=b2.out.below a2 (by omega);have a0:Hid (∀j,w9.frozen? ⟨B4,j,none⟩=false):=fun j=>(a2.frozen (p:=⟨B4,j,none⟩) (by show B4<_;omega)).trans (c6.out j)
     have c9:=z9 b4;obtain⟨k5,k6,k7,k8⟩:=b3.out;have f0:=a0.out 0;have f1:=a0.out 1;have f2:=a0.out 2;have f3:=a0.out 3;clear v0 v1 v2 v3 a2 b4;go_wp2;go_roundw
     case rel=>
      refine⟨k+1,ib,id,by omega,by go_num,d3.out.four (.inl rfl) _ _ _ _,?_,?_,fun j=>by simpa using a0.out j⟩
      ·rw[HE.out,u_ _ (fun e=>by have:=QB a8.out.1 s;rw[e]at this;cases this)];exact b3.out.four 3 0 [] _
      ·rw[HE.out];exact Rd.step c9.out (ze.four (Z:=fun b=>b=B4) (ze.refl _ _) (.inl rfl) _ _ _ _) (fun b hb=> .inr (.inl hb)) (fun b hb=> .inl hb)
     case measure=>simp[intOf];omega
    ·have HE:Hid (acc (k+1)=acc k):=by show _=_;rw[HS.out];exact if_neg (by simp[R.inL,e8,e7])
     go_wp2;go_roundw
     case rel=>
      refine⟨k+1,ia,ic,by omega,by go_num,a3.out,?_,?_,c6.out⟩
      ·rw[HE.out];exact b2.out
      ·rw[HE.out];exact c7.out
     case measure=>simp[intOf];omega
   ·obtain⟨q0,q1,q2,q3⟩:=l6.out.kept b1.out (by omega) (by show¬_=B4;omega)
    go_wp2_with fail
    refine(l3.out _ s (c8.out _ b1.out)).mono ?_;rintro e w3 ⟨rfl,a5⟩;have b9:=b1.out.size;have a3:Hid (ze (fun b=>b=B4) w1 w3):=b1.out.trans (ze.of_below a5);have b2:Hid (VB w3 B4 (pk (YG (acc k))) 0 [] (.slice ia (acc k).length ic)):=f7.out.below a5 (by omega);have c6:Hid (∀j,w3.frozen? ⟨B4,j,none⟩=false):=fun j=>(a5.frozen (p:=⟨B4,j,none⟩) (by show B4<_;omega)).trans (e9.out j)
    have c7:Hid (It w3 (fun b=>M b∨b=B4∨b=B3) (YG (acc k),.slice ia (acc k).length ic)):=Rd.below f4.out a5;clear a5 b9 f7 e9 f4 q0 q1 q2 q3
    cases i3:(z.items.any fun y=>y==s)
    ·obtain⟨q0,q1,q2,q3⟩:=j1.out.kept a3.out (by omega) (by show¬_=B4;omega)
     go_wp2_with fail
     refine(i8.out _ s (c8.out _ a3.out)).mono ?_;rintro e w4 ⟨rfl,d6⟩;have i1:=a3.out.size;have f5:Hid (ze (fun b=>b=B4) w1 w4):=a3.out.trans (ze.of_below d6);have g8:Hid (VB w4 B4 (pk (YG (acc k))) 0 [] (.slice ia (acc k).length ic)):=b2.out.below d6 (by omega);have i7:Hid (∀j,w4.frozen? ⟨B4,j,none⟩=false):=fun j=>(d6.frozen (p:=⟨B4,j,none⟩) (by show B4<_;omega)).trans (c6.out j)
     have i9:Hid (It w4 (fun b=>M b∨b=B4∨b=B3) (YG (acc k),.slice ia (acc k).length ic)):=Rd.below c7.out d6;clear d6 i1 b2 c6 c7 q0 q1 q2 q3
     cases e7:(x.items.any fun y=>y==s)
     ·have HE:Hid (acc (k+1)=R.item (acc k) s):=by show _=_;rw[HS.out];exact if_pos (by simp[R.inL,e8,i3,e7])
      have e6:=f5.out.size;obtain⟨v0,v1,v2,v3⟩:=g8.out;go_wp2_with fail
      refine(g9.out _ _ (acc k) ia ic s (g6.out _ f5.out) i9.out (by have:=a8.out.2;omega) a8.out.1.sort).mono ?_;rintro e w9 ⟨ib,id,rfl,b4,a2⟩;have d3:Hid (ze (fun b=>b=B4) w1 w9):=f5.out.trans (ze.of_below a2);have b3:Hid (VB w9 B4 (pk (YG (acc k))) 0 [] (.slice ia (acc k).length ic)):=g8.out.below a2 (by omega);have a0:Hid (∀j,w9.frozen? ⟨B4,j,none⟩=false):=fun j=>(a2.frozen (p:=⟨B4,j,none⟩) (by show B4<_;omega)).trans (i7.out j)
      have c9:=z9 b4;obtain⟨k5,k6,k7,k8⟩:=b3.out;have f0:=a0.out 0;have f1:=a0.out 1;have f2:=a0.out 2;have f3:=a0.out 3;clear v0 v1 v2 v3 a2 b4;go_wp2;go_roundw
      case rel=>
       refine⟨k+1,ib,id,by omega,by go_num,d3.out.four (.inl rfl) _ _ _ _,?_,?_,fun j=>by simpa using a0.out j⟩
       ·rw[HE.out,u_ _ (fun e=>by have:=QB a8.out.1 s;rw[e]at this;cases this)];exact b3.out.four 3 0 [] _
       ·rw[HE.out];exact Rd.step c9.out (ze.four (Z:=fun b=>b=B4) (ze.refl _ _) (.inl rfl) _ _ _ _) (fun b hb=> .inr (.inl hb)) (fun b hb=> .inl hb)
      case measure=>simp[intOf];omega
     ·have HE:Hid (acc (k+1)=acc k):=by show _=_;rw[HS.out];exact if_neg (by simp[R.inL,e8,i3,e7])
      go_wp2;go_roundw
      case rel=>
       refine⟨k+1,ia,ic,by omega,by go_num,f5.out,?_,?_,i7.out⟩
       ·rw[HE.out];exact g8.out
       ·rw[HE.out];exact i9.out
      case measure=>simp[intOf];omega
    ·have HE:Hid (acc (k+1)=R.item (acc k) s):=by show _=_;rw[HS.out];exact if_pos (by simp[R.inL,e8,i3])
     have e6:=a3.out.size;obtain⟨v0,v1,v2,v3⟩:=b2.out;go_wp2_with fail
     refine(g9.out _ _ (acc k) ia ic s (g6.out _ a3.out) c7.out (by have:=a8.out.2;omega) a8.out.1.sort).mono ?_;rintro e w9 ⟨ib,id,rfl,b4,a2⟩;have d3:Hid (ze (fun b=>b=B4) w1 w9):=a3.out.trans (ze.of_below a2);have b3:Hid (VB w9 B4 (pk (YG (acc k))) 0 [] (.slice ia (acc k).length ic)):=b2.out.below a2 (by omega);have a0:Hid (∀j,w9.frozen? ⟨B4,j,none⟩=false):=fun j=>(a2.frozen (p:=⟨B4,j,none⟩) (by show B4<_;omega)).trans (c6.out j)
     have c9:=z9 b4;obtain⟨k5,k6,k7,k8⟩:=b3.out;have f0:=a0.out 0;have f1:=a0.out 1;have f2:=a0.out 2;have f3:=a0.out 3;clear v0 v1 v2 v3 a2 b4;go_wp2;go_roundw
     case rel=>
      refine⟨k+1,ib,id,by omega,by go_num,d3.out.four (.inl rfl) _ _ _ _,?_,?_,fun j=>by simpa using a0.out j⟩
      ·rw[HE.out,u_ _ (fun e=>by have:=QB a8.out.1 s;rw[e]at this;cases this)];exact b3.out.four 3 0 [] _
      ·rw[HE.out];exact Rd.step c9.out (ze.four (Z:=fun b=>b=B4) (ze.refl _ _) (.inl rfl) _ _ _ _) (fun b hb=> .inr (.inl hb)) (fun b hb=> .inl hb)
     case measure=>simp[intOf];omega
  ·have j9:k=(y.items++z.items).length:=by omega
   have i0 :¬k<y.items.length+z.items.length:=by simpa using b8
   have HE:Hid (R.bagJ x.items y.items z.items=acc k):=by show _=_;rw[a9.out,j9]
   obtain⟨v0,v1,v2,v3⟩:=hV;obtain⟨r0,r1,r2,r3⟩:=VR.kept hK (by omega) (by show¬_=B4;omega);have fr:=fun j=>(hK.frozen (p:=⟨B3,j,none⟩) (by show B3<_;omega) (by show¬B3=B4;omega)).trans (FR.out j)
   have f0:=fr 0;have f1:=fr 1;have f2:=fr 2;have f3:=fr 3;have HI:=z9 hI;have i5:=z9 (c8.out _ hK);have m6:=(a4.out k).2;clear j9 b8 hK hF hI g7 b6 f6 a4 a9 b5 VX VY VZ VV VR;by_cases h8:8<(acc k).length
   ·have f9:Hid (R.bagV p (R.bagJ x.items y.items z.items)=R.bad 4):=by show _=_;rw[HE.out,R.bagV,if_pos h8]
    go_wp2;refine bodyPost_ret (v:= .tuple #[.agg #[.int .i64 0,.int .i64 0,.string ⟨#[]⟩,.slice none 0 0],.int .i64 4]) (by simp[results,EX,go_sem, *]) rfl ?_;rw[f9.out];exact⟨none,0,rfl,⟨none,0,rfl,j0a _,by unfold maxLen;omega,fun h=>absurd h (EL _)⟩,Zg B3 i5.out (by omega) _ _ _ _⟩
   ·have f9:Hid (R.bagV p (R.bagJ x.items y.items z.items)=({path:=p,kind:=if acc k=[]then 0 else 42,n:=0,text:=[],items:=acc k},0)):=by show _=_;rw[HE.out,R.bagV,if_neg h8]
    go_wp2;refine bodyPost_ret (v:= .tuple #[.agg #[.int .i64 (pk (YG (acc k))),.int .i64 0,.string ⟨#[]⟩,.slice ia (acc k).length ic],.int .i64 0]) (by simp[results,EX,go_sem, *]) rfl ?_;rw[f9.out];exact⟨ia,ic,rfl,Rd.step HI.out (ze.four (Z:=fun b=>b=B3) (ze.refl _ _) (.inl rfl) _ _ _ _) (fun b hb=> .inr (.inr hb)) (fun b hb=> .inl (.inl hb)),Zg B3 i5.out (by omega) _ _ _ _⟩
