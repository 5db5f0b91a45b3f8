import Derived.Test.YtolgebdmffcemaaGreatDoorQ17
import Derived.Lib.MinMaxS
import Derived.Lib.RowBridge
import Derived.Lib.OwnBridge
set_option linter.all false
set_option maxHeartbeats 20000000
set_option maxRecDepth 1000000
open Go renaming Value→eB,World→eX,Calls→wH
open Go.Proofs.Tryz renaming prog→sU,func99→L1,ntmps99→L2,results99→L4,underlying45→wU,func185→L7,ntmps185→L8,results185→L9,results186→LF,results138→LG,func188→LH
open Go.RowKit renaming Below→tH
open Go.World renaming ownsRow_nil→ES,cell?_of_block→sD,frozen?_of_block→I4,cell?_setCell_other→LA,cell?_setCell_same→LD,size_alloc→DW
open List renaming length_map→aN,getElem?_map→sZ,take_of_length_le→nR,map_map→DP,findIdx_le_length→pR,length_append→nL,length_take→pZ,length_cons→nM,length_drop→rA,map_take→tJ,map_drop→tK,take_succ_eq_append_getElem→nN,map_append→tB,sum_append→L5,take_length→aU,take_append_drop→nS,flatten_append→L6,length_pos_iff→aW,mem_append→iZ,length_mergeSort→LJ,mem_singleton→iV,length_eq_zero_iff→wF
open Nat renaming le_succ→L3,zero_le→wB,lt_irrefl→LE
open Go.Builtin renaming zeroCells→sQ
open Bool renaming eq_iff_iff→rC
open Go.Lib renaming compact→rW,compact_length_le→LI,holds_of_ownsRow→LL,ownsRow_putRow→LM,below_putRow→LN
open Array renaming getElem?_append_left→LK
namespace Go.Proofs.YtolgebdmffcemaaGreatDoor
open Go.RowKit
theorem jw (v:eB)(l:List (List UInt8))(w:eX)(M:Nat→Prop)(h:Rd w M v l.length (l.map S))(hl:l.length≤1000000):
  wH sU 150 #[v] w fun e w' =>∃v',e= .returned v' ∧w'.ownsRow w.heap.size 9 1 v' l.length (l.map S)∧tH w.heap.size w w' :=by
 obtain⟨a,cap,rfl,hn,hm,hc⟩:=h;rcases Nat.eq_zero_or_pos l.length with h0|h0
 ·have a1:l=[]:=List.eq_nil_of_length_eq_zero h0
  subst a1
  cases a with
  |none=>
   refine(Tryz.slices_Clone_string_nil _ _ w).mono ?_;rintro e w' ⟨rfl,rfl⟩;exact⟨_,rfl,ES _ _ _ _,j0g _ _⟩
  |some ad=>
   refine(Tryz.slices_Clone_string_zero ad cap w).mono ?_;rintro e w' ⟨v',rfl,ho,_,hb⟩;exact⟨v',rfl,ho,hb⟩
 ·obtain⟨b,off,rfl,hb,_,a0⟩:=hc h0
  have hC:=Tryz.slices_Clone_string b off l.length cap (l.map fun x=>(⟨x.toArray⟩:ByteArray)) w (by simp) (by omega) (fun j hj=>by
   rw[aN]at hj;rw[a0 j (S l[j]) (by rw[sZ,j0d hj];rfl)];simp[S,hj])
  refine hC.mono ?_;rintro e w' ⟨v',rfl,ho,_,hb⟩;refine⟨v',rfl,?_,hb⟩;rw[nR (by simp),DP]at ho;exact ho
def ZY (x:R.Leaf)(l:List (List UInt8)):R.Leaf:={path:=x.path,kind:=42,n:=0,text:=[],items:=l}
theorem fm (l:List (List UInt8)):∀u∈l.map S,u.oneCell' =true:=by
 intro u hu;obtain⟨y,_,rfl⟩:=List.mem_map.1 hu;rfl
theorem Gf (x:R.Leaf)(iv:eB)(s:List UInt8)(w:eX)(M:Nat→Prop)(hM:∀b,M b→b<w.heap.size)(h:It w M (x,iv))(hk:x=R.none x.path∨(OkL x∧x.kind=42)):
  wH sU 99 #[.agg #[.int .i64 (pk x),.int .i64 x.n,.string ⟨x.text.toArray⟩,iv],.string ⟨s.toArray⟩] w fun e w' =>∃ia ic,e= .returned (.agg #[.int .i64 3,.int .i64 0,.string ⟨#[]⟩,.slice ia (R.item x.items s).length ic])∧It w' M (ZY x (R.item x.items s),.slice ia (R.item x.items s).length ic)∧tH w.heap.size w w' :=by
 have hl:x.items.length≤8:=by
  rcases hk with hk|⟨hk,_⟩
  ·rw[hk];simp[R.none]
  ·exact hk.many
 have a0:Zb x.items:=by
  rcases hk with hk|⟨hk,_⟩
  ·rw[hk];intro i j hi;simp[R.none]at hi
  ·exact hk.sort
 obtain⟨ia,ic,c7,h1,h2,h3⟩:=h;dsimp only at c7 h1 h2 h3;subst c7;have a5:It w M (x,.slice ia x.items.length ic):=⟨ia,ic,rfl,h1,h2,h3⟩
 have a7:=fun W (hW:tH w.heap.size w W)=>Yi (.slice ia x.items.length ic) x.items s W M (Rd.below a5 hW) (by omega) a0 (a0.mono s)
 have b3:=fun W (hW:tH w.heap.size w W)=>jw (.slice ia x.items.length ic) x.items W M (Rd.below a5 hW) (by omega)
 cases a1:(x.items.any fun y=>y==s)
 ·have HI:Hid (R.item x.items s=x.items.take (xB x.items s)++s::x.items.drop (xB x.items s)):=xJ a0 s a1
  have d9:xB x.items s≤x.items.length:=pR;rw[a1]at a7;clear h1 h2 h3 a0 hk;generalize xB x.items s=p at*;go_enter L1,L2;go_wp2_with fail
  refine(a7 _ (((j0g _ _).alloc (j0a _) _).alloc (by simp) _)).mono ?_;rintro e w1 ⟨rfl,b8⟩;subst b8;go_wp2_with fail
  refine(b3 _ (((j0g _ _).alloc (j0a _) _).alloc (by simp) _)).mono ?_;rintro e w2 ⟨v2,rfl,ho,a4⟩;have e6:w.heap.size+2≤w2.heap.size:=by have:=a4.size;simpa using this
  have x0:w2.cell? ⟨w.heap.size+1,0,none⟩=some (.int .i64 0):=by rw[a4.cell (p:=⟨w.heap.size+1,0,none⟩) (by simp)];simp
  have x1:w2.cell? ⟨w.heap.size+1,1,none⟩=some (.int .i64 0):=by rw[a4.cell (p:=⟨w.heap.size+1,1,none⟩) (by simp)];simp
  have x2:w2.cell? ⟨w.heap.size+1,2,none⟩=some (.string ⟨#[]⟩):=by rw[a4.cell (p:=⟨w.heap.size+1,2,none⟩) (by simp)];simp
  have x3:w2.cell? ⟨w.heap.size+1,3,none⟩=some (.slice none 0 0):=by rw[a4.cell (p:=⟨w.heap.size+1,3,none⟩) (by simp)];simp
  have fz:∀j,w2.frozen? ⟨w.heap.size+1,j,none⟩=false:=fun j=>by rw[a4.frozen (p:=⟨w.heap.size+1,j,none⟩) (by simp)];simp
  have b9:Hid (tH w.heap.size w w2):=(((j0g _ _).alloc (j0a _) _).alloc (by simp) _).trans (a4.mono (by simp;omega));have b5 :w2.ownsRow (w.heap.size+2) 9 1 v2 x.items.length (x.items.map S):=by simpa using ho
  have a6:=fun W (hW:tH w2.heap.size w2 W) vb (e1:W.heap[vb]? =some (.cells #[.string ⟨s.toArray⟩] 9 (0,0))) (d8:v2.ownBlock≠some vb)=>GH dE v2 x.items.length p vb (w.heap.size+2) (x.items.map S) #[.string ⟨s.toArray⟩] W (Zl b5 hW) (by have:=hW.size;omega) d9 (by omega) e1 rfl d8 (fm _) (by intro u hu;simp at hu;subst hu;rfl)
  have b1:Hid (∀g,v2.ownBlock=some g→w.heap.size+2≤g∧g<w2.heap.size):=b5.lt;clear a4 ho b5 a5 b3 a7;go_wp2_with fail
  refine(a6 _ ((j0g _ _).alloc (j0a _) _) w2.heap.size (heap_alloc_new w2 _) (fun e=>by have:=b1.out _ e;omega)).mono ?_;rintro e w3 ⟨v3,rfl,b6,b2,_⟩;have e7:w2.heap.size+1≤w3.heap.size:=by have:=b2.size;simpa using this
  have a2:w3.heap[w.heap.size+1]? =w2.heap[w.heap.size+1]? :=by
   rw[b2.block _ (by simp;omega) (fun e=>by have:=b1.out _ e.symm;omega)];exact heap_alloc_old w2 _ (by omega)
  have y0:=(sD (a:=⟨w.heap.size+1,0,none⟩) a2).trans x0;have y1:=(sD (a:=⟨w.heap.size+1,1,none⟩) a2).trans x1;have y2:=(sD (a:=⟨w.heap.size+1,2,none⟩) a2).trans x2;have y3:=(sD (a:=⟨w.heap.size+1,3,none⟩) a2).trans x3;have f0:=(I4 (a:=⟨w.heap.size+1,0,none⟩) a2).trans (fz 0);have f1:=(I4 (a:=⟨w.heap.size+1,1,none⟩) a2).trans (fz 1);have f2:=(I4 (a:=⟨w.heap.size+1,2,none⟩) a2).trans (fz 2);have f3:=(I4 (a:=⟨w.heap.size+1,3,none⟩) a2).trans (fz 3);have d5:Hid (tH w.heap.size w w3):=(b9.out.alloc (by omega) _).grown b2 (by simp;omega) (fun k hk=>by have:=b1.out k hk;omega);have a9:(R.item x.items s).length=x.items.length+1:=by
   rw[HI.out];simp only[nL,pZ,nM,rA];omega
  have c6:Hid (w3.ownsRow (w.heap.size+2) 9 1 v3 (R.item x.items s).length ((R.item x.items s).map S)):=by
   show w3.ownsRow _ _ _ _ _ _;rw[a9,HI.out];simpa[S,tJ,tK]using b6
  have b4:v3.ownBlock≠some (w.heap.size+1):=fun e=>by have:=(b6.lt _ e).1;omega
  obtain⟨a3,c3,d4,_,_,_,_⟩:=zh c6.out;have e3:=z9 d4;subst d4;clear a2 x0 x1 x2 x3 fz b2 b6 a6 a9 a1 b9 b1;go_wp2;obtain⟨z0,z1,z2,z3⟩:=Qi w3 (w.heap.size+1) (.int .i64 3) (.int .i64 0) (.string ⟨#[]⟩) (.slice a3 (R.item x.items s).length c3) _ _ _ _ y0 y1 y2 y3;have hK:zf (fun k=>k=w.heap.size+1) w3 ((((w3.setCell ⟨w.heap.size+1,0,none⟩ (.int .i64 3)).setCell ⟨w.heap.size+1,1,none⟩ (.int .i64 0)).setCell ⟨w.heap.size+1,2,none⟩ (.string ⟨#[]⟩)).setCell ⟨w.heap.size+1,3,none⟩ (.slice a3 (R.item x.items s).length c3)):=
   ((((zf.refl (fun k=>k=w.heap.size+1) w3).setCell (p:=⟨w.heap.size+1,0,none⟩) (.inl rfl) _).setCell (p:=⟨w.heap.size+1,1,none⟩) (.inl rfl) _).setCell (p:=⟨w.heap.size+1,2,none⟩) (.inl rfl) _).setCell (p:=⟨w.heap.size+1,3,none⟩) (.inl rfl) _
  have d7:tH w.heap.size w ((((w3.setCell ⟨w.heap.size+1,0,none⟩ (.int .i64 3)).setCell ⟨w.heap.size+1,1,none⟩ (.int .i64 0)).setCell ⟨w.heap.size+1,2,none⟩ (.string ⟨#[]⟩)).setCell ⟨w.heap.size+1,3,none⟩ (.slice a3 (R.item x.items s).length c3)):=
   (((d5.out.setCell (p:=⟨w.heap.size+1,0,none⟩) (L3 _) _).setCell (p:=⟨w.heap.size+1,1,none⟩) (L3 _) _).setCell (p:=⟨w.heap.size+1,2,none⟩) (L3 _) _).setCell (p:=⟨w.heap.size+1,3,none⟩) (L3 _) _
  generalize((((w3.setCell ⟨w.heap.size+1,0,none⟩ (.int .i64 3)).setCell ⟨w.heap.size+1,1,none⟩ (.int .i64 0)).setCell ⟨w.heap.size+1,2,none⟩ (.string ⟨#[]⟩)).setCell ⟨w.heap.size+1,3,none⟩ (.slice a3 (R.item x.items s).length c3))=w9 at*;have b7:=zr c6.out hK (fun g e e2=>b4 (by rw[e,e2]));exact bodyPost_ret (v:= .agg #[.int .i64 3,.int .i64 0,.string ⟨#[]⟩,.slice a3 (R.item x.items s).length c3]) (by simp[results,L4,go_sem,z0,z1,z2,z3]) rfl ⟨a3,c3,rfl,Rd.of_owns b7 (fun b hb=>by have:=hM b hb;omega),d7⟩
 ·have a8:OkL x∧x.kind=42:=by
   rcases hk with hk|hk
   ·rw[hk]at a1;simp[R.none]at a1
   ·exact hk
  have hx:x=ZY x x.items:=by
   rcases a8.1.kind with h|h|h
   ·rw[a8.2]at h;simp at h
   ·rw[a8.2]at h;simp at h
   ·cases x;simp only[ZY]at h⊢;simp only[R.Leaf.mk.injEq];exact⟨trivial,h.1,h.2.1,h.2.2.1,trivial⟩
  have c9:pk x=3:=by unfold pk;rw[a8.2];simp
  have c8:x.n=0:=by rw[hx];rfl
  have d3:x.text=[]:=by rw[hx];rfl
  rw[XZ a0 s a1,c9,c8,d3];rw[hx]at a5;rw[a1]at a7;have d6:Hid (It w M (ZY x x.items,.slice ia x.items.length ic)):=a5;clear h1 h2 h3 a0 hk a8 hx c9 c8 d3 a5 a1 b3;generalize xB x.items s=p at*;generalize x.items.length=n at*;go_enter L1,L2;go_wp2_with fail
  refine(a7 _ (((j0g _ _).alloc (j0a _) _).alloc (by simp) _)).mono ?_;rintro e w1 ⟨rfl,b8⟩;subst b8;go_wp2;have HB:tH w.heap.size w ((w.alloc (Obj.cells #[.int .i64 3,.int .i64 0,.string ⟨#[]⟩,.slice ia n ic] 137)).alloc (Obj.cells #[.int .i64 3,.int .i64 0,.string ⟨#[]⟩,.slice ia n ic] 137)):=((j0g _ _).alloc (j0a _) _).alloc (by simp) _;exact bodyPost_ret (v:= .agg #[.int .i64 3,.int .i64 0,.string ⟨#[]⟩,.slice ia n ic]) (by simp[results,L4,go_sem]) rfl ⟨ia,ic,rfl,Rd.below d6.out HB,HB⟩
theorem CT (n:Nat)(w:eX)(h0:0<n)(h1:n≤1000):
  wH sU 257 #[.slice none 0 0,.int .i64 n] w fun e w' =>∃v',e= .returned v' ∧w'.ownsRow w.heap.size 9 1 v' 0 []∧tH w.heap.size w w' :=by
 obtain⟨i0,hi,a3,a4,a6⟩:=info_parts Tryz.info9;have a0 :i0.bytes=16:=a6;have a5 :i0.size=1:=a4;have a2:=fun ty=>Lib.run_append_grow_zeros w 45 3 ty 9 i0 (.string ⟨#[]⟩) .i64 .i64 wU Tryz.underlying3 hi a3 none 0 0 [] (run_firstCells_none w.drew i0.size 0 0 0) n h0 (by omega) (by omega) (by omega) (by rw[a0];omega) (by rw[a0];exact growslice_fits (by omega) (by omega))
 simp only[Nat.zero_add]at a2;have hG:=grownCap_ge w n 0 9;have a1:=grownCap_le_maxLen w n 0 9 (by unfold maxLen;omega);generalize grownCap w n 0 9=G at*;have HR:Hid ((w.drew.alloc (.cells (([]:List eB).toArray++sQ (Value.string ⟨#[]⟩).cells n++sQ (Value.string ⟨#[]⟩).cells (G-n)) 9)).ownsRow w.heap.size 9 1 (.slice (some ⟨w.heap.size,0,none⟩) 0 G) 0 []):=by
  refine World.ownsRow_made (base:=w.heap.size) (e:=9) (size:=1) w.drew _ G (j0a _) a1 ?_;have hc:(Value.string ⟨#[]⟩).cells= #[Value.string ⟨#[]⟩]:=rfl;simp[sQ,hc];omega
 have HB:Hid (tH w.heap.size w (w.drew.alloc (.cells (([]:List eB).toArray++sQ (Value.string ⟨#[]⟩).cells n++sQ (Value.string ⟨#[]⟩).cells (G-n)) 9))):=(below_drewN (j0g _ _) 1).alloc (j0a _) _;unfold maxLen at a1;generalize Obj.cells (([]:List eB).toArray++sQ (Value.string ⟨#[]⟩).cells n++sQ (Value.string ⟨#[]⟩).cells (G-n)) 9=ob at*;go_enter Tryz.func257,Tryz.ntmps257;go_wp2_with (at_builtin;refine Lib.wpList_append_run _ rfl _ _ _ _ rfl _ _ rfl rfl _ _ (a2 _) ?_)
 go_ret;exact⟨_,rfl,HR.out,HB.out⟩
def Yw (Ls:List (List (List UInt8)))(k:Nat):Nat:=((Ls.take k).map List.length).sum
theorem jq (Ls:List (List (List UInt8)))(k:Nat)(h:k<Ls.length):Yw Ls (k+1)=Yw Ls k+Ls[k].length:=by
 unfold Yw;rw[nN h,tB,L5];simp only[List.map_cons,List.map_nil,List.sum_cons,List.sum_nil,Nat.add_zero]
theorem Vo (Ls:List (List (List UInt8)))(k:Nat):Yw Ls k≤Yw Ls Ls.length:=by
 unfold Yw;rw[aU];conv=>rhs;rw[←nS k Ls,tB,L5]
 exact Nat.le_add_right _ _
theorem gH (Ls:List (List (List UInt8)))(k:Nat):Yw Ls k=(Ls.take k).flatten.length:=by unfold Yw;rw[List.length_flatten]
theorem cn (b0 c0:Nat)(Ls:List (List (List UInt8)))(vs:List eB)(w:eX)(M:Nat→Prop)(hn:Ls.length≤1000)(a0:∀j (h:j<Ls.length),∃a c,w.cell? ⟨b0,j,none⟩=some (.slice (some a) Ls[j].length c)∧Rd w M (.slice (some a) Ls[j].length c) Ls[j].length (Ls[j].map S)∧0<Ls[j].length)(a5:Yw Ls Ls.length≤1000)(a4:0<Yw Ls Ls.length)(d3:b0<w.heap.size):
  wH sU 223 #[.slice (some ⟨b0,0,none⟩) Ls.length c0] w fun e w' =>∃v',e= .returned v' ∧w'.ownsRow w.heap.size 9 1 v' Ls.flatten.length (Ls.flatten.map S)∧tH w.heap.size w w' :=by
 have HC:=z9 a0;clear a0;go_enter Tryz.func223,Tryz.ntmps223;go_wp2;go_loopw [11,3] (fun i s wr=>∃k q:Nat,k≤Ls.length∧i= .int .i64 k∧s= .int .i64 (Yw Ls k:Nat)∧wr=w.drewN q) (fun i _ _=>Ls.length-(intOf i).toNat)
 case atStart=>exact⟨0,0,wB _,rfl,rfl,rfl⟩
 case round=>
  obtain⟨k,q,hk,rfl,rfl,rfl⟩:=hrel;have a6:=Vo Ls k;by_cases a3:k<Ls.length
  ·obtain⟨a,c,d1,_,_⟩:=HC.out k a3
   have HT:=z9 (jq Ls k a3);have a2:=Vo Ls (k+1);rw[HT.out]at a2;generalize Ls[k].length=m at*;generalize Yw Ls k=tk at*;go_wp2;go_roundw
   case rel=>exact⟨k+1,q,by omega,by go_num,by rw[HT.out];go_num,rfl⟩
   case measure=>simp[intOf];omega
  ·obtain rfl:k=Ls.length:=by omega
   have a8:=CT (Yw Ls Ls.length) (w.drewN q) a4 a5;have hx:∀X:Nat,X=Yw Ls Ls.length→True:=fun _ _=>trivial
   clear a6 hx;generalize b6:Yw Ls Ls.length=tt at*;have c7:=z9 b6;clear b6;go_wp2_with fail
   refine a8.mono ?_;rintro e w1 ⟨v1,rfl,b3,a9⟩;have b9:Hid (w1.ownsRow w.heap.size 9 1 v1 0 []):=b3;have a7:Hid (tH w.heap.size w w1):=(below_drewN (j0g _ _) q).trans a9;have d6:w.heap.size≤w1.heap.size:=a7.out.size;clear b3 a9 a8;go_wp2_with fail
   go_loopw [27,6] (fun i s wr=>∃k:Nat,k≤Ls.length∧i= .int .i64 k∧wr.ownsRow w.heap.size 9 1 s (Yw Ls k) ((Ls.take k).flatten.map S)∧tH w.heap.size w wr) (fun i _ _=>Ls.length-(intOf i).toNat)
   case atStart=>exact⟨0,wB _,rfl,b9.out,a7.out⟩
   case round=>
    obtain⟨k,hk,rfl,ho,hb⟩:=hrel;have HO:=z9 ho;have HB:=z9 hb;have a6:=Vo Ls k;have b5:=hb.size;clear ho hb;by_cases a3:k<Ls.length
    ·obtain⟨a,c,d1,c9,hp⟩:=HC.out k a3
     have HT:=z9 (jq Ls k a3);have a2:=Vo Ls (k+1);rw[HT.out]at a2;have e1:=(HB.out.cell (p:=⟨b0,k,none⟩) d3).trans d1;obtain⟨a',c',hv,_,_,b1⟩:=c9;obtain⟨b,off,ha,d4,_,a0⟩:=b1 hp;injection hv with h1 h2 h3
     subst h1;injection ha with ha
     subst ha;have a1 :∀j u,(Ls[k].map S)[j]? =some u→wr.cell? ⟨b,off+j,none⟩=some u:=fun j u hu=>(HB.out.cell (p:=⟨b,off+j,none⟩) d4).trans (a0 j u hu)
     have d5:(Ls[k].map S).length=Ls[k].length*1:=by simp
     have c8:=fm Ls[k];have HN:Hid ((Ls.take (k+1)).flatten.map S=(Ls.take k).flatten.map S++Ls[k].map S):=by
      show _=_;rw[nN a3,L6,tB];simp
     clear d1 a0 b1;have b8:=z9 a1;clear a1;rw[c7.out]at a6 a2;generalize Ls[k].map S=xs at*;generalize Ls[k].length=m at*;go_wp2_with (at_builtin;go_loud (refine jg _ (by rfl) _ _ 45 (by rfl) w.heap.size 9 (.string ⟨#[]⟩) 1 16 wU Tryz.info9 (by rfl) (by decide) HO.out (some ⟨b,off,none⟩) m _ xs d5 (fun e=>by cases e) (fun ad e j u hu=>by injection e with e;subst e;rw[yF];exact b8.out j u hu) (by rfl) (by rfl) c8 (by unfold maxLen;omega) (by omega) b5 ?_))
     intro v2 w2 b4 b2;have c6:=z9 b4;have b7:Hid (tH w.heap.size w w2):=HB.out.grown b2 b5 (fun g hg=>(HO.out.lt g hg).1);clear b4 b2;go_wp2_with fail
     go_roundw
     case rel=>exact⟨k+1,by omega,by go_num,by rw[HT.out,HN.out];simpa[List.map_flatten,tJ]using c6.out,b7.out⟩
     case measure=>simp[intOf];omega
    ·obtain rfl:k=Ls.length:=by omega
     go_wp2_with fail
     go_ret;refine⟨_,rfl,?_,HB.out⟩;have:=HO.out;rw[gH,aU]at this;exact this
theorem Ot (x:R.Leaf)(iv:eB)(s:List UInt8)(w:eX)(M:Nat→Prop)(hM:∀b,M b→b<w.heap.size)(h:It w M (x,iv))(hl:x.items.length≤100)(a0:Zb x.items)(hk:x=R.none x.path∨x=ZY x x.items):
  wH sU 99 #[.agg #[.int .i64 (pk x),.int .i64 x.n,.string ⟨x.text.toArray⟩,iv],.string ⟨s.toArray⟩] w fun e w' =>∃ia ic,e= .returned (.agg #[.int .i64 3,.int .i64 0,.string ⟨#[]⟩,.slice ia (R.item x.items s).length ic])∧It w' M (ZY x (R.item x.items s),.slice ia (R.item x.items s).length ic)∧tH w.heap.size w w' :=by
 obtain⟨ia,ic,c6,h1,h2,h3⟩:=h;dsimp only at c6 h1 h2 h3;subst c6;have a5:It w M (x,.slice ia x.items.length ic):=⟨ia,ic,rfl,h1,h2,h3⟩
 have a7:=fun W (hW:tH w.heap.size w W)=>Yi (.slice ia x.items.length ic) x.items s W M (Rd.below a5 hW) (by omega) a0 (a0.mono s)
 have b2:=fun W (hW:tH w.heap.size w W)=>jw (.slice ia x.items.length ic) x.items W M (Rd.below a5 hW) (by omega)
 cases a1:(x.items.any fun y=>y==s)
 ·have HI:Hid (R.item x.items s=x.items.take (xB x.items s)++s::x.items.drop (xB x.items s)):=xJ a0 s a1
  have d8:xB x.items s≤x.items.length:=pR;rw[a1]at a7;clear h1 h2 h3 a0 hk;generalize xB x.items s=p at*;go_enter L1,L2;go_wp2_with fail
  refine(a7 _ (((j0g _ _).alloc (j0a _) _).alloc (by simp) _)).mono ?_;rintro e w1 ⟨rfl,b7⟩;subst b7;go_wp2_with fail
  refine(b2 _ (((j0g _ _).alloc (j0a _) _).alloc (by simp) _)).mono ?_;rintro e w2 ⟨v2,rfl,ho,a4⟩;have e3:w.heap.size+2≤w2.heap.size:=by have:=a4.size;simpa using this
  have x0:w2.cell? ⟨w.heap.size+1,0,none⟩=some (.int .i64 0):=by rw[a4.cell (p:=⟨w.heap.size+1,0,none⟩) (by simp)];simp
  have x1:w2.cell? ⟨w.heap.size+1,1,none⟩=some (.int .i64 0):=by rw[a4.cell (p:=⟨w.heap.size+1,1,none⟩) (by simp)];simp
  have x2:w2.cell? ⟨w.heap.size+1,2,none⟩=some (.string ⟨#[]⟩):=by rw[a4.cell (p:=⟨w.heap.size+1,2,none⟩) (by simp)];simp
  have x3:w2.cell? ⟨w.heap.size+1,3,none⟩=some (.slice none 0 0):=by rw[a4.cell (p:=⟨w.heap.size+1,3,none⟩) (by simp)];simp
  have fz:∀j,w2.frozen? ⟨w.heap.size+1,j,none⟩=false:=fun j=>by rw[a4.frozen (p:=⟨w.heap.size+1,j,none⟩) (by simp)];simp
  have b8:Hid (tH w.heap.size w w2):=(((j0g _ _).alloc (j0a _) _).alloc (by simp) _).trans (a4.mono (by simp;omega));have b4 :w2.ownsRow (w.heap.size+2) 9 1 v2 x.items.length (x.items.map S):=by simpa using ho
  have a6:=fun W (hW:tH w2.heap.size w2 W) vb (d9:W.heap[vb]? =some (.cells #[.string ⟨s.toArray⟩] 9 (0,0))) (d7:v2.ownBlock≠some vb)=>GH dE v2 x.items.length p vb (w.heap.size+2) (x.items.map S) #[.string ⟨s.toArray⟩] W (Zl b4 hW) (by have:=hW.size;omega) d8 (by omega) d9 rfl d7 (fm _) (by intro u hu;simp at hu;subst hu;rfl)
  have a9:Hid (∀g,v2.ownBlock=some g→w.heap.size+2≤g∧g<w2.heap.size):=b4.lt;clear a4 ho b4 a5 b2 a7;go_wp2_with fail
  refine(a6 _ ((j0g _ _).alloc (j0a _) _) w2.heap.size (heap_alloc_new w2 _) (fun e=>by have:=a9.out _ e;omega)).mono ?_;rintro e w3 ⟨v3,rfl,b5,b1,_⟩;have e6:w2.heap.size+1≤w3.heap.size:=by have:=b1.size;simpa using this
  have a2:w3.heap[w.heap.size+1]? =w2.heap[w.heap.size+1]? :=by
   rw[b1.block _ (by simp;omega) (fun e=>by have:=a9.out _ e.symm;omega)];exact heap_alloc_old w2 _ (by omega)
  have y0:=(sD (a:=⟨w.heap.size+1,0,none⟩) a2).trans x0;have y1:=(sD (a:=⟨w.heap.size+1,1,none⟩) a2).trans x1;have y2:=(sD (a:=⟨w.heap.size+1,2,none⟩) a2).trans x2;have y3:=(sD (a:=⟨w.heap.size+1,3,none⟩) a2).trans x3;have f0:=(I4 (a:=⟨w.heap.size+1,0,none⟩) a2).trans (fz 0);have f1:=(I4 (a:=⟨w.heap.size+1,1,none⟩) a2).trans (fz 1);have f2:=(I4 (a:=⟨w.heap.size+1,2,none⟩) a2).trans (fz 2);have f3:=(I4 (a:=⟨w.heap.size+1,3,none⟩) a2).trans (fz 3);have d4:Hid (tH w.heap.size w w3):=(b8.out.alloc (by omega) _).grown b1 (by simp;omega) (fun k hk=>by have:=a9.out k hk;omega);have a8:(R.item x.items s).length=x.items.length+1:=by
   rw[HI.out];simp only[nL,pZ,nM,rA];omega
  have b9:Hid (w3.ownsRow (w.heap.size+2) 9 1 v3 (R.item x.items s).length ((R.item x.items s).map S)):=by
   show w3.ownsRow _ _ _ _ _ _;rw[a8,HI.out];simpa[S,tJ,tK]using b5
  have b3:v3.ownBlock≠some (w.heap.size+1):=fun e=>by have:=(b5.lt _ e).1;omega
  obtain⟨a3,c3,d3,_,_,_,_⟩:=zh b9.out;have e1:=z9 d3;subst d3;clear a2 x0 x1 x2 x3 fz b1 b5 a6 a8 a1 b8 a9;go_wp2;obtain⟨z0,z1,z2,z3⟩:=Qi w3 (w.heap.size+1) (.int .i64 3) (.int .i64 0) (.string ⟨#[]⟩) (.slice a3 (R.item x.items s).length c3) _ _ _ _ y0 y1 y2 y3;have hK:zf (fun k=>k=w.heap.size+1) w3 ((((w3.setCell ⟨w.heap.size+1,0,none⟩ (.int .i64 3)).setCell ⟨w.heap.size+1,1,none⟩ (.int .i64 0)).setCell ⟨w.heap.size+1,2,none⟩ (.string ⟨#[]⟩)).setCell ⟨w.heap.size+1,3,none⟩ (.slice a3 (R.item x.items s).length c3)):=
   ((((zf.refl (fun k=>k=w.heap.size+1) w3).setCell (p:=⟨w.heap.size+1,0,none⟩) (.inl rfl) _).setCell (p:=⟨w.heap.size+1,1,none⟩) (.inl rfl) _).setCell (p:=⟨w.heap.size+1,2,none⟩) (.inl rfl) _).setCell (p:=⟨w.heap.size+1,3,none⟩) (.inl rfl) _
  have d6:tH w.heap.size w ((((w3.setCell ⟨w.heap.size+1,0,none⟩ (.int .i64 3)).setCell ⟨w.heap.size+1,1,none⟩ (.int .i64 0)).setCell ⟨w.heap.size+1,2,none⟩ (.string ⟨#[]⟩)).setCell ⟨w.heap.size+1,3,none⟩ (.slice a3 (R.item x.items s).length c3)):=
   (((d4.out.setCell (p:=⟨w.heap.size+1,0,none⟩) (L3 _) _).setCell (p:=⟨w.heap.size+1,1,none⟩) (L3 _) _).setCell (p:=⟨w.heap.size+1,2,none⟩) (L3 _) _).setCell (p:=⟨w.heap.size+1,3,none⟩) (L3 _) _
  generalize((((w3.setCell ⟨w.heap.size+1,0,none⟩ (.int .i64 3)).setCell ⟨w.heap.size+1,1,none⟩ (.int .i64 0)).setCell ⟨w.heap.size+1,2,none⟩ (.string ⟨#[]⟩)).setCell ⟨w.heap.size+1,3,none⟩ (.slice a3 (R.item x.items s).length c3))=w9 at*;have b6:=zr b9.out hK (fun g e e2=>b3 (by rw[e,e2]));exact bodyPost_ret (v:= .agg #[.int .i64 3,.int .i64 0,.string ⟨#[]⟩,.slice a3 (R.item x.items s).length c3]) (by simp[results,L4,go_sem,z0,z1,z2,z3]) rfl ⟨a3,c3,rfl,Rd.of_owns b6 (fun b hb=>by have:=hM b hb;omega),d6⟩
 ·have hx:x=ZY x x.items:=by
   rcases hk with hk|hk
   ·rw[hk]at a1;simp[R.none]at a1
   ·exact hk
  have c8:pk x=3:=by rw[hx];rfl
  have c7:x.n=0:=by rw[hx];rfl
  have c9:x.text=[]:=by rw[hx];rfl
  rw[XZ a0 s a1,c8,c7,c9];rw[hx]at a5;rw[a1]at a7;have d5:Hid (It w M (ZY x x.items,.slice ia x.items.length ic)):=a5;clear h1 h2 h3 a0 hk hx c8 c7 c9 a5 a1 b2;generalize xB x.items s=p at*;generalize x.items.length=n at*;go_enter L1,L2;go_wp2_with fail
  refine(a7 _ (((j0g _ _).alloc (j0a _) _).alloc (by simp) _)).mono ?_;rintro e w1 ⟨rfl,b7⟩;subst b7;go_wp2;have HB:tH w.heap.size w ((w.alloc (Obj.cells #[.int .i64 3,.int .i64 0,.string ⟨#[]⟩,.slice ia n ic] 137)).alloc (Obj.cells #[.int .i64 3,.int .i64 0,.string ⟨#[]⟩,.slice ia n ic] 137)):=((j0g _ _).alloc (j0a _) _).alloc (by simp) _;exact bodyPost_ret (v:= .agg #[.int .i64 3,.int .i64 0,.string ⟨#[]⟩,.slice ia n ic]) (by simp[results,L4,go_sem]) rfl ⟨ia,ic,rfl,Rd.below d5.out HB,HB⟩
theorem Zg {w w1:eX}{n:Nat}(B:Nat)(h:tH n w w1)(hB:n≤B)(a b c d:eB):tH n w ((((w1.setCell ⟨B,0,none⟩ a).setCell ⟨B,1,none⟩ b).setCell ⟨B,2,none⟩ c).setCell ⟨B,3,none⟩ d):=
 (((h.setCell (p:=⟨B,0,none⟩) hB _).setCell (p:=⟨B,1,none⟩) hB _).setCell (p:=⟨B,2,none⟩) hB _).setCell (p:=⟨B,3,none⟩) hB _
theorem KR (k1 k2 k3 n1 n2 n3:Int)(t1 t2 t3 p:List UInt8)(a1 a2 a3:Option Addr)(l1 l2 l3 c1 c2 c3:Nat)(w:eX)(h1:n1≤1000000000∧ -1000000000≤n1)(h2:n2≤1000000000∧ -1000000000≤n2)(h3:n3≤1000000000∧ -1000000000≤n3):
  wH sU 185 #[.agg #[.int .i64 k1,.int .i64 n1,.string ⟨t1.toArray⟩,.slice a1 l1 c1],.agg #[.int .i64 k2,.int .i64 n2,.string ⟨t2.toArray⟩,.slice a2 l2 c2],.agg #[.int .i64 k3,.int .i64 n3,.string ⟨t3.toArray⟩,.slice a3 l3 c3]] w fun e w' =>
   e= .returned (.tuple #[.agg #[.int .i64 (pk (R.counterJ p (n2+n3-n1)).1),.int .i64 (R.counterJ p (n2+n3-n1)).1.n,.string ⟨#[]⟩,.slice none 0 0],.int .i64 (R.counterJ p (n2+n3-n1)).2])∧tH w.heap.size w w' :=by
 obtain⟨h1,a0⟩:=h1;obtain⟨h2,a4⟩:=h2;obtain⟨h3,a5⟩:=h3;have four:∀o1 o2 o3 o4:Obj,tH w.heap.size w ((((w.alloc o1).alloc o2).alloc o3).alloc o4):=fun o1 o2 o3 o4=>((((j0g _ _).alloc (j0a _) _).alloc (by simp) _).alloc (by simp;omega) _).alloc (by simp;omega) _
 have H4:=z9 four;clear four;by_cases hb:1000000000<n2+n3-n1∨n2+n3-n1< -1000000000
 ·have e0:R.counterJ p (n2+n3-n1)=(R.none [],8):=by unfold R.counterJ R.bad;rw[if_pos hb]
  rw[e0];clear e0;rcases hb with hb|hb
  all_goals
   go_enter L7,L8;go_wp2;exact bodyPost_ret (v:= .tuple #[.agg #[.int .i64 0,.int .i64 0,.string ⟨#[]⟩,.slice none 0 0],.int .i64 8]) (by simp[results,L9,go_sem]) rfl ⟨rfl,H4.out _ _ _ _⟩
 ·have e0:R.counterJ p (n2+n3-n1)=({path:=p,kind:=35,n:=n2+n3-n1,text:=[],items:=[]},0):=by unfold R.counterJ;rw[if_neg hb]
  rw[e0];clear e0;have a6:n2+n3-n1≤1000000000:=by omega
  have a7: -1000000000≤n2+n3-n1:=by omega
  clear hb;go_enter L7,L8;go_wp2;exact bodyPost_ret (v:= .tuple #[.agg #[.int .i64 1,.int .i64 (n2+n3-n1),.string ⟨#[]⟩,.slice none 0 0],.int .i64 0]) (by simp[results,L9,go_sem]) rfl ⟨rfl,H4.out _ _ _ _⟩
def YN (l:List (List UInt8)):R.Leaf:={path:=[],kind:=if l=[]then 0 else 42,n:=0,text:=[],items:=l}
theorem Fx (l:List (List UInt8)):YN l=R.none (YN l).path∨YN l=ZY (YN l) (YN l).items:=by
 by_cases h:l=[]
 ·subst h;exact .inl rfl
 ·right;simp[YN,ZY,h]
theorem Um (l:List (List UInt8))(h:l≠ []):pk (YN l)=3:=by simp[pk,YN,h]
theorem OkL.full {y:R.Leaf}(h:OkL y)(hk:y.kind=42):y.items≠ []:=by
 rcases h.kind with h|h|h
 ·rw[hk]at h;simp at h
 ·rw[hk]at h;simp at h
 ·exact h.2.2.2
structure VB (w:eX)(B:Nat)(k n:Int)(t:List UInt8)(iv:eB):Prop where
 c0:w.cell? ⟨B,0,none⟩=some (.int .i64 k)
 c1:w.cell? ⟨B,1,none⟩=some (.int .i64 n)
 c2:w.cell? ⟨B,2,none⟩=some (.string ⟨t.toArray⟩)
 c3:w.cell? ⟨B,3,none⟩=some iv
theorem VB.kept {w w' :eX}{Z:Nat→Prop}{B:Nat}{k n:Int}{t:List UInt8}{iv:eB}(h:VB w B k n t iv)(hk:zf Z w w')(hB:B<w.heap.size)(hZ:¬Z B):VB w' B k n t iv:=
 ⟨by rw[hk.cell (p:=⟨B,0,none⟩) hB hZ];exact h.c0,by rw[hk.cell (p:=⟨B,1,none⟩) hB hZ];exact h.c1,by rw[hk.cell (p:=⟨B,2,none⟩) hB hZ];exact h.c2,by rw[hk.cell (p:=⟨B,3,none⟩) hB hZ];exact h.c3⟩
theorem VB.below {w w' :eX}{m B:Nat}{k n:Int}{t:List UInt8}{iv:eB}(h:VB w B k n t iv)(hb:tH m w w')(hB:B<m):VB w' B k n t iv:=
 ⟨by rw[hb.cell (p:=⟨B,0,none⟩) hB];exact h.c0,by rw[hb.cell (p:=⟨B,1,none⟩) hB];exact h.c1,by rw[hb.cell (p:=⟨B,2,none⟩) hB];exact h.c2,by rw[hb.cell (p:=⟨B,3,none⟩) hB];exact h.c3⟩
theorem VB.four {w:eX}{B:Nat}{k n:Int}{t:List UInt8}{iv:eB}(h:VB w B k n t iv)(k' n' :Int)(t' :List UInt8)(a0 :eB):VB ((((w.setCell ⟨B,0,none⟩ (.int .i64 k')).setCell ⟨B,1,none⟩ (.int .i64 n')).setCell ⟨B,2,none⟩ (.string ⟨t'.toArray⟩)).setCell ⟨B,3,none⟩ a0) B k' n' t' a0 :=by
 have n1:∀{a b:Nat},a≠b→(⟨B,a,none⟩:Addr)≠⟨B,b,none⟩:=fun h e=>h (by injection e)
 refine⟨?_,?_,?_,?_⟩
 ·rw[LA _ _ _ _ (n1 (by decide)),LA _ _ _ _ (n1 (by decide)),LA _ _ _ _ (n1 (by decide))];exact LD _ _ _ h.c0
 ·rw[LA _ _ _ _ (n1 (by decide)),LA _ _ _ _ (n1 (by decide))];exact LD _ _ _ (by rw[LA _ _ _ _ (n1 (by decide))];exact h.c1)
 ·rw[LA _ _ _ _ (n1 (by decide))];exact LD _ _ _ (by rw[LA _ _ _ _ (n1 (by decide)),LA _ _ _ _ (n1 (by decide))];exact h.c2)
 ·exact LD _ _ _ (by rw[LA _ _ _ _ (n1 (by decide)),LA _ _ _ _ (n1 (by decide)),LA _ _ _ _ (n1 (by decide))];exact h.c3)
theorem zf.four {Z:Nat→Prop}{a w:eX}(h:zf Z a w){B:Nat}(hB:Z B∨a.heap.size≤B)(u0 u1 u2 u3:eB):zf Z a ((((w.setCell ⟨B,0,none⟩ u0).setCell ⟨B,1,none⟩ u1).setCell ⟨B,2,none⟩ u2).setCell ⟨B,3,none⟩ u3):=
 (((h.setCell (p:=⟨B,0,none⟩) hB _).setCell (p:=⟨B,1,none⟩) hB _).setCell (p:=⟨B,2,none⟩) hB _).setCell (p:=⟨B,3,none⟩) hB _
theorem Ox (x y z:R.Leaf)(xa ya za:Option Addr)(xc yc zc:Nat)(p:List UInt8)(w:eX)(M:Nat→Prop)(hM:∀b,M b→b<w.heap.size)(hx:VO p x)(hy:OkL y∧y.kind=42)(hz:OkL z∧z.kind=42)
  (ix:It w M (x,.slice xa x.items.length xc))(iy:It w M (y,.slice ya y.items.length yc))(iz:It w M (z,.slice za z.items.length zc)):
  wH sU 186 #[.agg #[.int .i64 (pk x),.int .i64 x.n,.string ⟨x.text.toArray⟩,.slice xa x.items.length xc],.agg #[.int .i64 (pk y),.int .i64 y.n,.string ⟨y.text.toArray⟩,.slice ya y.items.length yc],.agg #[.int .i64 (pk z),.int .i64 z.n,.string ⟨z.text.toArray⟩,.slice za z.items.length zc]] w fun e w' =>
   ∃ia ic,e= .returned (.tuple #[.agg #[.int .i64 (pk (R.bagV p (R.bagJ x.items y.items z.items)).1),.int .i64 0,.string ⟨#[]⟩,.slice ia (R.bagV p (R.bagJ x.items y.items z.items)).1.items.length ic],.int .i64 (R.bagV p (R.bagJ x.items y.items z.items)).2])∧
    It w' M ((R.bagV p (R.bagJ x.items y.items z.items)).1,.slice ia (R.bagV p (R.bagJ x.items y.items z.items)).1.items.length ic)∧tH w.heap.size w w' :=by
 have k4:y.items≠ []:=hy.1.full hy.2;have k5:z.items≠ []:=hz.1.full hz.2;have n3:=hy.1.many;have n6:=hz.1.many;have i2:0<y.items.length:=aW.2 k4;have i4:0<z.items.length:=aW.2 k5;have j6:=fun W s (hW:tH w.heap.size w W)=>QG x (.slice xa x.items.length xc) s W M (Rd.below ix hW) (by have:=hx.few;omega) hx.sort
 have j7:=fun W s (hW:tH w.heap.size w W)=>QG y (.slice ya y.items.length yc) s W M (Rd.below iy hW) (by omega) hy.1.sort
 have j8:=fun W s (hW:tH w.heap.size w W)=>QG z (.slice za z.items.length zc) s W M (Rd.below iz hW) (by omega) hz.1.sort
 have k3:∀(W:eX) (M:Nat→Prop) (l:List (List UInt8)) (ia:Option Addr) (ic:Nat) (s:List UInt8),(∀b,M b→b<W.heap.size)→It W M (YN l,.slice ia l.length ic)→l.length≤100→Zb l→
   wH sU 99 #[.agg #[.int .i64 (pk (YN l)),.int .i64 0,.string ⟨#[]⟩,.slice ia l.length ic],.string ⟨s.toArray⟩] W fun e w' =>∃ia ic,e= .returned (.agg #[.int .i64 3,.int .i64 0,.string ⟨#[]⟩,.slice ia (R.item l s).length ic])∧It w' M (YN (R.item l s),.slice ia (R.item l s).length ic)∧tH W.heap.size W w' :=
  fun W M l ia ic s hM m6 hl d9=>Ot (YN l) (.slice ia l.length ic) s W M hM m6 hl d9 (Fx l)
 have j4:∀(W:eX) (b0:Nat),tH w.heap.size w W→W.cell? ⟨b0,0,none⟩=some (.slice ya y.items.length yc)→W.cell? ⟨b0,1,none⟩=some (.slice za z.items.length zc)→b0<W.heap.size→
   wH sU 223 #[.slice (some ⟨b0,0,none⟩) 2 2] W fun e w' =>∃v',e= .returned v' ∧w'.ownsRow W.heap.size 9 1 v' (y.items++z.items).length ((y.items++z.items).map S)∧tH W.heap.size W w' :=by
  intro W b0 hW h0 h1 m2;obtain⟨p3,p4,n4,o5,o6,m9⟩:=Rd.below iy hW;obtain⟨p5,p6,n7,o8,o9,n5⟩:=Rd.below iz hW;injection n4 with e1 e2 e3
  injection n7 with f1 f2 f3
  subst e1 f1;obtain⟨yb,yo,rfl,o7⟩:=m9 i2;obtain⟨zb,zo,rfl,p0⟩:=n5 i4;have hT:Yw [y.items,z.items] [y.items,z.items].length=y.items.length+z.items.length:=by simp[Yw]
  have:=cn b0 2 [y.items,z.items] [] W M (by simp) (fun j hj=>by
   match j,hj with
   |0,_=>exact⟨_,_,h0,Rd.below iy hW,i2⟩
   |1,_=>exact⟨_,_,h1,Rd.below iz hW,i4⟩) (by rw[hT];omega) (by rw[hT];omega) m2
  simpa using this
 have hJ:R.bagJ x.items y.items z.items=Zn (fun s=>(R.inL y.items s&&R.inL z.items s)|| !R.inL x.items s) [] (y.items++z.items):=Cq hy.1.item hz.1.item;have d4:∀i∈y.items++z.items,R.isText i=true∧i≠ []:=fun i hi=>by
  rcases iZ.1 hi with h|h
  ·exact hy.1.item i h
  ·exact hz.1.item i h
 have a4:Hid (∀k,OkI (Zn (fun s=>(R.inL y.items s&&R.inL z.items s)|| !R.inL x.items s) [] ((y.items++z.items).take k))∧(Zn (fun s=>(R.inL y.items s&&R.inL z.items s)|| !R.inL x.items s) [] ((y.items++z.items).take k)).length≤16):=fun k=>by
  refine⟨Q0 _ _ _ OkI.nil fun i hi=>d4 i (List.mem_of_mem_take hi),?_⟩;have:=JZ (fun s=>(R.inL y.items s&&R.inL z.items s)|| !R.inL x.items s) ((y.items++z.items).take k) [];simp only[List.length_nil,pZ,nL]at this;omega
 have f6:Hid (∀k (h:k<(y.items++z.items).length),Zn (fun s=>(R.inL y.items s&&R.inL z.items s)|| !R.inL x.items s) [] ((y.items++z.items).take (k+1))=if((R.inL y.items (y.items++z.items)[k]&&R.inL z.items (y.items++z.items)[k])|| !R.inL x.items (y.items++z.items)[k])then R.item (Zn (fun s=>(R.inL y.items s&&R.inL z.items s)|| !R.inL x.items s) [] ((y.items++z.items).take k)) (y.items++z.items)[k]else Zn (fun s=>(R.inL y.items s&&R.inL z.items s)|| !R.inL x.items s) [] ((y.items++z.items).take k)):=fun k h=>by
  rw[nN h,g_]
 have a9:Hid (R.bagJ x.items y.items z.items=Zn (fun s=>(R.inL y.items s&&R.inL z.items s)|| !R.inL x.items s) [] ((y.items++z.items).take (y.items++z.items).length)):=by
  show _=_;rw[aU];exact hJ
 generalize b7:(fun k=>Zn (fun s=>(R.inL y.items s&&R.inL z.items s)|| !R.inL x.items s) [] ((y.items++z.items).take k))=acc;have j3:∀k,Zn (fun s=>(R.inL y.items s&&R.inL z.items s)|| !R.inL x.items s) [] ((y.items++z.items).take k)=acc k:=fun k=>by rw[←b7]
 have j2:acc 0=[]:=by rw[←b7];rfl
 simp only[j3]at a4 f6 a9;have d7:∀(W:eX) (M:Nat→Prop),It W M (YN [],.slice none 0 0):=fun W M=>⟨none,0,rfl,j0a _,by unfold maxLen;omega,fun h=>absurd h (LE _)⟩
 have b5:=z9 d7;have i8:=z9 j6;have l3:=z9 j7;have l4:=z9 j8;have g9:=z9 k3;have l5:(y.items++z.items).length≤16:=by rw[nL];omega
 clear j6 j7 j8 k3 d7 hJ d4 b7 j3 hx hy hz ix iy iz k4 k5 i2 i4 n3 n6;go_enter Tryz.func186,Tryz.ntmps186;go_wp2_with fail
 refine(j4 _ _ ((((((((j0g _ _).alloc (j0a _) _).alloc (by simp) _).alloc (by simp;omega) _).alloc (by simp;omega) _).alloc (by simp;omega) _).alloc (by simp;omega) _)) (by simp[go_sem]) (by simp[go_sem]) (by simp)).mono ?_;rintro e w1 ⟨v1,rfl,f8,a7⟩;have k1:=a7.size;simp only[DW]at k1 f8;have VX:VB w1 w.heap.size (pk x) x.n x.text (.slice xa x.items.length xc):=by
  refine VB.below ?_ a7 (by simp only[DW];omega);exact⟨by simp[go_sem],by simp[go_sem],by simp[go_sem],by simp[go_sem]⟩
 have VY:VB w1 (w.heap.size+1) (pk y) y.n y.text (.slice ya y.items.length yc):=by
  refine VB.below ?_ a7 (by simp only[DW];omega);exact⟨by simp[go_sem],by simp[go_sem],by simp[go_sem],by simp[go_sem]⟩
 have VZ:VB w1 (w.heap.size+1+1) (pk z) z.n z.text (.slice za z.items.length zc):=by
  refine VB.below ?_ a7 (by simp only[DW];omega);exact⟨by simp[go_sem],by simp[go_sem],by simp[go_sem],by simp[go_sem]⟩
 have VR:VB w1 (w.heap.size+1+1+1) 0 0 [] (.slice none 0 0):=by
  refine VB.below ?_ a7 (by simp only[DW];omega);exact⟨by simp[go_sem],by simp[go_sem],by simp[go_sem],by simp[go_sem]⟩
 have FR:Hid (∀j,w1.frozen? ⟨w.heap.size+1+1+1,j,none⟩=false):=fun j=>by rw[a7.frozen (p:=⟨w.heap.size+1+1+1,j,none⟩) (by simp only[DW];omega)];simp[go_sem]
 have VV:VB w1 (w.heap.size+1+1+1+1) 0 0 [] (.slice none 0 0):=by
  refine VB.below ?_ a7 (by simp only[DW];omega);exact⟨by simp[go_sem],by simp[go_sem],by simp[go_sem],by simp[go_sem]⟩
 have FV:Hid (∀j,w1.frozen? ⟨w.heap.size+1+1+1+1,j,none⟩=false):=fun j=>by rw[a7.frozen (p:=⟨w.heap.size+1+1+1+1,j,none⟩) (by simp only[DW];omega)];simp[go_sem]
 have l0:Hid (tH w.heap.size w w1):=((((((((j0g _ _).alloc (j0a _) _).alloc (by simp) _).alloc (by simp;omega) _).alloc (by simp;omega) _).alloc (by simp;omega) _).alloc (by simp;omega) _)).trans (a7.mono (by simp;omega));obtain⟨a1,c1,m8,o3,n9,d8,a6⟩:=zh f8;have l6:=z9 f8;subst m8;clear a7 f8 j4;generalize l8:w.heap.size+1=B1 at*;generalize l9:B1+1=B2 at*;generalize m0:B2+1=B3 at*;generalize m1:B3+1=B4 at*;have g1:w.heap.size<B1:=by omega
 have g2:B1<B2:=by omega
 have g3:B2<B3:=by omega
 have g4:B3<B4:=by omega
 have g5:B4<w1.heap.size:=by omega
 have n8:Hid (∀g,a1=some g→B4<g.block):=fun g hg=>by
  obtain⟨g',rfl,m3,_⟩:=a6 g hg;show B4<g';omega
 clear l8 l9 m0 m1 k1 l6;have g7:=z9 a6;have b6:=z9 d8;clear a6 d8;go_wp2_with fail
 go_loopw [19] (fun i wr=>∃k ia ic,k≤(y.items++z.items).length∧i= .int .i64 (k:Nat)∧zf (fun b=>b=B4) w1 wr∧VB wr B4 (pk (YN (acc k))) 0 [] (.slice ia (acc k).length ic)∧It wr (fun b=>M b∨b=B4∨b=B3) (YN (acc k),.slice ia (acc k).length ic)∧∀j,wr.frozen? ⟨B4,j,none⟩=false) (fun i _=>(y.items++z.items).length-(intOf i).toNat)
 case atStart=>exact⟨0,none,0,wB _,rfl,zf.refl _ _,by rw[j2];exact VV,by rw[j2];exact b5.out _ _,FV.out⟩
 case round=>
  obtain⟨k,ia,ic,hk,rfl,hK,hV,hI,hF⟩:=hrel;have c8:Hid (∀W,zf (fun b=>b=B4) w1 W→tH w.heap.size w W):=fun W hK=>l0.out.trans ⟨hK.os,hK.tape,hK.output,hK.size,fun b hb=>hK.block b (by omega) (by omega)⟩
  have g6:Hid (∀W,zf (fun b=>b=B4) w1 W→∀b,M b∨b=B4∨b=B3→b<W.heap.size):=fun W hK b hb=>by
   have:=hK.size;rcases hb with hb|hb|hb
   ·have:=hM b hb;omega
   ·omega
   ·omega
  have o4:=hK.size;by_cases b8:k<(y.items++z.items).length
  ·cases a1 with
   |none=>have:=(b6.out rfl).1;omega
   |some ad=>
   obtain⟨g,rfl,m3,m5,m4,j5⟩:=g7.out ad rfl;have hs:=f6.out k b8;have e0:wr.cell? ⟨g,k,none⟩=some (.string ⟨((y.items++z.items)[k]'b8).toArray⟩):=(hK.cell (p:=⟨g,k,none⟩) m5 (by show¬g=B4;omega)).trans (j5 k _ (by rw[sZ,j0d b8];rfl));have i0 :k<y.items.length+z.items.length:=by simpa using b8
   generalize(y.items++z.items)[k]'b8=s at*;have HS:=z9 hs;have a8:=z9 (a4.out k);have HI:=z9 hI;obtain⟨y0,y1,y2,y3⟩:=VY.kept hK (by omega) (by show¬B1=B4;omega);have j1:=z9 VX;have l7:=z9 VZ;have j0:=z9 hV;have i6:=z9 hF;have g0:=z9 hK;clear j5 m4 g7 b6 f6 a4 a9 b5 hs VX VY VZ VR VV hV hF hK hI;go_wp2_with fail
   refine(l3.out _ s (c8.out _ g0.out)).mono ?_;rintro e w2 ⟨rfl,d5⟩;have b1:Hid (zf (fun b=>b=B4) w1 w2):=g0.out.trans (zf.of_below d5);have f7:Hid (VB w2 B4 (pk (YN (acc k))) 0 [] (.slice ia (acc k).length ic)):=j0.out.below d5 (by omega);have e9:Hid (∀j,w2.frozen? ⟨B4,j,none⟩=false):=fun j=>(d5.frozen (p:=⟨B4,j,none⟩) (by show B4<_;omega)).trans (i6.out j)
   have f4:Hid (It w2 (fun b=>M b∨b=B4∨b=B3) (YN (acc k),.slice ia (acc k).length ic)):=Rd.below HI.out d5;clear d5 g0 j0 i6 HI y0 y1 y2 y3 e0
   cases e8:(y.items.any fun y=>y==s)
   ·obtain⟨q0,q1,q2,q3⟩:=j1.out.kept b1.out (by omega) (by show¬_=B4;omega)
    go_wp2_with fail
    refine(i8.out _ s (c8.out _ b1.out)).mono ?_;rintro e w3 ⟨rfl,a5⟩;have b9:=b1.out.size;have a3:Hid (zf (fun b=>b=B4) w1 w3):=b1.out.trans (zf.of_below a5);have b2:Hid (VB w3 B4 (pk (YN (acc k))) 0 [] (.slice ia (acc k).length ic)):=f7.out.below a5 (by omega);have c6:Hid (∀j,w3.frozen? ⟨B4,j,none⟩=false):=fun j=>(a5.frozen (p:=⟨B4,j,none⟩) (by show B4<_;omega)).trans (e9.out j)
    have c7:Hid (It w3 (fun b=>M b∨b=B4∨b=B3) (YN (acc k),.slice ia (acc k).length ic)):=Rd.below f4.out a5;clear a5 b9 f7 e9 f4 q0 q1 q2 q3
    cases e7:(x.items.any fun y=>y==s)
    ·have HE:Hid (acc (k+1)=R.item (acc k) s):=by show _=_;rw[HS.out];exact if_pos (by simp[R.inL,e8,e7])
     have e6:=a3.out.size;obtain⟨v0,v1,v2,v3⟩:=b2.out;go_wp2_with fail
     refine(g9.out _ _ (acc k) ia ic s (g6.out _ a3.out) c7.out (by have:=a8.out.2;omega) a8.out.1.sort).mono ?_;rintro e w9 ⟨ib,id,rfl,b4,a2⟩;have d3:Hid (zf (fun b=>b=B4) w1 w9):=a3.out.trans (zf.of_below a2);have b3:Hid (VB w9 B4 (pk (YN (acc k))) 0 [] (.slice ia (acc k).length ic)):=b2.out.below a2 (by omega);have a0:Hid (∀j,w9.frozen? ⟨B4,j,none⟩=false):=fun j=>(a2.frozen (p:=⟨B4,j,none⟩) (by show B4<_;omega)).trans (c6.out j)
     have c9:=z9 b4;obtain⟨k6,k7,k8,k9⟩:=b3.out;have f0:=a0.out 0;have f1:=a0.out 1;have f2:=a0.out 2;have f3:=a0.out 3;clear v0 v1 v2 v3 a2 b4;go_wp2;go_roundw
     case rel=>
      refine⟨k+1,ib,id,by omega,by go_num,d3.out.four (.inl rfl) _ _ _ _,?_,?_,fun j=>by simpa using a0.out j⟩
      ·rw[HE.out,Um _ (fun e=>by have:=QF a8.out.1 s;rw[e]at this;cases this)];exact b3.out.four 3 0 [] _
      ·rw[HE.out];exact Rd.step c9.out (zf.four (Z:=fun b=>b=B4) (zf.refl _ _) (.inl rfl) _ _ _ _) (fun b hb=> .inr (.inl hb)) (fun b hb=> .inl hb)
     case measure=>simp[intOf];omega
    ·have HE:Hid (acc (k+1)=acc k):=by show _=_;rw[HS.out];exact if_neg (by simp[R.inL,e8,e7])
     go_wp2;go_roundw
     case rel=>
      refine⟨k+1,ia,ic,by omega,by go_num,a3.out,?_,?_,c6.out⟩
      ·rw[HE.out];exact b2.out
      ·rw[HE.out];exact c7.out
     case measure=>simp[intOf];omega
   ·obtain⟨q0,q1,q2,q3⟩:=l7.out.kept b1.out (by omega) (by show¬_=B4;omega)
    go_wp2_with fail
    refine(l4.out _ s (c8.out _ b1.out)).mono ?_;rintro e w3 ⟨rfl,a5⟩;have b9:=b1.out.size;have a3:Hid (zf (fun b=>b=B4) w1 w3):=b1.out.trans (zf.of_below a5);have b2:Hid (VB w3 B4 (pk (YN (acc k))) 0 [] (.slice ia (acc k).length ic)):=f7.out.below a5 (by omega);have c6:Hid (∀j,w3.frozen? ⟨B4,j,none⟩=false):=fun j=>(a5.frozen (p:=⟨B4,j,none⟩) (by show B4<_;omega)).trans (e9.out j)
    have c7:Hid (It w3 (fun b=>M b∨b=B4∨b=B3) (YN (acc k),.slice ia (acc k).length ic)):=Rd.below f4.out a5;clear a5 b9 f7 e9 f4 q0 q1 q2 q3
    cases i3:(z.items.any fun y=>y==s)
    ·obtain⟨q0,q1,q2,q3⟩:=j1.out.kept a3.out (by omega) (by show¬_=B4;omega)
     go_wp2_with fail
     refine(i8.out _ s (c8.out _ a3.out)).mono ?_;rintro e w4 ⟨rfl,d6⟩;have i1:=a3.out.size;have f5:Hid (zf (fun b=>b=B4) w1 w4):=a3.out.trans (zf.of_below d6);have g8:Hid (VB w4 B4 (pk (YN (acc k))) 0 [] (.slice ia (acc k).length ic)):=b2.out.below d6 (by omega);have i7:Hid (∀j,w4.frozen? ⟨B4,j,none⟩=false):=fun j=>(d6.frozen (p:=⟨B4,j,none⟩) (by show B4<_;omega)).trans (c6.out j)
     have i9:Hid (It w4 (fun b=>M b∨b=B4∨b=B3) (YN (acc k),.slice ia (acc k).length ic)):=Rd.below c7.out d6;clear d6 i1 b2 c6 c7 q0 q1 q2 q3
     cases e7:(x.items.any fun y=>y==s)
     ·have HE:Hid (acc (k+1)=R.item (acc k) s):=by show _=_;rw[HS.out];exact if_pos (by simp[R.inL,e8,i3,e7])
      have e6:=f5.out.size;obtain⟨v0,v1,v2,v3⟩:=g8.out;go_wp2_with fail
      refine(g9.out _ _ (acc k) ia ic s (g6.out _ f5.out) i9.out (by have:=a8.out.2;omega) a8.out.1.sort).mono ?_;rintro e w9 ⟨ib,id,rfl,b4,a2⟩;have d3:Hid (zf (fun b=>b=B4) w1 w9):=f5.out.trans (zf.of_below a2);have b3:Hid (VB w9 B4 (pk (YN (acc k))) 0 [] (.slice ia (acc k).length ic)):=g8.out.below a2 (by omega);have a0:Hid (∀j,w9.frozen? ⟨B4,j,none⟩=false):=fun j=>(a2.frozen (p:=⟨B4,j,none⟩) (by show B4<_;omega)).trans (i7.out j)
      have c9:=z9 b4;obtain⟨k6,k7,k8,k9⟩:=b3.out;have f0:=a0.out 0;have f1:=a0.out 1;have f2:=a0.out 2;have f3:=a0.out 3;clear v0 v1 v2 v3 a2 b4;go_wp2;go_roundw
      case rel=>
       refine⟨k+1,ib,id,by omega,by go_num,d3.out.four (.inl rfl) _ _ _ _,?_,?_,fun j=>by simpa using a0.out j⟩
       ·rw[HE.out,Um _ (fun e=>by have:=QF a8.out.1 s;rw[e]at this;cases this)];exact b3.out.four 3 0 [] _
       ·rw[HE.out];exact Rd.step c9.out (zf.four (Z:=fun b=>b=B4) (zf.refl _ _) (.inl rfl) _ _ _ _) (fun b hb=> .inr (.inl hb)) (fun b hb=> .inl hb)
      case measure=>simp[intOf];omega
     ·have HE:Hid (acc (k+1)=acc k):=by show _=_;rw[HS.out];exact if_neg (by simp[R.inL,e8,i3,e7])
      go_wp2;go_roundw
      case rel=>
       refine⟨k+1,ia,ic,by omega,by go_num,f5.out,?_,?_,i7.out⟩
       ·rw[HE.out];exact g8.out
       ·rw[HE.out];exact i9.out
      case measure=>simp[intOf];omega
    ·have HE:Hid (acc (k+1)=R.item (acc k) s):=by show _=_;rw[HS.out];exact if_pos (by simp[R.inL,e8,i3])
     have e6:=a3.out.size;obtain⟨v0,v1,v2,v3⟩:=b2.out;go_wp2_with fail
     refine(g9.out _ _ (acc k) ia ic s (g6.out _ a3.out) c7.out (by have:=a8.out.2;omega) a8.out.1.sort).mono ?_;rintro e w9 ⟨ib,id,rfl,b4,a2⟩;have d3:Hid (zf (fun b=>b=B4) w1 w9):=a3.out.trans (zf.of_below a2);have b3:Hid (VB w9 B4 (pk (YN (acc k))) 0 [] (.slice ia (acc k).length ic)):=b2.out.below a2 (by omega);have a0:Hid (∀j,w9.frozen? ⟨B4,j,none⟩=false):=fun j=>(a2.frozen (p:=⟨B4,j,none⟩) (by show B4<_;omega)).trans (c6.out j)
     have c9:=z9 b4;obtain⟨k6,k7,k8,k9⟩:=b3.out;have f0:=a0.out 0;have f1:=a0.out 1;have f2:=a0.out 2;have f3:=a0.out 3;clear v0 v1 v2 v3 a2 b4;go_wp2;go_roundw
     case rel=>
      refine⟨k+1,ib,id,by omega,by go_num,d3.out.four (.inl rfl) _ _ _ _,?_,?_,fun j=>by simpa using a0.out j⟩
      ·rw[HE.out,Um _ (fun e=>by have:=QF a8.out.1 s;rw[e]at this;cases this)];exact b3.out.four 3 0 [] _
      ·rw[HE.out];exact Rd.step c9.out (zf.four (Z:=fun b=>b=B4) (zf.refl _ _) (.inl rfl) _ _ _ _) (fun b hb=> .inr (.inl hb)) (fun b hb=> .inl hb)
     case measure=>simp[intOf];omega
  ·have j9:k=(y.items++z.items).length:=by omega
   have i0 :¬k<y.items.length+z.items.length:=by simpa using b8
   have HE:Hid (R.bagJ x.items y.items z.items=acc k):=by show _=_;rw[a9.out,j9]
   obtain⟨v0,v1,v2,v3⟩:=hV;obtain⟨r0,r1,r2,r3⟩:=VR.kept hK (by omega) (by show¬_=B4;omega);have fr:=fun j=>(hK.frozen (p:=⟨B3,j,none⟩) (by show B3<_;omega) (by show¬B3=B4;omega)).trans (FR.out j)
   have f0:=fr 0;have f1:=fr 1;have f2:=fr 2;have f3:=fr 3;have HI:=z9 hI;have i5:=z9 (c8.out _ hK);have m7:=(a4.out k).2;clear j9 b8 hK hF hI g7 b6 f6 a4 a9 b5 VX VY VZ VV VR;by_cases h8:8<(acc k).length
   ·have f9:Hid (R.bagV p (R.bagJ x.items y.items z.items)=R.bad 4):=by show _=_;rw[HE.out,R.bagV,if_pos h8]
    go_wp2;refine bodyPost_ret (v:= .tuple #[.agg #[.int .i64 0,.int .i64 0,.string ⟨#[]⟩,.slice none 0 0],.int .i64 4]) (by simp[results,LF,go_sem, *]) rfl ?_;rw[f9.out];exact⟨none,0,rfl,⟨none,0,rfl,j0a _,by unfold maxLen;omega,fun h=>absurd h (LE _)⟩,Zg B3 i5.out (by omega) _ _ _ _⟩
   ·have f9:Hid (R.bagV p (R.bagJ x.items y.items z.items)=({path:=p,kind:=if acc k=[]then 0 else 42,n:=0,text:=[],items:=acc k},0)):=by show _=_;rw[HE.out,R.bagV,if_neg h8]
    go_wp2;refine bodyPost_ret (v:= .tuple #[.agg #[.int .i64 (pk (YN (acc k))),.int .i64 0,.string ⟨#[]⟩,.slice ia (acc k).length ic],.int .i64 0]) (by simp[results,LF,go_sem, *]) rfl ?_;rw[f9.out];exact⟨ia,ic,rfl,Rd.step HI.out (zf.four (Z:=fun b=>b=B3) (zf.refl _ _) (.inl rfl) _ _ _ _) (fun b hb=> .inr (.inr hb)) (fun b hb=> .inl (.inl hb)),Zg B3 i5.out (by omega) _ _ _ _⟩
theorem G0 {p:List UInt8}{x y:R.Leaf}(hx:VO p x)(hy:VO p y)(h:pk x=pk y):x.kind=y.kind:=by
 have h1:x.kind=0∨x.kind=35∨x.kind=61∨x.kind=42:=by
  by_cases e:x.kind=0
  ·exact .inl e
  ·exact .inr (hx.ok e).kinds
 have h2:y.kind=0∨y.kind=35∨y.kind=61∨y.kind=42:=by
  by_cases e:y.kind=0
  ·exact .inl e
  ·exact .inr (hy.ok e).kinds
 unfold pk at h;rcases h1 with e|e|e|e<;>rcases h2 with e' |e' |e' |e' <;>rw[e,e']at h⊢<;>simp at h
theorem oO {p:List UInt8}{x y:R.Leaf}(hx:VO p x)(hy:VO p y):Yx x y=R.same x y:=by
 rw[rC,c7 hx hy];constructor
 ·intro h
  obtain⟨h1,h2,h3,h4⟩:=of_decide_eq_true h;have hk:=G0 hx hy h1;have hp:x.path=y.path:=by rw[hx.path,hy.path]
  obtain⟨p1,k,n,t,it⟩:=x;obtain⟨p2,k',n',t',a0⟩:=y;simp only at hp h2 h3 h4 hk;subst hp h2 h3 h4 hk;rfl
 ·intro h
  subst h;simp[Yx]
theorem BH {x:R.Leaf}(k:Int)(h:x.kind=k):pk x=if k=35 then 1 else if k=61 then 2 else if k=42 then 3 else 0:=by rw[pk,h]
def QW (x:R.Leaf)(iv:eB):eB:= .agg #[.int .i64 (pk x),.int .i64 x.n,.string ⟨x.text.toArray⟩,iv]
theorem fH (a b:List UInt8)(w:eX)(ts:Array TypeId)(t:TypeId):(Builtin.max_ ts t #[.string ⟨a.toArray⟩,.string ⟨b.toArray⟩]).run sU w= .ok (.string ⟨(R.later a b).toArray⟩) w:=by
 rw[Lib.run_max_strs];congr 2
 unfold Lib.maxS R.later;rw[Go.Proofs.bytesLess_eq];by_cases h:a<b
 ·simp[h]
 ·simp[h]
theorem K_ {p:List UInt8}{x:R.Leaf}(hx:VO p x):pk x=0↔x.kind=0:=by
 constructor
 ·intro h
  have:=G0 hx (y:=R.none p) (.inl rfl) (by rw[h];rfl);exact this
 ·intro h
  rw[BH 0 h];rfl
theorem It.nil (w:eX)(M:Nat→Prop)(x:R.Leaf)(h:x.items=[]):It w M (x,.slice none x.items.length 0):=by
 unfold It;rw[h];exact⟨none,0,rfl,j0a _,by unfold maxLen;omega,fun h=>absurd h (LE _)⟩
theorem JD (x y z:R.Leaf)(xa ya za:Option Addr)(xc yc zc:Nat)(p:List UInt8)(w:eX)(M:Nat→Prop)(hM:∀b,M b→b<w.heap.size)(hx:VO p x)(hy:VO p y)(hz:VO p z)
  (ix:It w M (x,.slice xa x.items.length xc))(iy:It w M (y,.slice ya y.items.length yc))(iz:It w M (z,.slice za z.items.length zc)):
  wH sU 138 #[QW x (.slice xa x.items.length xc),QW y (.slice ya y.items.length yc),QW z (.slice za z.items.length zc)] w fun e w' =>
   ∃ia ic,e= .returned (.tuple #[QW (R.joinedV x y z).1 (.slice ia (R.joinedV x y z).1.items.length ic),.int .i64 (R.joinedV x y z).2])∧
    It w' M ((R.joinedV x y z).1,.slice ia (R.joinedV x y z).1.items.length ic)∧tH w.heap.size w w' :=by
 unfold QW;have b2:∀W,tH w.heap.size w W→wH sU 132 #[.agg #[.int .i64 (pk y),.int .i64 y.n,.string ⟨y.text.toArray⟩,.slice ya y.items.length yc],.agg #[.int .i64 (pk x),.int .i64 x.n,.string ⟨x.text.toArray⟩,.slice xa x.items.length xc]] W fun e w' =>e= .returned (.bool (R.same y x))∧tH W.heap.size W w' :=fun W hW=>by
  rw[←oO hy hx];exact UL y x ya xa yc xc W M (Rd.below iy hW) (Rd.below ix hW)
 have b5:∀W,tH w.heap.size w W→wH sU 132 #[.agg #[.int .i64 (pk z),.int .i64 z.n,.string ⟨z.text.toArray⟩,.slice za z.items.length zc],.agg #[.int .i64 (pk x),.int .i64 x.n,.string ⟨x.text.toArray⟩,.slice xa x.items.length xc]] W fun e w' =>e= .returned (.bool (R.same z x))∧tH W.heap.size W w' :=fun W hW=>by
  rw[←oO hz hx];exact UL z x za xa zc xc W M (Rd.below iz hW) (Rd.below ix hW)
 have c7:∀W (N:Nat→Prop),tH w.heap.size w W→(∀b,N b→M b∨w.heap.size≤b)→It W N (x,.slice xa x.items.length xc):=fun W N hW hN=>Rd.step ix (zf.of_below (M:=fun _=>False) hW) (fun _ e=>e.elim) hN
 have c8:∀W (N:Nat→Prop),tH w.heap.size w W→(∀b,N b→M b∨w.heap.size≤b)→It W N (y,.slice ya y.items.length yc):=fun W N hW hN=>Rd.step iy (zf.of_below (M:=fun _=>False) hW) (fun _ e=>e.elim) hN
 have c9:∀W (N:Nat→Prop),tH w.heap.size w W→(∀b,N b→M b∨w.heap.size≤b)→It W N (z,.slice za z.items.length zc):=fun W N hW hN=>Rd.step iz (zf.of_below (M:=fun _=>False) hW) (fun _ e=>e.elim) hN
 have b9:=z9 b2;have c6:=z9 b5;have d5:=z9 c7;have b7:=z9 c8;have b8:=z9 c9;have HX:=z9 hx;have HY:=z9 hy;have HZ:=z9 hz;clear b2 b5 c7 c8 c9 ix iy iz hx hy hz;go_enter Tryz.func138,Tryz.ntmps138;go_wp2_with fail
 refine(b9.out _ ((((j0g _ _).alloc (j0a _) _).alloc (by simp) _).alloc (by simp;omega) _|>.alloc (by simp;omega) _)).mono ?_;rintro e w1 ⟨rfl,a4⟩;have b2:=a4.size;simp only[DW]at b2;have VX:VB w1 w.heap.size (pk x) x.n x.text (.slice xa x.items.length xc):=by
  refine VB.below ?_ a4 (by simp only[DW];omega);exact⟨by simp[go_sem],by simp[go_sem],by simp[go_sem],by simp[go_sem]⟩
 have VY:VB w1 (w.heap.size+1) (pk y) y.n y.text (.slice ya y.items.length yc):=by
  refine VB.below ?_ a4 (by simp only[DW];omega);exact⟨by simp[go_sem],by simp[go_sem],by simp[go_sem],by simp[go_sem]⟩
 have VZ:VB w1 (w.heap.size+1+1) (pk z) z.n z.text (.slice za z.items.length zc):=by
  refine VB.below ?_ a4 (by simp only[DW];omega);exact⟨by simp[go_sem],by simp[go_sem],by simp[go_sem],by simp[go_sem]⟩
 have VR:VB w1 (w.heap.size+1+1+1) 0 0 [] (.slice none 0 0):=by
  refine VB.below ?_ a4 (by simp only[DW];omega);exact⟨by simp[go_sem],by simp[go_sem],by simp[go_sem],by simp[go_sem]⟩
 have FR:∀j,w1.frozen? ⟨w.heap.size+1+1+1,j,none⟩=false:=fun j=>by rw[a4.frozen (p:=⟨w.heap.size+1+1+1,j,none⟩) (by simp only[DW];omega)];simp[go_sem]
 have a9:Hid (tH w.heap.size w w1):=((((j0g _ _).alloc (j0a _) _).alloc (by simp) _).alloc (by simp;omega) _|>.alloc (by simp;omega) _).trans (a4.mono (by simp;omega));clear a4 b9;generalize d9:w.heap.size+1=B1 at*;generalize e1:B1+1=B2 at*;generalize e2:B2+1=B3 at*;have g1:w.heap.size<B1:=by omega
 have g2:B1<B2:=by omega
 have g3:B2<B3:=by omega
 have g4:B3<w1.heap.size:=by omega
 clear d9 e1 e2 b2;obtain⟨x0,x1,x2,x3⟩:=VX;obtain⟨y0,y1,y2,y3⟩:=VY;obtain⟨z0,z1,z2,z3⟩:=VZ;obtain⟨r0,r1,r2,r3⟩:=VR;have f0:=FR 0;have f1:=FR 1;have f2:=FR 2;have f3:=FR 3
 cases h1:R.same y x
 ·have VX:VB w1 w.heap.size (pk x) x.n x.text (.slice xa x.items.length xc):=⟨x0,x1,x2,x3⟩
  have VY:VB w1 B1 (pk y) y.n y.text (.slice ya y.items.length yc):=⟨y0,y1,y2,y3⟩
  have VZ:VB w1 B2 (pk z) z.n z.text (.slice za z.items.length zc):=⟨z0,z1,z2,z3⟩
  have VR:VB w1 B3 0 0 [] (.slice none 0 0):=⟨r0,r1,r2,r3⟩
  go_wp2_with fail
  refine(c6.out _ a9.out).mono ?_;rintro e w2 ⟨rfl,a5⟩;have b5:=a5.size;have d6 :=VX.below a5 (by omega);have d7 :=VY.below a5 (by omega);have d8 :=VZ.below a5 (by omega);have a6 :=VR.below a5 (by omega);have a3 :∀j,w2.frozen? ⟨B3,j,none⟩=false:=fun j=>(a5.frozen (p:=⟨B3,j,none⟩) (by show B3<_;omega)).trans (FR j)
  have a1:Hid (tH w.heap.size w w2):=a9.out.trans (a5.mono (by omega));clear x0 x1 x2 x3 y0 y1 y2 y3 z0 z1 z2 z3 r0 r1 r2 r3 f0 f1 f2 f3 VX VY VZ VR FR a5 a9 c6;obtain⟨x0,x1,x2,x3⟩:=d6;obtain⟨y0,y1,y2,y3⟩:=d7;obtain⟨z0,z1,z2,z3⟩:=d8;obtain⟨r0,r1,r2,r3⟩:=a6;have f0:=a3 0;have f1:=a3 1;have f2:=a3 2;have f3:=a3 3;have g5:B3<w2.heap.size:=by omega
  clear b5 g4
  cases h2:R.same z x
  ·by_cases k3:y.kind=0
   ·have HJ:Hid (R.joinedV x y z=(z,0)):=by show _=_;rw[R.joinedV,if_neg (by simp[h1]),if_neg (by simp[h2]),if_pos k3]
    have q3:(pk y==0)=true:=by simpa using(K_ HY.out).2 k3
    clear h1 h2 k3;go_wp2;refine bodyPost_ret (v:= .tuple #[.agg #[.int .i64 (pk z),.int .i64 z.n,.string ⟨z.text.toArray⟩,.slice za z.items.length zc],.int .i64 0]) (by simp[results,LG,go_sem, *]) rfl ?_;rw[HJ.out];exact⟨za,zc,rfl,b8.out _ _ (Zg B3 a1.out (by omega) _ _ _ _) (fun b hb=> .inl hb),Zg B3 a1.out (by omega) _ _ _ _⟩
   ·have q3:(pk y==0)=false:=by simpa using fun e=>k3 ((K_ HY.out).1 e)
    by_cases k4:z.kind=0
    ·have HJ:Hid (R.joinedV x y z=(y,0)):=by show _=_;rw[R.joinedV,if_neg (by simp[h1]),if_neg (by simp[h2]),if_neg k3,if_pos k4]
     have q4:(pk z==0)=true:=by simpa using(K_ HZ.out).2 k4
     clear h1 h2 k3 k4;go_wp2;refine bodyPost_ret (v:= .tuple #[.agg #[.int .i64 (pk y),.int .i64 y.n,.string ⟨y.text.toArray⟩,.slice ya y.items.length yc],.int .i64 0]) (by simp[results,LG,go_sem, *]) rfl ?_;rw[HJ.out];exact⟨ya,yc,rfl,b7.out _ _ (Zg B3 a1.out (by omega) _ _ _ _) (fun b hb=> .inl hb),Zg B3 a1.out (by omega) _ _ _ _⟩
    ·have q4:(pk z==0)=false:=by simpa using fun e=>k4 ((K_ HZ.out).1 e)
     by_cases k5:y.kind=z.kind
     ·have q5:(pk y==pk z)=true:=by simp[pk,k5]
      have b1:=HY.out.ok k3;have b4:=HZ.out.ok k4;have a8:R.joinedV x y z=if y.kind=35 then R.counterJ y.path (y.n+z.n-R.baseN x 35)else if y.kind=61 then({path:=y.path,kind:=61,n:=0,text:=R.later y.text z.text,items:=[]},0)else R.bagV y.path (R.bagJ (R.baseI x y.kind) y.items z.items):=by
       rw[R.joinedV,if_neg (by simp[h1]),if_neg (by simp[h2]),if_neg k3,if_neg k4,if_neg (by simp[k5])]
      rcases b1.kinds with k6|k6|k6
      ·have q6:(pk y==1)=true:=by simp[pk,k6]
       have HJ:Hid (R.joinedV x y z=R.counterJ p (y.n+z.n-x.n)):=by show _=_;rw[a8,if_pos k6,HY.out.path,HX.out.baseN]
       have HC:Hid (∀W,wH sU 185 #[.agg #[.int .i64 (pk x),.int .i64 x.n,.string ⟨x.text.toArray⟩,.slice xa x.items.length xc],.agg #[.int .i64 (pk y),.int .i64 y.n,.string ⟨y.text.toArray⟩,.slice ya y.items.length yc],.agg #[.int .i64 (pk z),.int .i64 z.n,.string ⟨z.text.toArray⟩,.slice za z.items.length zc]] W fun e w' =>e= .returned (.tuple #[.agg #[.int .i64 (pk (R.counterJ p (y.n+z.n-x.n)).1),.int .i64 (R.counterJ p (y.n+z.n-x.n)).1.n,.string ⟨#[]⟩,.slice none 0 0],.int .i64 (R.counterJ p (y.n+z.n-x.n)).2])∧tH W.heap.size W w'):=fun W=>KR _ _ _ _ _ _ _ _ _ p _ _ _ _ _ _ _ _ _ W HX.out.n_hi HY.out.n_hi HZ.out.n_hi
       clear h1 h2 k3 k4 k5 k6 a8 b1 b4;go_wp2_with fail
       refine(HC.out _).mono ?_;rintro e w3 ⟨rfl,a2⟩;have e3:=a2.size;have b6:Hid (tH w.heap.size w w3):=a1.out.trans (a2.mono (by omega));have a6 :VB w2 B3 0 0 [] (.slice none 0 0):=⟨r0,r1,r2,r3⟩
       have a7 :=a6.below a2 (by omega);have a0 :∀j,w3.frozen? ⟨B3,j,none⟩=false:=fun j=>(a2.frozen (p:=⟨B3,j,none⟩) (by show B3<_;omega)).trans (a3 j)
       clear x0 x1 x2 x3 y0 y1 y2 y3 z0 z1 z2 z3 r0 r1 r2 r3 f0 f1 f2 f3 a6 a3 a2 a1;obtain⟨r0,r1,r2,r3⟩:=a7;have f0:=a0 0;have f1:=a0 1;have f2:=a0 2;have f3:=a0 3;have HT:Hid ((R.counterJ p (y.n+z.n-x.n)).1.text=[]∧(R.counterJ p (y.n+z.n-x.n)).1.items=[]):=by
        show _∧_;unfold R.counterJ R.bad;split<;>exact⟨rfl,rfl⟩
       generalize R.counterJ p (y.n+z.n-x.n)=cj at*;go_wp2;refine bodyPost_ret (v:= .tuple #[.agg #[.int .i64 (pk cj.1),.int .i64 cj.1.n,.string ⟨#[]⟩,.slice none 0 0],.int .i64 cj.2]) (by simp[results,LG,go_sem, *]) rfl ?_;rw[HJ.out];refine⟨none,0,by rw[HT.out.1,HT.out.2];rfl,It.nil _ _ _ HT.out.2,Zg B3 b6.out (by omega) _ _ _ _⟩
      ·have q6:(pk y==1)=false:=by simp[pk,k6]
       have q7:(pk y==3)=false:=by simp[pk,k6]
       have HJ:Hid (R.joinedV x y z=({path:=y.path,kind:=61,n:=0,text:=R.later y.text z.text,items:=[]},0)):=by show _=_;rw[a8,if_neg (by simp[k6]),if_pos k6]
       have mx:=fH y.text z.text;clear h1 h2 k3 k4 k5 k6 a8 b1 b4;go_wp2;refine bodyPost_ret (v:= .tuple #[.agg #[.int .i64 2,.int .i64 0,.string ⟨(R.later y.text z.text).toArray⟩,.slice none 0 0],.int .i64 0]) (by simp[results,LG,go_sem, *]) rfl ?_;rw[HJ.out];exact⟨none,0,rfl,It.nil _ _ _ rfl,Zg B3 a1.out (by omega) _ _ _ _⟩
      ·have q6:(pk y==1)=false:=by simp[pk,k6]
       have q7:(pk y==3)=true:=by simp[pk,k6]
       have HJ:Hid (R.joinedV x y z=R.bagV p (R.bagJ x.items y.items z.items)):=by show _=_;rw[a8,if_neg (by simp[k6]),if_neg (by simp[k6]),HY.out.path,k6,HX.out.baseI]
       have HN:Hid (∀b,(fun b=>M b∨b=B3) b→b<w2.heap.size):=fun b hb=>by
        rcases hb with hb|hb
        ·have:=hM b hb;omega
        ·omega
       have b3:∀b,(fun b=>M b∨b=B3) b→M b∨w.heap.size≤b:=fun b hb=>by
        rcases hb with hb|hb
        ·exact .inl hb
        ·exact .inr (by omega)
       have hC:=Ox x y z xa ya za xc yc zc p w2 (fun b=>M b∨b=B3) HN.out HX.out ⟨b1,k6⟩ ⟨b4,by rw[←k5];exact k6⟩ (d5.out _ _ a1.out b3) (b7.out _ _ a1.out b3) (b8.out _ _ a1.out b3);have HC:=z9 hC;clear h1 h2 k3 k4 k5 k6 a8 b1 b4 hC b3;go_wp2_with fail
       refine HC.out.mono ?_;rintro e w3 ⟨ia,ic,rfl,d3,a2⟩;have d4:=z9 d3;have e3:=a2.size;have b6:Hid (tH w.heap.size w w3):=a1.out.trans (a2.mono (by omega));have a6 :VB w2 B3 0 0 [] (.slice none 0 0):=⟨r0,r1,r2,r3⟩
       have a7 :=a6.below a2 (by omega);have a0 :∀j,w3.frozen? ⟨B3,j,none⟩=false:=fun j=>(a2.frozen (p:=⟨B3,j,none⟩) (by show B3<_;omega)).trans (a3 j)
       clear x0 x1 x2 x3 y0 y1 y2 y3 z0 z1 z2 z3 r0 r1 r2 r3 f0 f1 f2 f3 a6 a3 a2 a1 d3 HC;obtain⟨r0,r1,r2,r3⟩:=a7;have f0:=a0 0;have f1:=a0 1;have f2:=a0 2;have f3:=a0 3;have HT:Hid ((R.bagV p (R.bagJ x.items y.items z.items)).1.text=[]∧(R.bagV p (R.bagJ x.items y.items z.items)).1.n=0):=by
        show _∧_;unfold R.bagV R.bad;split<;>exact⟨rfl,rfl⟩
       generalize R.bagV p (R.bagJ x.items y.items z.items)=cj at*;go_wp2;refine bodyPost_ret (v:= .tuple #[.agg #[.int .i64 (pk cj.1),.int .i64 0,.string ⟨#[]⟩,.slice ia cj.1.items.length ic],.int .i64 cj.2]) (by simp[results,LG,go_sem, *]) rfl ?_;rw[HJ.out];exact⟨ia,ic,by rw[HT.out.1,HT.out.2],Rd.step d4.out (zf.four (Z:=fun b=>b=B3) (zf.refl _ _) (.inl rfl) _ _ _ _) (fun b hb=> .inr hb) (fun b hb=> .inl (.inl hb)),Zg B3 b6.out (by omega) _ _ _ _⟩
     ·have q5:(pk y==pk z)=false:=by simpa using fun e=>k5 (G0 HY.out HZ.out e)
      have HJ:Hid (R.joinedV x y z=R.bad 6):=by show _=_;rw[R.joinedV,if_neg (by simp[h1]),if_neg (by simp[h2]),if_neg k3,if_neg k4,if_pos k5]
      clear h1 h2 k3 k4 k5;go_wp2;refine bodyPost_ret (v:= .tuple #[.agg #[.int .i64 0,.int .i64 0,.string ⟨#[]⟩,.slice none 0 0],.int .i64 6]) (by simp[results,LG,go_sem, *]) rfl ?_;rw[HJ.out];exact⟨none,0,rfl,It.nil _ _ _ rfl,Zg B3 a1.out (by omega) _ _ _ _⟩
  ·have HJ:Hid (R.joinedV x y z=(y,0)):=by show _=_;rw[R.joinedV,if_neg (by simp[h1]),if_pos h2]
   clear h1 h2;go_wp2;refine bodyPost_ret (v:= .tuple #[.agg #[.int .i64 (pk y),.int .i64 y.n,.string ⟨y.text.toArray⟩,.slice ya y.items.length yc],.int .i64 0]) (by simp[results,LG,go_sem, *]) rfl ?_;rw[HJ.out];exact⟨ya,yc,rfl,b7.out _ _ (Zg B3 a1.out (by omega) _ _ _ _) (fun b hb=> .inl hb),Zg B3 a1.out (by omega) _ _ _ _⟩
 ·have HJ:Hid (R.joinedV x y z=(z,0)):=by show _=_;rw[R.joinedV,if_pos h1]
  clear h1;go_wp2;refine bodyPost_ret (v:= .tuple #[.agg #[.int .i64 (pk z),.int .i64 z.n,.string ⟨z.text.toArray⟩,.slice za z.items.length zc],.int .i64 0]) (by simp[results,LG,go_sem, *]) rfl ?_;rw[HJ.out];exact⟨za,zc,rfl,b8.out _ _ (Zg B3 a9.out (by omega) _ _ _ _) (fun b hb=> .inl hb),Zg B3 a9.out (by omega) _ _ _ _⟩
def yf (TS:List (List R.Leaf)):List (List UInt8):=TS.flatten.map R.Leaf.path
theorem fK (TS:List (List R.Leaf))(k:Nat)(hk:k<TS.length):yf (TS.take (k+1))=yf (TS.take k)++TS[k].map R.Leaf.path:=by
 unfold yf;rw[nN hk,L6,tB];simp
theorem C_ (TS:List (List R.Leaf))(k:Nat):(yf (TS.take k)).length≤(yf TS).length:=by
 unfold yf;rw[aN,aN];conv=>rhs;rw[←nS k TS,L6,nL]
 omega
theorem C0 (b0 c0:Nat)(TS:List (List R.Leaf))(w:eX)(M:Nat→Prop)(d7:TS.length≤c0∧c0≤100)(hn:(yf TS).length≤1000)(d8:b0<w.heap.size)
  (c6:∀j (hj:j<TS.length),∃a c,w.cell? ⟨b0,j,none⟩=some (.slice a TS[j].length c)∧PT w M (.slice a TS[j].length c) TS[j])
  (b6:∀(W:eX) (v:eB),tH w.heap.size w W→W.ownsRow w.heap.size 9 1 v (yf TS).length ((yf TS).map S)→wH sU 183 #[v] W fun e w' =>e= .returned (.tuple #[])∧tH w.heap.size w w' ∧w'.ownsRow w.heap.size 9 1 v (yf TS).length (((yf TS).mergeSort fun x y=>decide (x≤y)).map S))
  (b1:∀(W:eX) (v:eB),tH w.heap.size w W→W.ownsRow w.heap.size 9 1 v (yf TS).length (((yf TS).mergeSort fun x y=>decide (x≤y)).map S)→wH sU 184 #[v] W fun e w' =>∃a c,e= .returned (.slice a (rW ((yf TS).mergeSort fun x y=>decide (x≤y))).length c)∧tH w.heap.size w w' ∧w'.ownsRow w.heap.size 9 1 (.slice a (rW ((yf TS).mergeSort fun x y=>decide (x≤y))).length c) (rW ((yf TS).mergeSort fun x y=>decide (x≤y))).length ((rW ((yf TS).mergeSort fun x y=>decide (x≤y))).map S)):
  wH sU 137 #[.slice (some ⟨b0,0,none⟩) TS.length c0] w fun e w' =>∃a c,e= .returned (.slice a (rW ((yf TS).mergeSort fun x y=>decide (x≤y))).length c)∧tH w.heap.size w w' ∧w'.ownsRow w.heap.size 9 1 (.slice a (rW ((yf TS).mergeSort fun x y=>decide (x≤y))).length c) (rW ((yf TS).mergeSort fun x y=>decide (x≤y))).length ((rW ((yf TS).mergeSort fun x y=>decide (x≤y))).map S):=by
 have a8 :=z9 b6;have a6 :=z9 b1;clear b6 b1;obtain⟨f5,f6⟩:=d7;have b2:Hid (∀k,(yf (TS.take k)).length≤(yf TS).length):=C_ TS;have b5:Hid (∀k (hk:k<TS.length),yf (TS.take (k+1))=yf (TS.take k)++TS[k].map R.Leaf.path):=fK TS;have d5:=z9 c6;clear c6;go_enter Tryz.func137,Tryz.ntmps137;go_wp2;go_loopw [3,10] (fun s i wr=>∃k:Nat,k≤TS.length∧i= .int .i64 k∧(∃va vc,s= .slice va (yf (TS.take k)).length vc)∧wr.ownsRow w.heap.size 9 1 s (yf (TS.take k)).length ((yf (TS.take k)).map S)∧tH w.heap.size w wr) (fun _ i _=>TS.length-(intOf i).toNat)
 case atStart=>exact⟨0,wB _,rfl,⟨none,0,rfl⟩,ES _ _ _ _,j0g _ _⟩
 case round=>
  obtain⟨k,hk,rfl,⟨va,vc,rfl⟩,ho,hb⟩:=hrel;have c9:=hb.size;by_cases a9:k<TS.length
  ·obtain⟨ta,tc,b8,L,hL,⟨g0,g1,f0,f9,f3,d3⟩,hI⟩:=d5.out k a9
   injection f0 with e1 e2 e3
   subst e1 e3;have e0:=(hb.cell (p:=⟨b0,k,none⟩) d8).trans b8;have b4:=z9 (b5.out k a9);have f7:=b2.out k;have f8:=b2.out (k+1);have a5:(yf (TS.take (k+1))).length=(yf (TS.take k)).length+TS[k].length:=by rw[b5.out k a9,nL,aN]
   rw[←hL]at b4 a5 e0;rw[aN]at a5 e0;unfold maxLen at f3;clear b8 hL e2;generalize yf (TS.take k)=P0 at*;generalize b7:yf (TS.take (k+1))=P1 at*;have b3:=z9 b7;clear b7;have HO:=z9 ho;clear ho;go_wp2;go_loopw [3,16] (fun s i wq=>∃m:Nat,m≤L.length∧i= .int .i64 m∧(∃va vc,s= .slice va (P0.length+m) vc)∧wq.ownsRow w.heap.size 9 1 s (P0.length+m) ((P0++(L.take m).map fun p=>p.1.path).map S)∧tH w.heap.size w wq) (fun _ i _=>L.length-(intOf i).toNat)
   case atStart=>exact⟨0,wB _,rfl,⟨va,vc,rfl⟩,by simpa using HO.out,hb⟩
   case round=>
    rename eX=>wq
    obtain⟨m,hm,rfl,⟨va,vc,rfl⟩,ho,hb⟩:=hrel;have c9:=hb.size;by_cases c7:m<L.length
    ·obtain⟨b,off,rfl,a4,_,a0⟩:=d3 (by omega)
     obtain⟨x,ia,ic,HL,e7,c0,c1,c2,c3,c4⟩:=qs hI a0 m c7;have e0:=(hb.cell (p:=⟨b,off+m*5,none⟩) a4).trans c0;have e1:=(hb.cell (p:=⟨b,off+m*5+1,none⟩) a4).trans c1;have e2:=(hb.cell (p:=⟨b,off+m*5+2,none⟩) a4).trans c2;have e3:=(hb.cell (p:=⟨b,off+m*5+3,none⟩) a4).trans c3;have e4:=(hb.cell (p:=⟨b,off+m*5+4,none⟩) a4).trans c4;have HT:Hid ((P0++(L.take (m+1)).map fun p=>p.1.path).map S=(P0++(L.take m).map fun p=>p.1.path).map S++ [.string ⟨x.path.toArray⟩]):=by
      show _=_;rw[nN c7,HL.out];simp[S]
     have HO:=z9 ho;clear a0 d3 hI c0 c1 c2 c3 c4 e7 HL ho;go_wp2_with (at_builtin;go_loud (refine u_ _ (by rfl) _ _ 45 (by rfl) w.heap.size 9 (.string ⟨#[]⟩) 1 16 wU Tryz.info9 (by rfl) (by decide) (HO.out.alloc _) #[.string ⟨x.path.toArray⟩] rfl (by rfl) (by rw[DW];rfl) (by intro u hu;simp at hu;subst hu;rfl) (by unfold maxLen;omega) (by omega) (by simp;omega) ?_))
     intro v' w1 a3 b9;have a7:=z9 a3;have d4:Hid (tH w.heap.size w w1):=(hb.alloc c9 _).grown b9 (by simp;omega) (fun j hj=>(HO.out.lt j hj).1);obtain⟨a1,c1,f4,_⟩:=zh a3;subst f4;clear a3 b9 hb;go_wp2;go_roundw
     case rel=>
      refine⟨m+1,by omega,by go_num,⟨a1,c1,rfl⟩,?_,d4.out⟩;have:=a7.out;rw[show P0.length+(m+1)=P0.length+m+1 from rfl,HT.out];simpa using this
     case measure=>simp[intOf];omega
    ·have e9:m=L.length:=by omega
     subst e9;have HO:=z9 ho;clear ho;go_wp2;go_roundw
     case rel=>
      refine⟨k+1,by omega,by go_num,⟨va,vc,?_⟩,?_,hb⟩
      ·rw[b3.out,a5]
      ·have:=HO.out
       rw[aU]at this;rw[b3.out,a5,b4.out,DP];exact this
     case measure=>simp[intOf];omega
  ·have e8:k=TS.length:=by omega
   subst e8;rw[aU]at ho;have HO:=z9 ho;clear ho;rw[aU];go_wp2_with fail
   refine(a8.out _ _ hb HO.out).mono ?_;rintro e w1 ⟨rfl,d9,a3⟩;have a7:=z9 a3;clear a3;go_wp2_with fail
   refine(a6.out _ _ d9 a7.out).mono ?_;rintro e w2 ⟨a2,c2,rfl,e6,c8⟩;have d6:=z9 c8;clear c8;go_wp2;go_ret;exact⟨a2,c2,rfl,e6,d6.out⟩
theorem BO (B:Nat)(v:eB)(t:List R.Leaf)(x:R.Leaf)(ia:Option Addr)(il ic:Nat)(w:eX)(M:Nat→Prop)(h:PT w M v t)(hg:∀x∈t,x.path.length≤1000)(a2:x.path.length≤1000)(hB:B<w.heap.size)(hc:w.cell? ⟨B,0,none⟩=some v):
  wH sU 188 #[.agg #[.string ⟨x.path.toArray⟩,.int .i64 (pk x),.int .i64 x.n,.string ⟨x.text.toArray⟩,.slice ia il ic],.pointer (some ⟨B,0,none⟩)] w fun e w' =>e= .returned (.bool (R.blocked t x.path))∧tH w.heap.size w w' :=by
 obtain⟨va,vc,hv⟩:=Vv h;have a1:=fun W (hW:tH w.heap.size w W)=>OE v t x.path W M (h.below hW) hg a2
 subst hv;have a4:=z9 a1;clear a1 h hg a2;go_enter LH,Tryz.ntmps188;go_wp2_with fail
 refine(a4.out _ ((j0g _ _).alloc (j0a _) _)).mono ?_;rintro e w1 ⟨rfl,a0⟩;have a3:Hid (tH w.heap.size w w1):=((j0g _ _).alloc (j0a _) _).trans (a0.mono (by simp));clear a0;go_wp2;go_ret;exact⟨rfl,a3.out⟩
theorem cX (B:Nat)(v:eB)(t:List R.Leaf)(w:eX)(M:Nat→Prop)(h:PT w M v t)(hg:∀x∈t,x.path.length≤1000)(hB:B<w.heap.size)(a9:w.cell? ⟨B,0,none⟩=some v):
  wH sU 224 #[v,.func (.func 188) #[] #[.pointer (some ⟨B,0,none⟩)]] w fun e w' =>∃i:Int,e= .returned (.int .i64 i)∧decide (0≤i)=R.tangled t∧tH w.heap.size w w' :=by
 have h1:=fun(x:R.Leaf) (ia:Option Addr) (il ic:Nat) (hx:x∈t) (W:eX) (hW:tH w.heap.size w W)=>BO B v t x ia il ic W M (h.below hW) hg (hg x hx) (j0b hB hW.size) ((hW.cell (p:=⟨B,0,none⟩) hB).trans a9)
 obtain⟨L,hL,⟨a,cap,rfl,hn,hm,hc⟩,hI⟩:=h;have HT:Hid (R.tangled t=L.any fun p=>R.blocked t p.1.path):=by
  show _=_;unfold R.tangled;conv=>lhs;arg 1;rw[←hL]
  rw[List.any_map];rfl
 have HM:Hid (∀p∈L,p.1∈t):=fun p hp=>by rw[←hL];exact List.mem_map_of_mem hp
 have H1:=z9 h1;unfold maxLen at hm;clear h1 hL hg a9;have b2:∀args w,(callFunc 188 args).run sU w= .ok (.enter 188 args) w:=enters_of LH (by kernel_rfl) rfl
 go_enter Tryz.func224,Tryz.ntmps224;go_wp2;go_loopw [8] (fun i wr=>∃k:Nat,k≤L.length∧i= .int .i64 k∧(∀j (hj:j<L.length),j<k→R.blocked t (L[j]'hj).1.path=false)∧tH w.heap.size w wr) (fun i _=>L.length-(intOf i).toNat)
 case atStart=>exact⟨0,wB _,rfl,fun j hj h=>by omega,j0g _ _⟩
 case round=>
  obtain⟨k,hk,rfl,a3,hb⟩:=hrel;have a2:=z9 a3;clear a3;have b1:=hb.size;by_cases a6:k<L.length
  ·obtain⟨b,off,rfl,a5,_,a1⟩:=hc (by omega)
   obtain⟨x,ia,ic,HL,b3,c0,c1,c2,c3,c4⟩:=qs hI a1 k a6;have e0:=(hb.cell (p:=⟨b,off+k*5,none⟩) a5).trans c0;have e1:=(hb.cell (p:=⟨b,off+k*5+1,none⟩) a5).trans c1;have e2:=(hb.cell (p:=⟨b,off+k*5+2,none⟩) a5).trans c2;have e3:=(hb.cell (p:=⟨b,off+k*5+3,none⟩) a5).trans c3;have e4:=(hb.cell (p:=⟨b,off+k*5+4,none⟩) a5).trans c4;have HX:Hid ((L[k]'a6).1=x):=by show _=_;rw[HL.out]
   have a8:x∈t:=by rw[←HX.out];exact HM.out _ (j0c a6)
   have a0:=H1.out x ia x.items.length ic a8 wr hb;clear a1 hc hI c0 c1 c2 c3 c4 b3
   cases hq:R.blocked t x.path
   ·rw[hq]at a0
    have HQ:=z9 hq;have HC:=z9 a0;clear hq a0 a8;go_wp2_with fail
    refine HC.out.mono ?_;rintro e w1 ⟨rfl,a4⟩;have a7:Hid (tH w.heap.size w w1):=hb.trans (a4.mono b1);clear a4;go_wp2;go_roundw
    case rel=>
     refine⟨k+1,by omega,by go_num,fun j hj b5=> ?_,a7.out⟩;by_cases e:j=k
     ·subst e;rw[HX.out];exact HQ.out
     ·exact a2.out j hj (by omega)
    case measure=>simp[intOf];omega
   ·rw[hq]at a0
    have HQ:=z9 hq;have HC:=z9 a0;clear hq a0 a8;go_wp2_with fail
    refine HC.out.mono ?_;rintro e w1 ⟨rfl,a4⟩;have a7:Hid (tH w.heap.size w w1):=hb.trans (a4.mono b1);clear a4;go_wp2;go_ret;refine⟨k,rfl,?_,a7.out⟩;rw[HT.out,rC,List.any_eq_true];exact⟨fun _=>⟨_,j0c a6,by rw[HX.out];exact HQ.out⟩,fun _=>decide_eq_true (by omega)⟩
  ·have b4:k=L.length:=by omega
   subst b4;go_wp2;go_ret;refine⟨-1,rfl,?_,hb⟩;rw[HT.out];symm
   show _=false;rw[List.any_eq_false];intro p hp;obtain⟨j,hj,rfl⟩:=List.getElem_of_mem hp;rw[a2.out j hj hj];simp
theorem Fb (v:eB)(t:List R.Leaf)(w:eX)(M:Nat→Prop)(h:PT w M v t)(hg:∀x∈t,x.path.length≤1000):
  wH sU 139 #[v] w fun e w' =>e= .returned (.bool (R.tangled t))∧tH w.heap.size w w' :=by
 have a1:=fun(B:Nat) (W:eX) (hW:tH w.heap.size w W) (hB:B<W.heap.size) (hc:W.cell? ⟨B,0,none⟩=some v)=>cX B v t W M (h.below hW) hg hB hc
 have a2:∀(B:Nat) (W:eX) (hW:tH w.heap.size w W) (hB:B<W.heap.size) (hc:W.cell? ⟨B,0,none⟩=some v),wH sU 187 #[v,.func (.func 188) #[] #[.pointer (some ⟨B,0,none⟩)]] W fun e w' =>e= .returned (.bool (R.tangled t))∧tH W.heap.size W w' :=by
  intro B W hW hB hc;have a5:=z9 (a1 B W hW hB hc);obtain⟨va,vc,hv⟩:=Vv h;subst hv;clear a1 h hg hc;go_enter Tryz.func187,Tryz.ntmps187;go_wp2_with fail
  refine a5.out.mono ?_;rintro e w1 ⟨i,rfl,hi,a0⟩;have HI:=z9 hi;clear hi;go_wp2;go_ret;exact⟨zA (by rw[←HI.out]),a0⟩
 have a4:=z9 a2;obtain⟨va,vc,hv⟩:=Vv h;subst hv;clear a1 a2 h hg;go_enter Tryz.func139,Tryz.ntmps139;go_wp2_with fail
 refine(a4.out _ _ ((j0g _ _).alloc (j0a _) _) (by simp) (by simp)).mono ?_;rintro e w1 ⟨rfl,a0⟩;have a3:Hid (tH w.heap.size w w1):=((j0g _ _).alloc (j0a _) _).trans (a0.mono (by simp));clear a0;go_wp2;go_ret;exact⟨rfl,a3.out⟩
theorem Cs (b o t:List R.Leaf)(hb:OkT b)(ho:OkT o)(ht:OkT t):(R.allP b o t).length≤72:=by
 rw[←ua hb ho ht];refine j0f (LI _) ?_;rw[LJ,aN,nL,nL];have:=hb.few;have:=ho.few;have:=ht.few;omega
theorem F2 {b o t:List R.Leaf}{k:Nat}(hk:k<(R.allP b o t).length)(h:∀p∈(R.allP b o t).take k,(R.valJ b o t p).2=0)(he:(R.valJ b o t (R.allP b o t)[k]).2≠0):R.joinT b o t=([],(R.valJ b o t (R.allP b o t)[k]).2):=by
 have e:=bO k hk h he;unfold R.joinT R.joinP;rw[e,if_pos he]
theorem F1 {b o t:List R.Leaf}(h:∀p∈R.allP b o t,(R.valJ b o t p).2=0):R.joinT b o t=R.endJ (R.outJ b o t (R.allP b o t)):=by
 unfold R.joinT R.joinP;rw[bN h,if_neg (by simp)]
theorem bi (x:R.Leaf)(p:List UInt8):pk {x with path:=p}=pk x:=rfl
theorem It.grown {wE w5:eX}{M:Nat→Prop}{s s' :eB}{n:Nat}(h:(s'.ownBlock=s.ownBlock∧wE.grownBy w5 s.ownBlock)∨(s'.ownBlock=some n∧wE.grownBy w5 none))(hn:wE.heap.size=n){q:R.Leaf×eB}(hq:It wE (fun b=>M b∨s.ownBlock=some b) q):It w5 (fun b=>M b∨s'.ownBlock=some b) q:=by
 rcases h with⟨h1,h2⟩|⟨h1,h2⟩
 ·refine Rd.step hq (O:=fun b=>s.ownBlock=some b) ⟨h2.os,h2.tape,h2.output,h2.size,fun k hk hn=>h2.block k hk (fun e=>hn e.symm)⟩ (fun b hb=> .inr hb) (fun b hb=> .inl ?_)
  rw[h1]at hb;exact hb
 ·refine Rd.step hq (O:=fun _=>False) ⟨h2.os,h2.tape,h2.output,h2.size,fun k hk _=>h2.block k hk (by simp)⟩ (fun b hb=>hb.elim) (fun b hb=> ?_)
  rcases hb with hb|hb
  ·exact .inl (.inl hb)
  ·rw[h1]at hb;injection hb with hb;exact .inr (by omega)
theorem Below.grown' {n m:Nat}{w wE w5:eX}{s s' :eB}(h:(s'.ownBlock=s.ownBlock∧wE.grownBy w5 s.ownBlock)∨(s'.ownBlock=some m∧wE.grownBy w5 none))(hb:tH n w wE)(hn:n≤wE.heap.size)(ho:∀g,s.ownBlock=some g→n≤g):tH n w w5:=by
 rcases h with⟨_,h2⟩|⟨_,h2⟩
 ·exact hb.grown h2 hn ho
 ·exact hb.grown h2 hn (fun g e=>by cases e)
theorem b9 {w:eX}{base:Nat}{M N:Nat→Prop}{v:eB}{L:List (R.Leaf×eB)}{t:List R.Leaf}(hL:L.map (·.1)=t)(ho:w.ownsRow base 139 5 v L.length (zI L))(hM:∀b,M b→b<base)(hN:∀b,M b→N b)(hI:∀q∈L,It w N q):PT w M v t:=
 ⟨L,hL,Rd.of_owns ho hM,fun q hq=>Rd.step (hI q hq) (zf.refl (fun _=>False) w) (fun _ e=>e.elim) (fun b hb=> .inl (hN b hb))⟩
theorem Fd (ba oa ta:Option Addr)(bc oc tc:Nat)(b o t:List R.Leaf)(w:eX)(M:Nat→Prop)(hM:∀b,M b→b<w.heap.size)(hb:PT w M (.slice ba b.length bc) b)(ho:PT w M (.slice oa o.length oc) o)(ht:PT w M (.slice ta t.length tc) t)(a8:OkT b)(a9:OkT o)(b1:OkT t)
  (HP:∀(W:eX) (b0:Nat),tH w.heap.size w W→b0<W.heap.size→W.cell? ⟨b0,0,none⟩=some (.slice ba b.length bc)→W.cell? ⟨b0,1,none⟩=some (.slice oa o.length oc)→W.cell? ⟨b0,2,none⟩=some (.slice ta t.length tc)→
   wH sU 137 #[.slice (some ⟨b0,0,none⟩) 3 3] W fun e w' =>∃a c,e= .returned (.slice a (R.allP b o t).length c)∧tH W.heap.size W w' ∧w'.ownsRow W.heap.size 9 1 (.slice a (R.allP b o t).length c) (R.allP b o t).length ((R.allP b o t).map S)):
  wH sU 87 #[.slice ba b.length bc,.slice oa o.length oc,.slice ta t.length tc] w fun e w' =>∃va vc,e= .returned (.tuple #[.slice va (R.joinT b o t).1.length vc,.int .i64 (R.joinT b o t).2])∧PT w' M (.slice va (R.joinT b o t).1.length vc) (R.joinT b o t).1∧tH w.heap.size w w' :=by
 have i8:∀(p:List UInt8) (W:eX) (N:Nat→Prop),tH w.heap.size w W→(∀b,N b→M b∨w.heap.size≤b)→wH sU 94 #[.slice ba b.length bc,.string ⟨p.toArray⟩] W fun e w' =>∃ia ic,e= .returned (QW (R.at_ b p) (.slice ia (R.at_ b p).items.length ic))∧It W N (R.at_ b p,.slice ia (R.at_ b p).items.length ic)∧tH W.heap.size W w' :=fun p W N hW hN=>UR _ b p W N (PT.step hb (zf.of_below (M:=fun _=>False) hW) (fun _ e=>e.elim) hN) (by have:=a8.few;omega) a8.sort
 have i9:∀(p:List UInt8) (W:eX) (N:Nat→Prop),tH w.heap.size w W→(∀b,N b→M b∨w.heap.size≤b)→wH sU 94 #[.slice oa o.length oc,.string ⟨p.toArray⟩] W fun e w' =>∃ia ic,e= .returned (QW (R.at_ o p) (.slice ia (R.at_ o p).items.length ic))∧It W N (R.at_ o p,.slice ia (R.at_ o p).items.length ic)∧tH W.heap.size W w' :=fun p W N hW hN=>UR _ o p W N (PT.step ho (zf.of_below (M:=fun _=>False) hW) (fun _ e=>e.elim) hN) (by have:=a9.few;omega) a9.sort
 have j0:∀(p:List UInt8) (W:eX) (N:Nat→Prop),tH w.heap.size w W→(∀b,N b→M b∨w.heap.size≤b)→wH sU 94 #[.slice ta t.length tc,.string ⟨p.toArray⟩] W fun e w' =>∃ia ic,e= .returned (QW (R.at_ t p) (.slice ia (R.at_ t p).items.length ic))∧It W N (R.at_ t p,.slice ia (R.at_ t p).items.length ic)∧tH W.heap.size W w' :=fun p W N hW hN=>UR _ t p W N (PT.step ht (zf.of_below (M:=fun _=>False) hW) (fun _ e=>e.elim) hN) (by have:=b1.few;omega) b1.sort
 have j4:∀(p:List UInt8) (xa ya za:Option Addr) (xc yc zc:Nat) (W:eX) (N:Nat→Prop),(∀b,N b→b<W.heap.size)→It W N (R.at_ b p,.slice xa (R.at_ b p).items.length xc)→It W N (R.at_ o p,.slice ya (R.at_ o p).items.length yc)→It W N (R.at_ t p,.slice za (R.at_ t p).items.length zc)→wH sU 138 #[QW (R.at_ b p) (.slice xa (R.at_ b p).items.length xc),QW (R.at_ o p) (.slice ya (R.at_ o p).items.length yc),QW (R.at_ t p) (.slice za (R.at_ t p).items.length zc)] W fun e w' =>
   ∃ia ic,e= .returned (.tuple #[QW (R.valJ b o t p).1 (.slice ia (R.valJ b o t p).1.items.length ic),.int .i64 (R.valJ b o t p).2])∧It w' N ((R.valJ b o t p).1,.slice ia (R.valJ b o t p).1.items.length ic)∧tH W.heap.size W w' :=fun p xa ya za xc yc zc W N hN ix iy iz=>JD _ _ _ xa ya za xc yc zc p W N hN (kp a8.ok p) (kp a9.ok p) (kp b1.ok p) ix iy iz
 have f0:Hid (∀ps,(∀p∈ps,(R.valJ b o t p).2=0)→∀x∈R.outJ b o t ps,x.path.length≤1000):=fun ps h x hx=>by
  have:=(GO a8 a9 b1 h x hx).1.good.path;omega
 have f4:Hid (∀p,(R.valJ b o t p).2=0→(R.valJ b o t p).1.kind≠0→(pk (R.valJ b o t p).1 !=0)=true):=fun p h1 h2=>by
  rcases jW (kp a8.ok p) (kp a9.ok p) (kp b1.ok p) h1 with h|⟨h,_⟩
  ·exact(h2 h).elim
  ·unfold R.valJ
   rcases h.kinds with h|h|h<;>simp[pk,h]
 have k7:=Cs b o t a8 a9 b1;have f6:Hid (∀k (hk:k<(R.allP b o t).length),R.outJ b o t ((R.allP b o t).take (k+1))=R.outJ b o t ((R.allP b o t).take k)++R.leafJ b o t (R.allP b o t)[k]):=fun k hk=>fO b o t _ k hk
 have a3:Hid (∀k (hk:k<(R.allP b o t).length),(∀p∈(R.allP b o t).take k,(R.valJ b o t p).2=0)→(R.valJ b o t (R.allP b o t)[k]).2≠0→R.joinT b o t=([],(R.valJ b o t (R.allP b o t)[k]).2)):=fun k hk=>F2 hk
 have a4:Hid ((∀p∈R.allP b o t,(R.valJ b o t p).2=0)→R.joinT b o t=R.endJ (R.outJ b o t (R.allP b o t))):=F1;have d8:=z9 i8;have d9:=z9 i9;have e6:=z9 j0;have e7:=z9 j4;have d6:=z9 HP;clear i8 i9 j0 j4 HP hb ho ht a8 a9 b1;generalize R.allP b o t=ps at*;go_enter Tryz.func87,Tryz.ntmps87;go_wp2_with fail
 refine(d6.out _ _ ((j0g _ _).alloc (j0a _) _) (by simp) (by simp) (by simp) (by simp)).mono ?_;rintro e w1 ⟨pa,pc,rfl,f8,j5⟩;have k9:=f8.size;simp only[DW]at k9;have g4:Hid (tH w.heap.size w w1):=((j0g _ _).alloc (j0a _) _).trans (f8.mono (by simp));obtain⟨a1,c1,l0,l9,k8,b8,a0⟩:=zh j5;injection l0 with e1 e2 e3
 subst e1 e3;have f7:=z9 a0;have a6:=z9 b8;unfold maxLen at k8;clear j5 a0 b8 f8 d6 e2;go_wp2_with fail
 go_loopw [8,19] (fun s i wr=>∃(k:Nat) (L:List (R.Leaf×eB)),k≤ps.length∧i= .int .i64 k∧(∃va vc,s= .slice va L.length vc)∧L.length≤k∧L.map (·.1)=R.outJ b o t (ps.take k)∧wr.ownsRow w1.heap.size 139 5 s L.length (zI L)∧(∀q∈L,It wr (fun b=>M b∨s.ownBlock=some b) q)∧(∀p∈ps.take k,(R.valJ b o t p).2=0)∧tH w1.heap.size w1 wr) (fun _ i _=>ps.length-(intOf i).toNat)
 case atStart=>exact⟨0,[],wB _,rfl,⟨none,0,rfl⟩,j0a _,rfl,ES _ _ _ _,(fun q hq=>by cases hq),(fun p hp=>by simp at hp),j0g _ _⟩
 case round=>
  obtain⟨k,L,hk,rfl,⟨va,vc,rfl⟩,l7,hL,ho,hI,hz,hb⟩:=hrel;have m1:=hb.size;have HO:=z9 ho;have f3:Hid (∀g,(Value.slice va L.length vc).ownBlock=some g→w1.heap.size≤g∧g<wr.heap.size):=ho.lt;have d5:Hid (∀b,(fun b=>M b∨(Value.slice va L.length vc).ownBlock=some b) b→M b∨w.heap.size≤b):=fun b hb=>by
   rcases hb with hb|hb
   ·exact .inl hb
   ·have:=f3.out b hb;exact .inr (by omega)
  have g8:Hid (∀W:eX,wr.heap.size≤W.heap.size→∀b,(fun b=>M b∨(Value.slice va L.length vc).ownBlock=some b) b→b<W.heap.size):=fun W hW b hb=>by
   rcases hb with hb|hb
   ·have:=hM b hb;omega
   ·have:=f3.out b hb;omega
  have k1:Hid (∀b,M b→(fun b=>M b∨(Value.slice va L.length vc).ownBlock=some b) b):=fun b hb=> .inl hb
  have HI:=z9 hI;have e8:=z9 hL;have HZ:=z9 hz;have HB:=z9 hb;have d3:Hid (tH w.heap.size w wr):=g4.out.trans (hb.mono (by omega));by_cases a7:k<ps.length
  ·cases pa with
   |none=>have:=(a6.out rfl).1;omega
   |some ad=>
   obtain⟨g,rfl,l8,k5,k4,j3⟩:=f7.out ad rfl;have e0:wr.cell? ⟨g,k,none⟩=some (.string ⟨(ps[k]'a7).toArray⟩):=(hb.cell (p:=⟨g,k,none⟩) k5).trans (j3 k _ (by rw[sZ,j0d a7];rfl));have i3:=z9 (f6.out k a7);have j7:=z9 (a3.out k a7 hz);have i5:Hid ((R.valJ b o t (ps[k]'a7)).2=0→∀p∈ps.take (k+1),(R.valJ b o t p).2=0):=fun h p hp=>by
    rw[nN a7]at hp;rcases iZ.1 hp with hp|hp
    ·exact HZ.out p hp
    ·rw[iV]at hp;rw[hp];exact h
   clear j3 k4 f7 a6 f6 a3 a4 f0 ho hI hL hz hb;generalize ps[k]'a7=p at*;generalize i7:(fun b=>M b∨(Value.slice va L.length vc).ownBlock=some b)=N at*;have h0:=z9 i7;clear i7;go_wp2_with fail
   refine(d8.out p _ N d3.out d5.out).mono ?_;rintro e wa ⟨xa,xc,rfl,ix,g0⟩;have c7:Hid (tH wr.heap.size wr wa):=g0;have b4:Hid (It wa N (R.at_ b p,.slice xa (R.at_ b p).items.length xc)):=Rd.below ix g0;clear ix g0 e0;go_wp2_with fail
   refine(d9.out p _ N (d3.out.trans (c7.out.mono (by omega))) d5.out).mono ?_;rintro e wb ⟨ya,yc,rfl,iy,d7⟩;have c8:Hid (tH wr.heap.size wr wb):=c7.out.trans (d7.mono c7.out.size);have b5 :Hid (It wb N (R.at_ b p,.slice xa (R.at_ b p).items.length xc)):=Rd.below b4.out d7;have g6:Hid (It wb N (R.at_ o p,.slice ya (R.at_ o p).items.length yc)):=Rd.below iy d7;clear iy d7 b4 c7;go_wp2_with fail
   refine(e6.out p _ N (d3.out.trans (c8.out.mono (by omega))) d5.out).mono ?_;rintro e wc ⟨za,zc,rfl,iz,b7⟩;have c9:Hid (tH wr.heap.size wr wc):=c8.out.trans (b7.mono c8.out.size);have b4:Hid (It wc N (R.at_ b p,.slice xa (R.at_ b p).items.length xc)):=Rd.below b5.out b7;have b6 :Hid (It wc N (R.at_ o p,.slice ya (R.at_ o p).items.length yc)):=Rd.below g6.out b7;have g7:Hid (It wc N (R.at_ t p,.slice za (R.at_ t p).items.length zc)):=Rd.below iz b7;clear iz b7 b5 g6 c8;go_wp2_with fail
   refine(e7.out p xa ya za xc yc zc _ N (g8.out _ c9.out.size) b4.out b6.out g7.out).mono ?_;rintro e wd ⟨ia,ic,rfl,id,j1⟩;have b3:Hid (tH wr.heap.size wr wd):=c9.out.trans (j1.mono c9.out.size);have j9:=z9 id;have m0:=b3.out.size;clear id j1 b4 b6 g7 c9 d8 d9 e6 e7;generalize l4:QW (R.at_ b p) (.slice xa (R.at_ b p).items.length xc)=A1 at*;generalize l5:QW (R.at_ o p) (.slice ya (R.at_ o p).items.length yc)=A2 at*;generalize l6:QW (R.at_ t p) (.slice za (R.at_ t p).items.length zc)=A3 at*;clear l4 l5 l6;have d4:Hid (R.leafJ b o t p=if(R.valJ b o t p).1.kind=0 then []else [{(R.valJ b o t p).1 with path:=p}]):=rfl;have d6:=z9 (f4.out p);unfold QW;clear f4;generalize R.valJ b o t p=vj at*;have i1:Hid (wd.ownsRow w1.heap.size 139 5 (.slice va L.length vc) L.length (zI L)):=Zl HO.out b3.out;have g5:Hid (∀q∈L,It wd N q):=fun q hq=>Rd.below (HI.out q hq) b3.out
   have a2:Hid (tH w1.heap.size w1 wd):=HB.out.trans (b3.out.mono (by omega));clear HO HI HB b3;by_cases he:vj.2=0
   ·have q1:(vj.2 !=0)=false:=by simp[he]
    have HE:=z9 he;by_cases b2:vj.1.kind=0
    ·have q2:(pk vj.1 !=0)=false:=by simp[pk,b2]
     rw[if_pos b2]at d4;clear he b2;go_wp2;go_roundw
     case rel=>
      refine⟨k+1,L,by omega,by go_num,⟨va,vc,rfl⟩,by omega,?_,i1.out.alloc _,fun q hq=> ?_,i5.out HE.out,a2.out.alloc (by omega) _⟩
      ·rw[i3.out,d4.out,List.append_nil];exact e8.out
      ·have:=g5.out q hq
       rw[←h0.out]at this;exact Rd.below this ((j0g _ _).alloc (j0a _) _)
     case measure=>simp[intOf];omega
    ·have q2:(pk vj.1 !=0)=true:=d6.out he b2
     rw[if_neg b2]at d4;clear he b2;go_wp2_with (at_builtin;go_loud (refine jf _ (by rfl) _ _ 93 (by rfl) w1.heap.size 139 (.agg #[.string ⟨#[]⟩,.int .i64 0,.int .i64 0,.string ⟨#[]⟩,.slice none 0 0]) 5 72 Tryz.underlying93 Tryz.info139 (by rfl) (by decide) ((i1.out.alloc _).alloc _) _ 1 1 _ (by rfl) (y6 _ _ _) (by rfl) (by rw[DW];rfl) (by intro u hu;simp at hu;rcases hu with rfl|rfl|rfl|rfl|rfl<;>rfl) (by unfold maxLen;omega) (by omega) (by simp;omega) ?_))
     intro v' w5 g2 g1;have k3:=z9 g2;have j6:Hid (tH w1.heap.size w1 w5):=Below.grown' g1 ((a2.out.alloc (by omega) _).alloc (by simp;omega) _) (by simp;omega) (fun g hg=>(f3.out g hg).1);have j8:Hid (∀q∈L++ [({vj.1 with path:=p},.slice ia vj.1.items.length ic)],It w5 (fun b=>M b∨v'.ownBlock=some b) q):=fun q hq=>by
      refine It.grown g1 (by simp) ?_;rw[h0.out];have j2:tH wd.heap.size wd ((wd.alloc (Obj.cells #[.int .i64 (pk vj.1),.int .i64 vj.1.n,.string ⟨vj.1.text.toArray⟩,.slice ia vj.1.items.length ic] 137)).alloc (Obj.cells #[.string ⟨p.toArray⟩,.int .i64 (pk vj.1),.int .i64 vj.1.n,.string ⟨vj.1.text.toArray⟩,.slice ia vj.1.items.length ic] 139)):=((j0g _ _).alloc (j0a _) _).alloc (by simp) _;rcases iZ.1 hq with hq|hq
      ·exact Rd.below (g5.out q hq) j2
      ·rw[iV]at hq
       subst hq;exact Rd.below j9.out j2
     obtain⟨a5,c5,l3,_⟩:=zh g2;subst l3;clear g2 g1;go_wp2;go_roundw
     case rel=>
      refine⟨k+1,L++ [({vj.1 with path:=p},.slice ia vj.1.items.length ic)],by omega,by go_num,⟨a5,c5,by simp⟩,by simp;omega,?_,?_,j8.out,i5.out HE.out,j6.out⟩
      ·rw[tB,i3.out,d4.out,e8.out];rfl
      ·rw[g9,bi];simpa using k3.out
     case measure=>simp[intOf];omega
   ·have q1:(vj.2 !=0)=true:=by simp[he]
    have HE:=z9 (j7.out he);clear he;go_wp2;go_ret2;rw[HE.out];exact⟨none,0,rfl,⟨[],rfl,⟨none,0,rfl,j0a _,by unfold maxLen;omega,fun h=>absurd h (LE _)⟩,fun q hq=>by cases hq⟩,g4.out.trans ((a2.out.alloc (by omega) _).mono (by omega))⟩
  ·have k6:k=ps.length:=by omega
   subst k6;rw[aU]at hL hz;have HJ:=z9 (a4.out hz);have g3:PT wr M (.slice va L.length vc) (R.outJ b o t ps):=b9 hL ho (fun b hb=>by have:=hM b hb;omega) (fun b hb=> .inl hb) hI;have i4:=z9 (Fb _ _ wr M g3 (f0.out ps hz));have i2:=z9 g3;have e9:Hid (L.length=(R.outJ b o t ps).length):=by show _=_;rw[←hL,aN]
   clear f7 a6 f6 a3 a4 f0 ho hI hL hz hb g3 d8 d9 e6 e7 f4 e8 HZ HI d5 g8 k1;have HU:Hid (R.endJ (R.outJ b o t ps)=if R.tangled (R.outJ b o t ps)=true then([],7)else if 24<L.length then([],4)else(R.outJ b o t ps,0)):=by show _=_;rw[e9.out];rfl
   generalize R.outJ b o t ps=ot at*;go_wp2_with fail
   refine i4.out.mono ?_;rintro e w2 ⟨rfl,f9⟩;have a2:Hid (tH w.heap.size w w2):=d3.out.trans (f9.mono (by omega));have f5:Hid (PT w2 M (.slice va L.length vc) ot):=i2.out.below f9;clear f9 i4 i2;have i0:Hid (PT w2 M (.slice none 0 0) []):=⟨[],rfl,⟨none,0,rfl,j0a _,by unfold maxLen;omega,fun h=>absurd h (LE _)⟩,fun q hq=>by cases hq⟩
   cases c6:R.tangled ot
   ·rw[c6,if_neg (by simp)]at HU
    by_cases i6:24<L.length
    ·rw[if_pos i6]at HU
     clear c6;go_wp2;go_ret2;rw[HJ.out,HU.out];exact⟨none,0,rfl,i0.out,a2.out⟩
    ·rw[if_neg i6]at HU
     clear c6;go_wp2;go_ret2;rw[HJ.out,HU.out];refine⟨va,vc,?_,?_,a2.out⟩
     ·show _=Ending.returned (.tuple #[.slice va ot.length vc,.int .i64 0])
      rw[←e9.out];rfl
     ·show PT w2 M (.slice va ot.length vc) ot
      rw[←e9.out];exact f5.out
   ·rw[c6,if_pos rfl]at HU
    clear c6;go_wp2;go_ret2;rw[HJ.out,HU.out];exact⟨none,0,rfl,i0.out,a2.out⟩
theorem Uo {w:eX}{base:Nat}{e:TypeId}{size:Nat}{v:eB}{n:Nat}{xs:List eB}(h:w.ownsRow base e size v n xs)(os:Array Obj):(Sort.grow w os).ownsRow base e size v n xs:=by
 refine⟨h.1,?_⟩;rcases h.2 with h|⟨g,cap,a0,h1,h2,h3,h4⟩
 ·exact .inl h
 ·refine .inr ⟨g,cap,a0,h1,h2,?_,h4⟩
  have hg:=(Array.getElem?_eq_some_iff.1 h3).1;rw[←h3];show(w.heap++os)[g]? =_;rw[LK hg]
theorem gi {B:Nat}{w0 w:eX}(h:tH B w0 w)(os:Array Obj)(hB:B≤w.heap.size):tH B w0 (Sort.grow w os):=
 ⟨h.os,h.tape,h.output,j0f h.size (by show _≤(w.heap++os).size;simp),fun k hk=>by
  rw[←h.block k hk];show(w.heap++os)[k]? =_;rw[LK (by omega)]⟩
theorem GT (l:List (List UInt8)):l.map S=l.map Go.Proofs.encStr:=rfl
theorem CQ {base:Nat}{w0 w:eX}{v:eB}{l:List (List UInt8)}(hB:base≤w.heap.size)(hb:tH base w0 w)(hl:l.length≤100000)(h:w.ownsRow base 9 1 v l.length (l.map S)):
  wH sU 183 #[v] w fun e w' =>e= .returned (.tuple #[])∧tH base w0 w' ∧w'.ownsRow base 9 1 v l.length ((l.mergeSort fun x y=>decide (x≤y)).map S):=by
 by_cases hv:v= .slice none 0 0
 ·subst hv
  have h0:l=[]:=by
   rcases h.2 with⟨_,h0⟩|⟨g,cap,a1,e,_⟩
   ·exact wF.1 h0
   ·cases e
  subst h0;exact(Tryz.slices_Sort_string_none none 0 w).mono fun e w' ⟨h1,h2⟩=>⟨h1,by rw[h2];exact hb,by rw[h2];simpa using h⟩
 ·rw[GT]at h
  obtain⟨g,cap,rfl,hg,a0,hn,hm,_,hH⟩:=LL h hv;refine(Tryz.slices_Sort_string g 0 cap l w hH a0 (by omega)).mono ?_;rintro e w' ⟨rfl,q,os,rfl⟩;have hs:(l.mergeSort fun x y=>decide (x≤y)).length=l.length:=LJ ..;have h1:=LM (q:=q) (k:=l.length) (ys:=l.mergeSort fun x y=>decide (x≤y)) h hs (j0a _);rw[nR (by omega)]at h1;exact⟨rfl,gi (LN (q:=q) hb hg) os (by simpa[Sort.putRow,Sort.mapBlock,Sort.ahead]using hB),Uo h1 os⟩
theorem gU {base:Nat}{w0 w:eX}{v:eB}{l:List (List UInt8)}(hb:tH base w0 w)(hl:l.length≤100000)(h:w.ownsRow base 9 1 v l.length (l.map S)):
  wH sU 184 #[v] w fun e w' =>∃a c,e= .returned (.slice a (rW l).length c)∧tH base w0 w' ∧w'.ownsRow base 9 1 (.slice a (rW l).length c) (rW l).length ((rW l).map S):=by
 by_cases hv:v= .slice none 0 0
 ·subst hv
  have h0:l=[]:=by
   rcases h.2 with⟨_,h0⟩|⟨g,cap,a0,e,_⟩
   ·exact wF.1 h0
   ·cases e
  subst h0;exact(Tryz.slices_Compact_string_empty none 0 w).mono fun e w' ⟨h1,h2⟩=>⟨none,0,h1,by rw[h2];exact hb,by rw[h2];exact h⟩
 ·rw[GT]at h
  obtain⟨g,cap,rfl,hg,a1,hn,hm,_,hH⟩:=LL h hv;refine(Tryz.slices_Compact_string g 0 cap l w hH (by omega) hn).mono ?_;rintro e w' ⟨rfl,q,rfl⟩;have hc:=LI l;have h1:=LM (q:=q) (k:=(rW l).length) (ys:=rW l++List.replicate (l.length-(rW l).length) []) h (by simp;omega) hc;rw[List.take_left' rfl]at h1;exact⟨_,cap,rfl,LN (q:=q) hb hg,h1⟩
theorem Oy (ba oa ta:Option Addr)(bc oc tc:Nat)(b o t:List R.Leaf)(w:eX)(M:Nat→Prop)(hM:∀b,M b→b<w.heap.size)(hb:PT w M (.slice ba b.length bc) b)(ho:PT w M (.slice oa o.length oc) o)(ht:PT w M (.slice ta t.length tc) t)(a0:OkT b)(a1:OkT o)(a2:OkT t):
  wH sU 87 #[.slice ba b.length bc,.slice oa o.length oc,.slice ta t.length tc] w fun e w' =>∃va vc,e= .returned (.tuple #[.slice va (R.joinT b o t).1.length vc,.int .i64 (R.joinT b o t).2])∧PT w' M (.slice va (R.joinT b o t).1.length vc) (R.joinT b o t).1∧tH w.heap.size w w' :=by
 refine Fd ba oa ta bc oc tc b o t w M hM hb ho ht a0 a1 a2 fun W b0 hW a3 c0 c1 c2=> ?_
 have e:yf [b,o,t]=(b++(o++t)).map R.Leaf.path:=by simp[yf]
 have hn:(yf [b,o,t]).length≤1000:=by
  rw[e];have:=a0.few;have:=a1.few;have:=a2.few;simp only[aN,nL];omega
 have:=C0 b0 3 [b,o,t] W M (by simp) hn a3 (fun j hj=>by
  match j,hj with
  |0,_=>exact⟨ba,bc,c0,hb.below hW⟩
  |1,_=>exact⟨oa,oc,c1,ho.below hW⟩
  |2,_=>exact⟨ta,tc,c2,ht.below hW⟩) (fun W1 v h1 h2=>CQ h1.size h1 (by omega) h2) (fun W1 v h1 h2=>by
   have hl:((yf [b,o,t]).mergeSort fun x y=>decide (x≤y)).length=(yf [b,o,t]).length:=LJ ..;have h3:=gU (l:=(yf [b,o,t]).mergeSort fun x y=>decide (x≤y)) h1 (by omega) (by rw[hl];exact h2);exact h3)
 rw[e,ua a0 a1 a2]at this;exact this
