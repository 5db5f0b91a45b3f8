import Derived.Test.YtolgebdmffcemaaGreatDoorQ26
set_option linter.all false
set_option maxHeartbeats 20000000
set_option maxRecDepth 1000000
namespace Go.Proofs.YtolgebdmffcemaaGreatDoor
open Go.RowKit
theorem QF (a b:List (R.Leaf×Value)):zY (a++b)=zY a++zY b:=by simp[zY]
theorem qX:∀(L:List (R.Leaf×Value)) (k:Nat),zY (L.take k)=(zY L).take (k*5)
 |[],k=>by simp[zY]
 |p::r,0=>by simp[zY]
 |p::r,k+1=>by
  have ih:=qX r k;unfold zY PC at ih⊢;rw[List.take_succ_cons,List.flatMap_cons,ih,List.flatMap_cons,show(k+1)*5=k*5+5 from by omega];simp
theorem qY:∀(L:List (R.Leaf×Value)) (k:Nat),zY (L.drop k)=(zY L).drop (k*5)
 |[],k=>by simp[zY]
 |p::r,0=>by simp
 |p::r,k+1=>by
  have ih:=qY r k;unfold zY PC at ih⊢;rw[List.drop_succ_cons,ih,List.flatMap_cons,show(k+1)*5=k*5+5 from by omega];simp
theorem Ks:∀(L:List (R.Leaf×Value)) (i:Nat) (h:i<L.length) (y:R.Leaf) (iv:Value),(L[i]'h).1.path=y.path→
  zY (L.set i (y,iv))=((((zY L).set (i*5+1) (.int .i64 (pk y))).set (i*5+2) (.int .i64 y.n)).set (i*5+3) (.string ⟨y.text.toArray⟩)).set (i*5+4) iv
 |p::r,0,_,y,iv,he=>by simp at he;simp[zY,PC,he]
 |p::r,i+1,h,y,iv,he=>by
  have ih:=Ks r i (by simpa using h) y iv (by simpa using he);unfold zY at ih⊢;simp only[List.set_cons_succ,List.flatMap_cons];rw[ih,show(i+1)*5+1=(i*5+1)+5 from by omega,show(i+1)*5+2=(i*5+2)+5 from by omega,show(i+1)*5+3=(i*5+3)+5 from by omega,show(i+1)*5+4=(i*5+4)+5 from by omega];simp[PC]
theorem jp (v:Value)(t:List R.Leaf)(s:List UInt8)(w:World)(M:Nat→Prop)(hM:∀b,M b→b<w.heap.size)(h:PT w M v t)(a1:OkT t)(hs:R.isPath s=true):
  Calls Tryz.prog 114 #[v,.string ⟨s.toArray⟩] w fun e w' =>∃v',e= .returned v' ∧PT w' M v' (R.set t (R.none s))∧Below w.heap.size w w' :=by
 have a8:=a1.few;have a3:=J5 v t s w M h (by omega) a1.sort;have a4:=fun W (hW:Below w.heap.size w W)=>VG v t W M (h.below hW) (by omega)
 cases a0:(t.any fun x=>x.path==s)
 ·rw[a0]at a3
  rw[Ox a1 (R.none s) hs rfl a0];have HT:=zk h;clear a4 a1 h;go_enter Tryz.func114,Tryz.ntmps114;go_wp2_with fail
  refine a3.mono ?_;rintro e w1 ⟨rfl,a2⟩;go_wp2;go_ret;exact⟨_,rfl,HT.out.below a2,a2⟩
 ·rw[a0]at a3
  have HS:Hid (R.set t (R.none s)=t.take (y8 t s)++t.drop (y8 t s+1)):=gX a1 (R.none s) hs rfl a0;have b5:y8 t s<t.length:=(xm (k:=R.Leaf.path) a1.sort.k a0).1;clear a1 h;generalize y8 t s=p at*;go_enter Tryz.func114,Tryz.ntmps114;go_wp2_with fail
  refine a3.mono ?_;rintro e w1 ⟨rfl,a2⟩;go_wp2_with fail
  refine(a4 _ a2).mono ?_;rintro e w2 ⟨L,v2,hL,rfl,ho,hI,a7⟩;have b4:L.length=t.length:=by rw[←hL,List.length_map]
  have hD:=OD Fj v2 L.length p w1.heap.size (zY L) w2 ho (by omega) (vo L hI);have HO:=zk ho;have b2:=a2.size;have b3:=a7.size;clear ho a4;go_wp2_with fail
  refine hD.mono ?_;rintro e w3 ⟨v3,rfl,b0,a9,_⟩;have a6:Below w1.heap.size w1 w3:=a7.grown a9 b3 (fun k hk=>(HO.out.lt k hk).1);go_wp2;go_ret;refine⟨v3,rfl,⟨L.take p++L.drop (p+1),?_,?_,?_⟩,a2.trans (a6.mono b2)⟩
  ·rw[HS.out,←hL,List.map_append,List.map_take,List.map_drop]
  ·have a5:(L.take p++L.drop (p+1)).length=L.length-1:=by simp only[List.length_append,List.length_take,List.length_drop];omega
   rw[a5,QF,qX,qY];exact Rd.of_owns b0 (fun b hb=>by have:=hM b hb;omega)
  ·intro q hq
   have b1 :q∈L:=by
    rcases List.mem_append.1 hq with h|h
    ·exact List.mem_of_mem_take h
    ·exact List.mem_of_mem_drop h
   exact Rd.below (hI q b1) a6
theorem J4 (tv:Value)(t:List R.Leaf)(y:R.Leaf)(iv:Value)(w:World)(M:Nat→Prop)(hM:∀b,M b→b<w.heap.size)(h:PT w M tv t)(a5:OkT t)(hs:R.isPath y.path=true)(hy:It w M (y,iv))(d9:y.kind=0∨OkL y)(d8:y.kind=0→pk y=0):
  Calls Tryz.prog 96 #[tv,.string ⟨y.path.toArray⟩,.agg #[.int .i64 (pk y),.int .i64 y.n,.string ⟨y.text.toArray⟩,iv]] w fun e w' =>∃v',e= .returned v' ∧PT w' M v' (R.set t y)∧Below w.heap.size w w' :=by
 have f8:=a5.few;obtain⟨ia,ic,e9,_,_,_⟩:=id hy;dsimp only at e9;subst e9;by_cases a8:y.kind=0
 ·have c9:R.set t y=R.set t (R.none y.path):=by
   rw[qC a5 y hs a8,qC a5 (R.none y.path) hs rfl];rfl
  have g6:=fun W (hW:Below w.heap.size w W)=>jp tv t y.path W M (fun b hb=>by have:=hM b hb;have:=hW.size;omega) (h.below hW) a5 hs
  rw[c9,d8 a8];clear a5 h c9 hy d9 d8 a8;go_enter Tryz.func96,Tryz.ntmps96;go_wp2_with fail
  refine(g6 _ ((j0g _ _).alloc (j0a _) _)).mono ?_;rintro e w1 ⟨v1,rfl,g3,a0⟩;go_wp2;go_ret;exact⟨v1,rfl,g3,((j0g _ _).alloc (j0a _) _).trans (a0.mono (by simp))⟩
 ·have b5:OkL y:=d9.resolve_left a8
  have h0:(pk y==0)=false:=by rcases GD b5 with h|h|h<;>rw[h.1]<;>rfl
  have b7:=fun W (hW:Below w.heap.size w W)=>J5 tv t y.path W M (h.below hW) (by omega) a5.sort
  have d5:=fun W (hW:Below w.heap.size w W)=>VG tv t W M (h.below hW) (by omega)
  have HY:=zk hy
  cases a1:(t.any fun x=>x.path==y.path)
  ·rw[a1]at b7
   have HS:Hid (R.set t y=t.take (y8 t y.path)++y::t.drop (y8 t y.path)):=Jt a5 y hs a8 a1;have b6:y8 t y.path≤t.length:=List.findIdx_le_length;clear a5 h hy d9 d8 b5 a8;generalize y8 t y.path=p at*;go_enter Tryz.func96,Tryz.ntmps96;go_wp2_with fail
   refine(b7 _ ((j0g _ _).alloc (j0a _) _)).mono ?_;rintro e w1 ⟨rfl,a0⟩;have a4:Below w.heap.size w w1:=((j0g _ _).alloc (j0a _) _).trans (a0.mono (by simp));have b0:w1.cell? ⟨w.heap.size,0,none⟩=some (.int .i64 (pk y)):=by rw[a0.cell (p:=⟨w.heap.size,0,none⟩) (by simp)];simp
   have b1:w1.cell? ⟨w.heap.size,1,none⟩=some (.int .i64 y.n):=by rw[a0.cell (p:=⟨w.heap.size,1,none⟩) (by simp)];simp
   have b2:w1.cell? ⟨w.heap.size,2,none⟩=some (.string ⟨y.text.toArray⟩):=by rw[a0.cell (p:=⟨w.heap.size,2,none⟩) (by simp)];simp
   have b3:w1.cell? ⟨w.heap.size,3,none⟩=some (.slice ia y.items.length ic):=by rw[a0.cell (p:=⟨w.heap.size,3,none⟩) (by simp)];simp
   have a6:w.heap.size+1≤w1.heap.size:=by have:=a0.size;simpa using this
   clear a0;go_wp2_with fail
   refine(d5 _ a4).mono ?_;rintro e w2 ⟨L,v2,hL,rfl,ho,hI,a3⟩;have c6:L.length=t.length:=by rw[←hL,List.length_map]
   have f0:=a3.size;have d0:=(a3.cell (p:=⟨w.heap.size,0,none⟩) a6).trans b0;have d1:=(a3.cell (p:=⟨w.heap.size,1,none⟩) a6).trans b1;have d2:=(a3.cell (p:=⟨w.heap.size,2,none⟩) a6).trans b2;have d3:=(a3.cell (p:=⟨w.heap.size,3,none⟩) a6).trans b3;have HO:=zk ho;have HL:=zk hL;have b8:=zk hI;have f5:Hid (Below w.heap.size w w2):=a4.trans (a3.mono a4.size);have e7:Hid (p≤L.length):=by rw[c6];exact b6
   have e6:=fun W (hW:Below w2.heap.size w2 W) vb (g5:W.heap[vb]? =some (.cells #[.string ⟨y.path.toArray⟩,.int .i64 (pk y),.int .i64 y.n,.string ⟨y.text.toArray⟩,.slice ia y.items.length ic] 139 (0,0))) (g1:v2.ownBlock≠some vb)=>OB Fg v2 L.length p vb w1.heap.size (zY L) #[.string ⟨y.path.toArray⟩,.int .i64 (pk y),.int .i64 y.n,.string ⟨y.text.toArray⟩,.slice ia y.items.length ic] W (zw HO.out hW) (by have:=hW.size;omega) e7.out (by omega) g5 rfl g1 (vo L b8.out) (by
    intro u hu;simp only[List.mem_cons,List.not_mem_nil,or_false]at hu;rcases hu with rfl|rfl|rfl|rfl|rfl<;>rfl)
   clear b0 b1 b2 b3 ho hI hL d5 b7 a1;go_wp2_with fail
   refine(e6 _ ((j0g _ _).alloc (j0a _) _) w2.heap.size (heap_alloc_new w2 _) (fun e=>by have:=(HO.out.lt _ e).2;omega)).mono ?_;rintro e w3 ⟨v3,rfl,g2,f9,_⟩;have d4:Below w1.heap.size w1 w3:=(a3.alloc f0 _).grown f9 (by simp;omega) (fun k hk=>(HO.out.lt k hk).1);go_wp2;go_ret;refine⟨v3,rfl,⟨L.take p++(y,.slice ia y.items.length ic)::L.drop p,?_,?_,?_⟩,a4.trans (d4.mono (by omega))⟩
   ·rw[HS.out,←HL.out,List.map_append,List.map_take,List.map_cons,List.map_drop]
   ·have e8:(L.take p++(y,Value.slice ia y.items.length ic)::L.drop p).length=L.length+1:=by have:=e7.out;simp only[List.length_append,List.length_take,List.length_cons,List.length_drop];omega
    rw[e8];have f7:zY (L.take p++(y,Value.slice ia y.items.length ic)::L.drop p)=(zY L).take (p*5)++((#[Value.string ⟨y.path.toArray⟩,.int .i64 (pk y),.int .i64 y.n,.string ⟨y.text.toArray⟩,.slice ia y.items.length ic]).toList++(zY L).drop (p*5)):=by
     rw[QF,qX,←qY];simp[zY,PC]
    rw[f7];exact Rd.of_owns g2 (fun b hb=>by have:=hM b hb;omega)
   ·intro q hq
    rcases List.mem_append.1 hq with h|h
    ·exact Rd.below (b8.out q (List.mem_of_mem_take h)) d4
    ·rcases List.mem_cons.1 h with rfl|h
     ·exact Rd.below HY.out (a4.trans (d4.mono (by omega)))
     ·exact Rd.below (b8.out q (List.mem_of_mem_drop h)) d4
  ·rw[a1]at b7
   have HS:Hid (R.set t y=t.take (y8 t y.path)++y::t.drop (y8 t y.path+1)):=UM a5 y hs a8 a1;obtain⟨b6,a9⟩:=xm (k:=R.Leaf.path) a5.sort.k a1;change y8 t y.path<t.length at b6
   have b9:Hid (∀h:y8 t y.path<t.length,(t[y8 t y.path]'h).path=y.path):=fun _=>a9
   clear a5 h hy d9 d8 b5 a8 a9;generalize y8 t y.path=p at*;go_enter Tryz.func96,Tryz.ntmps96;go_wp2_with fail
   refine(b7 _ ((j0g _ _).alloc (j0a _) _)).mono ?_;rintro e w1 ⟨rfl,a0⟩;have a4:Below w.heap.size w w1:=((j0g _ _).alloc (j0a _) _).trans (a0.mono (by simp));have b0:w1.cell? ⟨w.heap.size,0,none⟩=some (.int .i64 (pk y)):=by rw[a0.cell (p:=⟨w.heap.size,0,none⟩) (by simp)];simp
   have b1:w1.cell? ⟨w.heap.size,1,none⟩=some (.int .i64 y.n):=by rw[a0.cell (p:=⟨w.heap.size,1,none⟩) (by simp)];simp
   have b2:w1.cell? ⟨w.heap.size,2,none⟩=some (.string ⟨y.text.toArray⟩):=by rw[a0.cell (p:=⟨w.heap.size,2,none⟩) (by simp)];simp
   have b3:w1.cell? ⟨w.heap.size,3,none⟩=some (.slice ia y.items.length ic):=by rw[a0.cell (p:=⟨w.heap.size,3,none⟩) (by simp)];simp
   have a6:w.heap.size+1≤w1.heap.size:=by have:=a0.size;simpa using this
   clear a0;go_wp2_with fail
   refine(d5 _ a4).mono ?_;rintro e w2 ⟨L,v2,hL,rfl,ho,hI,a3⟩;have c6:L.length=t.length:=by rw[←hL,List.length_map]
   have f0:=a3.size;have d0:=(a3.cell (p:=⟨w.heap.size,0,none⟩) a6).trans b0;have d1:=(a3.cell (p:=⟨w.heap.size,1,none⟩) a6).trans b1;have d2:=(a3.cell (p:=⟨w.heap.size,2,none⟩) a6).trans b2;have d3:=(a3.cell (p:=⟨w.heap.size,3,none⟩) a6).trans b3;have HO:=zk ho;have HL:=zk hL;have b8:=zk hI;have f5:Hid (Below w.heap.size w w2):=a4.trans (a3.mono a4.size);have e7:Hid (p≤L.length):=by rw[c6];exact Nat.le_of_lt b6
   have d7:p<L.length:=by rw[c6];exact b6
   obtain⟨a2,c2,rfl,g9,g0,c8,b4⟩:=za ho
   cases a2 with
   |none=>have:=(c8 rfl).1;omega
   |some ad=>
    obtain⟨g,rfl,d6,g8,c7,a7⟩:=b4 ad rfl;obtain⟨e0,e1,e2,e3,e4⟩:=GF (off:=0) (by simpa using a7) p d7;simp only[Nat.zero_add]at e0 e1 e2 e3 e4;have f1:=c7 (p*5+1);have f2:=c7 (p*5+2);have f3:=c7 (p*5+3);have f4:=c7 (p*5+4);unfold maxLen at g0;clear b0 b1 b2 b3 ho hI hL d5 b7 a1 a7 c7 b4 c8;have g7:=QE L;have o1:=Zm HO.out (p*5+1) (by omega) (.int .i64 (pk y));have o2:=Zm o1 (p*5+2) (by rw[List.length_set];omega) (.int .i64 y.n);have o3:=Zm o2 (p*5+3) (by rw[List.length_set,List.length_set];omega) (.string ⟨y.text.toArray⟩);have o4:=Zm o3 (p*5+4) (by rw[List.length_set,List.length_set,List.length_set];omega) (.slice ia y.items.length ic);have g4:(L[p]'d7).1.path=y.path:=by
     have:=b9.out b6;simp only[←HL.out,List.getElem_map]at this;exact this
    rw[←Ks L p d7 y (.slice ia y.items.length ic) g4]at o4;have f6:=zk o4;have e5:Hid (Below w1.heap.size w1 ((((w2.setCell ⟨g,p*5+1,none⟩ (.int .i64 (pk y))).setCell ⟨g,p*5+2,none⟩ (.int .i64 y.n)).setCell ⟨g,p*5+3,none⟩ (.string ⟨y.text.toArray⟩)).setCell ⟨g,p*5+4,none⟩ (.slice ia y.items.length ic))):=
     (((a3.setCell (p:=⟨g,p*5+1,none⟩) d6 _).setCell (p:=⟨g,p*5+2,none⟩) d6 _).setCell (p:=⟨g,p*5+3,none⟩) d6 _).setCell (p:=⟨g,p*5+4,none⟩) d6 _
    clear o1 o2 o3 o4 g7;go_wp2;go_ret;refine⟨_,rfl,⟨L.set p (y,.slice ia y.items.length ic),?_,?_,?_⟩,a4.trans (e5.out.mono (by omega))⟩
    ·rw[HS.out,←HL.out,List.map_set,List.set_eq_take_append_cons_drop,if_pos (by simpa using d7)]
    ·rw[List.length_set,←c6]
     exact Rd.of_owns f6.out (fun b hb=>by have:=hM b hb;omega)
    ·intro q hq
     rcases List.mem_or_eq_of_mem_set hq with h|rfl
     ·exact Rd.below (b8.out q h) e5.out
     ·exact Rd.below HY.out (a4.trans (e5.out.mono (by omega)))
theorem kg (b n c d:Value)(w:World):(Instr.field 137 (.agg #[b,n,c,d]) 1).run Tryz.prog w= .ok n w:=by
 simp[Instr.field,go_sem,asAgg]
structure AtX (x:R.Leaf)(s:List UInt8):Prop where
 ok:x=R.none s∨OkL x
 path:x.path=s
theorem atX {t:List R.Leaf}(h:OkT t)(s:List UInt8):AtX (R.at_ t s) s:=by
 refine⟨GJ h s,?_⟩;rcases Kw t s with⟨_,e⟩|⟨_,_,e⟩
 ·rw[e];rfl
 ·exact e
theorem AtX.kinds {x:R.Leaf}{s:List UInt8}(h:AtX x s):(x.kind=0∧pk x=0∧x=R.none s)∨(x.kind=35∧pk x=1∧OkL x)∨(x.kind=61∧pk x=2∧OkL x)∨(x.kind=42∧pk x=3∧OkL x):=by
 rcases h.ok with h|h
 ·subst h;exact .inl ⟨rfl,rfl,rfl⟩
 ·rcases h.kind with k|k|k
  ·exact .inr (.inl ⟨k.1,by simp[pk,k.1],h⟩)
  ·exact .inr (.inr (.inl ⟨k.1,by simp[pk,k.1],h⟩))
  ·exact .inr (.inr (.inr ⟨k.1,by simp[pk,k.1],h⟩))
theorem AtX.oth {x:R.Leaf}{s:List UInt8}(h:AtX x s)(k kk:Int)(hk:(k=1∧kk=35)∨(k=2∧kk=61)∨(k=3∧kk=42)):((pk x !=0)&&(pk x !=k))=decide (x.kind≠0∧x.kind≠kk):=by
 rcases hk with⟨rfl,rfl⟩|⟨rfl,rfl⟩|⟨rfl,rfl⟩<;>rcases h.kinds with k|k|k|k<;>(rw[k.1,k.2.1];decide)
theorem AtX.zero {x:R.Leaf}{s:List UInt8}(h:AtX x s):(pk x==0)=decide (x.kind=0):=by
 rcases h.kinds with k|k|k|k<;>(rw[k.1,k.2.1];decide)
theorem AtX.num {x:R.Leaf}{s:List UInt8}(h:AtX x s): -1000000000≤x.n∧x.n≤1000000000:=by
 rcases h.ok with h|h
 ·subst h;simp[R.none]
 ·exact⟨h.lo,h.hi⟩
theorem Zn {v:Value}{a b:Int}(h:b=a):Ending.returned (.tuple #[v,.int .i64 a])= .returned (.tuple #[v,.int .i64 b]):=by rw[h]
def Q3 (w w' :World)(M:Nat→Prop)(e:Ending)(t:List R.Leaf)(r:Int×R.Leaf):Prop:=
 ∃va vn vc,e= .returned (.tuple #[.slice va vn vc,.int .i64 r.1])∧(r.1=0→PT w' M (.slice va vn vc) (R.set t r.2))∧Below w.heap.size w w'
theorem Q9 {w:World}{M:Nat→Prop}{v:Value}{t:List R.Leaf}(h:PT w M v t):∃a c,v= .slice a t.length c:=by
 obtain⟨L,rfl,⟨a,c,rfl,_⟩,_⟩:=h;exact⟨a,c,by simp⟩
theorem gj (w:World)(M:Nat→Prop)(y:R.Leaf)(h:y.items=[]):It w M (y,.slice none 0 0):=by
 refine⟨none,0,?_,?_,?_,?_⟩
 ·simp[h]
 ·simp[h]
 ·unfold maxLen;omega
 ·intro hh;simp[h]at hh
theorem fZ (v:Value)(t:List R.Leaf)(s:List UInt8)(n:Int)(w:World)(M:Nat→Prop)(hM:∀b,M b→b<w.heap.size)(h:PT w M v t)(a4:OkT t)(hs:R.isPath s=true)(c9:n≤9223372036854775807)(d3: -9223372036854775808≤n):
  Calls Tryz.prog 57 #[v,.string ⟨s.toArray⟩,.int .i64 n] w fun e w' =>Q3 w w' M e t (R.addV t (R.at_ t s) s n):=by
 have b7:=a4.few;have b8:s.length≤1000:=by have:=yN _ hs;omega
 have b2:∀x∈t,x.path.length≤1000:=fun x hx=>(a4.ok x hx).good.path
 have a1:=Kg v t s 1 w M h (by omega) a4.sort b2 b8;have b0:=fun W (hW:Below w.heap.size w W)=>O0 v t s W M (h.below hW) (by omega) a4.sort
 have a8:=fun W (hW:Below w.heap.size w W)=>Us v t s W M (h.below hW) (by omega) a4.sort
 have a2:=atX a4 s;have a3:=fun(x:R.Leaf) W (hW:Below w.heap.size w W) (a0:n≤1000000000-x.n) (a7: -1000000000-x.n≤n)=>J4 v t {path:=s,kind:=35,n:=x.n+n,text:=[],items:=[]} (.slice none 0 0) W M (fun b hb=>by have:=hM b hb;have:=hW.size;omega) (h.below hW) a4 hs (gj W M _ rfl) (.inr ⟨hs,.inl ⟨rfl,rfl,rfl⟩,by simp only;omega,by simp only;omega,rfl,by simp,by simp,fun i j hi=>by simp at hi⟩) (by simp)
 clear h a4 b2;generalize R.at_ t s=x at*;obtain⟨c8,c7⟩:=a2.num;have a5 :=a3 x;clear a3;by_cases c1:x.kind≠0∧x.kind≠35
 ·have e1:((pk x !=0)&&(pk x !=1))=true:=by
   rw[a2.oth 1 35 (by simp)];exact decide_eq_true c1
  have HR:Hid (R.addV t x s n=(6,x)):=by show _=_;rw[R.addV,if_pos c1]
  rw[e1]at a1;simp only[if_true]at a1;clear a2 c1 e1;go_enter Tryz.func57,Tryz.ntmps57;go_wp2_with fail
  refine a1.mono ?_;rintro e w1 ⟨rfl,a0⟩;go_wp2;go_ret2;exact⟨none,0,0,Zn (by rw[HR.out]),(fun h=>by rw[HR.out]at h;cases h),a0⟩
 have e1:((pk x !=0)&&(pk x !=1))=false:=by
  rw[a2.oth 1 35 (by simp)];exact decide_eq_false c1
 rw[e1]at a1;simp only[Bool.false_eq_true,if_false]at a1;by_cases c2:R.blocked t s=true
 ·have HR:Hid (R.addV t x s n=(7,x)):=by show _=_;rw[R.addV,if_neg c1,if_pos c2]
  rw[if_pos c2]at a1;clear a2 c1 e1 c2;go_enter Tryz.func57,Tryz.ntmps57;go_wp2_with fail
  refine a1.mono ?_;rintro e w1 ⟨rfl,a0⟩;go_wp2;go_ret2;exact⟨none,0,0,Zn (by rw[HR.out]),(fun h=>by rw[HR.out]at h;cases h),a0⟩
 rw[if_neg c2]at a1;have c6:=kg (.int .i64 (pk x)) (.int .i64 x.n);by_cases c3:1000000000-x.n<n∨n< -1000000000-x.n
 ·have HR:Hid (R.addV t x s n=(8,x)):=by show _=_;rw[R.addV,if_neg c1,if_neg c2,if_pos c3]
  clear a2 c1 e1 c2;go_enter Tryz.func57,Tryz.ntmps57;go_wp2_with fail
  refine a1.mono ?_;rintro e w1 ⟨rfl,a0⟩;go_wp2_with fail
  refine(b0 _ a0).mono ?_;rintro e w2 ⟨ia,ic,rfl,b3,a7⟩;by_cases b9 :1000000000-x.n<n
  ·go_wp2
   go_ret2;exact⟨none,0,0,Zn (by rw[HR.out]),(fun h=>by rw[HR.out]at h;cases h),a0.trans (a7.mono a0.size)⟩
  ·have b5 :n< -1000000000-x.n:=by omega
   go_wp2;go_ret2;exact⟨none,0,0,Zn (by rw[HR.out]),(fun h=>by rw[HR.out]at h;cases h),a0.trans (a7.mono a0.size)⟩
 have d1:n≤1000000000-x.n:=by omega
 have d2: -1000000000-x.n≤n:=by omega
 by_cases c4:x.kind=0∧24≤t.length
 ·have HR:Hid (R.addV t x s n=(4,x)):=by show _=_;rw[R.addV,if_neg c1,if_neg c2,if_neg c3,if_pos c4]
  have e4:((pk x==0)&&decide (24≤t.length))=true:=by
   rw[a2.zero,decide_eq_true c4.1,decide_eq_true c4.2];rfl
  rw[e4]at a8;clear a2 c1 e1 c2 c3 c4 e4;go_enter Tryz.func57,Tryz.ntmps57;go_wp2_with fail
  refine a1.mono ?_;rintro e w1 ⟨rfl,a0⟩;go_wp2_with fail
  refine(b0 _ a0).mono ?_;rintro e w2 ⟨ia,ic,rfl,b3,a7⟩;have a6:=a0.trans (a7.mono a0.size);go_wp2_with fail
  refine(a8 _ a6).mono ?_;rintro e w3 ⟨rfl,b1⟩;go_wp2;go_ret2;exact⟨none,0,0,Zn (by rw[HR.out]),(fun h=>by rw[HR.out]at h;cases h),a6.trans (b1.mono a6.size)⟩
 have HR:Hid (R.addV t x s n=(0,{path:=s,kind:=35,n:=x.n+n,text:=[],items:=[]})):=by show _=_;rw[R.addV,if_neg c1,if_neg c2,if_neg c3,if_neg c4]
 have e4:((pk x==0)&&decide (24≤t.length))=false:=by
  rw[a2.zero,←Bool.decide_and];exact decide_eq_false c4
 rw[e4]at a8;clear a2 c1 e1 c2 c3 c4 e4;go_enter Tryz.func57,Tryz.ntmps57;go_wp2_with fail
 refine a1.mono ?_;rintro e w1 ⟨rfl,a0⟩;go_wp2_with fail
 refine(b0 _ a0).mono ?_;rintro e w2 ⟨ia,ic,rfl,b3,a7⟩;have a6:=a0.trans (a7.mono a0.size);go_wp2_with fail
 refine(a8 _ a6).mono ?_;rintro e w3 ⟨rfl,b1⟩;have a9:=a6.trans (b1.mono a6.size);go_wp2_with fail
 refine(a5 _ a9 d1 d2).mono ?_;rintro e w4 ⟨v4,rfl,b4,b6⟩;obtain⟨va,vc,rfl⟩:=Q9 b4;go_wp2;go_ret2;exact⟨va,_,vc,Zn (by rw[HR.out]),(fun _=>by rw[HR.out];exact b4),a9.trans (b6.mono a9.size)⟩
theorem oZ (s:List UInt8)(w:World)(hs:s.length≤maxLen):
  Calls Tryz.prog 113 #[.string ⟨s.toArray⟩] w fun e w' =>e= .returned (.bool (R.isText s))∧w' =w:=by
 have h:=ug ⟨s.toArray⟩ w (by simpa[ByteArray.size]using hs);simpa using h
theorem ft (v:Value)(t:List R.Leaf)(s text:List UInt8)(w:World)(M:Nat→Prop)(hM:∀b,M b→b<w.heap.size)(h:PT w M v t)(a6:OkT t)(hs:R.isPath s=true)(b7:text.length≤maxLen):
  Calls Tryz.prog 74 #[v,.string ⟨s.toArray⟩,.string ⟨text.toArray⟩] w fun e w' =>Q3 w w' M e t (R.noteV t (R.at_ t s) s text):=by
 have b5:=a6.few;have b6:s.length≤1000:=by have:=yN _ hs;omega
 have b2:∀x∈t,x.path.length≤1000:=fun x hx=>(a6.ok x hx).good.path
 have a7:=oZ text w b7;have a2:=Kg v t s 2 w M h (by omega) a6.sort b2 b6;have a9:=fun W (hW:Below w.heap.size w W)=>Us v t s W M (h.below hW) (by omega) a6.sort
 have a3:=atX a6 s;have a0:=fun W (hW:Below w.heap.size w W) (hT:R.isText text=true)=>J4 v t {path:=s,kind:=61,n:=0,text:=text,items:=[]} (.slice none 0 0) W M (fun b hb=>by have:=hM b hb;have:=hW.size;omega) (h.below hW) a6 hs (gj W M _ rfl) (.inr ⟨hs,.inr (.inl ⟨rfl,rfl,rfl⟩),by simp,by simp,hT,by simp,by simp,fun i j hi=>by simp at hi⟩) (by simp)
 clear h a6 b2;generalize R.at_ t s=x at*;by_cases c0:R.isText text=false
 ·have HR:Hid (R.noteV t x s text=(3,x)):=by show _=_;rw[R.noteV,if_pos c0]
  rw[c0]at a7;clear a3 c0 a0;go_enter Tryz.func74,Tryz.ntmps74;go_wp2_with fail
  refine a7.mono ?_;rintro e w0 ⟨rfl,a4⟩;subst a4;go_wp2;go_ret2;exact⟨none,0,0,Zn (by rw[HR.out]),(fun h=>by rw[HR.out]at h;cases h),j0g _ _⟩
 have a8 :R.isText text=true:=by simpa using c0
 rw[a8]at a7;have a5 :=fun W hW=>a0 W hW a8
 clear a0;by_cases c1:x.kind≠0∧x.kind≠61
 ·have e1:((pk x !=0)&&(pk x !=2))=true:=by
   rw[a3.oth 2 61 (by simp)];exact decide_eq_true c1
  have HR:Hid (R.noteV t x s text=(6,x)):=by show _=_;rw[R.noteV,if_neg c0,if_pos c1]
  rw[e1]at a2;simp only[if_true]at a2;clear a3 c1 e1 c0 a8;go_enter Tryz.func74,Tryz.ntmps74;go_wp2_with fail
  refine a7.mono ?_;rintro e w0 ⟨rfl,a4⟩;subst a4;go_wp2_with fail
  refine a2.mono ?_;rintro e w1 ⟨rfl,a1⟩;go_wp2;go_ret2;exact⟨none,0,0,Zn (by rw[HR.out]),(fun h=>by rw[HR.out]at h;cases h),a1⟩
 have e1:((pk x !=0)&&(pk x !=2))=false:=by
  rw[a3.oth 2 61 (by simp)];exact decide_eq_false c1
 rw[e1]at a2;simp only[Bool.false_eq_true,if_false]at a2;by_cases c2:R.blocked t s=true
 ·have HR:Hid (R.noteV t x s text=(7,x)):=by show _=_;rw[R.noteV,if_neg c0,if_neg c1,if_pos c2]
  rw[if_pos c2]at a2;clear a3 c1 e1 c2 c0 a8;go_enter Tryz.func74,Tryz.ntmps74;go_wp2_with fail
  refine a7.mono ?_;rintro e w0 ⟨rfl,a4⟩;subst a4;go_wp2_with fail
  refine a2.mono ?_;rintro e w1 ⟨rfl,a1⟩;go_wp2;go_ret2;exact⟨none,0,0,Zn (by rw[HR.out]),(fun h=>by rw[HR.out]at h;cases h),a1⟩
 rw[if_neg c2]at a2;by_cases c4:x.kind=0∧24≤t.length
 ·have HR:Hid (R.noteV t x s text=(4,x)):=by show _=_;rw[R.noteV,if_neg c0,if_neg c1,if_neg c2,if_pos c4]
  have e4:((pk x==0)&&decide (24≤t.length))=true:=by
   rw[a3.zero,decide_eq_true c4.1,decide_eq_true c4.2];rfl
  rw[e4]at a9;clear a3 c1 e1 c2 c4 e4 c0 a8;go_enter Tryz.func74,Tryz.ntmps74;go_wp2_with fail
  refine a7.mono ?_;rintro e w0 ⟨rfl,a4⟩;subst a4;go_wp2_with fail
  refine a2.mono ?_;rintro e w1 ⟨rfl,a1⟩;go_wp2_with fail
  refine(a9 _ a1).mono ?_;rintro e w3 ⟨rfl,b1⟩;go_wp2;go_ret2;exact⟨none,0,0,Zn (by rw[HR.out]),(fun h=>by rw[HR.out]at h;cases h),a1.trans (b1.mono a1.size)⟩
 have HR:Hid (R.noteV t x s text=(0,{path:=s,kind:=61,n:=0,text:=text,items:=[]})):=by show _=_;rw[R.noteV,if_neg c0,if_neg c1,if_neg c2,if_neg c4]
 have e4:((pk x==0)&&decide (24≤t.length))=false:=by
  rw[a3.zero,←Bool.decide_and];exact decide_eq_false c4
 rw[e4]at a9;clear a3 c1 e1 c2 c4 e4 c0 a8;go_enter Tryz.func74,Tryz.ntmps74;go_wp2_with fail
 refine a7.mono ?_;rintro e w0 ⟨rfl,a4⟩;subst a4;go_wp2_with fail
 refine a2.mono ?_;rintro e w1 ⟨rfl,a1⟩;go_wp2_with fail
 refine(a9 _ a1).mono ?_;rintro e w3 ⟨rfl,b1⟩;have b0:=a1.trans (b1.mono a1.size);go_wp2_with fail
 refine(a5 _ b0).mono ?_;rintro e w4 ⟨v4,rfl,b3,b4⟩;obtain⟨va,vc,rfl⟩:=Q9 b3;go_wp2;go_ret2;exact⟨va,_,vc,Zn (by rw[HR.out]),(fun _=>by rw[HR.out];exact b3),b0.trans (b4.mono b0.size)⟩
theorem gu (v:Value)(t:List R.Leaf)(s:List UInt8)(w:World)(M:Nat→Prop)(hM:∀b,M b→b<w.heap.size)(h:PT w M v t)(a1:OkT t)(hs:R.isPath s=true):
  Calls Tryz.prog 76 #[v,.string ⟨s.toArray⟩] w fun e w' =>Q3 w w' M e t (R.delV (R.at_ t s) s):=by
 have a6:=a1.few;have a3:=O0 v t s w M h (by omega) a1.sort;have a2:=atX a1 s;have a8:=fun W (hW:Below w.heap.size w W)=>jp v t s W M (fun b hb=>by have:=hM b hb;have:=hW.size;omega) (h.below hW) a1 hs
 clear h a1;generalize R.at_ t s=x at*;have a9:=qE (pk x);by_cases c1:x.kind=0
 ·have HR:Hid (R.delV x s=(10,x)):=by show _=_;rw[R.delV,if_pos c1]
  have e1:(pk x==0)=true:=by rw[a2.zero];exact decide_eq_true c1
  clear a2 c1;go_enter Tryz.func76,Tryz.ntmps76;go_wp2_with fail
  refine a3.mono ?_;rintro e w1 ⟨ia,ic,rfl,a7,a0⟩;go_wp2;go_ret2;exact⟨none,0,0,Zn (by rw[HR.out]),(fun h=>by rw[HR.out]at h;cases h),a0⟩
 ·have HR:Hid (R.delV x s=(0,R.none s)):=by show _=_;rw[R.delV,if_neg c1]
  have e1:(pk x==0)=false:=by rw[a2.zero];exact decide_eq_false c1
  clear a2 c1;go_enter Tryz.func76,Tryz.ntmps76;go_wp2_with fail
  refine a3.mono ?_;rintro e w1 ⟨ia,ic,rfl,a7,a0⟩;go_wp2_with fail
  refine(a8 _ a0).mono ?_;rintro e w4 ⟨v4,rfl,a4,a5⟩;obtain⟨va,vc,rfl⟩:=Q9 a4;go_wp2;go_ret2;exact⟨va,_,vc,Zn (by rw[HR.out]),(fun _=>by rw[HR.out];exact a4),a0.trans (a5.mono a0.size)⟩
theorem Jx (v:Value)(l:List (List UInt8))(w:World)(M:Nat→Prop)(h:Rd w M v l.length (l.map S))(hl:l.length≤1000000):
  Calls Tryz.prog 150 #[v] w fun e w' =>∃v',e= .returned v' ∧w'.ownsRow w.heap.size 9 1 v' l.length (l.map S)∧Below w.heap.size w w' :=by
 obtain⟨a,cap,rfl,hn,hm,hc⟩:=h;rcases Nat.eq_zero_or_pos l.length with h0|h0
 ·have a1:l=[]:=List.eq_nil_of_length_eq_zero h0
  subst a1
  cases a with
  |none=>
   refine(Tryz.slices_Clone_string_nil _ _ w).mono ?_;rintro e w' ⟨rfl,rfl⟩;exact⟨_,rfl,World.ownsRow_nil _ _ _ _,j0g _ _⟩
  |some ad=>
   refine(Tryz.slices_Clone_string_zero ad cap w).mono ?_;rintro e w' ⟨v',rfl,ho,_,hb⟩;exact⟨v',rfl,ho,hb⟩
 ·obtain⟨b,off,rfl,hb,_,a0⟩:=hc h0
  have hC:=Tryz.slices_Clone_string b off l.length cap (l.map fun x=>(⟨x.toArray⟩:ByteArray)) w (by simp) (by omega) (fun j hj=>by
   rw[List.length_map]at hj;rw[a0 j (S l[j]) (by rw[List.getElem?_map,j0d hj];rfl)];simp[S,hj])
  refine hC.mono ?_;rintro e w' ⟨v',rfl,ho,_,hb⟩;refine⟨v',rfl,?_,hb⟩;rw[List.take_of_length_le (by simp),List.map_map]at ho;exact ho
def yV (x:R.Leaf)(l:List (List UInt8)):R.Leaf:={path:=x.path,kind:=42,n:=0,text:=[],items:=l}
theorem GK (l:List (List UInt8)):∀u∈l.map S,u.oneCell' =true:=by
 intro u hu;obtain⟨y,_,rfl⟩:=List.mem_map.1 hu;rfl
theorem Uq (x:R.Leaf)(iv:Value)(s:List UInt8)(w:World)(M:Nat→Prop)(hM:∀b,M b→b<w.heap.size)(h:It w M (x,iv))(hk:x=R.none x.path∨(OkL x∧x.kind=42)):
  Calls Tryz.prog 99 #[.agg #[.int .i64 (pk x),.int .i64 x.n,.string ⟨x.text.toArray⟩,iv],.string ⟨s.toArray⟩] w fun e w' =>∃ia ic,e= .returned (.agg #[.int .i64 3,.int .i64 0,.string ⟨#[]⟩,.slice ia (R.item x.items s).length ic])∧It w' M (yV x (R.item x.items s),.slice ia (R.item x.items s).length ic)∧Below w.heap.size w w' :=by
 have hl:x.items.length≤8:=by
  rcases hk with hk|⟨hk,_⟩
  ·rw[hk];simp[R.none]
  ·exact hk.many
 have a0:Zh x.items:=by
  rcases hk with hk|⟨hk,_⟩
  ·rw[hk];intro i j hi;simp[R.none]at hi
  ·exact hk.sort
 obtain⟨ia,ic,c6,h1,h2,h3⟩:=h;dsimp only at c6 h1 h2 h3;subst c6;have a5:It w M (x,.slice ia x.items.length ic):=⟨ia,ic,rfl,h1,h2,h3⟩
 have a7:=fun W (hW:Below w.heap.size w W)=>xl (.slice ia x.items.length ic) x.items s W M (Rd.below a5 hW) (by omega) a0 (a0.mono s)
 have b2:=fun W (hW:Below w.heap.size w W)=>Jx (.slice ia x.items.length ic) x.items W M (Rd.below a5 hW) (by omega)
 cases a1:(x.items.any fun y=>y==s)
 ·have HI:Hid (R.item x.items s=x.items.take (Ql x.items s)++s::x.items.drop (Ql x.items s)):=jl a0 s a1
  have d8:Ql x.items s≤x.items.length:=List.findIdx_le_length;rw[a1]at a7;clear h1 h2 h3 a0 hk;generalize Ql x.items s=p at*;go_enter Tryz.func99,Tryz.ntmps99;go_wp2_with fail
  refine(a7 _ (((j0g _ _).alloc (j0a _) _).alloc (by simp) _)).mono ?_;rintro e w1 ⟨rfl,b7⟩;subst b7;go_wp2_with fail
  refine(b2 _ (((j0g _ _).alloc (j0a _) _).alloc (by simp) _)).mono ?_;rintro e w2 ⟨v2,rfl,ho,a4⟩;have e3:w.heap.size+2≤w2.heap.size:=by have:=a4.size;simpa using this
  have x0:w2.cell? ⟨w.heap.size+1,0,none⟩=some (.int .i64 0):=by rw[a4.cell (p:=⟨w.heap.size+1,0,none⟩) (by simp)];simp
  have x1:w2.cell? ⟨w.heap.size+1,1,none⟩=some (.int .i64 0):=by rw[a4.cell (p:=⟨w.heap.size+1,1,none⟩) (by simp)];simp
  have x2:w2.cell? ⟨w.heap.size+1,2,none⟩=some (.string ⟨#[]⟩):=by rw[a4.cell (p:=⟨w.heap.size+1,2,none⟩) (by simp)];simp
  have x3:w2.cell? ⟨w.heap.size+1,3,none⟩=some (.slice none 0 0):=by rw[a4.cell (p:=⟨w.heap.size+1,3,none⟩) (by simp)];simp
  have fz:∀j,w2.frozen? ⟨w.heap.size+1,j,none⟩=false:=fun j=>by rw[a4.frozen (p:=⟨w.heap.size+1,j,none⟩) (by simp)];simp
  have b8:Hid (Below w.heap.size w w2):=(((j0g _ _).alloc (j0a _) _).alloc (by simp) _).trans (a4.mono (by simp;omega));have b4 :w2.ownsRow (w.heap.size+2) 9 1 v2 x.items.length (x.items.map S):=by simpa using ho
  have a6:=fun W (hW:Below w2.heap.size w2 W) vb (d9:W.heap[vb]? =some (.cells #[.string ⟨s.toArray⟩] 9 (0,0))) (d7:v2.ownBlock≠some vb)=>OB Ff v2 x.items.length p vb (w.heap.size+2) (x.items.map S) #[.string ⟨s.toArray⟩] W (zw b4 hW) (by have:=hW.size;omega) d8 (by omega) d9 rfl d7 (GK _) (by intro u hu;simp at hu;subst hu;rfl)
  have b0:Hid (∀g,v2.ownBlock=some g→w.heap.size+2≤g∧g<w2.heap.size):=b4.lt;clear a4 ho b4 a5 b2 a7;go_wp2_with fail
  refine(a6 _ ((j0g _ _).alloc (j0a _) _) w2.heap.size (heap_alloc_new w2 _) (fun e=>by have:=b0.out _ e;omega)).mono ?_;rintro e w3 ⟨v3,rfl,b5,b1,_⟩;have e4:w2.heap.size+1≤w3.heap.size:=by have:=b1.size;simpa using this
  have a2:w3.heap[w.heap.size+1]? =w2.heap[w.heap.size+1]? :=by
   rw[b1.block _ (by simp;omega) (fun e=>by have:=b0.out _ e.symm;omega)];exact heap_alloc_old w2 _ (by omega)
  have y0:=(World.cell?_of_block (a:=⟨w.heap.size+1,0,none⟩) a2).trans x0;have y1:=(World.cell?_of_block (a:=⟨w.heap.size+1,1,none⟩) a2).trans x1;have y2:=(World.cell?_of_block (a:=⟨w.heap.size+1,2,none⟩) a2).trans x2;have y3:=(World.cell?_of_block (a:=⟨w.heap.size+1,3,none⟩) a2).trans x3;have f0:=(World.frozen?_of_block (a:=⟨w.heap.size+1,0,none⟩) a2).trans (fz 0);have f1:=(World.frozen?_of_block (a:=⟨w.heap.size+1,1,none⟩) a2).trans (fz 1);have f2:=(World.frozen?_of_block (a:=⟨w.heap.size+1,2,none⟩) a2).trans (fz 2);have f3:=(World.frozen?_of_block (a:=⟨w.heap.size+1,3,none⟩) a2).trans (fz 3);have d4:Hid (Below w.heap.size w w3):=(b8.out.alloc (by omega) _).grown b1 (by simp;omega) (fun k hk=>by have:=b0.out k hk;omega);have a9:(R.item x.items s).length=x.items.length+1:=by
   rw[HI.out];simp only[List.length_append,List.length_take,List.length_cons,List.length_drop];omega
  have b9:Hid (w3.ownsRow (w.heap.size+2) 9 1 v3 (R.item x.items s).length ((R.item x.items s).map S)):=by
   show w3.ownsRow _ _ _ _ _ _;rw[a9,HI.out];simpa[S,List.map_take,List.map_drop]using b5
  have b3:v3.ownBlock≠some (w.heap.size+1):=fun e=>by have:=(b5.lt _ e).1;omega
  obtain⟨a3,c3,d3,_,_,_,_⟩:=za b9.out;have e1:=zk d3;subst d3;clear a2 x0 x1 x2 x3 fz b1 b5 a6 a9 a1 b8 b0;go_wp2;obtain⟨z0,z1,z2,z3⟩:=vY w3 (w.heap.size+1) (.int .i64 3) (.int .i64 0) (.string ⟨#[]⟩) (.slice a3 (R.item x.items s).length c3) _ _ _ _ y0 y1 y2 y3;have hK:zj (fun k=>k=w.heap.size+1) w3 ((((w3.setCell ⟨w.heap.size+1,0,none⟩ (.int .i64 3)).setCell ⟨w.heap.size+1,1,none⟩ (.int .i64 0)).setCell ⟨w.heap.size+1,2,none⟩ (.string ⟨#[]⟩)).setCell ⟨w.heap.size+1,3,none⟩ (.slice a3 (R.item x.items s).length c3)):=
   ((((zj.refl (fun k=>k=w.heap.size+1) w3).setCell (p:=⟨w.heap.size+1,0,none⟩) (.inl rfl) _).setCell (p:=⟨w.heap.size+1,1,none⟩) (.inl rfl) _).setCell (p:=⟨w.heap.size+1,2,none⟩) (.inl rfl) _).setCell (p:=⟨w.heap.size+1,3,none⟩) (.inl rfl) _
  have d6:Below w.heap.size w ((((w3.setCell ⟨w.heap.size+1,0,none⟩ (.int .i64 3)).setCell ⟨w.heap.size+1,1,none⟩ (.int .i64 0)).setCell ⟨w.heap.size+1,2,none⟩ (.string ⟨#[]⟩)).setCell ⟨w.heap.size+1,3,none⟩ (.slice a3 (R.item x.items s).length c3)):=
   (((d4.out.setCell (p:=⟨w.heap.size+1,0,none⟩) (Nat.le_succ _) _).setCell (p:=⟨w.heap.size+1,1,none⟩) (Nat.le_succ _) _).setCell (p:=⟨w.heap.size+1,2,none⟩) (Nat.le_succ _) _).setCell (p:=⟨w.heap.size+1,3,none⟩) (Nat.le_succ _) _
  generalize((((w3.setCell ⟨w.heap.size+1,0,none⟩ (.int .i64 3)).setCell ⟨w.heap.size+1,1,none⟩ (.int .i64 0)).setCell ⟨w.heap.size+1,2,none⟩ (.string ⟨#[]⟩)).setCell ⟨w.heap.size+1,3,none⟩ (.slice a3 (R.item x.items s).length c3))=w9 at*;have b6:=zh b9.out hK (fun g e e2=>b3 (by rw[e,e2]));exact bodyPost_ret (v:= .agg #[.int .i64 3,.int .i64 0,.string ⟨#[]⟩,.slice a3 (R.item x.items s).length c3]) (by simp[results,Tryz.results99,go_sem,z0,z1,z2,z3]) rfl ⟨a3,c3,rfl,Rd.of_owns b6 (fun b hb=>by have:=hM b hb;omega),d6⟩
 ·have a8:OkL x∧x.kind=42:=by
   rcases hk with hk|hk
   ·rw[hk]at a1;simp[R.none]at a1
   ·exact hk
  have hx:x=yV x x.items:=by
   rcases a8.1.kind with h|h|h
   ·rw[a8.2]at h;simp at h
   ·rw[a8.2]at h;simp at h
   ·cases x;simp only[yV]at h⊢;simp only[R.Leaf.mk.injEq];exact⟨trivial,h.1,h.2.1,h.2.2.1,trivial⟩
  have c8:pk x=3:=by unfold pk;rw[a8.2];simp
  have c7:x.n=0:=by rw[hx];rfl
  have c9:x.text=[]:=by rw[hx];rfl
  rw[JX a0 s a1,c8,c7,c9];rw[hx]at a5;rw[a1]at a7;have d5:Hid (It w M (yV x x.items,.slice ia x.items.length ic)):=a5;clear h1 h2 h3 a0 hk a8 hx c8 c7 c9 a5 a1 b2;generalize Ql x.items s=p at*;generalize x.items.length=n at*;go_enter Tryz.func99,Tryz.ntmps99;go_wp2_with fail
  refine(a7 _ (((j0g _ _).alloc (j0a _) _).alloc (by simp) _)).mono ?_;rintro e w1 ⟨rfl,b7⟩;subst b7;go_wp2;have HB:Below w.heap.size w ((w.alloc (Obj.cells #[.int .i64 3,.int .i64 0,.string ⟨#[]⟩,.slice ia n ic] 137)).alloc (Obj.cells #[.int .i64 3,.int .i64 0,.string ⟨#[]⟩,.slice ia n ic] 137)):=((j0g _ _).alloc (j0a _) _).alloc (by simp) _;exact bodyPost_ret (v:= .agg #[.int .i64 3,.int .i64 0,.string ⟨#[]⟩,.slice ia n ic]) (by simp[results,Tryz.results99,go_sem]) rfl ⟨ia,ic,rfl,Rd.below d5.out HB,HB⟩
def Zu (x:R.Leaf)(s:List UInt8):R.Leaf:={path:=x.path,kind:=if R.without x.items s=[]then 0 else 42,n:=0,text:=[],items:=R.without x.items s}
theorem KP (x:R.Leaf)(iv:Value)(s:List UInt8)(w:World)(M:Nat→Prop)(hM:∀b,M b→b<w.heap.size)(h:It w M (x,iv))(b4:OkL x)(a1:(x.items.any fun y=>y==s)=true):
  Calls Tryz.prog 102 #[.agg #[.int .i64 (pk x),.int .i64 x.n,.string ⟨x.text.toArray⟩,iv],.string ⟨s.toArray⟩] w fun e w' =>∃ia ic,e= .returned (.agg #[.int .i64 (pk (Zu x s)),.int .i64 0,.string ⟨#[]⟩,.slice ia (R.without x.items s).length ic])∧It w' M (Zu x s,.slice ia (R.without x.items s).length ic)∧Below w.heap.size w w' :=by
 have hl:=b4.many;have a0:=b4.sort;obtain⟨ia,ic,c8,h1,h2,h3⟩:=h;dsimp only at c8 h1 h2 h3;subst c8;have b3:It w M (x,.slice ia x.items.length ic):=⟨ia,ic,rfl,h1,h2,h3⟩
 have a7:=fun W (hW:Below w.heap.size w W)=>xl (.slice ia x.items.length ic) x.items s W M (Rd.below b3 hW) (by omega) a0 (a0.mono s)
 have b2:=fun W (hW:Below w.heap.size w W)=>Jx (.slice ia x.items.length ic) x.items W M (Rd.below b3 hW) (by omega)
 have HI:Hid (R.without x.items s=x.items.take (Ql x.items s)++x.items.drop (Ql x.items s+1)):=Jn a0 s a1;have d6:Ql x.items s<x.items.length:=(xm (k:=id) a0.k a1).1;rw[a1]at a7;have a6:(R.without x.items s).length=x.items.length-1:=by
  rw[HI.out];simp only[List.length_append,List.length_take,List.length_drop];omega
 clear h1 h2 h3 a0 b4 a1;generalize Ql x.items s=p at*;by_cases h1:x.items.length=1
 ·have d7:R.without x.items s=[]:=List.eq_nil_of_length_eq_zero (by omega)
  have b0:pk (Zu x s)=0:=by simp[Zu,d7,pk]
  have d5:((x.items.length:Int)==1)=true:=by simp[h1]
  have a9:(R.without x.items s).length=0:=by omega
  rw[b0,a9];clear a6 b2 HI;clear h1;go_enter Tryz.func102,Tryz.ntmps102;go_wp2_with fail
  refine(a7 _ (((j0g _ _).alloc (j0a _) _).alloc (by simp) _)).mono ?_;rintro e w1 ⟨rfl,b9⟩;subst b9;go_wp2;refine bodyPost_ret (v:= .agg #[.int .i64 0,.int .i64 0,.string ⟨#[]⟩,.slice none 0 0]) (by simp[results,Tryz.results102,go_sem]) rfl ⟨none,0,rfl,⟨none,0,by simp[Zu,a9],by simp[Zu,a9],by unfold maxLen;omega,fun h=>by simp[Zu,a9]at h⟩,?_⟩;exact((j0g _ _).alloc (j0a _) _).alloc (by simp) _
 ·have d8:R.without x.items s≠ []:=by intro e;rw[e]at a6;simp at a6;omega
  have b0:pk (Zu x s)=3:=by simp[Zu,d8,pk]
  have d5:((x.items.length:Int)==1)=false:=by rw[Bool.eq_false_iff];simp;omega
  rw[b0];clear b0;go_enter Tryz.func102,Tryz.ntmps102;go_wp2_with fail
  refine(a7 _ (((j0g _ _).alloc (j0a _) _).alloc (by simp) _)).mono ?_;rintro e w1 ⟨rfl,b9⟩;subst b9;go_wp2_with fail
  refine(b2 _ (((j0g _ _).alloc (j0a _) _).alloc (by simp) _)).mono ?_;rintro e w2 ⟨v2,rfl,ho,a4⟩;have e1:w.heap.size+2≤w2.heap.size:=by have:=a4.size;simpa using this
  have x0:w2.cell? ⟨w.heap.size+1,0,none⟩=some (.int .i64 0):=by rw[a4.cell (p:=⟨w.heap.size+1,0,none⟩) (by simp)];simp
  have x1:w2.cell? ⟨w.heap.size+1,1,none⟩=some (.int .i64 0):=by rw[a4.cell (p:=⟨w.heap.size+1,1,none⟩) (by simp)];simp
  have x2:w2.cell? ⟨w.heap.size+1,2,none⟩=some (.string ⟨#[]⟩):=by rw[a4.cell (p:=⟨w.heap.size+1,2,none⟩) (by simp)];simp
  have x3:w2.cell? ⟨w.heap.size+1,3,none⟩=some (.slice none 0 0):=by rw[a4.cell (p:=⟨w.heap.size+1,3,none⟩) (by simp)];simp
  have fz:∀j,w2.frozen? ⟨w.heap.size+1,j,none⟩=false:=fun j=>by rw[a4.frozen (p:=⟨w.heap.size+1,j,none⟩) (by simp)];simp
  have c6:Hid (Below w.heap.size w w2):=(((j0g _ _).alloc (j0a _) _).alloc (by simp) _).trans (a4.mono (by simp;omega));have b6 :w2.ownsRow (w.heap.size+2) 9 1 v2 x.items.length (x.items.map S):=by simpa using ho
  have a5:=OD Fi v2 x.items.length p (w.heap.size+2) (x.items.map S) w2 b6 d6 (GK _);have b1:Hid (∀g,v2.ownBlock=some g→w.heap.size+2≤g∧g<w2.heap.size):=b6.lt;clear a4 ho b6 b3 b2 a7;go_wp2_with fail
  refine a5.mono ?_;rintro e w3 ⟨v3,rfl,b7,a8,_⟩;have e3:w2.heap.size≤w3.heap.size:=a8.size;have a2:w3.heap[w.heap.size+1]? =w2.heap[w.heap.size+1]? :=by
   exact a8.block _ (by omega) (fun e=>by have:=b1.out _ e.symm;omega)
  have y0:=(World.cell?_of_block (a:=⟨w.heap.size+1,0,none⟩) a2).trans x0;have y1:=(World.cell?_of_block (a:=⟨w.heap.size+1,1,none⟩) a2).trans x1;have y2:=(World.cell?_of_block (a:=⟨w.heap.size+1,2,none⟩) a2).trans x2;have y3:=(World.cell?_of_block (a:=⟨w.heap.size+1,3,none⟩) a2).trans x3;have f0:=(World.frozen?_of_block (a:=⟨w.heap.size+1,0,none⟩) a2).trans (fz 0);have f1:=(World.frozen?_of_block (a:=⟨w.heap.size+1,1,none⟩) a2).trans (fz 1);have f2:=(World.frozen?_of_block (a:=⟨w.heap.size+1,2,none⟩) a2).trans (fz 2);have f3:=(World.frozen?_of_block (a:=⟨w.heap.size+1,3,none⟩) a2).trans (fz 3);have d3:Hid (Below w.heap.size w w3):=c6.out.grown a8 (by omega) (fun k hk=>by have:=b1.out k hk;omega);have c7:Hid (w3.ownsRow (w.heap.size+2) 9 1 v3 (R.without x.items s).length ((R.without x.items s).map S)):=by
   show w3.ownsRow _ _ _ _ _ _;rw[a6,HI.out];simpa[S,List.map_take,List.map_drop]using b7
  have b5:v3.ownBlock≠some (w.heap.size+1):=fun e=>by have:=(b7.lt _ e).1;omega
  obtain⟨a3,c3,c9,_,_,_,_⟩:=za c7.out;have d9:=zk c9;subst c9;clear a2 x0 x1 x2 x3 fz a8 b7 a5 c6 b1 a6;go_wp2;obtain⟨z0,z1,z2,z3⟩:=vY w3 (w.heap.size+1) (.int .i64 3) (.int .i64 0) (.string ⟨#[]⟩) (.slice a3 (R.without x.items s).length c3) _ _ _ _ y0 y1 y2 y3;have hK:zj (fun k=>k=w.heap.size+1) w3 ((((w3.setCell ⟨w.heap.size+1,0,none⟩ (.int .i64 3)).setCell ⟨w.heap.size+1,1,none⟩ (.int .i64 0)).setCell ⟨w.heap.size+1,2,none⟩ (.string ⟨#[]⟩)).setCell ⟨w.heap.size+1,3,none⟩ (.slice a3 (R.without x.items s).length c3)):=
   ((((zj.refl (fun k=>k=w.heap.size+1) w3).setCell (p:=⟨w.heap.size+1,0,none⟩) (.inl rfl) _).setCell (p:=⟨w.heap.size+1,1,none⟩) (.inl rfl) _).setCell (p:=⟨w.heap.size+1,2,none⟩) (.inl rfl) _).setCell (p:=⟨w.heap.size+1,3,none⟩) (.inl rfl) _
  have d4:Below w.heap.size w ((((w3.setCell ⟨w.heap.size+1,0,none⟩ (.int .i64 3)).setCell ⟨w.heap.size+1,1,none⟩ (.int .i64 0)).setCell ⟨w.heap.size+1,2,none⟩ (.string ⟨#[]⟩)).setCell ⟨w.heap.size+1,3,none⟩ (.slice a3 (R.without x.items s).length c3)):=
   (((d3.out.setCell (p:=⟨w.heap.size+1,0,none⟩) (Nat.le_succ _) _).setCell (p:=⟨w.heap.size+1,1,none⟩) (Nat.le_succ _) _).setCell (p:=⟨w.heap.size+1,2,none⟩) (Nat.le_succ _) _).setCell (p:=⟨w.heap.size+1,3,none⟩) (Nat.le_succ _) _
  generalize((((w3.setCell ⟨w.heap.size+1,0,none⟩ (.int .i64 3)).setCell ⟨w.heap.size+1,1,none⟩ (.int .i64 0)).setCell ⟨w.heap.size+1,2,none⟩ (.string ⟨#[]⟩)).setCell ⟨w.heap.size+1,3,none⟩ (.slice a3 (R.without x.items s).length c3))=w9 at*;have b8:=zh c7.out hK (fun g e e2=>b5 (by rw[e,e2]));exact bodyPost_ret (v:= .agg #[.int .i64 3,.int .i64 0,.string ⟨#[]⟩,.slice a3 (R.without x.items s).length c3]) (by simp[results,Tryz.results102,go_sem,z0,z1,z2,z3]) rfl ⟨a3,c3,rfl,Rd.of_owns b8 (fun b hb=>by have:=hM b hb;omega),d4⟩
theorem fY (v:Value)(t:List R.Leaf)(s text:List UInt8)(w:World)(M:Nat→Prop)(hM:∀b,M b→b<w.heap.size)(h:PT w M v t)(b3:OkT t)(hs:R.isPath s=true)(e9:text.length≤maxLen):
  Calls Tryz.prog 61 #[v,.string ⟨s.toArray⟩,.string ⟨text.toArray⟩] w fun e w' =>Q3 w w' M e t (R.putV t (R.at_ t s) s text):=by
 have e7:=b3.few;have e8:s.length≤1000:=by have:=yN _ hs;omega
 have d9:∀x∈t,x.path.length≤1000:=fun x hx=>(b3.ok x hx).good.path
 have b4:=ui text w e9;have a9:=Kg v t s 3 w M h (by omega) b3.sort d9 e8;have d6:=fun W (hW:Below w.heap.size w W)=>O0 v t s W M (h.below hW) (by omega) b3.sort
 have c6:=fun W (hW:Below w.heap.size w W)=>Us v t s W M (h.below hW) (by omega) b3.sort
 have b1:=atX b3 s;have HM:=zk hM;have a4:=fun W (hW:Below w.heap.size w W) (x:R.Leaf) (iv:Value) (a7:It W M (yV x (R.item x.items text),iv)) (hp:x.path=s) (hx:OkL (yV x (R.item x.items text)))=>J4 v t (yV x (R.item x.items text)) iv W M (fun b hb=>by have:=hM b hb;have:=hW.size;omega) (h.below hW) b3 (by rw[show(yV x (R.item x.items text)).path=s from hp];exact hs) a7 (.inr hx) (by simp[yV])
 clear h b3 d9 hM;generalize R.at_ t s=x at*;by_cases c0:(!R.isText text||text==[])=true
 ·have HR:Hid (R.putV t x s text=(3,x)):=by show _=_;rw[R.putV,if_pos c0]
  rw[c0]at b4;clear b1 c0 a4;go_enter Tryz.func61,Tryz.ntmps61;go_wp2_with fail
  refine b4.mono ?_;rintro e w0 ⟨rfl,b0⟩;subst b0;go_wp2;go_ret2;exact⟨none,0,0,Zn (by rw[HR.out]),(fun h=>by rw[HR.out]at h;cases h),by first|exact j0g _ _|exact(j0g _ _).alloc (j0a _) _⟩
 have b9 :(!R.isText text||text==[])=false:=by simpa using c0
 have hT:R.isText text=true∧text≠ []:=by simpa using b9
 rw[b9]at b4;by_cases c1:x.kind≠0∧x.kind≠42
 ·have e1:((pk x !=0)&&(pk x !=3))=true:=by
   rw[b1.oth 3 42 (by simp)];exact decide_eq_true c1
  have HR:Hid (R.putV t x s text=(6,x)):=by show _=_;rw[R.putV,if_neg c0,if_pos c1]
  rw[e1]at a9;simp only[if_true]at a9;clear b1 c1 e1 c0 b9 hT a4;go_enter Tryz.func61,Tryz.ntmps61;go_wp2_with fail
  refine b4.mono ?_;rintro e w0 ⟨rfl,b0⟩;subst b0;go_wp2_with fail
  refine a9.mono ?_;rintro e w1 ⟨rfl,a0⟩;go_wp2;go_ret2;exact⟨none,0,0,Zn (by rw[HR.out]),(fun h=>by rw[HR.out]at h;cases h),by first|exact a0|exact a0.alloc a0.size _⟩
 have e1:((pk x !=0)&&(pk x !=3))=false:=by
  rw[b1.oth 3 42 (by simp)];exact decide_eq_false c1
 rw[e1]at a9;simp only[Bool.false_eq_true,if_false]at a9;by_cases c2:R.blocked t s=true
 ·have HR:Hid (R.putV t x s text=(7,x)):=by show _=_;rw[R.putV,if_neg c0,if_neg c1,if_pos c2]
  rw[if_pos c2]at a9;clear b1 c1 e1 c2 c0 b9 hT a4;go_enter Tryz.func61,Tryz.ntmps61;go_wp2_with fail
  refine b4.mono ?_;rintro e w0 ⟨rfl,b0⟩;subst b0;go_wp2_with fail
  refine a9.mono ?_;rintro e w1 ⟨rfl,a0⟩;go_wp2;go_ret2;exact⟨none,0,0,Zn (by rw[HR.out]),(fun h=>by rw[HR.out]at h;cases h),by first|exact a0|exact a0.alloc a0.size _⟩
 rw[if_neg c2]at a9;have hk:x=R.none x.path∨(OkL x∧x.kind=42):=by
  rcases b1.kinds with k|k|k|k
  ·exact .inl (by rw[b1.path];exact k.2.2)
  ·exact absurd ⟨by rw[k.1];decide,by rw[k.1];decide⟩ c1
  ·exact absurd ⟨by rw[k.1];decide,by rw[k.1];decide⟩ c1
  ·exact .inr ⟨k.2.2,k.1⟩
 have d5:=fun W (hW:Below w.heap.size w W) (ia:Option Addr) (ic:Nat) (a7:It W M (x,.slice ia x.items.length ic))=>Uq x (.slice ia x.items.length ic) text W M (fun b hb=>by have:=HM.out b hb;have:=hW.size;omega) a7 hk
 have f3:(R.item x.items text).length≤9:=by
  have h1:=R.item_length text x.items false;have h2:x.items.length≤8:=by
   rcases hk with hk|⟨hk,_⟩
   ·rw[hk];simp[R.none]
   ·exact hk.many
  unfold R.item;omega
 have c8:=b1.zero;have a1:=b1.path;have d8:Zh x.items:=by
  rcases hk with hk|⟨hk,_⟩
  ·rw[hk];intro i j hi;simp[R.none]at hi
  ·exact hk.sort
 have e5:Hid ((R.item x.items text).length≤8→OkL (yV x (R.item x.items text))):=by
  intro h8;refine⟨by show R.isPath x.path=true;rw[a1];exact hs,.inr (.inr ⟨rfl,rfl,rfl,UZ _ d8 _⟩),by simp[yV],by simp[yV],rfl,h8,fun i hi=> ?_,jk d8 text⟩;rcases JW hi with rfl|hi
  ·exact hT
  ·rcases hk with hk|⟨hk,_⟩
   ·rw[hk]at hi;simp[R.none]at hi
   ·exact hk.item i hi
 have HB:Hid (yV x (R.item x.items text)={path:=s,kind:=42,n:=0,text:=[],items:=R.item x.items text}):=by show _=_;rw[yV,a1]
 have a2 :=fun W hW iv a7 hx=>a4 W hW x iv a7 a1 hx
 have c7:pk (yV x (R.item x.items text))=3:=by simp[pk,yV]
 have e3:(yV x (R.item x.items text)).path=s:=a1;simp only[c7,e3]at a2;have f0:=zk a1;have c9:=zk c0;have d3:=zk c1;have d4:=zk c2;clear b1 hk a4 d8 hT c0 b9 e1 a1 c7 e3 c1 c2
 cases hF:((pk x==0)&&decide (24≤t.length))
 ·rw[hF]at c6
  have d7:¬(x.kind=0∧24≤t.length):=by
   rw[c8,←Bool.decide_and]at hF;exact of_decide_eq_false hF
  clear hF c8;by_cases c5:8<(R.item x.items text).length
  ·have HR:Hid (R.putV t x s text=(4,x)):=by
    show _=_;rw[R.putV,if_neg c9.out,if_neg d3.out,if_neg d4.out,if_pos c5]
   clear a2 d7;go_enter Tryz.func61,Tryz.ntmps61;go_wp2_with fail
   refine b4.mono ?_;rintro e w0 ⟨rfl,b0⟩;subst b0;go_wp2_with fail
   refine a9.mono ?_;rintro e w1 ⟨rfl,a0⟩;go_wp2_with fail
   refine(d6 _ a0).mono ?_;rintro e w2 ⟨ia,ic,rfl,a7,b2⟩;have a6:=a0.trans (b2.mono a0.size);go_wp2_with fail
   refine(d5 _ a6 ia ic (Rd.below a7 b2)).mono ?_;rintro e w3 ⟨ja,jc,rfl,a8,b6⟩;have a3:=a6.trans (b6.mono a6.size);go_wp2_with fail
   refine(c6 _ (a3.alloc a3.size _)).mono ?_;rintro e w4 ⟨rfl,a5⟩;have b5:=(a3.alloc a3.size _).trans (a5.mono (by simp;exact Nat.le_succ_of_le a3.size));have y0:w4.cell? ⟨w3.heap.size,0,none⟩=some (.int .i64 3):=by rw[a5.cell (p:=⟨w3.heap.size,0,none⟩) (by simp)];simp
   have y1:w4.cell? ⟨w3.heap.size,1,none⟩=some (.int .i64 0):=by rw[a5.cell (p:=⟨w3.heap.size,1,none⟩) (by simp)];simp
   have y2:w4.cell? ⟨w3.heap.size,2,none⟩=some (.string ⟨#[]⟩):=by rw[a5.cell (p:=⟨w3.heap.size,2,none⟩) (by simp)];simp
   have y3:w4.cell? ⟨w3.heap.size,3,none⟩=some (.slice ja (R.item x.items text).length jc):=by rw[a5.cell (p:=⟨w3.heap.size,3,none⟩) (by simp)];simp
   have b8:Hid (It w4 M (yV x (R.item x.items text),.slice ja (R.item x.items text).length jc)):=Rd.below a8 (((j0g _ _).alloc (j0a _) _).trans (a5.mono (by simp)));have b7:=zk b5;clear a5 a8 b6 a7 b2 a0 a6 a3 b5;go_wp2;go_ret2;exact⟨none,0,0,Zn (by rw[HR.out]),(fun h=>by rw[HR.out]at h;cases h),b7.out⟩
  ·have HR:Hid (R.putV t x s text=(0,yV x (R.item x.items text))):=by
    show _=_;rw[R.putV,if_neg c9.out,if_neg d3.out,if_neg d4.out,if_neg c5,if_neg d7,HB.out]
   have e4:=zk (e5.out (by omega));clear d7;go_enter Tryz.func61,Tryz.ntmps61;go_wp2_with fail
   refine b4.mono ?_;rintro e w0 ⟨rfl,b0⟩;subst b0;go_wp2_with fail
   refine a9.mono ?_;rintro e w1 ⟨rfl,a0⟩;go_wp2_with fail
   refine(d6 _ a0).mono ?_;rintro e w2 ⟨ia,ic,rfl,a7,b2⟩;have a6:=a0.trans (b2.mono a0.size);go_wp2_with fail
   refine(d5 _ a6 ia ic (Rd.below a7 b2)).mono ?_;rintro e w3 ⟨ja,jc,rfl,a8,b6⟩;have a3:=a6.trans (b6.mono a6.size);go_wp2_with fail
   refine(c6 _ (a3.alloc a3.size _)).mono ?_;rintro e w4 ⟨rfl,a5⟩;have b5:=(a3.alloc a3.size _).trans (a5.mono (by simp;exact Nat.le_succ_of_le a3.size));have y0:w4.cell? ⟨w3.heap.size,0,none⟩=some (.int .i64 3):=by rw[a5.cell (p:=⟨w3.heap.size,0,none⟩) (by simp)];simp
   have y1:w4.cell? ⟨w3.heap.size,1,none⟩=some (.int .i64 0):=by rw[a5.cell (p:=⟨w3.heap.size,1,none⟩) (by simp)];simp
   have y2:w4.cell? ⟨w3.heap.size,2,none⟩=some (.string ⟨#[]⟩):=by rw[a5.cell (p:=⟨w3.heap.size,2,none⟩) (by simp)];simp
   have y3:w4.cell? ⟨w3.heap.size,3,none⟩=some (.slice ja (R.item x.items text).length jc):=by rw[a5.cell (p:=⟨w3.heap.size,3,none⟩) (by simp)];simp
   have b8:Hid (It w4 M (yV x (R.item x.items text),.slice ja (R.item x.items text).length jc)):=Rd.below a8 (((j0g _ _).alloc (j0a _) _).trans (a5.mono (by simp)));have b7:=zk b5;clear a5 a8 b6 a7 b2 a0 a6 a3 b5;go_wp2_with fail
   refine(a2 _ b7.out _ b8.out e4.out).mono ?_;rintro e w5 ⟨v5,rfl,e2,e6⟩;obtain⟨va,vc,rfl⟩:=Q9 e2;go_wp2;go_ret2;exact⟨va,_,vc,Zn (by rw[HR.out]),(fun _=>by rw[HR.out];exact e2),b7.out.trans (e6.mono b7.out.size)⟩
 ·rw[hF]at c6
  have HR:Hid (R.putV t x s text=(4,x)):=by
   show _=_;rw[c8,←Bool.decide_and]at hF;rw[R.putV,if_neg c9.out,if_neg d3.out,if_neg d4.out,if_pos (of_decide_eq_true hF)];split<;>rfl
  clear hF c8 a2;go_enter Tryz.func61,Tryz.ntmps61;go_wp2_with fail
  refine b4.mono ?_;rintro e w0 ⟨rfl,b0⟩;subst b0;go_wp2_with fail
  refine a9.mono ?_;rintro e w1 ⟨rfl,a0⟩;go_wp2_with fail
  refine(d6 _ a0).mono ?_;rintro e w2 ⟨ia,ic,rfl,a7,b2⟩;have a6:=a0.trans (b2.mono a0.size);go_wp2_with fail
  refine(d5 _ a6 ia ic (Rd.below a7 b2)).mono ?_;rintro e w3 ⟨ja,jc,rfl,a8,b6⟩;have a3:=a6.trans (b6.mono a6.size);go_wp2_with fail
  refine(c6 _ (a3.alloc a3.size _)).mono ?_;rintro e w4 ⟨rfl,a5⟩;have b5:=(a3.alloc a3.size _).trans (a5.mono (by simp;exact Nat.le_succ_of_le a3.size));go_wp2;go_ret2;exact⟨none,0,0,Zn (by rw[HR.out]),(fun h=>by rw[HR.out]at h;cases h),b5⟩
theorem fs (v:Value)(t:List R.Leaf)(s text:List UInt8)(w:World)(M:Nat→Prop)(hM:∀b,M b→b<w.heap.size)(h:PT w M v t)(b2:OkT t)(hs:R.isPath s=true)(e3:text.length≤maxLen):
  Calls Tryz.prog 63 #[v,.string ⟨s.toArray⟩,.string ⟨text.toArray⟩] w fun e w' =>Q3 w w' M e t (R.takeV (R.at_ t s) s text):=by
 have e2:=b2.few;have b3:=ui text w e3;have b4:=VX v t s 3 w M h (by omega) b2.sort;have d4:=fun W (hW:Below w.heap.size w W)=>O0 v t s W M (h.below hW) (by omega) b2.sort
 have a6:=atX b2 s;have HM:=zk hM;have a1:=fun W (hW:Below w.heap.size w W) (y:R.Leaf) (iv:Value) (a2:It W M (y,iv)) (hp:y.path=s) (hx:y.kind=0∨OkL y) (h0:y.kind=0→pk y=0)=>J4 v t y iv W M (fun b hb=>by have:=hM b hb;have:=hW.size;omega) (h.below hW) b2 (by rw[hp];exact hs) a2 hx h0
 clear h b2 hM;generalize R.at_ t s=x at*;by_cases c0:(!R.isText text||text==[])=true
 ·have HR:Hid (R.takeV x s text=(3,x)):=by show _=_;rw[R.takeV,if_pos c0]
  rw[c0]at b3;clear a6 c0 a1;go_enter Tryz.func63,Tryz.ntmps63;go_wp2_with fail
  refine b3.mono ?_;rintro e w0 ⟨rfl,b0⟩;subst b0;go_wp2;go_ret2;exact⟨none,0,0,Zn (by rw[HR.out]),(fun h=>by rw[HR.out]at h;cases h),j0g _ _⟩
 have b5 :(!R.isText text||text==[])=false:=by simpa using c0
 rw[b5]at b3;by_cases c1:x.kind≠0∧x.kind≠42
 ·have e1:((pk x !=0)&&(pk x !=3))=true:=by
   rw[a6.oth 3 42 (by simp)];exact decide_eq_true c1
  have HR:Hid (R.takeV x s text=(6,x)):=by show _=_;rw[R.takeV,if_neg c0,if_pos c1]
  rw[e1]at b4;clear a6 c1 e1 c0 b5 a1;go_enter Tryz.func63,Tryz.ntmps63;go_wp2_with fail
  refine b3.mono ?_;rintro e w0 ⟨rfl,b0⟩;subst b0;go_wp2_with fail
  refine b4.mono ?_;rintro e w1 ⟨rfl,a8⟩;go_wp2;go_ret2;exact⟨none,0,0,Zn (by rw[HR.out]),(fun h=>by rw[HR.out]at h;cases h),a8⟩
 have e1:((pk x !=0)&&(pk x !=3))=false:=by
  rw[a6.oth 3 42 (by simp)];exact decide_eq_false c1
 rw[e1]at b4;have hk:x=R.none s∨(OkL x∧x.kind=42):=by
  rcases a6.kinds with k|k|k|k
  ·exact .inl k.2.2
  ·exact absurd ⟨by rw[k.1];decide,by rw[k.1];decide⟩ c1
  ·exact absurd ⟨by rw[k.1];decide,by rw[k.1];decide⟩ c1
  ·exact .inr ⟨k.2.2,k.1⟩
 have b6:Zh x.items∧x.items.length≤8:=by
  rcases hk with hk|⟨hk,_⟩
  ·rw[hk];exact⟨fun i j hi=>by simp[R.none]at hi,by simp[R.none]⟩
  ·exact⟨hk.sort,hk.many⟩
 have a3:=fun W (ia:Option Addr) (ic:Nat) (a2:It W M (x,.slice ia x.items.length ic))=>o_ x (.slice ia x.items.length ic) text W M a2 (by have:=b6.2;omega) b6.1
 have c7:=zk c0;have c8:=zk c1
 cases a0:(x.items.any fun y=>y==text)
 ·have HR:Hid (R.takeV x s text=(10,x)):=by show _=_;rw[R.takeV,if_neg c7.out,if_neg c8.out,if_pos a0]
  rw[a0]at a3;clear a6 c1 e1 c0 b5 a1 hk b6 a0;go_enter Tryz.func63,Tryz.ntmps63;go_wp2_with fail
  refine b3.mono ?_;rintro e w0 ⟨rfl,b0⟩;subst b0;go_wp2_with fail
  refine b4.mono ?_;rintro e w1 ⟨rfl,a8⟩;go_wp2_with fail
  refine(d4 _ a8).mono ?_;rintro e w2 ⟨ia,ic,rfl,a2,a5⟩;have a7:=a8.trans (a5.mono a8.size);go_wp2_with fail
  refine(a3 _ ia ic (Rd.below a2 (by first|exact a5|exact a5.alloc a5.size _))).mono ?_;rintro e w3 ⟨rfl,a9⟩;go_wp2;go_ret2;exact⟨none,0,0,Zn (by rw[HR.out]),(fun h=>by rw[HR.out]at h;cases h),by first|exact a7.trans (a9.mono a7.size)|exact(a7.alloc a7.size _).trans (a9.mono (by simp;exact Nat.le_succ_of_le a7.size))⟩
 ·have b1:OkL x:=by
   rcases hk with hk|hk
   ·rw[hk]at a0;simp[R.none]at a0
   ·exact hk.1
  have HR:Hid (R.takeV x s text=(0,Zu x text)):=by
   show _=_;rw[R.takeV,if_neg c7.out,if_neg c8.out,if_neg (by rw[a0];simp),Zu,a6.path]
  have d7:=fun W (hW:Below w.heap.size w W) (ia:Option Addr) (ic:Nat) (a2:It W M (x,.slice ia x.items.length ic))=>KP x (.slice ia x.items.length ic) text W M (fun b hb=>by have:=HM.out b hb;have:=hW.size;omega) a2 b1 a0
  have d3:(Zu x text).kind=0∨OkL (Zu x text):=by
   by_cases hw:R.without x.items text=[]
   ·left;simp[Zu,hw]
   ·right
    refine⟨b1.path,.inr (.inr ⟨by simp[Zu,hw],rfl,rfl,hw⟩),by simp[Zu],by simp[Zu],rfl,?_,fun i hi=>b1.item i (List.mem_filter.1 hi).1,Zr.i (List.Pairwise.sublist List.filter_sublist b1.sort.k)⟩;have:=List.length_filter_le (fun y:List UInt8=> !(y==text)) x.items;have:=b1.many;simp only[Zu,R.without];omega
  have h0:(Zu x text).kind=0→pk (Zu x text)=0:=fun e=>by unfold pk;rw[e];simp
  have a4 :=fun W hW iv a2=>a1 W hW (Zu x text) iv a2 a6.path d3 h0
  have d6:(Zu x text).path=s:=a6.path;simp only[d6]at a4;rw[a0]at a3;clear a6 c1 e1 c0 b5 a1 hk b6 a0 b1 d3 h0 d6;go_enter Tryz.func63,Tryz.ntmps63;go_wp2_with fail
  refine b3.mono ?_;rintro e w0 ⟨rfl,b0⟩;subst b0;go_wp2_with fail
  refine b4.mono ?_;rintro e w1 ⟨rfl,a8⟩;go_wp2_with fail
  refine(d4 _ a8).mono ?_;rintro e w2 ⟨ia,ic,rfl,a2,a5⟩;have a7:=a8.trans (a5.mono a8.size);go_wp2_with fail
  refine(a3 _ ia ic (Rd.below a2 (by first|exact a5|exact a5.alloc a5.size _))).mono ?_;rintro e w3 ⟨rfl,a9⟩;have y0:w3.cell? ⟨w2.heap.size,0,none⟩=some (.int .i64 (pk x)):=by rw[a9.cell (p:=⟨w2.heap.size,0,none⟩) (by simp)];simp
  have y1:w3.cell? ⟨w2.heap.size,1,none⟩=some (.int .i64 x.n):=by rw[a9.cell (p:=⟨w2.heap.size,1,none⟩) (by simp)];simp
  have y2:w3.cell? ⟨w2.heap.size,2,none⟩=some (.string ⟨x.text.toArray⟩):=by rw[a9.cell (p:=⟨w2.heap.size,2,none⟩) (by simp)];simp
  have y3:w3.cell? ⟨w2.heap.size,3,none⟩=some (.slice ia x.items.length ic):=by rw[a9.cell (p:=⟨w2.heap.size,3,none⟩) (by simp)];simp
  have c9:=(a7.alloc a7.size _).trans (a9.mono (by simp;exact Nat.le_succ_of_le a7.size));have b8:Hid (It w3 M (x,.slice ia x.items.length ic)):=Rd.below (Rd.below a2 a5) (((j0g _ _).alloc (j0a _) _).trans (a9.mono (by simp)));have b7:=zk c9;clear a9 a2 a5 a8 a7 c9 a3;go_wp2_with fail
  refine(d7 _ b7.out ia ic b8.out).mono ?_;rintro e w4 ⟨ja,jc,rfl,c6,d8⟩;have b9:=b7.out.trans (d8.mono b7.out.size);go_wp2_with fail
  refine(a4 _ b9 _ c6).mono ?_;rintro e w5 ⟨v5,rfl,d5,d9⟩;obtain⟨va,vc,rfl⟩:=Q9 d5;go_wp2;go_ret2;exact⟨va,_,vc,Zn (by rw[HR.out]),(fun _=>by rw[HR.out];exact d5),b9.trans (d9.mono b9.size)⟩
