import Derived.Test.YtolgebdmffcemaaGreatDoorQ32
import Derived.Test.YtolgebdmffcemaaGreatDoorQ31
import Derived.Test.YtolgebdmffcemaaGreatDoorQ15
set_option linter.all false
set_option maxHeartbeats 20000000
set_option maxRecDepth 1000000
namespace Go.Proofs.YtolgebdmffcemaaGreatDoor
open Go.RowKit Go Go.Conc
section
variable {w:World}{M O:Nat→Prop}{B:Nat}{st:R.St}(T:Nat→Question→Nat)(d:Nat)
theorem V5.re {p:BrP}(h:V5 w M p):V5 (Go.Proofs.YtolgebdmffcemaaGreatDoor.re w T d) M p:=⟨h.c0,h.c1,h.c2,h.fr,h.work⟩
theorem Jf.re {pk:List UInt8}{bv cv pv:Value}{LB:List BrP}(h:Jf w O B pk bv cv LB pv):Jf (Go.Proofs.YtolgebdmffcemaaGreatDoor.re w T d) O B pk bv cv LB pv:=⟨h.c2,h.row,h.rowO⟩
theorem PSx.re {bv cv:Value}{LB:List BrP}{a0:List (R.Cm×Value×Value)}(h:PSx w M O B st bv cv LB a0):PSx (Go.Proofs.YtolgebdmffcemaaGreatDoor.re w T d) M O B st bv cv LB a0:=
 ⟨h.sub,h.lt,h.own,h.c0,h.c1,h.fr,h.brs,h.row,h.rowO,fun p hp=>(h.at_ p hp).re T d,h.blk,h.dist,h.cms,h.crow,h.crowO,h.ctree,h.cpar,by obtain⟨pv,hp⟩:=h.pk;exact⟨pv,hp.re T d⟩⟩
theorem PS.re (h:PS w M O B st):PS (Go.Proofs.YtolgebdmffcemaaGreatDoor.re w T d) M O B st:=by
 obtain⟨bv,cv,LB,a0,h⟩:=h;exact⟨bv,cv,LB,a0,h.re T d⟩
theorem RS.re (h:RS w M O B st):RS (Go.Proofs.YtolgebdmffcemaaGreatDoor.re w T d) M O B st:=by
 obtain⟨cv,bv,LB,a0,h⟩:=h;exact⟨cv,bv,LB,a0,h.sub,h.lt,h.own,h.c0,h.c1,h.c2,h.fr,h.brs,h.row,h.rowO,h.work,h.cms,h.crow,h.crowO,h.ctree,h.cpar,h.memo⟩
theorem Y8.re (h:Y8 w):Y8 (Go.Proofs.YtolgebdmffcemaaGreatDoor.re w T d):=⟨h.mx,h.tab,h.size⟩
theorem LWx.re {Wb:Nat}{av:Value}{ps:List (Nat×Nat)}{nv tv uv kv:Value}{names:List (Value×List UInt8)}{a0:List (Value×Int)}{last:Nat}(h:LWx w M O Wb av ps nv tv uv kv names a0 last):LWx (Go.Proofs.YtolgebdmffcemaaGreatDoor.re w T d) M O Wb av ps nv tv uv kv names a0 last:=
 ⟨h.sub,h.lt,h.own,h.c0,h.c1,h.c2,h.c3,h.c4,h.c5,h.fr,h.arow,h.nrow,h.trow,h.urow,h.krow,h.nO,h.tO,h.uO,h.kO,h.aO,h.nl,h.ul⟩
theorem LW.re {h0 Wb:Nat}{L:List SP}{names:List (Value×List UInt8)}{a0:List (Value×Int)}{last:Nat}(h:LW w h0 Wb O L names a0 last):LW (Go.Proofs.YtolgebdmffcemaaGreatDoor.re w T d) h0 Wb O L names a0 last:=
 ⟨by obtain⟨av,nv,tv,uv,kv,hl⟩:=h.lw;exact⟨av,nv,tv,uv,kv,hl.re T d⟩,fun j hj=>⟨(h.px j hj).1.re T d,(h.px j hj).2⟩,fun j hj=>⟨(h.py j hj).1.re T d,(h.py j hj).2⟩,h.d0,h.d1,h.d2,h.lo,h.lt,h.g.re T d,h.h6,h.hs,h.nb⟩
end
theorem QI.below {w w' :World}(h:QI w w'):Below w.heap.size w (Go.Proofs.YtolgebdmffcemaaGreatDoor.re w' w.tape w'.drawn):=⟨h.os,rfl,h.output,h.size,h.block⟩
theorem LW.keptM {w w' :World}{h0 Wb:Nat}{O:Nat→Prop}{L:List SP}{names:List (Value×List UInt8)}{a0:List (Value×Int)}{last:Nat}(h:LW w h0 Wb O L names a0 last)(hk:QI w w'):LW w' h0 Wb O L names a0 last:=by
 have:=(h.below hk.below).re w'.tape w'.drawn;exact this
structure ZT (h0:Nat)(w w' :World):Prop where
 os:w'.os=w.os
 output:w'.output=w.output
 size:w.heap.size≤w'.heap.size
 block:∀k,k<h0→w'.heap[k]? =w.heap[k]?
theorem ZT.refl (h0:Nat)(w:World):ZT h0 w w:=⟨rfl,rfl,j0a _,fun _ _=>rfl⟩
theorem ZT.re {h0:Nat}{w w' :World}(h:ZT h0 w w')(T:Nat→Question→Nat)(d:Nat):ZT h0 w (Go.Proofs.YtolgebdmffcemaaGreatDoor.re w' T d):=⟨h.os,h.output,h.size,h.block⟩
theorem ZT.trans {h0:Nat}{w w1 w2:World}(h:ZT h0 w w1)(h2:ZT h0 w1 w2):ZT h0 w w2:=⟨h2.os.trans h.os,h2.output.trans h.output,j0f h.size h2.size,fun k hk=>(h2.block k hk).trans (h.block k hk)⟩
theorem ZT.of {h0:Nat}{w w' :World}(h:Below h0 w w'):ZT h0 w w' :=⟨h.os,h.output,h.size,h.block⟩
def Fn (w0 wr:World)(h0 Wb c:Nat)(len:Nat):Prop:=∃O L names nums last,LW wr h0 Wb O L names nums last∧L.length=len∧xZ (300000*c) L∧names.length≤9*c∧last≤c∧ZT h0 w0 wr
theorem Fn.re {w0 wr:World}{h0 Wb c a7:Nat}(h:Fn w0 wr h0 Wb c a7)(T:Nat→Question→Nat)(d:Nat):Fn w0 (Go.Proofs.YtolgebdmffcemaaGreatDoor.re wr T d) h0 Wb c a7:=by
 obtain⟨O,L,names,a0,last,a1,a2,a3,a4,a5,a6⟩:=h;exact⟨O,L,names,a0,last,a1.re T d,a2,a3,a4,a5,a6.re T d⟩
def GoesM (w w' :World)(h0 Wb:Nat)(len nm la K:Nat):Prop:=∃O L' names nums last,LW w' h0 Wb O L' names nums last∧L'.length=len∧xZ K L' ∧names.length≤nm∧last≤la∧ZT h0 w w'
theorem GoesM.re {w w' :World}{h0 Wb a7 nm la K:Nat}(h:GoesM w w' h0 Wb a7 nm la K)(T:Nat→Question→Nat)(d:Nat):GoesM w (Go.Proofs.YtolgebdmffcemaaGreatDoor.re w' T d) h0 Wb a7 nm la K:=by
 obtain⟨O,L',names,a0,last,a1,a2,a3,a4,a5,a6⟩:=h;exact⟨O,L',names,a0,last,a1.re T d,a2,a3,a4,a5,a6.re T d⟩
section
theorem U0 {w:World}{h0 Wb:Nat}{O:Nat→Prop}{L:List SP}{names:List (Value×List UInt8)}{a2:List (Value×Int)}{last K:Nat}(h:LW w h0 Wb O L names a2 last)(hA:xZ K L)(g6:last≤1000000)(i:Nat)(hi:i<L.length)(wi n m:Int)(s t u:List UInt8):
  CallsT Tryz.prog 82 #[.pointer (some ⟨Wb,0,none⟩),.agg #[.pointer (some ⟨L[i].bx,0,none⟩),.pointer (some ⟨L[i].by_,0,none⟩)],.agg (opC 14 wi n m s t u)] w fun v w' =>v= .bool true∧GoesM w w' h0 Wb L.length names.length (last+1) K:=by
 have hP:=jb;have a9:=(hA i hi).1;have HX:=fun W (hW:LW W h0 Wb O L names a2 last)=>ov L[i].bx L[i].sx s W (MM O L) L[i].ox (hW.px i hi).1 (hW.px i hi).2
 have HY:=fun W (hW:LW W h0 Wb O L names a2 last)=>oN L[i].by_ L[i].sy s W (MM O L) L[i].oy (hW.py i hi).1 (hW.py i hi).2
 rw[a9]at HX;have HH:=zl h;have HA:=zl hA;unfold opC;have c6:(yh L[i].sy s).1.length≤60:=by
  unfold yh;split
  ·simp
  ·have:=qP (R.parents L[i].sy) L[i].sy.cms.length [R.headOf L[i].sy s]
   have:=(h.py i hi).2.few;simp only;omega
 clear a9 h hA;generalize yh L[i].sy s=r at*;generalize L[i].bx=bx at*;generalize L[i].by_=by_ at*;obtain⟨H,e0⟩:=r;dsimp only at c6 HX HY;have g0:=zl HX;have g1:=zl HY;clear HX HY;refine yE hP Tryz.func82 rfl ?_;have b7:ReC (XG Tryz.prog Tryz.f82 (fun v w' =>v= .bool true∧GoesM w w' h0 Wb L.length names.length (last+1) K)):=ReC.body fun v w' T d ⟨h1,h2⟩=>⟨h1,h2.re T d⟩
 simp only[Tryz.ntmps82,List.size_toArray,List.length_cons,List.length_nil,Nat.reduceAdd,Nat.reduceSub,Array.replicate_succ,Array.replicate_zero,List.push_toArray,List.append_toArray,List.nil_append,List.cons_append];refine zJ hP b7 fun T d=> ?_
 go_wp2;have b8:Below w.heap.size (re w T d) (((re w T d).alloc (Obj.cells #[.pointer (some ⟨bx,0,none⟩),.pointer (some ⟨by_,0,none⟩)] 85)).alloc (Obj.cells #[.int .i64 14,.int .i64 wi,.int .i64 n,.int .i64 m,.string ⟨s.toArray⟩,.string ⟨t.toArray⟩,.string ⟨u.toArray⟩] 73)):=((j0g w.heap.size (re w T d)).alloc (j0a w.heap.size) _).alloc (by show w.heap.size≤_;simp[re]) _;have d4:Hid (LW (((re w T d).alloc (Obj.cells #[.pointer (some ⟨bx,0,none⟩),.pointer (some ⟨by_,0,none⟩)] 85)).alloc (Obj.cells #[.int .i64 14,.int .i64 wi,.int .i64 n,.int .i64 m,.string ⟨s.toArray⟩,.string ⟨t.toArray⟩,.string ⟨u.toArray⟩] 73)) h0 Wb O L names a2 last):=(HH.out.re T d).below b8;have c9:Hid (ZT h0 w (((re w T d).alloc (Obj.cells #[.pointer (some ⟨bx,0,none⟩),.pointer (some ⟨by_,0,none⟩)] 85)).alloc (Obj.cells #[.int .i64 14,.int .i64 wi,.int .i64 n,.int .i64 m,.string ⟨s.toArray⟩,.string ⟨t.toArray⟩,.string ⟨u.toArray⟩] 73))):=((ZT.refl h0 w).re T d).trans (ZT.of (b8.mono HH.out.hs));have y0:(((re w T d).alloc (Obj.cells #[.pointer (some ⟨bx,0,none⟩),.pointer (some ⟨by_,0,none⟩)] 85)).alloc (Obj.cells #[.int .i64 14,.int .i64 wi,.int .i64 n,.int .i64 m,.string ⟨s.toArray⟩,.string ⟨t.toArray⟩,.string ⟨u.toArray⟩] 73)).cell? ⟨w.heap.size,0,none⟩=some (.pointer (some ⟨bx,0,none⟩)):=by rw[World.cell?_alloc_past _ _ _ (by simp[re])];refine Eq.trans (World.cell?_alloc_at _ _ _ _ rfl) rfl
 have y1:(((re w T d).alloc (Obj.cells #[.pointer (some ⟨bx,0,none⟩),.pointer (some ⟨by_,0,none⟩)] 85)).alloc (Obj.cells #[.int .i64 14,.int .i64 wi,.int .i64 n,.int .i64 m,.string ⟨s.toArray⟩,.string ⟨t.toArray⟩,.string ⟨u.toArray⟩] 73)).cell? ⟨w.heap.size,1,none⟩=some (.pointer (some ⟨by_,0,none⟩)):=by rw[World.cell?_alloc_past _ _ _ (by simp[re])];refine Eq.trans (World.cell?_alloc_at _ _ _ _ rfl) rfl
 have z0:(((re w T d).alloc (Obj.cells #[.pointer (some ⟨bx,0,none⟩),.pointer (some ⟨by_,0,none⟩)] 85)).alloc (Obj.cells #[.int .i64 14,.int .i64 wi,.int .i64 n,.int .i64 m,.string ⟨s.toArray⟩,.string ⟨t.toArray⟩,.string ⟨u.toArray⟩] 73)).cell? ⟨w.heap.size+1,0,none⟩=some (.int .i64 14):=by rw[World.cell?_alloc_at _ _ _ _ (by simp[re])];rfl
 have z4:(((re w T d).alloc (Obj.cells #[.pointer (some ⟨bx,0,none⟩),.pointer (some ⟨by_,0,none⟩)] 85)).alloc (Obj.cells #[.int .i64 14,.int .i64 wi,.int .i64 n,.int .i64 m,.string ⟨s.toArray⟩,.string ⟨t.toArray⟩,.string ⟨u.toArray⟩] 73)).cell? ⟨w.heap.size+1,4,none⟩=some (.string ⟨s.toArray⟩):=by rw[World.cell?_alloc_at _ _ _ _ (by simp[re])];rfl
 have hz:w.heap.size+2≤(((re w T d).alloc (Obj.cells #[.pointer (some ⟨bx,0,none⟩),.pointer (some ⟨by_,0,none⟩)] 85)).alloc (Obj.cells #[.int .i64 14,.int .i64 wi,.int .i64 n,.int .i64 m,.string ⟨s.toArray⟩,.string ⟨t.toArray⟩,.string ⟨u.toArray⟩] 73)).heap.size:=by simp[re]
 have e8:(re w T d).heap.size=w.heap.size:=rfl;rw[e8];generalize((re w T d).alloc (Obj.cells #[.pointer (some ⟨bx,0,none⟩),.pointer (some ⟨by_,0,none⟩)] 85)).alloc (Obj.cells #[.int .i64 14,.int .i64 wi,.int .i64 n,.int .i64 m,.string ⟨s.toArray⟩,.string ⟨t.toArray⟩,.string ⟨u.toArray⟩] 73)=W2 at*;clear b8 e8;refine zJ hP b7 fun T1 d1=> ?_
 have i1 :(re W2 T1 d1).cell? ⟨w.heap.size+1,0,none⟩=some (.int .i64 14):=z0;have f0 :(re W2 T1 d1).cell? ⟨w.heap.size+1,4,none⟩=some (.string ⟨s.toArray⟩):=z4;have i0 :(re W2 T1 d1).cell? ⟨w.heap.size,0,none⟩=some (.pointer (some ⟨bx,0,none⟩)):=y0;have e9 :(re W2 T1 d1).cell? ⟨w.heap.size,1,none⟩=some (.pointer (some ⟨by_,0,none⟩)):=y1;have a4:=zl (d4.out.re T1 d1);have d3:=zl (c9.out.re T1 d1);have i7:w.heap.size+2≤(re W2 T1 d1).heap.size:=hz;clear z0 z4 y0 y1 hz d4 c9;generalize re W2 T1 d1=W3 at*;go_wp2;clear i1;refine ZL hP ?_;refine Zw hP ?_;simp only[List.size_toArray,List.length_cons,List.length_nil,Nat.reduceAdd,Nat.zero_add,List.range,List.range.loop];co_applyP zH hP rfl (by rfl)
 case hv=>intro W K hK;go_simp;exact hK
 try walk_nrm
 refine xo hP rfl (by rfl) (fun v w' =>v= .pointer (some ⟨bx,0,none⟩)∧∃T d,w' =re W3 T d) (fun v w' T d ⟨e,T',d',e'⟩=>⟨e,T,d,by rw[e'];rfl⟩) (fun T d=>⟨.pointer (some ⟨bx,0,none⟩),re W3 T d,?_,rfl,T,d,rfl⟩) ?_
 ·have b5 :(re W3 T d).cell? ⟨w.heap.size,0,none⟩=some (.pointer (some ⟨bx,0,none⟩)):=by assumption
  unfold execOp;simp[go_sem,b5,Act.eval]
 rintro v w' ⟨rfl,Ta,g3,rfl⟩;refine xT ?_ Ta g3;try walk_nrm
 co_applyP zH hP rfl (by rfl)
 case hv=>intro W K hK;go_simp;exact hK
 try walk_nrm
 refine xo hP rfl (by rfl) (fun v w' =>v= .string ⟨s.toArray⟩∧∃T d,w' =re W3 T d) (fun v w' T d ⟨e,T',d',e'⟩=>⟨e,T,d,by rw[e'];rfl⟩) (fun T d=>⟨.string ⟨s.toArray⟩,re W3 T d,?_,rfl,T,d,rfl⟩) ?_
 ·have b5 :(re W3 T d).cell? ⟨w.heap.size+1,4,none⟩=some (.string ⟨s.toArray⟩):=by assumption
  unfold execOp;simp[go_sem,b5,Act.eval]
 rintro v w' ⟨rfl,Tb,g4,rfl⟩;refine xT ?_ Tb g4;try walk_nrm
 refine Yc hP rfl (by rfl) rfl (by simp[Act.eval]) Tryz.func38 (by decide) rfl (g0.out _ a4.out) ?_;rintro v w4 ⟨hv,rfl,a8,a7,a1⟩;try walk_nrm
 co_applyP zH hP rfl (by rfl)
 case hv=>intro W K hK;go_simp;exact hK
 try walk_nrm
 co_applyP zH hP rfl (by rfl)
 case hv=>intro W K hK;go_simp;exact hK
 try walk_nrm
 co_applyP zH hP rfl (by rfl)
 case hv=>intro W K hK;go_simp;exact hK
 try walk_nrm
 co_applyP zH hP rfl (by rfl)
 case hv=>intro W K hK;go_simp;exact hK
 try walk_nrm
 co_applyP zH hP rfl (by rfl)
 case hv=>intro W K hK;go_simp;exact hK
 try walk_nrm
 refine yz hP ?_;simp only[Exit.then];refine xd hP b7 fun T2 d2=> ?_
 have i8:=a1.size;have i9:(re w4 T2 d2).cell? ⟨w.heap.size,1,none⟩=some (.pointer (some ⟨by_,0,none⟩)):=(World.cell?_of_block (a:=⟨w.heap.size,1,none⟩) (a1.block w.heap.size (by omega))).trans e9;have j0:(re w4 T2 d2).cell? ⟨w.heap.size+1,4,none⟩=some (.string ⟨s.toArray⟩):=(World.cell?_of_block (a:=⟨w.heap.size+1,4,none⟩) (a1.block (w.heap.size+1) (by omega))).trans f0;have b1:=zl (a4.out.re T2 d2);have f7:=zl ((a4.out.keptM a1).re T2 d2);have f4:Hid (Below W3.heap.size (re W3 T2 d2) (re w4 T2 d2)):=⟨a1.os,rfl,a1.output,a1.size,a1.block⟩
 have f6:=zl (d3.out.re T2 d2);have a0:(re w4 T2 d2).ownsRow W3.heap.size 3 1 hv H.length (yt H):=by
  obtain⟨h1,h2⟩:=a8;refine⟨h1,?_⟩;rcases h2 with h2|⟨g',b6,g2,h3,h4,h5⟩
  ·exact .inl h2
  ·exact .inr ⟨g',b6,g2,h3,a7 g' (by rw[h3];rfl),h5⟩
 have i6:(re w4 T2 d2).heap.size=w4.heap.size:=rfl;have d6:(re W3 T2 d2).heap.size=W3.heap.size:=rfl;clear a1 a7 a8 i0 e9 f0 a4 d3;generalize re w4 T2 d2=W5 at*;generalize re W3 T2 d2=Wz at*;have h7:W3.heap.size≤W5.heap.size:=by omega
 obtain⟨la,lc,g8,i2,g5,e1,e2⟩:=za a0;subst g8;have b4:=zl a0;have d5:=zl e2;have a4:=zl e1;unfold maxLen at g5;clear a0 e2 e1;go_wp2_with fail
 refine(g1.out _ f7.out).mono ?_;rintro e w6 ⟨v6,rfl,a3,b2⟩;obtain⟨ma,mc,c8,i3,g7,e5,e6⟩:=za a3;subst c8;unfold maxLen at g7;have f9:=zl e6;have f8:=zl e5;have f3:=zl b2;have a5:=zl (zw b4.out b2);have b3 :Hid (∀ad,la=some ad→∃g,ad=⟨g,0,none⟩∧∀j u,(yt H)[j]? =some u→w6.cell? ⟨g,j,none⟩=some u):=fun ad e=>by
  obtain⟨g,h1,_,h2,_,h3⟩:=d5.out ad e;exact⟨g,h1,fun j u hu=>(b2.cell (p:=⟨g,j,none⟩) h2).trans (h3 j u hu)⟩
 clear a3 e5 e6 b2 d5;go_wp2_with fail
 refine(JR e0 _).mono ?_;rintro e w7 ⟨rfl,g9⟩;subst g9;go_wp2;go_loopw [27,28] (fun o i wr=>∃k q:Nat,k≤H.length∧i= .int .i64 k∧o= .bool true∧wr=w7.drewN q) (fun _ i _=>H.length-(intOf i).toNat)
 case atStart=>exact⟨0,0,Nat.zero_le _,rfl,by first|rfl|simp,rfl⟩
 case round=>
  obtain⟨k,q,hk,rfl,rfl,rfl⟩:=hrel;by_cases e3:k<H.length
  ·have b9 :∃gl,la=some ⟨gl,0,none⟩∧w7.cell? ⟨gl,k,none⟩=some (.int .i64 (H[k]:Nat)):=by
    cases la with
    |none=>exact absurd (a4.out rfl).1 (by omega)
    |some ad=>
     obtain⟨g,rfl,h1⟩:=b3.out ad rfl;exact⟨g,rfl,h1 k _ (by simp[yt,e3])⟩
   have c7 :∃gm,ma=some ⟨gm,0,none⟩∧w7.cell? ⟨gm,k,none⟩=some (.int .i64 (H[k]:Nat)):=by
    cases ma with
    |none=>exact absurd (f8.out rfl).1 (by omega)
    |some ad=>
     obtain⟨g,rfl,_,_,_,h1⟩:=f9.out ad rfl;exact⟨g,rfl,h1 k _ (by simp[yt,e3])⟩
   obtain⟨gl,rfl,c1⟩:=b9;obtain⟨gm,rfl,c2⟩:=c7;generalize H[k]=x at*;go_wp2;go_quiet (fail)
   go_wp2;go_roundw
   case rel=>exact⟨k+1,_,by omega,by go_num,by first|rfl|simp,by first|rfl|exact World.drewN_drewN _ _ _⟩
   case measure=>simp[intOf];omega
  ·obtain rfl:k=H.length:=by omega
   obtain⟨av,nv,tv,uv,kv,e4⟩:=b1.out.lw;have i5:=b1.out.nb;have f5:=zl (KM (w:=w7.drewN q) e4 b1.out.lt (by
    rw[d6];have h5:=f4.out.trans (f3.out.mono h7);exact below_drewN h5 q) (by rw[d6];exact Zx a5.out) (by omega) g6 (by omega))
   clear e4;go_wp2_with fail
   refine f5.out.mono ?_;rintro e w8 ⟨rfl,h9,h8,b0,i4,d9,d8,e7⟩;obtain⟨a6,d7⟩:=b1.out.mine d8 e7 ⟨av,nv,tv,h9,h8,d9⟩ (by omega);have HG:Hid (GoesM w w8 h0 Wb L.length names.length (last+1) K):=⟨_,L,names,b0,last+1,a6,rfl,HA.out,j0a _,j0a _,f6.out.trans (ZT.of d7)⟩
   clear d9 d8 a6 d7 e7;go_wp2;exact⟨rfl,.bool true,fun W=>by simp[results,Tryz.results82,go_sem],rfl,HG.out⟩
end
section
theorem u_ {w:World}{h0 Wb:Nat}{O:Nat→Prop}{L:List SP}{names:List (Value×List UInt8)}{b2:List (Value×Int)}{last K:Nat}(h:LW w h0 Wb O L names b2 last)(hA:xZ K L)(g0:last≤1000000)(hL:0<L.length)(g5:L.length≤1000)(wi n m:Int)(s t u:List UInt8)
  (g1:wi≤9223372036854775807)(g2: -9223372036854775808≤wi):
  CallsT Tryz.prog 43 #[.pointer (some ⟨Wb,0,none⟩),.agg (opC 14 wi n m s t u)] w fun v w' =>v= .bool true∧GoesM w w' h0 Wb L.length names.length (last+1) K:=by
 have hP:=jb;obtain⟨i,hi,e8⟩:=UT wi L.length hL;have HP:=fun W=>g9 wi (L.length:Int) W (by omega) (by omega) g2 g1
 rw[e8]at HP;have HC:=fun W (hW:LW W h0 Wb O L names b2 last)=>U0 hW hA g0 i hi wi n m s t u
 unfold opC at HC⊢;have HH:=zl h;obtain⟨av,nv,tv,uv,kv,hl⟩:=h.lw;have f7:=hl.lt Wb hl.own;have c0:=hl.c0;have b0:=hl.arow;rw[List.length_map]at b0;obtain⟨aa,ac,e7,g6,f8,e5,e6⟩:=za b0;rw[e7]at c0
 cases aa with
 |none=>have:=(e5 rfl).1;omega
 |some ad=>
 obtain⟨g,rfl,_,hg,_,a7⟩:=e6 ad rfl;have c9:=Qi (L.map fun p=>(p.bx,p.by_)) i (by simpa using hi);have d1:=a7 _ _ c9.1;have d2:=a7 _ _ c9.2;simp only[List.getElem_map]at d1 d2;unfold maxLen at f8;clear h hA hl b0 e7 e5 e6 a7 c9 e8;generalize L[i].bx=bx at*;generalize L[i].by_=by_ at*;have b7:=zl HP;have b5:=zl HC;clear HP HC;refine yE hP Tryz.func43 rfl ?_;have a9:ReC (XG Tryz.prog Tryz.f43 (fun v w' =>v= .bool true∧GoesM w w' h0 Wb L.length names.length (last+1) K)):=ReC.body fun v w' T d ⟨h1,h2⟩=>⟨h1,h2.re T d⟩
 simp only[Tryz.ntmps43,List.size_toArray,List.length_cons,List.length_nil,Nat.reduceAdd,Nat.reduceSub,Array.replicate_succ,Array.replicate_zero,List.push_toArray,List.append_toArray,List.nil_append,List.cons_append];refine zJ hP a9 fun T d=> ?_
 go_wp2;have b4:Below w.heap.size (re w T d) ((re w T d).alloc (Obj.cells #[.int .i64 14,.int .i64 wi,.int .i64 n,.int .i64 m,.string ⟨s.toArray⟩,.string ⟨t.toArray⟩,.string ⟨u.toArray⟩] 73)):=(j0g w.heap.size (re w T d)).alloc (j0a w.heap.size) _;have e3:Hid (LW ((re w T d).alloc (Obj.cells #[.int .i64 14,.int .i64 wi,.int .i64 n,.int .i64 m,.string ⟨s.toArray⟩,.string ⟨t.toArray⟩,.string ⟨u.toArray⟩] 73)) h0 Wb O L names b2 last):=(HH.out.re T d).below b4;have d7:Hid (ZT h0 w ((re w T d).alloc (Obj.cells #[.int .i64 14,.int .i64 wi,.int .i64 n,.int .i64 m,.string ⟨s.toArray⟩,.string ⟨t.toArray⟩,.string ⟨u.toArray⟩] 73))):=((ZT.refl h0 w).re T d).trans (ZT.of (b4.mono HH.out.hs));have b3:Hid (∀j v,(#[.int .i64 14,.int .i64 wi,.int .i64 n,.int .i64 m,.string ⟨s.toArray⟩,.string ⟨t.toArray⟩,.string ⟨u.toArray⟩]:Array Value)[j]? =some v→((re w T d).alloc (Obj.cells #[.int .i64 14,.int .i64 wi,.int .i64 n,.int .i64 m,.string ⟨s.toArray⟩,.string ⟨t.toArray⟩,.string ⟨u.toArray⟩] 73)).cell? ⟨w.heap.size,j,none⟩=some v):=fun j v hv=>Eq.trans (World.cell?_alloc_at _ _ _ _ rfl) hv
 have e0:((re w T d).alloc (Obj.cells #[.int .i64 14,.int .i64 wi,.int .i64 n,.int .i64 m,.string ⟨s.toArray⟩,.string ⟨t.toArray⟩,.string ⟨u.toArray⟩] 73)).cell? ⟨Wb,0,none⟩=some (.slice (some ⟨g,0,none⟩) L.length ac):=(b4.cell (p:=⟨Wb,0,none⟩) f7).trans c0;have e1:((re w T d).alloc (Obj.cells #[.int .i64 14,.int .i64 wi,.int .i64 n,.int .i64 m,.string ⟨s.toArray⟩,.string ⟨t.toArray⟩,.string ⟨u.toArray⟩] 73)).cell? ⟨g,i*2,none⟩=some (.pointer (some ⟨bx,0,none⟩)):=(b4.cell (p:=⟨g,i*2,none⟩) hg).trans d1;have e2:((re w T d).alloc (Obj.cells #[.int .i64 14,.int .i64 wi,.int .i64 n,.int .i64 m,.string ⟨s.toArray⟩,.string ⟨t.toArray⟩,.string ⟨u.toArray⟩] 73)).cell? ⟨g,i*2+1,none⟩=some (.pointer (some ⟨by_,0,none⟩)):=(b4.cell (p:=⟨g,i*2+1,none⟩) hg).trans d2;have f3:w.heap.size<((re w T d).alloc (Obj.cells #[.int .i64 14,.int .i64 wi,.int .i64 n,.int .i64 m,.string ⟨s.toArray⟩,.string ⟨t.toArray⟩,.string ⟨u.toArray⟩] 73)).heap.size:=by simp[re]
 have e9:(re w T d).heap.size=w.heap.size:=rfl;rw[e9];generalize(re w T d).alloc (Obj.cells #[.int .i64 14,.int .i64 wi,.int .i64 n,.int .i64 m,.string ⟨s.toArray⟩,.string ⟨t.toArray⟩,.string ⟨u.toArray⟩] 73)=W1 at*;clear b4 e9 c0 d1 d2;refine zJ hP a9 fun T1 d1=> ?_
 have f0:(re W1 T1 d1).cell? ⟨Wb,0,none⟩=some (.slice (some ⟨g,0,none⟩) L.length ac):=e0;have f1:(re W1 T1 d1).cell? ⟨g,i*2,none⟩=some (.pointer (some ⟨bx,0,none⟩)):=e1;have f2:(re W1 T1 d1).cell? ⟨g,i*2+1,none⟩=some (.pointer (some ⟨by_,0,none⟩)):=e2;have a8:Hid (∀j v,(#[.int .i64 14,.int .i64 wi,.int .i64 n,.int .i64 m,.string ⟨s.toArray⟩,.string ⟨t.toArray⟩,.string ⟨u.toArray⟩]:Array Value)[j]? =some v→(re W1 T1 d1).cell? ⟨w.heap.size,j,none⟩=some v):=b3.out;have e4:=zl (e3.out.re T1 d1);have d8:=zl (d7.out.re T1 d1);have f4:w.heap.size<(re W1 T1 d1).heap.size:=f3;clear e0 e1 e2 b3 e3 d7 f3;generalize re W1 T1 d1=W2 at*;have o0:W2.cell? ⟨w.heap.size,0,none⟩=some (.int .i64 14):=a8.out 0 _ rfl;go_wp2;refine zJ hP a9 fun T2 d2=> ?_
 have e0:(re W2 T2 d2).cell? ⟨Wb,0,none⟩=some (.slice (some ⟨g,0,none⟩) L.length ac):=f0;have e1:(re W2 T2 d2).cell? ⟨g,i*2,none⟩=some (.pointer (some ⟨bx,0,none⟩)):=f1;have e2:(re W2 T2 d2).cell? ⟨g,i*2+1,none⟩=some (.pointer (some ⟨by_,0,none⟩)):=f2;have b3:Hid (∀j v,(#[.int .i64 14,.int .i64 wi,.int .i64 n,.int .i64 m,.string ⟨s.toArray⟩,.string ⟨t.toArray⟩,.string ⟨u.toArray⟩]:Array Value)[j]? =some v→(re W2 T2 d2).cell? ⟨w.heap.size,j,none⟩=some v):=a8.out;have c8:=zl (e4.out.re T2 d2);have d9:=zl (d8.out.re T2 d2);have g4:w.heap.size<(re W2 T2 d2).heap.size:=f4;clear f0 f1 f2 a8 e4 d8 f4 o0;generalize re W2 T2 d2=W3 at*;have o1:W3.cell? ⟨w.heap.size,1,none⟩=some (.int .i64 wi):=b3.out 1 _ rfl;go_wp2;go_region_held3 (fun w' =>w'.cell? ⟨Wb,0,none⟩=some (.slice (some ⟨g,0,none⟩) L.length ac)∧w'.cell? ⟨w.heap.size,1,none⟩=some (.int .i64 wi)∧w'.cell? ⟨g,i*2,none⟩=some (.pointer (some ⟨bx,0,none⟩))∧w'.cell? ⟨g,i*2+1,none⟩=some (.pointer (some ⟨by_,0,none⟩))) (go_keep) (first
  |(go_at_call 79;refine(b7.out _).mono ?_;rintro e w4 ⟨rfl,g3⟩;subst g3))
 all_goals
  rename_i b8;clear b8;go_wp2;have c7:Below W3.heap.size W3 ((W3.alloc (Obj.cells #[.pointer (some ⟨bx,0,none⟩),.pointer (some ⟨by_,0,none⟩)] 85)).drew):=((j0g _ _).alloc (j0a _) _).drew;have f6:=zl (c8.out.below c7);have f5:Hid (ZT h0 w ((W3.alloc (Obj.cells #[.pointer (some ⟨bx,0,none⟩),.pointer (some ⟨by_,0,none⟩)] 85)).drew)):=d9.out.trans (ZT.of (c7.mono c8.out.hs));have p0:((W3.alloc (Obj.cells #[.pointer (some ⟨bx,0,none⟩),.pointer (some ⟨by_,0,none⟩)] 85)).drew).cell? ⟨W3.heap.size,0,none⟩=some (.pointer (some ⟨bx,0,none⟩)):=Eq.trans (World.cell?_alloc_at _ _ _ _ rfl) rfl;have p1:((W3.alloc (Obj.cells #[.pointer (some ⟨bx,0,none⟩),.pointer (some ⟨by_,0,none⟩)] 85)).drew).cell? ⟨W3.heap.size,1,none⟩=some (.pointer (some ⟨by_,0,none⟩)):=Eq.trans (World.cell?_alloc_at _ _ _ _ rfl) rfl;have b6:Hid (∀j v,(#[.int .i64 14,.int .i64 wi,.int .i64 n,.int .i64 m,.string ⟨s.toArray⟩,.string ⟨t.toArray⟩,.string ⟨u.toArray⟩]:Array Value)[j]? =some v→((W3.alloc (Obj.cells #[.pointer (some ⟨bx,0,none⟩),.pointer (some ⟨by_,0,none⟩)] 85)).drew).cell? ⟨w.heap.size,j,none⟩=some v):=fun j v hv=>(c7.cell (p:=⟨w.heap.size,j,none⟩) g4).trans (b3.out j v hv)
  generalize(W3.alloc (Obj.cells #[.pointer (some ⟨bx,0,none⟩),.pointer (some ⟨by_,0,none⟩)] 85)).drew=W4 at*;generalize W3.heap.size=pb at*;clear c7 e0 e1 e2 o1 b3 c8 d9;refine ZL hP ?_;refine zJ hP a9.thenT fun T3 d3=> ?_
  have o0:(re W4 T3 d3).cell? ⟨w.heap.size,0,none⟩=some (.int .i64 14):=b6.out 0 _ rfl;go_wp2;refine x_ ?_ T3 d3;clear o0;refine V6 hP ?_;refine zJ hP a9.thenT.inBlock fun T4 d4=> ?_
  go_wp2;refine x_ ?_ T4 d4;refine xe (t:=false) hP (by simp[Act.eval]) ?_;simp only[Bool.false_eq_true,if_false];refine zJ hP a9.thenT.inBlock fun T5 d5=> ?_
  go_wp2;refine x_ ?_ T5 d5;refine xe (t:=false) hP (by simp[Act.eval]) ?_;simp only[Bool.false_eq_true,if_false];refine zJ hP a9.thenT.inBlock fun T6 d6=> ?_
  go_wp2;refine x_ ?_ T6 d6;refine xe (t:=true) hP (by simp[Act.eval]) ?_;simp only[if_true];refine ZL hP ?_;refine Zw hP ?_;simp only[List.size_toArray,List.length_cons,List.length_nil,Nat.reduceAdd,Nat.zero_add,List.range,List.range.loop];co_applyP zH hP rfl (by rfl)
  case hv=>intro W K hK;go_simp;exact hK
  try walk_nrm
  refine xo hP rfl (by rfl) (fun v w' =>v= .agg #[.pointer (some ⟨bx,0,none⟩),.pointer (some ⟨by_,0,none⟩)]∧∃T d,w' =re W4 T d) (fun v w' T d ⟨e,T',d',e'⟩=>⟨e,T,d,by rw[e'];rfl⟩) (fun T d=>⟨.agg #[.pointer (some ⟨bx,0,none⟩),.pointer (some ⟨by_,0,none⟩)],re W4 T d,?_,rfl,T,d,rfl⟩) ?_
  ·have c0:(re W4 T d).cell? ⟨pb,0,none⟩=some (.pointer (some ⟨bx,0,none⟩)):=p0
   have c1:(re W4 T d).cell? ⟨pb,1,none⟩=some (.pointer (some ⟨by_,0,none⟩)):=p1;unfold execOp;simp[go_sem,c0,c1,Act.eval]
  rintro v w' ⟨rfl,Ta,da,rfl⟩;refine xT ?_ Ta da;try walk_nrm
  refine xo hP rfl (by rfl) (fun v w' =>v= .agg #[.int .i64 14,.int .i64 wi,.int .i64 n,.int .i64 m,.string ⟨s.toArray⟩,.string ⟨t.toArray⟩,.string ⟨u.toArray⟩]∧∃T d,w' =re W4 T d) (fun v w' T d ⟨e,T',d',e'⟩=>⟨e,T,d,by rw[e'];rfl⟩) (fun T d=>⟨.agg #[.int .i64 14,.int .i64 wi,.int .i64 n,.int .i64 m,.string ⟨s.toArray⟩,.string ⟨t.toArray⟩,.string ⟨u.toArray⟩],re W4 T d,?_,rfl,T,d,rfl⟩) ?_
  ·have a0:Hid (∀j v,(#[.int .i64 14,.int .i64 wi,.int .i64 n,.int .i64 m,.string ⟨s.toArray⟩,.string ⟨t.toArray⟩,.string ⟨u.toArray⟩]:Array Value)[j]? =some v→(re W4 T d).cell? ⟨w.heap.size,j,none⟩=some v):=b6.out
   have o0:(re W4 T d).cell? ⟨w.heap.size,0,none⟩=some (.int .i64 14):=a0.out 0 _ rfl;have o1:(re W4 T d).cell? ⟨w.heap.size,1,none⟩=some (.int .i64 wi):=a0.out 1 _ rfl;have o2:(re W4 T d).cell? ⟨w.heap.size,2,none⟩=some (.int .i64 n):=a0.out 2 _ rfl;have o3:(re W4 T d).cell? ⟨w.heap.size,3,none⟩=some (.int .i64 m):=a0.out 3 _ rfl;have o4:(re W4 T d).cell? ⟨w.heap.size,4,none⟩=some (.string ⟨s.toArray⟩):=a0.out 4 _ rfl;have o5:(re W4 T d).cell? ⟨w.heap.size,5,none⟩=some (.string ⟨t.toArray⟩):=a0.out 5 _ rfl;have o6:(re W4 T d).cell? ⟨w.heap.size,6,none⟩=some (.string ⟨u.toArray⟩):=a0.out 6 _ rfl;unfold execOp;simp[go_sem,o0,o1,o2,o3,o4,o5,o6,Act.eval]
  rintro v w' ⟨rfl,Tb,db,rfl⟩;refine xT ?_ Tb db;try walk_nrm
  refine Yc hP rfl (by rfl) rfl (by simp[Act.eval]) Tryz.func82 (by decide) rfl (b5.out _ f6.out) ?_;rintro v w5 ⟨rfl,f9⟩;try walk_nrm
  co_applyP zH hP rfl (by rfl)
  case hv=>intro W K hK;go_simp;exact hK
  try walk_nrm
  refine yz hP ?_;simp only[Exit.then];refine jI hP ?_;obtain⟨O',L',b1,c6,b9,a1,a2,a3,a4,a5,a6⟩:=f9;exact⟨rfl,.bool true,fun W=>by simp[results,Tryz.results43,go_sem],rfl,O',L',b1,c6,b9,a1,a2,a3,a4,a5,f5.out.trans a6⟩
end
theorem Goes.fn {w0 w w' :World}{h0 Wb a7 nm la K c:Nat}(h:Goes w w' h0 Wb a7 nm la K)(hb:ZT h0 w0 w)(h1:nm≤9*(c+1))(h2:la≤c+1)(h3:K≤300000*(c+1)):Fn w0 w' h0 Wb (c+1) a7:=by
 obtain⟨O,L,names,a0,last,a1,a2,a3,a4,a5,a6⟩:=h;exact⟨O,L,names,a0,last,a1,a2,fun j hj=>⟨(a3 j hj).1,by have:=(a3 j hj).2;omega⟩,by omega,by omega,hb.trans (ZT.of a6)⟩
theorem GoesM.fn {w0 w w' :World}{h0 Wb a7 nm la K c:Nat}(h:GoesM w w' h0 Wb a7 nm la K)(hb:ZT h0 w0 w)(h1:nm≤9*(c+1))(h2:la≤c+1)(h3:K≤300000*(c+1)):Fn w0 w' h0 Wb (c+1) a7:=by
 obtain⟨O,L,names,a0,last,a1,a2,a3,a4,a5,a6⟩:=h;exact⟨O,L,names,a0,last,a1,a2,fun j hj=>⟨(a3 j hj).1,by have:=(a3 j hj).2;omega⟩,by omega,by omega,hb.trans a6⟩
theorem QN {w0 w:World}{h0 Wb c a7:Nat}(h:Fn w0 w h0 Wb c a7)(hc:c≤250000)(b2:a7≤900)(k wi n m:Int)(s t u:List UInt8)(b3:1≤k)(b4:k≤13)(hL:k=1∨0<a7)(ho:Oe k wi n s t u):
  Calls Tryz.prog 43 #[.pointer (some ⟨Wb,0,none⟩),.agg (opC k wi n m s t u)] w fun e w' =>e= .returned (.bool true)∧Fn w0 w' h0 Wb (c+1) (if k=1 then a7+1 else a7):=by
 obtain⟨O,L,names,b1,last,a1,rfl,a3,a4,a5,a6⟩:=h;have a2:k=1∨k=2∨k=3∨k=4∨k=5∨k=6∨k=7∨k=8∨k=9∨k=10∨k=11∨k=12∨k=13:=by omega
 have a9:∀(K a7:Nat) (e:Ending) (w' :World),K≤300000*(c+1)→(e= .returned (.bool true)∧Goes w w' h0 Wb a7 (names.length+9) (last+1) K)→(e= .returned (.bool true)∧Fn w0 w' h0 Wb (c+1) a7):=fun K a7 e w' hK hh=>⟨hh.1,hh.2.fn a6 (by omega) (by omega) hK⟩
 rcases a2 with rfl|a2
 ·refine(fj a1 a3 (by omega) wi n m s t u).mono fun e w' hh=>⟨hh.1,?_⟩
  have:=hh.2.fn (c:=c) a6 (by omega) (by omega) (by omega);simpa using this
 have a8:¬k=1:=by omega
 have b0 :0<L.length:=hL.resolve_left a8;rw[if_neg a8];have EX:∀i (hi:i<L.length),L[i].sx=L[i].sy:=fun i hi=>(a3 i hi).1
 have EP:∀i (hi:i<L.length),L[i].sy.packed.length≤300000*c:=fun i hi=>(a3 i hi).2
 have SA:=fun(nn ll KK:Nat) (h1:nn≤names.length+9) (h2:ll≤last+1) (h3:KK≤300000*(c+1)) HV HW HZ=>(fk (nn:=nn) (ll:=ll) (KK:=KK) a1 b0 (by omega) k wi n m s t u ho.w1 ho.w2 a2 h1 h2 HV HW HZ).mono fun e w' =>a9 _ _ e w' h3
 rcases a2 with rfl|rfl|rfl|rfl|rfl|rfl|rfl|rfl|rfl|rfl|rfl|rfl
 ·exact SA _ _ (300000*c+20) (Nat.le_add_right _ _) (Nat.le_add_right _ _) (by omega) (fun h=>absurd h (by omega)) (fun _ W0 hV i hi=>(VW hV a3 i hi 2 wi n m s t u _ _ _ _ (R.made L[i].sy s [] false) (.inr (.inr (.inr (.inr (.inr (.inl ⟨rfl,rfl,rfl,rfl,rfl⟩)))))) (fun W hW=>by have:=gC L[i].bx L[i].sx s W (MM O L) L[i].ox (hW.px i hi).1 (hW.px i hi).2 ho.s (by have:=EP i hi;rw[EX i hi];omega);rw[EX i hi]at this;exact this) (fun W L1 h1 a0 e1 e2=>by have:=ON L1[i].by_ L1[i].sy s W (MM O L1) L1[i].oy (a0.py i h1).1 a0.lt ho.s (a0.py i h1).2.many (by have:=EP i hi;rw[e2];omega) (a0.py i h1).2.fine.heads;rw[e2]at this;exact this) (JP (hV.py i hi).2 s [] false) (j0f (VT _ _ _ _) (by have:=EP i hi;omega))).2 (by omega)) (fun h=>absurd h (by omega))
 ·exact SA _ _ (300000*c+20) (Nat.le_add_right _ _) (Nat.le_add_right _ _) (by omega) (fun h=>absurd h (by omega)) (fun _ W0 hV i hi=>(VW hV a3 i hi 3 wi n m s t u _ _ _ _ (R.made L[i].sy s t true) (.inr (.inr (.inr (.inr (.inr (.inr (.inl ⟨rfl,rfl,rfl,rfl,rfl⟩))))))) (fun W hW=>by have:=fC L[i].bx L[i].sx s t W (MM O L) L[i].ox (hW.px i hi).1 (hW.px i hi).2 ho.s (by have:=EP i hi;rw[EX i hi];omega);rw[EX i hi]at this;exact this) (fun W L1 h1 a0 e1 e2=>by have:=ff L1[i].by_ L1[i].sy s t W (MM O L1) L1[i].oy (a0.py i h1).1 a0.lt ho.s (a0.py i h1).2.many (by have:=EP i hi;rw[e2];omega) (a0.py i h1).2.fine.heads;rw[e2]at this;exact this) (JP (hV.py i hi).2 s t true) (j0f (VT _ _ _ _) (by have:=EP i hi;omega))).2 (by omega)) (fun h=>absurd h (by omega))
 ·exact SA _ _ (300000*c+20) (Nat.le_add_right _ _) (Nat.le_add_right _ _) (by omega) (fun h=>absurd h (by omega)) (fun _ W0 hV i hi=>(VW hV a3 i hi 4 wi n m s t u _ _ _ _ (R.dropped L[i].sy s) (.inr (.inr (.inr (.inr (.inr (.inr (.inr ⟨rfl,rfl,rfl,rfl,rfl⟩))))))) (fun W hW=>by have:=fD L[i].bx L[i].sx s W (MM O L) L[i].ox (hW.px i hi).1 (hW.px i hi).2 (by have:=EP i hi;rw[EX i hi];omega);rw[EX i hi]at this;exact this) (fun W L1 h1 a0 e1 e2=>by have:=fg L1[i].by_ L1[i].sy s W (MM O L1) L1[i].oy (a0.py i h1).1 (a0.py i h1).2.fine (by have:=EP i hi;rw[e2];omega);rw[e2]at this;exact this) (uy (hV.py i hi).2 s) (j0f (Kl _ (hV.py i hi).2 _) (by have:=EP i hi;omega))).2 (by omega)) (fun h=>absurd h (by omega))
 ·exact SA (names.length+9) (last+1) (300000*c) (j0a _) (j0a _) (by omega) (fun h=>absurd h (by omega)) (fun _ W0 hV i hi=>JT hV a3 (by omega) (by omega) i hi wi n m s t u) (fun h=>absurd h (by omega))
 ·exact SA _ _ (300000*c+20) (Nat.le_add_right _ _) (Nat.le_add_right _ _) (by omega) (fun _ _ W0 hV i hi=>(VW hV a3 i hi 6 wi n m s t u _ _ _ _ (R.change L[i].sy 35 s t n []) (.inl ⟨rfl,rfl,rfl,rfl,rfl⟩) (fun W hW=>by have:=F1 L[i].bx L[i].sx s t n W (MM O L) L[i].ox (hW.px i hi).1 hW.lt (hW.px i hi).2 hW.g ho.t ho.n1 ho.n2;rw[EX i hi]at this;exact this) (fun W L1 h1 a0 e1 e2=>by have:=fQ L1[i].by_ L1[i].sy s t [] n W (MM O L1) L1[i].oy (a0.py i h1).1 a0.lt (a0.py i h1).2.fine ho.t (by simp[maxLen]) ho.n1 ho.n2;rw[e2]at this;exact this) (xD (hV.py i hi).2 35 s t n [] (by decide)) (by rw[yD];have:=EP i hi;omega)).1 (by omega)) (fun h=>absurd h (by omega)) (fun h=>absurd h (by omega))
 ·exact SA _ _ (300000*c+20) (Nat.le_add_right _ _) (Nat.le_add_right _ _) (by omega) (fun _ _ W0 hV i hi=>(VW hV a3 i hi 7 wi n m s t u _ _ _ _ (R.change L[i].sy 61 s t 0 u) (.inr (.inl ⟨rfl,rfl,rfl,rfl,rfl⟩)) (fun W hW=>by have:=fA L[i].bx L[i].sx s t u W (MM O L) L[i].ox (hW.px i hi).1 hW.lt (hW.px i hi).2 hW.g ho.t ho.u;rw[EX i hi]at this;exact this) (fun W L1 h1 a0 e1 e2=>by have:=fe L1[i].by_ L1[i].sy s t u 0 W (MM O L1) L1[i].oy (a0.py i h1).1 a0.lt (a0.py i h1).2.fine ho.t ho.u (by decide) (by decide);rw[e2]at this;exact this) (xD (hV.py i hi).2 61 s t 0 u (by decide)) (by rw[yD];have:=EP i hi;omega)).1 (by omega)) (fun h=>absurd h (by omega)) (fun h=>absurd h (by omega))
 ·exact SA _ _ (300000*c+20) (Nat.le_add_right _ _) (Nat.le_add_right _ _) (by omega) (fun _ _ W0 hV i hi=>(VW hV a3 i hi 8 wi n m s t u _ _ _ _ (R.change L[i].sy 42 s t 0 u) (.inr (.inr (.inl ⟨rfl,rfl,rfl,rfl,rfl⟩))) (fun W hW=>by have:=f_ L[i].bx L[i].sx s t u W (MM O L) L[i].ox (hW.px i hi).1 hW.lt (hW.px i hi).2 hW.g ho.t ho.u;rw[EX i hi]at this;exact this) (fun W L1 h1 a0 e1 e2=>by have:=fP L1[i].by_ L1[i].sy s t u 0 W (MM O L1) L1[i].oy (a0.py i h1).1 a0.lt (a0.py i h1).2.fine ho.t ho.u (by decide) (by decide);rw[e2]at this;exact this) (xD (hV.py i hi).2 42 s t 0 u (by decide)) (by rw[yD];have:=EP i hi;omega)).1 (by omega)) (fun h=>absurd h (by omega)) (fun h=>absurd h (by omega))
 ·exact SA _ _ (300000*c+20) (Nat.le_add_right _ _) (Nat.le_add_right _ _) (by omega) (fun _ _ W0 hV i hi=>(VW hV a3 i hi 9 wi n m s t u _ _ _ _ (R.change L[i].sy 45 s t 0 u) (.inr (.inr (.inr (.inl ⟨rfl,rfl,rfl,rfl,rfl⟩)))) (fun W hW=>by have:=fv L[i].bx L[i].sx s t u W (MM O L) L[i].ox (hW.px i hi).1 hW.lt (hW.px i hi).2 hW.g ho.t ho.u;rw[EX i hi]at this;exact this) (fun W L1 h1 a0 e1 e2=>by have:=fb L1[i].by_ L1[i].sy s t u 0 W (MM O L1) L1[i].oy (a0.py i h1).1 a0.lt (a0.py i h1).2.fine (fun b hb y hy=>(((a0.py i h1).2.work b hb).ok y hy).nz) ho.t ho.u (by decide) (by decide);rw[e2]at this;exact this) (xD (hV.py i hi).2 45 s t 0 u (by decide)) (by rw[yD];have:=EP i hi;omega)).1 (by omega)) (fun h=>absurd h (by omega)) (fun h=>absurd h (by omega))
 ·exact SA _ _ (300000*c+20) (Nat.le_add_right _ _) (Nat.le_add_right _ _) (by omega) (fun _ _ W0 hV i hi=>(VW hV a3 i hi 10 wi n m s t u _ _ _ _ (R.change L[i].sy 0 s t 0 []) (.inr (.inr (.inr (.inr (.inl ⟨rfl,rfl,rfl,rfl,rfl⟩))))) (fun W hW=>by have:=gA L[i].bx L[i].sx s t W (MM O L) L[i].ox (hW.px i hi).1 hW.lt (hW.px i hi).2 hW.g ho.t;rw[EX i hi]at this;exact this) (fun W L1 h1 a0 e1 e2=>by have:=OL L1[i].by_ L1[i].sy s t [] 0 W (MM O L1) L1[i].oy (a0.py i h1).1 a0.lt (a0.py i h1).2.fine ho.t (by simp[maxLen]) (by decide) (by decide);rw[e2]at this;exact this) (xD (hV.py i hi).2 0 s t 0 [] (by decide)) (by rw[yD];have:=EP i hi;omega)).1 (by omega)) (fun h=>absurd h (by omega)) (fun h=>absurd h (by omega))
 ·exact SA _ _ (300000*c) (Nat.le_add_right _ _) (Nat.le_add_right _ _) (by omega) (fun _ _ W0 hV i hi=>Gh hV a3 i hi wi n m s t u) (fun h=>absurd h (by omega)) (fun h=>absurd h (by omega))
 ·exact SA _ _ (300000*c+300000) (Nat.le_add_right _ _) (Nat.le_add_right _ _) (by omega) (fun _ h=>absurd h (by omega)) (fun h=>absurd h (by omega)) (fun _ W0 hV i hi=>oW hV a3 (by omega) i hi wi n m s t u)
 ·exact SA _ _ (300000*c) (Nat.le_add_right _ _) (Nat.le_add_right _ _) (by omega) (fun _ h=>absurd h (by omega)) (fun h=>absurd h (by omega)) (fun _ W0 hV i hi=>Gi hV a3 i hi wi n m s t u ho.n1 ho.n2)
theorem GR {w0 w:World}{h0 Wb c a0:Nat}(h:Fn w0 w h0 Wb c a0)(hc:c≤250000)(a7:a0≤900)(k wi n m:Int)(s t u:List UInt8)(a8:1≤k)(b0:k≤14)(hL:k=1∨0<a0)(ho:Oe k wi n s t u):
  CallsT Tryz.prog 43 #[.pointer (some ⟨Wb,0,none⟩),.agg (opC k wi n m s t u)] w fun v w' =>v= .bool true∧Fn w0 w' h0 Wb (c+1) (if k=1 then a0+1 else a0):=by
 by_cases hk:k≤13
 ·refine q_ jb (fun v w T d hh=>⟨hh.1,hh.2.re T d⟩) fun T d=> ?_
  exact(QN (h.re T d) hc a7 k wi n m s t u a8 hk hL ho).mono fun e w' hh=>⟨.bool true,hh.1,rfl,hh.2⟩
 ·obtain rfl:k=14:=by omega
  obtain⟨O,L,names,a9,last,a1,rfl,a3,a4,a5,a6⟩:=h;have a2 :0<L.length:=hL.resolve_left (by omega);rw[if_neg (by omega)];exact(u_ a1 a3 (by omega) a2 (by omega) wi n m s t u ho.w1 ho.w2).mono fun v w' hh=>⟨hh.1,hh.2.fn a6 (by omega) (by omega) (by omega)⟩
theorem Fn.seen {w0 wr:World}{h0 Wb c a7:Nat}(h:Fn w0 wr h0 Wb c a7):∃c',Fine wr wr h0 Wb c' a7:=by
 obtain⟨O,L,names,a0,last,a1,a2,a3,a4,a5,a6⟩:=h;exact⟨15000*c,O,L,names,a0,last,a1,a2,fun j hj=>⟨(a3 j hj).1,by have:=(a3 j hj).2;omega⟩,by omega,by omega,j0g _ _⟩
theorem Fn.all {w0 wr:World}{h0 Wb c a0:Nat}(h:Fn w0 wr h0 Wb c a0):∃aa ac,wr.cell? ⟨Wb,0,none⟩=some (.slice aa a0 ac)∧Wb<wr.heap.size:=by
 obtain⟨_,h⟩:=h.seen;exact h.all
theorem Fn.br {w0 wr:World}{h0 Wb c a0:Nat}(h:Fn w0 wr h0 Wb c a0)(i:Nat)(hi:i<a0):∃g ac bx by_ ba nb bc,wr.cell? ⟨Wb,0,none⟩=some (.slice (some ⟨g,0,none⟩) a0 ac)∧a0≤ac∧ac≤maxLen∧wr.cell? ⟨g,i*2,none⟩=some (.pointer (some ⟨bx,0,none⟩))∧wr.cell? ⟨g,i*2+1,none⟩=some (.pointer (some ⟨by_,0,none⟩))∧
  wr.cell? ⟨by_,1,none⟩=some (.slice ba nb bc)∧nb≤6∧nb≤bc∧bc≤maxLen∧∀k,k<nb→∃(g2:Nat) (nm:List UInt8),ba=some ⟨g2,0,none⟩∧wr.cell? ⟨g2,k*3,none⟩=some (.string ⟨nm.toArray⟩)∧nm.length≤maxLen:=by
 obtain⟨_,h⟩:=h.seen;exact h.br i hi
theorem Fn.bel {w0 wr:World}{h0 Wb c a0:Nat}(h:Fn w0 wr h0 Wb c a0):ZT h0 w0 wr:=by
 obtain⟨_,_,_,_,_,_,_,_,_,_,h⟩:=h;exact h
theorem Fn.up {w0 wr:World}{h0 Wb c a7:Nat}(h:Fn w0 wr h0 Wb c a7):Fn w0 wr h0 Wb (c+1) a7:=by
 obtain⟨O,L,names,a0,last,a1,a2,a3,a4,a5,a6⟩:=h;exact⟨O,L,names,a0,last,a1,a2,fun j hj=>⟨(a3 j hj).1,by have:=(a3 j hj).2;omega⟩,by omega,by omega,a6⟩
theorem Fn.kept {w0 wr:World}{h0 Wb c a7:Nat}(h:Fn w0 wr h0 Wb c a7):Calls Tryz.prog 44 #[.pointer (some ⟨Wb,0,none⟩)] wr fun e w' =>e= .returned (.bool true)∧Fn w0 w' h0 Wb c a7:=by
 obtain⟨O,L,names,a0,last,a1,a2,a3,a4,a5,a6⟩:=h;obtain⟨av,nv,tv,uv,kv,hl⟩:=a1.lw;refine(fm hl).mono ?_;rintro e w' ⟨rfl,q,rfl⟩;have hb:Below wr.heap.size wr (wr.drewN q):=⟨rfl,rfl,rfl,j0a _,fun _ _=>rfl⟩
 exact⟨rfl,O,L,names,a0,last,a1.below hb,a2,a3,a4,a5,a6.trans (ZT.of (hb.mono a1.hs))⟩
theorem ReC.thenN {N:Act→World→Prop}{Q:Exit→Act→World→Prop}(h:ReC Q)(hN:∀a w T d,N a w→N a (re w T d)):ReC (Exit.then N Q):=fun e a w T d hq=>by
 cases e with
 |normal=>exact hN a w T d hq
 |ret=>exact h .ret a w T d hq
 |exit id=>exact h (.exit id) a w T d hq
 |goto l=>exact h (.goto l) a w T d hq
 |panic ch=>exact h (.panic ch) a w T d hq
 |outgrown=>exact h .outgrown a w T d hq
def uT (most:Int):Prop:=∀(w0 w:World) (h0 Wb c len:Nat) (_:Fn w0 w h0 Wb c len) (_:c≤250000) (_:len≤900) (k wi n m:Int) (s t u:List UInt8) (_:1≤k) (_:k≤most) (_:k=1∨0<len) (_:Oe k wi n s t u),
 CallsT Tryz.prog 43 #[.pointer (some ⟨Wb,0,none⟩),.agg (opC k wi n m s t u)] w fun v w' =>v= .bool true∧Fn w0 w' h0 Wb (c+1) (if k=1 then len+1 else len)
def atI (a:Act):Nat:=(intOf (a.tmps.getD 11 undef)).toNat
structure PlA (sa:Option Addr)(n sc:Nat)(most:Int)(Wb:Nat)(a:Act):Prop where
 d:a.defers=[]
 size:a.tmps.size=156
 s0:a.tmps[0]? =some (.slice sa n sc)
 s1:a.tmps[1]? =some (.int .i64 most)
 s5:a.tmps[5]? =some (.pointer (some ⟨Wb,0,none⟩))
def PlI (w:World)(sa:Option Addr)(sc n:Nat)(most:Int)(a:Act)(wr:World):Prop:=PlA sa n sc most w.heap.size a∧∃k len:Nat,k≤n∧1≤len∧len≤8∧Fn w wr w.heap.size w.heap.size (5+k) len∧a.tmps[11]? =some (.int .i64 (k:Int))
def PlS (w:World)(sa:Option Addr)(sc n:Nat)(most:Int)(e:Exit)(a:Act)(wr:World):Prop:=e= .normal∧PlA sa n sc most w.heap.size a∧∃c len:Nat,c≤5+n∧1≤len∧len≤8∧Fn w wr w.heap.size w.heap.size c len
theorem PlI.re {w wr:World}{sa:Option Addr}{sc n:Nat}{a0:Int}{a:Act}(h:PlI w sa sc n a0 a wr)(T:Nat→Question→Nat)(d:Nat):PlI w sa sc n a0 a (Go.Proofs.YtolgebdmffcemaaGreatDoor.re wr T d):=by
 obtain⟨h1,k,a1,h2,h3,h4,h5,h6⟩:=h;exact⟨h1,k,a1,h2,h3,h4,h5.re T d,h6⟩
theorem PlS.re {w:World}{sa:Option Addr}{sc n:Nat}{a0:Int}:ReC (PlS w sa sc n a0):=fun _ _ _ T d ⟨h0,h1,c,a1,h2,h3,h4,h5⟩=>⟨h0,h1,c,a1,h2,h3,h4,h5.re T d⟩
theorem jf:∀l:List Value,l=(List.range l.length).map fun i=>l.getD i undef
 |[]=>rfl
 |x::r=>by
  have ih:=jf r;rw[List.length_cons,List.range_succ_eq_map,List.map_cons,List.map_map];simp only[List.getD_cons_zero,Function.comp_def,List.getD_cons_succ];rw[←ih]
theorem uR {a:Act}(hd:a.defers=[])(hs:a.tmps.size=156):∃f:Nat→Value,(∀i v,a.tmps[i]? =some v→f i=v)∧a=⟨#[f 0,f 1,f 2,f 3,f 4,f 5,f 6,f 7,f 8,f 9,f 10,f 11,f 12,f 13,f 14,f 15,f 16,f 17,f 18,f 19,f 20,f 21,f 22,f 23,f 24,f 25,f 26,f 27,f 28,f 29,f 30,f 31,f 32,f 33,f 34,f 35,f 36,f 37,f 38,f 39,f 40,f 41,f 42,f 43,f 44,f 45,f 46,f 47,f 48,f 49,f 50,f 51,f 52,f 53,f 54,f 55,f 56,f 57,f 58,f 59,f 60,f 61,f 62,f 63,f 64,f 65,f 66,f 67,f 68,f 69,f 70,f 71,f 72,f 73,f 74,f 75,f 76,f 77,f 78,f 79,f 80,f 81,f 82,f 83,f 84,f 85,f 86,f 87,f 88,f 89,f 90,f 91,f 92,f 93,f 94,f 95,f 96,f 97,f 98,f 99,f 100,f 101,f 102,f 103,f 104,f 105,f 106,f 107,f 108,f 109,f 110,f 111,f 112,f 113,f 114,f 115,f 116,f 117,f 118,f 119,f 120,f 121,f 122,f 123,f 124,f 125,f 126,f 127,f 128,f 129,f 130,f 131,f 132,f 133,f 134,f 135,f 136,f 137,f 138,f 139,f 140,f 141,f 142,f 143,f 144,f 145,f 146,f 147,f 148,f 149,f 150,f 151,f 152,f 153,f 154,f 155],[]⟩:=by
 obtain⟨⟨l⟩,ds⟩:=a;simp only at hd;subst hd;have hl:l.length=156:=hs;refine⟨fun i=>l.getD i undef,fun i v hv=> ?_,?_⟩
 ·have:l[i]? =some v:=by simpa using hv
  simp[List.getD_eq_getElem?_getD,this]
 ·have:=jf l
  rw[hl]at this;exact congrArg (fun x:List Value=>(⟨⟨x⟩,[]⟩:Act)) this
section
theorem gV (a3:Int)(j6:12≤a3)(j7:a3≤16)
  (e4:uT a3)
  (a0:List OpL)(v:Value)(w:World)(hG:Y8 w)(h:Rd w (fun _=>False) v a0.length (qZ a0))(hn:a0.length≤200000)(h3:∀o∈a0,o.ok):
  CallsT Tryz.prog 14 #[v,.int .i64 a3] w fun e w' =>e= .bool true∧ZT w.heap.size w w' :=by
 have hP:=jb;obtain⟨sa,sc,rfl,j9,j3,h5⟩:=h;have i3:=zl h3;have HG:=zl hG;have i5:=zl h5;unfold maxLen at j3;clear h5 h3 hG;refine yE hP Tryz.func14 rfl ?_;have a5:ReC (XG Tryz.prog Tryz.f14 (fun e w' =>e= .bool true∧ZT w.heap.size w w')):=ReC.body fun v w' T d ⟨h1,h2⟩=>⟨h1,h2.re T d⟩
 simp only[Tryz.ntmps14,List.size_toArray,List.length_cons,List.length_nil,Nat.reduceAdd,Nat.reduceSub,Array.replicate_succ,Array.replicate_zero,List.push_toArray,List.append_toArray,List.nil_append,List.cons_append];refine zJ hP a5 fun T0 d0=> ?_
 go_wp2;refine x_ ?_ T0 d0;refine zJ hP a5 fun T0 d0=> ?_
 go_wp2;have h8:Hid (Fn w ((re w T0 d0).alloc (.cells #[.slice none 0 0,.slice none 0 0,.slice none 0 0,.slice none 0 0,.slice none 0 0,.int .i64 0] 70)) w.heap.size w.heap.size 0 0):=⟨_,[],[],[],0,fK (re w T0 d0) (HG.out.re T0 d0),rfl,fun j hj=>by simp at hj,by simp,by simp,((ZT.refl w.heap.size w).re T0 d0).trans (ZT.of ((j0g w.heap.size (re w T0 d0)).alloc (j0a w.heap.size) _))⟩
 have h4:(re w T0 d0).heap.size=w.heap.size:=rfl;rw[h4];generalize(re w T0 d0).alloc (.cells #[.slice none 0 0,.slice none 0 0,.slice none 0 0,.slice none 0 0,.slice none 0 0,.int .i64 0] 70)=W0 at*;clear h4;refine zJ hP a5 fun T1 d1=> ?_
 have b5:=zl (h8.out.re T1 d1);generalize re W0 T1 d1=W1a at*;go_wp2_with fail
 refine(QN b5.out (by omega) (by omega) 1 0 0 0 [] [] [] (by omega) (by omega) (.inl rfl) (Xf _ _ _ _ _ _ (by omega) (by omega) (by omega) (by omega) (by unfold maxLen;simp) (by simp) (by simp))).mono ?_;rintro e W1 ⟨rfl,hf⟩;have h9:Hid (Fn w W1 w.heap.size w.heap.size 1 1):=hf;clear hf b5;go_wp2;refine zJ hP a5 fun T2 d2=> ?_
 have b6:=zl (h9.out.re T2 d2);generalize re W1 T2 d2=W1b at*;obtain⟨a1,c1,k1,b4⟩:=b6.out.all;go_wp2;clear k1;refine zJ hP a5 fun T3 d3=> ?_
 have b8:=zl (b6.out.re T3 d3);generalize re W1b T3 d3=W2a at*;go_wp2_with fail
 refine(QN b8.out (by omega) (by omega) 2 0 0 0 [97] [] [] (by omega) (by omega) (.inr (by omega)) (Xf _ _ _ _ _ _ (by omega) (by omega) (by omega) (by omega) (by unfold maxLen;simp) (by simp) (by simp))).mono ?_;rintro e W2 ⟨rfl,hf⟩;have b7:Hid (Fn w W2 w.heap.size w.heap.size 2 1):=hf;clear hf b8;go_wp2;refine zJ hP a5 fun T4 d4=> ?_
 have b9:=zl (b7.out.re T4 d4);generalize re W2 T4 d4=W3a at*;go_wp2_with fail
 refine(QN b9.out (by omega) (by omega) 6 0 5 0 [97] [120,47,110] [] (by omega) (by omega) (.inr (by omega)) (Xf _ _ _ _ _ _ (by omega) (by omega) (by omega) (by omega) (by unfold maxLen;simp) (by simp) (by simp))).mono ?_;rintro e W3 ⟨rfl,hf⟩;have e5:Hid (Fn w W3 w.heap.size w.heap.size 3 1):=hf;clear hf b9;go_wp2;refine zJ hP a5 fun T5 d5=> ?_
 have c6:=zl (e5.out.re T5 d5);generalize re W3 T5 d5=W4a at*;go_wp2_with fail
 refine(QN c6.out (by omega) (by omega) 11 0 0 0 [97] [] [] (by omega) (by omega) (.inr (by omega)) (Xf _ _ _ _ _ _ (by omega) (by omega) (by omega) (by omega) (by unfold maxLen;simp) (by simp) (by simp))).mono ?_;rintro e W4 ⟨rfl,hf⟩;have i0:Hid (Fn w W4 w.heap.size w.heap.size 4 1):=hf;clear hf c6;go_wp2;refine zJ hP a5 fun T6 d6=> ?_
 have f5:=zl (i0.out.re T6 d6);generalize re W4 T6 d6=W4b at*;go_wp2;refine zJ hP a5 fun T7 d7=> ?_
 have c7:=zl (f5.out.re T7 d7);generalize re W4b T7 d7=W5a at*;go_wp2_with fail
 refine(QN c7.out (by omega) (by omega) 12 0 0 0 [97] [] [] (by omega) (by omega) (.inr (by omega)) (Xf _ _ _ _ _ _ (by omega) (by omega) (by omega) (by omega) (by unfold maxLen;simp) (by simp) (by simp))).mono ?_;rintro e W5 ⟨rfl,hf⟩;have f6:Hid (Fn w W5 w.heap.size w.heap.size 5 1):=hf;clear hf c7;go_wp2;refine ZL hP (Oj (Q:=(PlS w sa sc a0.length a3)) ?loop ?suffix)
 case loop=>
  refine zJ hP PlS.re fun T8 d8=> ?_
  have g3:=zl (f6.out.re T8 d8);generalize re W5 T8 d8=W6 at*;go_wp2;refine V6 hP ?_;refine Ok hP (PlI w sa sc a0.length a3) (fun a _=>a0.length-atI a) ⟨⟨rfl,rfl,rfl,rfl,rfl⟩,0,1,Nat.zero_le _,j0a _,by omega,g3.out,rfl⟩ ?_;clear g3;rintro a wr ⟨hA,k,a4,hk,b4,e2,hf,g1⟩;have a6:∀μ0:Nat,ReC (Exit.then (fun a' w' =>(PlI w sa sc a0.length a3) a' w' ∧a0.length-atI a' <μ0) (Exit.inBlock 0 (PlS w sa sc a0.length a3))):=fun μ0=>PlS.re.inBlock.thenN fun a w T d ⟨h1,h6⟩=>⟨h1.re T d,h6⟩
  have h0:a0.length-atI a=a0.length-k:=by
   unfold atI;simp only[Array.getD_eq_getD_getElem?,g1];simp[intOf]
  rw[h0];obtain⟨f,a7,e1⟩:=uR hA.d hA.size;rw[a7 0 _ hA.s0,a7 1 _ hA.s1,a7 5 _ hA.s5,a7 11 _ g1]at e1;clear h0 a7 g1 hA;subst e1;have HF:=zl hf;clear hf;by_cases b0:k<a0.length∧a4<8
  ·obtain⟨b0,j1⟩:=b0
   obtain⟨b,off,rfl,hb,_,a9⟩:=i5.out (by omega);have g4:∀wr,ZT w.heap.size w wr→∀j v,j<7→(a0[k]'b0).cells[j]? =some v→wr.cell? ⟨b,off+k*7+j,none⟩=some v:=fun wr a2 j v hj hv=>by
    rw[World.cell?_of_block (a:=⟨b,off+k*7+j,none⟩) (a2.block b hb),Nat.add_assoc];exact a9 _ _ (by rw[Vz a0 k j b0 hj];exact hv)
   have a8:=zl g4;have e3:=i3.out _ (j0c b0);clear a9 g4;generalize a0[k]'b0=o at*;obtain⟨b1,e9,on,om,e8,ot,ou⟩:=o;have i4:Hid (Oe b1 e9 on e8 ot ou):=e3;clear e3;refine zJ hP (a6 _) fun T0 d0=> ?_
   have b3:=zl (HF.out.re T0 d0);generalize re wr T0 d0=Wa at*;obtain⟨aa,ac,e0,e6⟩:=b3.out.all;go_wp2;clear e0 e6;refine ZL hP ?_;refine V6 hP ?_;refine zJ hP (by first|exact(a6 _).thenT.inBlock) fun T0 d0=> ?_
   have c8:=zl (b3.out.re T0 d0);generalize re Wa T0 d0=Wb at*;have s0:=a8.out Wb c8.out.bel 0 _ (by omega) rfl;simp only[Nat.add_zero]at s0;go_wp2;clear s0;by_cases e7:1≤b1 ∧b1 ≤a3
   ·obtain⟨f9,g9⟩:=e7
    refine zJ hP (by first|exact(a6 _).thenT.inBlock) fun T0 d0=> ?_
    go_wp2;refine x_ ?_ T0 d0;refine xe (t:=true) hP (by simp[Act.eval]) ?_;simp only[if_true];refine ZL hP ?_;refine Zw hP ?_;simp only[List.size_toArray,List.length_cons,List.length_nil,Nat.reduceAdd,Nat.zero_add,List.range,List.range.loop];co_applyP zH hP rfl (by rfl)
    case hv=>intro W K hK;go_simp;exact hK
    try walk_nrm
    co_applyP zH hP rfl (by rfl)
    case hv=>intro W K hK;go_simp;exact hK
    try walk_nrm
    co_applyP zH hP rfl (by rfl)
    case hv=>intro W K hK;go_simp;exact hK
    try walk_nrm
    co_applyP zH hP rfl (by rfl)
    case hv=>intro W K hK;go_simp;exact hK
    try walk_nrm
    refine xo hP rfl (by rfl) (fun v w' =>v= .agg #[.int .i64 b1,.int .i64 e9,.int .i64 on,.int .i64 om,.string ⟨e8.toArray⟩,.string ⟨ot.toArray⟩,.string ⟨ou.toArray⟩]∧∃T d,w' =re Wb T d) (fun v w' T d ⟨e,T',d',e'⟩=>⟨e,T,d,by rw[e'];rfl⟩) (fun T d=>⟨.agg #[.int .i64 b1,.int .i64 e9,.int .i64 on,.int .i64 om,.string ⟨e8.toArray⟩,.string ⟨ot.toArray⟩,.string ⟨ou.toArray⟩],re Wb T d,?_,rfl,T,d,rfl⟩) ?_
    ·have a2:=(c8.out.re T d).bel
     have s0:=a8.out (re Wb T d) a2 0 _ (by omega) rfl;have s1:=a8.out (re Wb T d) a2 1 _ (by omega) rfl;have s2:=a8.out (re Wb T d) a2 2 _ (by omega) rfl;have s3:=a8.out (re Wb T d) a2 3 _ (by omega) rfl;have s4:=a8.out (re Wb T d) a2 4 _ (by omega) rfl;have s5:=a8.out (re Wb T d) a2 5 _ (by omega) rfl;have s6:=a8.out (re Wb T d) a2 6 _ (by omega) rfl;simp only[Nat.add_zero]at s0;clear a2;unfold execOp;simp[go_sem,s0,s1,s2,s3,s4,s5,s6,Act.eval]
    rintro v w' ⟨rfl,Ta,da,rfl⟩;refine xT ?_ Ta da;try walk_nrm
    refine Yc hP rfl (by rfl) rfl (by simp[Act.eval,opC]) Tryz.func43 (by decide) rfl (e4 w Wb w.heap.size w.heap.size (5+k) a4 c8.out (by omega) (by omega) b1 e9 on om e8 ot ou f9 g9 (.inr (by omega)) i4.out) ?_;rintro v Wc ⟨rfl,g7⟩;have c9:=zl g7;clear g7;try walk_nrm
    co_applyP zH hP rfl (by rfl)
    case hv=>intro W K hK;go_simp;exact hK
    try walk_nrm
    refine yz hP ?_;simp only[Exit.then];refine xd hP (by first|exact(a6 _).thenT.inBlock) fun T0 d0=> ?_
    have i1:=zl (c9.out.re T0 d0);generalize re Wc T0 d0=We at*;go_wp2_with fail
    refine i1.out.kept.mono ?_;rintro e Wk ⟨rfl,g8⟩;have i2:=zl g8;clear g8;go_wp2;refine xd hP (a6 _) fun T1 d1=> ?_
    have d9:=zl (i2.out.re T1 d1);generalize re Wk T1 d1=Wd at*;go_wp2;exact⟨⟨⟨rfl,rfl,rfl,rfl,rfl⟩,k+1,_,by omega,(by split<;>omega),(by split<;>omega),d9.out,by simp⟩,by simp[atI,intOf];omega⟩
   ·by_cases f9:1≤b1
    ·have g9:¬b1 ≤a3:=fun e=>e7 ⟨f9,e⟩
     clear e7;refine zJ hP (by first|exact(a6 _).thenT.inBlock) fun T0 d0=> ?_
     go_wp2;refine x_ ?_ T0 d0;refine xe (t:=false) hP (by simp[Act.eval]) ?_;simp only[Bool.false_eq_true,if_false];refine kG hP ?_;simp only[Exit.inBlock,Exit.then];have c9:=zl c8.out.up;refine xd hP (a6 _) fun T1 d1=> ?_
     have d9:=zl (c9.out.re T1 d1);generalize re Wb T1 d1=Wd at*;go_wp2;exact⟨⟨⟨rfl,rfl,rfl,rfl,rfl⟩,k+1,a4,by omega,b4,e2,d9.out,by simp⟩,by simp[atI,intOf];omega⟩
    ·clear e7
     refine zJ hP (by first|exact(a6 _).thenT.inBlock) fun T0 d0=> ?_
     go_wp2;refine x_ ?_ T0 d0;refine xe (t:=false) hP (by simp[Act.eval]) ?_;simp only[Bool.false_eq_true,if_false];refine kG hP ?_;simp only[Exit.inBlock,Exit.then];have c9:=zl c8.out.up;refine xd hP (a6 _) fun T1 d1=> ?_
     have d9:=zl (c9.out.re T1 d1);generalize re Wb T1 d1=Wd at*;go_wp2;exact⟨⟨⟨rfl,rfl,rfl,rfl,rfl⟩,k+1,a4,by omega,b4,e2,d9.out,by simp⟩,by simp[atI,intOf];omega⟩
  ·have b2 :k<a0.length→¬a4<8:=fun h1 h2=>b0 ⟨h1,h2⟩
   clear b0;refine zJ hP (a6 _) fun T0 d0=> ?_
   have b3:=zl (HF.out.re T0 d0);generalize re wr T0 d0=Wa at*;obtain⟨aa,ac,e0,e6⟩:=b3.out.all;by_cases j0:k<a0.length
   ·have j5:=b2 j0
    clear b2;go_wp2;exact⟨rfl,⟨rfl,rfl,rfl,rfl,rfl⟩,5+k,a4,by omega,b4,e2,b3.out⟩
   ·clear b2
    go_wp2;exact⟨rfl,⟨rfl,rfl,rfl,rfl,rfl⟩,5+k,a4,by omega,b4,e2,b3.out⟩
 case suffix=>
  rintro e a wr ⟨rfl,hA,c,a4,hc,b4,e2,hf⟩;simp only[Exit.then];obtain⟨f,a7,e1⟩:=uR hA.d hA.size;rw[a7 0 _ hA.s0,a7 1 _ hA.s1,a7 5 _ hA.s5]at e1;clear a7 hA;subst e1;refine xd hP a5 fun T0 d0=> ?_
  have HF:=zl (hf.re T0 d0);clear hf;generalize re wr T0 d0=Wr at*;go_wp2;go_loopw [15] (fun i wr=>∃j c:Nat,j≤a4∧i= .int .i64 j∧c≤5+a0.length+7*j∧Fn w wr w.heap.size w.heap.size c a4) (fun i _=>a4-(intOf i).toNat)
  case atStart=>exact⟨0,c,Nat.zero_le _,rfl,by omega,HF.out⟩
  case round=>
   obtain⟨j,c,hj,rfl,i8,hf⟩:=hrel;by_cases i9:j<a4
   ·obtain⟨aa,ac,e0,e6⟩:=hf.all
    have b7:=zl hf;clear hf;go_wp2;go_loopw [16] (fun i wr=>∃x c:Nat,x≤6∧i= .int .i64 x∧c≤5+a0.length+7*j+x∧Fn w wr w.heap.size w.heap.size c a4) (fun i _=>6-(intOf i).toNat)
    case atStart=>exact⟨0,c,Nat.zero_le _,rfl,by omega,b7.out⟩
    case round=>
     obtain⟨x,c,hx,rfl,i8,hf⟩:=hrel;obtain⟨g,ac,bx,by_,ba,nb,bc,f0,i6,f7,f1,f2,f3,j8,i7,f8,g0⟩:=hf.br j i9;have e5:=zl hf;unfold maxLen at f7 f8;clear hf;by_cases j4:x<nb
     ·obtain⟨g2,nm,rfl,f4,j2⟩:=g0 x j4
      clear g0;go_wp2_with fail
      refine(QN e5.out (by omega) (by omega) 11 (j:Int) 0 0 nm [] [] (by omega) (by omega) (.inr (by omega)) (Xf _ _ _ _ _ _ (by omega) (by omega) (by omega) (by omega) j2 (by simp) (by simp))).mono ?_;rintro e w5 ⟨rfl,g5⟩;have f6:Hid (Fn w w5 w.heap.size w.heap.size (c+1) a4):=g5;clear g5;go_wp2;go_roundw
      case rel=>exact⟨x+1,c+1,by omega,by go_num,by omega,f6.out⟩
      case measure=>simp[intOf];omega
     ·clear g0
      go_wp2;go_roundw
      case rel=>exact⟨j+1,c,by omega,by go_num,by omega,e5.out⟩
      case measure=>simp[intOf];omega
   ·have b7:=zl hf
    obtain⟨aa,ac,e0,e6⟩:=hf.all;clear hf;go_wp2_with fail
    refine b7.out.kept.mono ?_;rintro e w6 ⟨rfl,g6⟩;have h7:=zl g6.bel;clear g6;go_wp2;exact⟨rfl,.bool true,fun W=>by simp[results,Tryz.results14,go_sem],rfl,h7.out⟩
end
theorem On:uT 14:=fun _ _ _ _ _ _ h hc a0 k wi n m s t u a1 a2 hL ho=>GR h hc a0 k wi n m s t u a1 a2 hL ho
section
theorem Up (a0:List OpL)(v:Value)(w:World)(hG:Y8 w)(h:Rd w (fun _=>False) v a0.length (qZ a0))(hn:a0.length≤200000)(a1:∀o∈a0,o.ok):
  ∃N last o w' t',runNT Tryz.prog (N+1) (solo (G (Frame.enter Tryz.prog 4 #[v] .normal) []) w) #[]=(.ended o w',t')∧runN Tryz.prog N (solo (G (Frame.enter Tryz.prog 4 #[v] .normal) []) w)= .next last∧
   step Tryz.prog last= .ended o w' ∧Conc.Good Tryz.prog (fun e w' =>e= .bool true∧ZT w.heap.size w w') last o w' t' :=by
 have hP:=jb;have a2:=zl (gV 14 (by omega) (by omega) On a0 v w hG h hn a1);clear h hG a1;have hR:∀(v:Value) (w' :World) (T:Nat→Question→Nat) (d:Nat),(v= .bool true∧ZT w.heap.size w w')→(v= .bool true∧ZT w.heap.size w (re w' T d)):=fun v w' T d ⟨h1,h2⟩=>⟨h1,h2.re T d⟩
 refine J_ hR (JE hP hR Tryz.func4 rfl (by kernel_rfl) ?_);have a3:ReC (VA Tryz.prog Tryz.f4 (fun e w' =>e= .bool true∧ZT w.heap.size w w')):=ReC.bodyE hR;simp only[Tryz.ntmps4,List.size_toArray,List.length_cons,List.length_nil,Nat.reduceAdd,Nat.reduceSub,Array.replicate_succ,Array.replicate_zero,List.push_toArray,List.append_toArray,List.nil_append,List.cons_append];refine zJ hP a3 fun T0 d0=> ?_
 go_wp2;refine x_ ?_ T0 d0;refine ZL hP ?_;refine Zw hP ?_;simp only[List.size_toArray,List.length_cons,List.length_nil,Nat.reduceAdd,Nat.zero_add,List.range,List.range.loop];co_applyP zH hP rfl (by rfl)
 case hv=>intro W K hK;go_simp;exact hK
 try walk_nrm
 refine Yc hP rfl (by rfl) rfl (by simp[Act.eval]) Tryz.func14 (by decide) rfl a2.out ?_;rintro v w1 ⟨rfl,hb⟩;try walk_nrm
 co_applyP zH hP rfl (by rfl)
 case hv=>intro W K hK;go_simp;exact hK
 try walk_nrm
 refine yz hP ?_;simp only[Exit.then];refine jI hP ?_;exact⟨rfl,.bool true,fun W=>⟨by simp[results,Tryz.results4,go_sem],by simp[results,Tryz.results4,go_sem]⟩,rfl,hb⟩
end
