import Derived.Test.YtolgebdmffcemaaGreatDoorQ31
import Derived.ProofKit
import Derived.OpenShut
import Derived.Deep.Slices
import Derived.WideKeyArgs
import Derived.Lib.LaidTab
import Derived.Stop.LaidErr
import Derived.Shelf.Strings.SplitShaped
import Derived.Conc.Holds
import Derived.Deep.DeepHandedRow
set_option linter.all false
set_option maxHeartbeats 20000000
set_option maxRecDepth 1000000
open Go.Proofs.Tryz renaming prog→rJ,results19→L3,func47→L4
open List renaming size_toArray→sE,length_cons→mC,length_nil→mS
open Nat renaming reduceAdd→sF,zero_add→iX,pos_of_ne_zero→L5,lt_or_ge→nR
open Go.World renaming cell?→pV
open Array renaming getElem?_eq_none→L6
open Go.Frame renaming enter→eW
namespace Go.Proofs.YtolgebdmffcemaaGreatDoor
open Go Go.Conc Go.RowKit Go.ChangeShapes Go.WideShapes Go.ChangeAt
def uJ (b1 b2:Nat)(a b:Nat)(W:World):Prop:=W.cell? ⟨b1,1,none⟩=some (.int .i64 (a:Int))∧W.cell? ⟨b2,1,none⟩=some (.int .i64 (b:Int))
section
theorem Fv {M O:Nat→Prop}{B:Nat}{st:R.St}{w:World}(hi:Inv st)(h:PS w M O B st)(hM:∀b,M b→b<w.heap.size)(hG:Zy w)(h6:∀b,O b→6≤b)(i9:st.packed.length≤100000000000)(a0 fr:List UInt8)(i6:a0.length≤1000):
  zO rJ 19 #[.pointer (some ⟨B,0,none⟩),.string ⟨a0.toArray⟩,.string ⟨fr.toArray⟩] w (yA w M O B (R.joinB st a0 fr)):=by
 have hP:=xT;have g1:=hi.few;obtain⟨bv,cv,LB,LCm,hx⟩:=h;refine zS hP Tryz.func19 rfl ?_;have a1:ReC (zZ rJ Tryz.f19 (yA w M O B (R.joinB st a0 fr))):=ReC.body fun v w' T d ⟨h1,h2⟩=>⟨h1,h2.re T d⟩
 simp only[Tryz.ntmps19,sE,mC,mS,sF,Nat.reduceSub,Array.replicate_succ,Array.replicate_zero,List.push_toArray,List.append_toArray,List.nil_append,List.cons_append];have a8:Hid (∀W,PSx W M O B st bv cv LB LCm→Calls rJ 45 #[.pointer (some ⟨B,0,none⟩),.string ⟨a0.toArray⟩] W fun e w' =>e= .returned (.pointer (Zp LB st a0))∧w' =W):=fun W hW=>Qa hW hi a0
 have b6:Hid (∀W,PSx W M O B st bv cv LB LCm→Calls rJ 45 #[.pointer (some ⟨B,0,none⟩),.string ⟨fr.toArray⟩] W fun e w' =>e= .returned (.pointer (Zp LB st fr))∧w' =W):=fun W hW=>Qa hW hi fr
 by_cases b4:R.fnd st.brs a0<st.brs.length
 ·by_cases e3:R.fnd st.brs fr<st.brs.length
  ·have e9:¬R.fndI st.brs a0<0:=by rw[R.fndI,if_pos b4];omega
   have f0:¬R.fndI st.brs fr<0:=by rw[R.fndI,if_pos e3];omega
   obtain⟨a6,c6,h0,f6,i3⟩:=ZI hx a0 b4;obtain⟨e6,e2,i4,i1,j0⟩:=ZI hx fr e3;have HJ:Hid (R.joinB st a0 fr=if R.Written (R.workOf st a0)≠R.Written (R.treeOf st (R.headOf st a0))then((0,9),st)else R.joinH st a0 (R.headOf st a0) (R.headOf st fr)):=by
    show _=_;rw[R.joinB,if_neg (fun e=>by rcases e with e|e;exact e9 e;exact f0 e)]
   have c7:Hid (∀W,PSx W M O B st bv cv LB LCm→W.cell? ⟨(LB[R.fnd st.brs a0]'a6).2.1,1,none⟩=some (.int .i64 (R.headOf st a0:Int))):=fun W hW=>by rw[f6];exact(hW.at_ _ (j0c a6)).c1
   have b5:Hid (∀W,PSx W M O B st bv cv LB LCm→W.cell? ⟨(LB[R.fnd st.brs fr]'e6).2.1,1,none⟩=some (.int .i64 (R.headOf st fr:Int))):=fun W hW=>by rw[i1];exact(hW.at_ _ (j0c e6)).c1
   have j2:(LB[R.fnd st.brs a0]'a6).2.1<w.heap.size:=hx.lt _ (hx.blk _ (j0c a6)).1;have j3:(LB[R.fnd st.brs fr]'e6).2.1<w.heap.size:=hx.lt _ (hx.blk _ (j0c e6)).1;have g3:Hid (∀W,PSx W M O B st bv cv LB LCm→Calls rJ 46 #[.pointer (some ⟨B,0,none⟩),.pointer (some ⟨(LB[R.fnd st.brs a0]'a6).2.1,0,none⟩)] W fun e w' =>∃q:Bool,(q=false↔R.Written (R.workOf st a0)=R.Written (R.treeOf st (R.headOf st a0)))∧e= .returned (.bool q)∧Below W.heap.size W w'):=fun W hW=>(On hW hi _ (j0c a6)).mono fun e w' ⟨q,h1,h2,h3⟩=>⟨q,by
    rw[h1,i3,f6];have g2:(LB[R.fnd st.brs a0]'a6).1∈st.brs:=by rw[h0];exact j0c b4
    exact(OkT.inj (hi.work _ g2) (ZH hi.trees _)).symm,h2,h3⟩
   have b7:Hid (∀(W:World) (x y:Nat),PSx W M O B st bv cv LB LCm→x≤st.cms.length→zO rJ 47 #[.pointer (some ⟨B,0,none⟩),.int .i64 (x:Int),.int .i64 (y:Int)] W (Cc W (decide (y=0∨R.mark st.cms x y=true)))):=fun W x y hW j1=>Cn hi.wf (hW.hist hi) j1 g1
   have e1:Hid (∀W,zf w W→PSx W M O B st bv cv LB LCm→Calls rJ 48 #[.pointer (some ⟨B,0,none⟩),.string ⟨a0.toArray⟩,.int .i64 (R.headOf st fr:Int)] W fun e w' =>e= .returned (.tuple #[])∧zv W w' M O B (R.setHead st a0 (R.headOf st fr))∧w'.cell? ⟨(LB[R.fnd st.brs a0]'a6).2.1,1,none⟩=some (.int .i64 (R.headOf st fr:Int))∧w'.cell? ⟨(LB[R.fnd st.brs a0]'a6).2.1,0,none⟩=some (.string ⟨a0.toArray⟩)):=fun W hk hW=>Od B st a0 (R.headOf st fr) W M O hW b4 _ (fun _=>rfl) hi (Zh hi fr) i6 (by omega)
   have d7:Hid (∀W,zf w W→PSx W M O B st bv cv LB LCm→1≤R.headOf st a0→1≤R.headOf st fr→zO rJ 49 #[.pointer (some ⟨B,0,none⟩),.pointer (some ⟨(LB[R.fnd st.brs a0]'a6).2.1,0,none⟩),.int .i64 (R.headOf st fr:Int)] W (yA W M O B (R.joinN st a0 (R.headOf st a0) (R.headOf st fr)))):=fun W hk hW h1 h2=>bV hi hW (fun k i5 =>j0b (hM k i5) hk.size) (hG.keptM hk) h6 i9 a0 b4 a6 (R.headOf st a0) (R.headOf st fr) f6.symm h1 (Zh hi a0) h2 (Zh hi fr)
   have e7:=Zh hi a0;have e8:=Zh hi fr;rw[c6]at a8;rw[e2]at b6;clear c6 e2 h0 i4 f6 i1 i3 j0 e9 f0;generalize(LB[R.fnd st.brs a0]'a6).2.1=b1 at*;generalize(LB[R.fnd st.brs fr]'e6).2.1=b2 at*;have f7:Hid (R.joinH st a0 (R.headOf st a0) (R.headOf st fr)=if R.headOf st fr=0∨R.mark st.cms (R.headOf st a0) (R.headOf st fr)=true then(((R.headOf st a0:Nat):Int),0,st)|>fun p=>((p.1,p.2.1),p.2.2)else if R.headOf st a0=0∨R.mark st.cms (R.headOf st fr) (R.headOf st a0)=true then(((R.headOf st fr:Nat):Int),0)|>fun p=>(p,R.setHead st a0 (R.headOf st fr))else R.joinN st a0 (R.headOf st a0) (R.headOf st fr)):=rfl;generalize R.headOf st a0=hd at*;generalize R.headOf st fr=hd2 at*;refine z7 hP a1 fun T d=> ?_
   have HX:=z6 (hx.re T d);have HK:=z6 ((zf.refl w).re T d);generalize re w T d=W at*;go_wp2;refine z7 hP a1 fun T d=> ?_
   have f5:=z6 (HX.out.re T d);have g4:=z6 (HK.out.re T d);clear HX HK;generalize re W T d=W1 at*;go_wp2_with fail
   refine(a8.out W1 f5.out).mono ?_;rintro e W2 ⟨rfl,rfl⟩;go_wp2_with fail
   refine(b6.out W2 f5.out).mono ?_;rintro e W3 ⟨rfl,rfl⟩;go_wp2;refine z7 hP a1 fun T d=> ?_
   have g8:=z6 (f5.out.re T d);have g5:=z6 (g4.out.re T d);clear f5 g4 a8 b6;generalize re W3 T d=W4 at*;go_wp2;refine z7 hP a1 fun T d=> ?_
   have f8:=z6 (g8.out.re T d);have g6:=z6 (g5.out.re T d);clear g8 g5;generalize re W4 T d=W5 at*;go_wp2_with fail
   refine(g3.out W5 f8.out).mono ?_;rintro e W6 ⟨q,hq,rfl,g0⟩;have a9:=z6 (f8.out.below g0);have d3:=z6 (g6.out.trans (zf.of_below g0));clear f8 g6 g0 g3
   cases q
   rotate_left
   ·have i2:R.Written (R.workOf st a0)≠R.Written (R.treeOf st hd):=fun e=>by have:=hq.2 e;cases this
    rw[if_pos i2]at HJ;have a2:Hid (yA w M O B (R.joinB st a0 fr) (.tuple #[.int .i64 0,.int .i64 9]) W6):=by
     show yA _ _ _ _ _ _ _;rw[HJ.out];exact⟨rfl,ZT.same hx d3.out⟩
    clear hq i2 HJ f7 d7 e1 b7 a9 d3;go_wp2;refine⟨rfl,_,fun W=> ?_,a2.out⟩;simp[results,L3,go_sem]
   have i0:=hq.1 rfl;rw[if_neg (fun h=>h i0),f7.out]at HJ;clear hq i0 f7;go_wp2;have a4:∀(w:World) T d,uJ b1 b2 hd hd2 w→uJ b1 b2 hd hd2 (re w T d):=fun w T d h=>h
   have a3:Hid (uJ b1 b2 hd hd2 W6):=⟨c7.out W6 a9.out,b5.out W6 a9.out⟩
   refine zw hP ?_;refine zw hP ?_;refine Vb hP (by kernel_rfl) a1.thenT.thenT (uJ b1 b2 hd hd2) a4 ?_;simp only[sE,mC,mS,sF,iX];co_applyP zh (i:=0) a1.thenT.thenT a4 rfl (by kernel_rfl) (by kernel_rfl) (by kernel_rfl) (by rfl)
   case hv=>
    intro W' hS K hK;obtain⟨s0,s1⟩:=hS;go_simp
    exact hK
   case hS=>exact a3.out
   try walk_nrm
   co_applyP zh (i:=1) a1.thenT.thenT a4 rfl (by kernel_rfl) (by kernel_rfl) (by kernel_rfl) (by rfl)
   case hv=>
    intro W' hS K hK;obtain⟨s0,s1⟩:=hS;go_simp
    exact hK
   case hS=>exact a3.out
   try walk_nrm
   co_applyP zh (i:=2) a1.thenT.thenT a4 rfl (by kernel_rfl) (by kernel_rfl) (by kernel_rfl) (by rfl)
   case hv=>
    intro W' hS K hK;obtain⟨s0,s1⟩:=hS;go_simp
    exact hK
   case hS=>exact a3.out
   try walk_nrm
   co_applyP zh (i:=3) a1.thenT.thenT a4 rfl (by kernel_rfl) (by kernel_rfl) (by kernel_rfl) (by rfl)
   case hv=>
    intro W' hS K hK;obtain⟨s0,s1⟩:=hS;go_simp
    exact hK
   case hS=>exact a3.out
   try walk_nrm
   co_applyP zh (i:=4) a1.thenT.thenT a4 rfl (by kernel_rfl) (by kernel_rfl) (by kernel_rfl) (by rfl)
   case hv=>
    intro W' hS K hK;obtain⟨s0,s1⟩:=hS;go_simp
    exact hK
   case hS=>exact a3.out
   try walk_nrm
   co_applyP zh (i:=5) a1.thenT.thenT a4 rfl (by kernel_rfl) (by kernel_rfl) (by kernel_rfl) (by rfl)
   case hv=>
    intro W' hS K hK;obtain⟨s0,s1⟩:=hS;go_simp
    exact hK
   case hS=>exact a3.out
   try walk_nrm
   co_applyP zh (i:=6) a1.thenT.thenT a4 rfl (by kernel_rfl) (by kernel_rfl) (by kernel_rfl) (by rfl)
   case hv=>
    intro W' hS K hK;obtain⟨s0,s1⟩:=hS;go_simp
    exact hK
   case hS=>exact a3.out
   try walk_nrm
   co_applyP zh (i:=7) a1.thenT.thenT a4 rfl (by kernel_rfl) (by kernel_rfl) (by kernel_rfl) (by rfl)
   case hv=>
    intro W' hS K hK;obtain⟨s0,s1⟩:=hS;go_simp
    exact hK
   case hS=>exact a3.out
   try walk_nrm
   co_applyP zh (i:=8) a1.thenT.thenT a4 rfl (by kernel_rfl) (by kernel_rfl) (by kernel_rfl) (by rfl)
   case hv=>
    intro W' hS K hK;obtain⟨s0,s1⟩:=hS;go_simp
    exact hK
   case hS=>exact a3.out
   try walk_nrm
   by_cases d5:hd2=0∨R.mark st.cms hd hd2=true
   ·have a5:=b7.out W6 hd hd2 a9.out e7
    rw[decide_eq_true d5]at a5;rw[if_pos d5]at HJ;clear b7 e1 d7 d5;refine Y7 (i:=9) (by kernel_rfl) rfl (by rfl) rfl (by simp[Act.eval]) L4 (by decide) rfl a5 ?_;rintro v7 W7 ⟨rfl,c8⟩;have b3:=z6 (a9.out.keptM c8);have d8:=z6 (d3.out.trans c8);clear a5 a9 d3 a3 c8;refine⟨⟨c7.out W7 b3.out,b5.out W7 b3.out⟩,?_⟩;try walk_nrm
    refine YF (by kernel_rfl) ?_ _;simp only[Exit.then];refine zg hP a1.thenT fun T d=> ?_
    have x1:=c7.out _ (b3.out.re T d);have a2:Hid (yA w M O B (R.joinB st a0 fr) (.tuple #[.int .i64 (hd:Int),.int .i64 0]) (re W7 T d)):=by
     show yA _ _ _ _ _ _ _;rw[HJ.out];exact⟨rfl,ZT.same hx (d8.out.re T d)⟩
    clear b3 d8 HJ;generalize re W7 T d=W8 at*;go_wp2;refine⟨rfl,_,fun W=> ?_,a2.out⟩;simp[results,L3,go_sem]
   ·have a5:=b7.out W6 hd hd2 a9.out e7
    rw[decide_eq_false d5]at a5;rw[if_neg d5]at HJ;refine Y7 (i:=9) (by kernel_rfl) rfl (by rfl) rfl (by simp[Act.eval]) L4 (by decide) rfl a5 ?_;rintro v7 W7 ⟨rfl,c8⟩;have b3:=z6 (a9.out.keptM c8);have d8:=z6 (d3.out.trans c8);clear a5 a9 d3 a3 c8;refine⟨⟨c7.out W7 b3.out,b5.out W7 b3.out⟩,?_⟩;try walk_nrm
    refine YF (by kernel_rfl) ?_ _;simp only[Exit.then];refine zg hP a1.thenT fun T d=> ?_
    have b9:=z6 (b3.out.re T d);have f4:=z6 (d8.out.re T d);clear b3 d8;generalize re W7 T d=W8 at*;go_wp2;have a3:Hid (uJ b1 b2 hd hd2 W8):=⟨c7.out W8 b9.out,b5.out W8 b9.out⟩
    refine zw hP ?_;refine zw hP ?_;refine Vb hP (by kernel_rfl) a1.thenT.thenT (uJ b1 b2 hd hd2) a4 ?_;simp only[sE,mC,mS,sF,iX];co_applyP zh (i:=0) a1.thenT.thenT a4 rfl (by kernel_rfl) (by kernel_rfl) (by kernel_rfl) (by rfl)
    case hv=>
     intro W' hS K hK;obtain⟨s0,s1⟩:=hS;go_simp
     exact hK
    case hS=>exact a3.out
    try walk_nrm
    co_applyP zh (i:=1) a1.thenT.thenT a4 rfl (by kernel_rfl) (by kernel_rfl) (by kernel_rfl) (by rfl)
    case hv=>
     intro W' hS K hK;obtain⟨s0,s1⟩:=hS;go_simp
     exact hK
    case hS=>exact a3.out
    try walk_nrm
    co_applyP zh (i:=2) a1.thenT.thenT a4 rfl (by kernel_rfl) (by kernel_rfl) (by kernel_rfl) (by rfl)
    case hv=>
     intro W' hS K hK;obtain⟨s0,s1⟩:=hS;go_simp
     exact hK
    case hS=>exact a3.out
    try walk_nrm
    co_applyP zh (i:=3) a1.thenT.thenT a4 rfl (by kernel_rfl) (by kernel_rfl) (by kernel_rfl) (by rfl)
    case hv=>
     intro W' hS K hK;obtain⟨s0,s1⟩:=hS;go_simp
     exact hK
    case hS=>exact a3.out
    try walk_nrm
    co_applyP zh (i:=4) a1.thenT.thenT a4 rfl (by kernel_rfl) (by kernel_rfl) (by kernel_rfl) (by rfl)
    case hv=>
     intro W' hS K hK;obtain⟨s0,s1⟩:=hS;go_simp
     exact hK
    case hS=>exact a3.out
    try walk_nrm
    co_applyP zh (i:=5) a1.thenT.thenT a4 rfl (by kernel_rfl) (by kernel_rfl) (by kernel_rfl) (by rfl)
    case hv=>
     intro W' hS K hK;obtain⟨s0,s1⟩:=hS;go_simp
     exact hK
    case hS=>exact a3.out
    try walk_nrm
    co_applyP zh (i:=6) a1.thenT.thenT a4 rfl (by kernel_rfl) (by kernel_rfl) (by kernel_rfl) (by rfl)
    case hv=>
     intro W' hS K hK;obtain⟨s0,s1⟩:=hS;go_simp
     exact hK
    case hS=>exact a3.out
    try walk_nrm
    co_applyP zh (i:=7) a1.thenT.thenT a4 rfl (by kernel_rfl) (by kernel_rfl) (by kernel_rfl) (by rfl)
    case hv=>
     intro W' hS K hK;obtain⟨s0,s1⟩:=hS;go_simp
     exact hK
    case hS=>exact a3.out
    try walk_nrm
    co_applyP zh (i:=8) a1.thenT.thenT a4 rfl (by kernel_rfl) (by kernel_rfl) (by kernel_rfl) (by rfl)
    case hv=>
     intro W' hS K hK;obtain⟨s0,s1⟩:=hS;go_simp
     exact hK
    case hS=>exact a3.out
    try walk_nrm
    by_cases d6:hd=0∨R.mark st.cms hd2 hd=true
    ·have a5:=b7.out W8 hd2 hd b9.out e8
     rw[decide_eq_true d6]at a5;rw[if_pos d6]at HJ;clear b7 d7 d6;refine Y7 (i:=9) (by kernel_rfl) rfl (by rfl) rfl (by simp[Act.eval]) L4 (by decide) rfl a5 ?_;rintro v9 W9 ⟨rfl,c9⟩;have a7:=z6 (b9.out.keptM c9);have d4:=z6 (f4.out.trans c9);clear a5 b9 f4 a3 c9;refine⟨⟨c7.out W9 a7.out,b5.out W9 a7.out⟩,?_⟩;try walk_nrm
     refine YF (by kernel_rfl) ?_ _;simp only[Exit.then];refine zg hP a1.thenT fun T d=> ?_
     have x2:=b5.out _ (a7.out.re T d);have g7:=z6 (e1.out _ (d4.out.re T d) (a7.out.re T d));have d9:=z6 (d4.out.re T d);clear a7 d4 e1;generalize re W9 T d=Wa at*;go_wp2_with fail
     refine g7.out.mono ?_;rintro e Wb ⟨rfl,f3,y1,y0⟩;have a2:Hid (yA w M O B (R.joinB st a0 fr) (.tuple #[.int .i64 (hd2:Int),.int .i64 0]) Wb):=by
      show yA _ _ _ _ _ _ _;rw[HJ.out];exact⟨rfl,ZT.of d9.out f3⟩
     clear f3 g7 d9 HJ x2;go_wp2;refine⟨rfl,_,fun W=> ?_,a2.out⟩;simp[results,L3,go_sem]
    ·have a5:=b7.out W8 hd2 hd b9.out e8
     rw[decide_eq_false d6]at a5;rw[if_neg d6]at HJ;have i7:1≤hd:=L5 fun e=>d6 (.inl e)
     have i8:1≤hd2:=L5 fun e=>d5 (.inl e)
     refine Y7 (i:=9) (by kernel_rfl) rfl (by rfl) rfl (by simp[Act.eval]) L4 (by decide) rfl a5 ?_;rintro v9 W9 ⟨rfl,c9⟩;have a7:=z6 (b9.out.keptM c9);have d4:=z6 (f4.out.trans c9);clear a5 b9 f4 a3 c9 b7 e1;refine⟨⟨c7.out W9 a7.out,b5.out W9 a7.out⟩,?_⟩;try walk_nrm
     refine YF (by kernel_rfl) ?_ _;simp only[Exit.then];refine zg hP a1.thenT fun T d=> ?_
     have g9:=z6 (a7.out.re T d);have d9:=z6 (d4.out.re T d);clear a7 d4;generalize re W9 T d=Wa at*;go_wp2;refine zw hP ?_;refine zN hP 6 a1.thenT rfl rfl rfl Tryz.func49 (by decide) rfl fun T d=> ?_
     have f9:=z6 (g9.out.re T d);have b8:=z6 (d9.out.re T d);clear g9 d9;generalize re Wa T d=Wb at*;have x2:=b5.out Wb f9.out;simp only[List.take_succ_cons,List.take_zero,List.drop_succ_cons,List.drop_zero];go_wp2;refine⟨_,_,by simp[Act.eval],d7.out Wb b8.out f9.out i7 i8,?_⟩;rintro v Wc ⟨rfl,f3⟩ T d;have a2:Hid (yA w M O B (R.joinB st a0 fr) (.tuple #[.int .i64 (R.joinN st a0 hd hd2).1.1,.int .i64 (R.joinN st a0 hd hd2).1.2]) (re Wc T d)):=by
      show yA _ _ _ _ _ _ _;rw[HJ.out];refine⟨rfl,?_⟩;obtain⟨O',h1,h2,h3⟩:=f3.re T d;exact⟨O',h1,⟨h2.os.trans b8.out.os,h2.output.trans b8.out.output,j0f b8.out.size h2.size,fun k hk hn=>(h2.block k (j0b hk b8.out.size) hn).trans (b8.out.block k hk)⟩,fun k hk=>(h3 k hk).imp id fun h=>j0f b8.out.size h⟩
     clear f3 f9 b8 x2 d7 HJ;generalize re Wc T d=Wd at*;generalize R.joinN st a0 hd hd2=jn at*;go_wp2;refine qa hP ?_;refine⟨rfl,_,fun W=> ?_,a2.out⟩;simp[results,L3,go_sem]
  ·have f0:R.fndI st.brs fr<0:=by rw[R.fndI,if_neg e3];omega
   obtain⟨a6,c6, -⟩:=ZI hx a0 b4;have e2:Zp LB st fr=none:=by rw[Zp,if_neg e3]
   rw[c6]at a8;rw[e2]at b6;refine zg hP a1 fun T d=> ?_
   have HA:=z6 (a8.out _ (hx.re T d));have HB:=z6 (b6.out _ (hx.re T d));have a2:Hid (yA w M O B (R.joinB st a0 fr) (.tuple #[.int .i64 0,.int .i64 5]) (re w T d)):=by
    show yA _ _ _ _ _ _ _;rw[R.joinB,if_pos (.inr f0)];exact⟨rfl,ZT.same hx ((zf.refl w).re T d)⟩
   clear a8 b6 c6 e2 f0 e3 hx;generalize(LB[R.fnd st.brs a0]'a6).2.1=b1 at*;generalize re w T d=W at*;go_wp2_with fail
   refine HA.out.mono ?_;rintro e W2 ⟨rfl,rfl⟩;go_wp2_with fail
   refine HB.out.mono ?_;rintro e W3 ⟨rfl,rfl⟩;go_wp2;refine⟨rfl,_,fun W=> ?_,a2.out⟩;simp[results,L3,go_sem]
 ·have e9:R.fndI st.brs a0<0:=by rw[R.fndI,if_neg b4];omega
  have c6:Zp LB st a0=none:=by rw[Zp,if_neg b4]
  rw[c6]at a8;refine zg hP a1 fun T d=> ?_
  have HA:=z6 (a8.out _ (hx.re T d));have HB:=z6 (b6.out _ (hx.re T d));have a2:Hid (yA w M O B (R.joinB st a0 fr) (.tuple #[.int .i64 0,.int .i64 5]) (re w T d)):=by
   show yA _ _ _ _ _ _ _;rw[R.joinB,if_pos (.inl e9)];exact⟨rfl,ZT.same hx ((zf.refl w).re T d)⟩
  clear a8 b6 c6 e9 b4 hx;generalize Zp LB st fr=p2 at*;generalize re w T d=W at*;go_wp2_with fail
  refine HA.out.mono ?_;rintro e W2 ⟨rfl,rfl⟩;go_wp2_with fail
  refine HB.out.mono ?_;rintro e W3 ⟨rfl,rfl⟩;go_wp2;refine⟨rfl,_,fun W=> ?_,a2.out⟩;simp[results,L3,go_sem]
end
section
variable {H:Type}{enc:TypeId×Value→H}
theorem F3:Tryz.prog.cellsOf 3=1:=by kernel_rfl
theorem xB {n:Int}(h:(Lit.int .i64 n).wf=true): -9223372036854775808≤n∧n≤9223372036854775807:=by
 simpa[Lit.wf,IntKind.min,IntKind.max,IntKind.bits,IntKind.signed]using h
theorem JL {w:World}{a:Addr}{v:Value}(h:w.cell? a=some v):a.block<w.heap.size:=by
 rcases nR a.block w.heap.size with h' |h'
 ·exact h'
 ·simp[pV,L6 h']at h
end
theorem F1:Tryz.prog.cellsOf 278=1:=by kernel_rfl
theorem F2:Tryz.prog.cellsOf 298=20:=by kernel_rfl
theorem JA:(Tryz.prog.globals[1]?).map (·.type)=some 298:=by kernel_rfl
theorem uo:Tryz.prog.globalNamed "math/bits.deBruijn64tab" =some 7:=by kernel_rfl
theorem uh {W:World}{l:List (String×DataW Unit)}(h:laidMetH rJ l W)(hl:(l.filter fun x=>x.2.handleName?.isSome)=[]):laidMet rJ l W:=by
 unfold laidMetH at h;rw[hl]at h;exact h
theorem CY {W:World}(h:laidMetH rJ Rows.valuesUptoRow.laid W)(hs:W.ShapedOpen rJ):Zy W:=by
 refine⟨Tryz.laysM146.s1_3 W hs,?_,?_⟩
 ·have h1:=(uh h (by kernel_rfl)).tail.tail
  exact Lib.tabIs_of_head (zs:=Lib.pow10Tab) O9 JA Tryz.underlying298 Tryz.underlying278 F1 F2 h1
 ·have h1:=uh h (by kernel_rfl)
  obtain⟨ps,⟨_,_,_,_,_,_,_,_,_,_,⟨g,t,cs,a0,p,q,hg,ht,hv,_,_,_⟩,_⟩,_⟩:=h1;obtain rfl:(7:Nat)=g:=Option.some.inj (uo.symm.trans hg);simp only[World.var?,uo,Option.bind_some]at hv;rcases nR 7 W.heap.size with h' |h'
  ·omega
  ·rw[L6 h']at hv
   cases hv
theorem un {P:Program}{Post a0 :Value→World→Prop}{m:Machine}{o:Outcome}{w' :World}{t' :Trace}(h:Conc.Good P Post m o w' t')(hp:∀v,Post v w' →a0 v w'):Conc.Good P a0 m o w' t' :=
 h.elim fun v x=>⟨v,x.1,hp v x.2.1,x.2.2⟩
section
variable {H:Type}{enc:TypeId×Value→H}
theorem Xy {a:Assume}{C:Checked}{os:Os}{f:FuncId}{fn:Func}{s:OpenSpec}{F:Stop.Interp}{a5:List PathCond}{apart fresh a1 a4:Bool}{a6:List (String×DataW Unit)}
  (own:ownKnob C.prog.godebug=none)(a2:os.Started)(b3:C.prog.funcs[f]? =some fn)
  (a3:∃(w:World) (tape:Tape) (i:Input),w.os=os∧(w.forCall tape i).Shaped C.prog∧i.vars=[]∧Input.okWide C.prog (w.forCall tape i) .any w.heap.size f i∧
   s.preRow enc C.prog fn a5 apart a6 (w.forCall tape i).memory i.args∧a.holds C.prog (lone (eW C.prog f i.args .normal) [] (w.forCall tape i)))
  (runs:∀(W:World) (base:Nat) (args:Array Value) (ds gs:List (DataW H)) (a0:List MemPlace),
   (∀(j:Nat) t v,fn.params[j]? =some t→args[j]? =some v→Value.okWide C.prog W .any base t v)→
   DataW.Whole enc C.prog fn.params.toList s.vars apart W args.toList ds gs a0→
   (∀k,s.cond=some k→k H (ds++gs)=true)→
   laidMetH C.prog a6 W→
   W.ShapedOpen C.prog→
   ∃M last o w' t',runNT C.prog (M+1) (solo (G (eW C.prog f args .normal) []) W) #[]=(.ended o w',t')∧runN C.prog M (solo (G (eW C.prog f args .normal) []) W)= .next last∧
    step C.prog last= .ended o w' ∧Conc.Good C.prog (fun v W' =>(s.at F).post enc C.prog fn apart fresh a1 a4 W args v W') last o w' t'):
  ReturnsInLeavingWide a C os f .any (s.preRow enc C.prog fn a5 apart a6) ((s.at F).post enc C.prog fn apart fresh a1 a4):=by
 refine returnsInLeavingWide_of_good own a2 a3 ?_;intro w tape i _ b5 _ b4 a9 a8;obtain⟨_,_,_,b2,a7,_,_,_,_,b1⟩:=b4;have e:b2 =fn:=Option.some.inj (a7.symm.trans b3);subst e;obtain⟨⟨hp,hl⟩,hz⟩:=a9;obtain⟨ds,gs,a0,hw,hc,hk⟩:=OpenSpec.pre_parts hp;have b6 :=DataW.Whole.of_heap (w' :=w.forCall tape i) (by rfl) hw;obtain⟨M,last,o,w',t',h1,h2,h3,h4⟩:=runs (w.forCall tape i) w.heap.size i.args ds gs a0 b1 b6 hk (hl.of_heap (by rfl)) b5;exact⟨M,last,o,w',t',h1,h2,h3,un h4 fun v hp=>ChangeSpec.post_blind hp⟩
end
theorem holds_of_cond_leaving {p:Pinned}{s:OpenSpec}{c:OpenClaim}(f:FuncId)(fn:Func)
  (hn:c.program=p.name)(hs:c.sum=p.sum)(c8:c.spec=s.name)
  (a0:c.start= .entering)(a2:c.outside=[])(b8:c.inits=[])(c9:c.under=none)(b7:c.initsInPlace=[]∧c.initsUnfollowed=false∧c.initsRecurse=false∧c.initsNamed=[]∧c.initsPassed=[])(b3:c.noBlocks=false)(b9:c.leaving=true)(a6:c.followed=none)(a7:c.narrowed=s.cond.isSome)(a3:c.still=false)
  (b6:p.checked.prog.funcNamed c.func=some f)(hf:p.checked.prog.funcs[f]? =some fn)
  (a1:joinedFacts p.checked.prog f fn s.bare c=true)
  (a4:fn.isInstance p.checked.prog c.origin c.targs)(a5:fn.isWrapper p.checked.prog c.wrapper c.mainSum)
  (h:∀os:Os,os.Started→∀(H:Type) (enc:TypeId×Value→H),(∀a b,enc a=enc b→a=b)→∀F:Stop.Interp,
   ReturnsInLeavingWide c.assume p.checked os f .any (c.pre enc p.checked.prog fn s) ((s.at F).post enc p.checked.prog fn c.apart c.fresh c.handsOn c.again)):c.holds p s:=by
 simp only[joinedFacts,Bool.and_eq_true,beq_iff_eq,Array.all_eq_true_iff_forall_mem,List.all_eq_true,decide_eq_true_eq]at a1;obtain⟨⟨⟨⟨⟨⟨⟨⟨⟨⟨⟨⟨⟨⟨⟨⟨⟨⟨⟨⟨⟨⟨⟨⟨⟨⟨⟨⟨⟨⟨⟨k1,k2⟩,k3⟩,k4⟩,k5⟩,k6⟩,k7⟩,k8⟩,k9⟩,d4⟩,d5⟩,d6⟩,d7⟩,d8⟩,d9⟩,e6⟩,e7⟩,a8⟩,e8⟩,e9⟩,f0⟩,f3⟩,f4⟩,b4⟩,a9⟩,b5⟩,b1⟩,b2⟩,f5⟩,f6⟩,f7⟩,f8⟩:=a1;have hq:∀os:Os,Stop.quiet p.checked.prog os:=fun os k hk=>by rw[k9]at hk;cases hk
 refine⟨k1,hn,hs,c8,k2,k3,by unfold OpenClaim.startFits;rw[a0];exact b5,by unfold OpenClaim.startTold;rw[a0];exact⟨b8,c9,b7⟩,f,fn,b6,hf,⟨k4,e9⟩,(fun hb=>by rw[b3]at hb;cases hb),by unfold OpenClaim.namedList;rw[a6];exact k5,a4,a5,
  k6.trans k7.symm,⟨k8.trans k9.symm,by unfold Program.envWorded;rw[k9];rfl,a9⟩,d4,d5,d6,d7,d8,⟨d9,f7,f8⟩,⟨e6,f0⟩,⟨e7,f3,f5,f6⟩,⟨f4,b1,b2,a8⟩,(by rw[a2,a7];cases c7:c.shortTexts with|none=>simp|some _=>rw[c7]at b4;cases b4),fun n c6 =>varReadable_some (e8 n c6),
  ⟨_,by unfold OpenClaim.world;rw[a2,a0];exact WideRow.started_initial,hq _⟩,[],by unfold OpenClaim.lists;rw[a6],fun os st _ H enc d3=> ?_⟩
 have st' :os.Started:=by unfold OpenClaim.world at st;rw[a2,a0]at st;exact st
 rw[OpenClaim.post_not_still a3];unfold OpenClaim.form;rw[a0,k6];intro F;have e1:c.okInput=Input.okWide:=by unfold OpenClaim.okInput;rw[b3]
 have e2:c.atReturn p.checked.prog=leavingAtReturn p.checked.prog:=by unfold OpenClaim.atReturn;rw[b9]
 have e3:c.always p.checked.prog []=nothingAlways:=by unfold OpenClaim.always;rw[a6]
 have e4:s.post enc p.checked.prog fn F c.outside c.apart c.fresh c.handsOn c.again=(s.at F).post enc p.checked.prog fn c.apart c.fresh c.handsOn c.again:=by rw[a2];rfl
 rw[e1,e2,e3];show ReturnsInOpen _ _ _ _ _ _ _ _ (s.post enc p.checked.prog fn F c.outside c.apart c.fresh c.handsOn c.again) _ _;rw[e4];exact h os st' H enc d3 F b5
theorem jS {W W' :World}(h:bz W.heap.size W W')(a0:MemPlace→Prop):W.keptBut W' a0:=by
 refine⟨h.os,h.output,fun i hi=> ?_⟩;rw[h.block i hi]
 cases W.heap[i]? with
 |none=>rfl
 |some o=>cases o<;>first|exact⟨rfl,rfl,rfl,fun _ _=>rfl⟩|exact Or.inr ⟨rfl,rfl⟩|rfl
theorem Jo {W W' :World}(h:bz W.heap.size W W'){p:MemPlace}(hp:p.block<W.heap.size):W.sameAt W' p:=by
 have h1:=h.block p.block hp
 cases p<;>simp only[World.sameAt,MemPlace.block,pV]at h1⊢<;>simp[h1]
