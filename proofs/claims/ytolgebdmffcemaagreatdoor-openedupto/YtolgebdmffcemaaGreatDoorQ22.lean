import Derived.Test.YtolgebdmffcemaaGreatDoorQ21
import Derived.ProofKit
import Derived.OpenShut
import Derived.Deep.Slices
import Derived.WideKeyArgs
import Derived.Lib.LaidTab
import Derived.Stop.LaidErr
import Derived.Shelf.Strings.SplitShaped
import Derived.Conc.Holds
import Derived.Deep.DeepHandedRow
import Derived.Laws.BytesArg
set_option linter.all false
set_option maxHeartbeats 20000000
set_option maxRecDepth 1000000
open Go renaming World→eX,Calls→wH,Value→eB,Question→iC
open Go.Proofs.Tryz renaming prog→sU,func19→MT,results19→MU,func47→MV,func25→MX,ntmps25→MY,func23→N0,func36→N1,f36→N3,results36→N4,underlying100→H5,underlying5→N5,underlying9→H6
open List renaming size_toArray→tQ,length_cons→nM,length_nil→pC,push_toArray→tV,append_toArray→tX,nil_append→nV,cons_append→mJ,take_succ_cons→aX,take_zero→ME,drop_succ_cons→MF,drop_zero→MG,range→mO,getD_eq_getElem?_getD→lB,take_succ_eq_append_getElem→nN,take_length→aU,getElem?_eq_some_iff→rD
open Nat renaming reduceAdd→tR,reduceSub→tS,zero_add→lQ,pos_of_ne_zero→MW,lt_or_ge→mX,le_of_not_lt→MZ,add_zero→iE,zero_le→wB
open Array renaming replicate_succ→tT,replicate_zero→tU,getElem?_eq_none→mY
open Go.World renaming cell?→sE,cell?_of_block→sD
open Go.Frame renaming enter→iM
open Go.Proofs.YtolgebdmffcemaaGreatDoor renaming re→mG
open Bool renaming false_eq_true→eU
open Go.Lib renaming byteCells→tG
namespace Go.Proofs.YtolgebdmffcemaaGreatDoor
open Go Go.Conc Go.RowKit Go.ChangeShapes Go.WideShapes Go.ChangeAt
def uX (b1 b2:Nat)(a b:Nat)(W:eX):Prop:=W.cell? ⟨b1,1,none⟩=some (.int .i64 (a:Int))∧W.cell? ⟨b2,1,none⟩=some (.int .i64 (b:Int))
section
theorem Bu {M O:Nat→Prop}{B:Nat}{st:R.St}{w:eX}(hi:Inv st)(h:PS w M O B st)(hM:∀b,M b→b<w.heap.size)(hG:Zp w)(h6:∀b,O b→6≤b)(i9:st.packed.length≤100000000000)(a0 fr:List UInt8)(i6:a0.length≤1000):
  zF sU 19 #[.pointer (some ⟨B,0,none⟩),.string ⟨a0.toArray⟩,.string ⟨fr.toArray⟩] w (yG w M O B (R.joinB st a0 fr)):=by
 have hP:=xx;have g1:=hi.few;obtain⟨bv,cv,LB,LCm,hx⟩:=h;refine zL hP MT rfl ?_;have a1:ReC (zZ sU Tryz.f19 (yG w M O B (R.joinB st a0 fr))):=ReC.body fun v w' T d ⟨h1,h2⟩=>⟨h1,h2.re T d⟩
 simp only[Tryz.ntmps19,tQ,nM,pC,tR,tS,tT,tU,tV,tX,nV,mJ];have a8:Hid (∀W,PSx W M O B st bv cv LB LCm→wH sU 45 #[.pointer (some ⟨B,0,none⟩),.string ⟨a0.toArray⟩] W fun e w' =>e= .returned (.pointer (Zh LB st a0))∧w' =W):=fun W hW=>qv hW hi a0
 have b6:Hid (∀W,PSx W M O B st bv cv LB LCm→wH sU 45 #[.pointer (some ⟨B,0,none⟩),.string ⟨fr.toArray⟩] W fun e w' =>e= .returned (.pointer (Zh LB st fr))∧w' =W):=fun W hW=>qv hW hi fr
 by_cases b4:R.fnd st.brs a0<st.brs.length
 ·by_cases e3:R.fnd st.brs fr<st.brs.length
  ·have e9:¬R.fndI st.brs a0<0:=by rw[R.fndI,if_pos b4];omega
   have f0:¬R.fndI st.brs fr<0:=by rw[R.fndI,if_pos e3];omega
   obtain⟨a6,c6,h0,f6,i3⟩:=Zy hx a0 b4;obtain⟨e6,e2,i4,i1,j0⟩:=Zy hx fr e3;have HJ:Hid (R.joinB st a0 fr=if R.Written (R.workOf st a0)≠R.Written (R.treeOf st (R.headOf st a0))then((0,9),st)else R.joinH st a0 (R.headOf st a0) (R.headOf st fr)):=by
    show _=_;rw[R.joinB,if_neg (fun e=>by rcases e with e|e;exact e9 e;exact f0 e)]
   have c7:Hid (∀W,PSx W M O B st bv cv LB LCm→W.cell? ⟨(LB[R.fnd st.brs a0]'a6).2.1,1,none⟩=some (.int .i64 (R.headOf st a0:Int))):=fun W hW=>by rw[f6];exact(hW.at_ _ (j0c a6)).c1
   have b5:Hid (∀W,PSx W M O B st bv cv LB LCm→W.cell? ⟨(LB[R.fnd st.brs fr]'e6).2.1,1,none⟩=some (.int .i64 (R.headOf st fr:Int))):=fun W hW=>by rw[i1];exact(hW.at_ _ (j0c e6)).c1
   have j2:(LB[R.fnd st.brs a0]'a6).2.1<w.heap.size:=hx.lt _ (hx.blk _ (j0c a6)).1;have j3:(LB[R.fnd st.brs fr]'e6).2.1<w.heap.size:=hx.lt _ (hx.blk _ (j0c e6)).1;have g3:Hid (∀W,PSx W M O B st bv cv LB LCm→wH sU 46 #[.pointer (some ⟨B,0,none⟩),.pointer (some ⟨(LB[R.fnd st.brs a0]'a6).2.1,0,none⟩)] W fun e w' =>∃q:Bool,(q=false↔R.Written (R.workOf st a0)=R.Written (R.treeOf st (R.headOf st a0)))∧e= .returned (.bool q)∧Below W.heap.size W w'):=fun W hW=>(OF hW hi _ (j0c a6)).mono fun e w' ⟨q,h1,h2,h3⟩=>⟨q,by
    rw[h1,i3,f6];have g2:(LB[R.fnd st.brs a0]'a6).1∈st.brs:=by rw[h0];exact j0c b4
    exact(OkT.inj (hi.work _ g2) (ye hi.trees _)).symm,h2,h3⟩
   have b7:Hid (∀(W:eX) (x y:Nat),PSx W M O B st bv cv LB LCm→x≤st.cms.length→zF sU 47 #[.pointer (some ⟨B,0,none⟩),.int .i64 (x:Int),.int .i64 (y:Int)] W (CA W (decide (y=0∨R.mark st.cms x y=true)))):=fun W x y hW j1=>CK hi.wf (hW.hist hi) j1 g1
   have e1:Hid (∀W,ze w W→PSx W M O B st bv cv LB LCm→wH sU 48 #[.pointer (some ⟨B,0,none⟩),.string ⟨a0.toArray⟩,.int .i64 (R.headOf st fr:Int)] W fun e w' =>e= .returned (.tuple #[])∧zx W w' M O B (R.setHead st a0 (R.headOf st fr))∧w'.cell? ⟨(LB[R.fnd st.brs a0]'a6).2.1,1,none⟩=some (.int .i64 (R.headOf st fr:Int))∧w'.cell? ⟨(LB[R.fnd st.brs a0]'a6).2.1,0,none⟩=some (.string ⟨a0.toArray⟩)):=fun W hk hW=>Ov B st a0 (R.headOf st fr) W M O hW b4 _ (fun _=>rfl) hi (Zr hi fr) i6 (by omega)
   have d7:Hid (∀W,ze w W→PSx W M O B st bv cv LB LCm→1≤R.headOf st a0→1≤R.headOf st fr→zF sU 49 #[.pointer (some ⟨B,0,none⟩),.pointer (some ⟨(LB[R.fnd st.brs a0]'a6).2.1,0,none⟩),.int .i64 (R.headOf st fr:Int)] W (yG W M O B (R.joinN st a0 (R.headOf st a0) (R.headOf st fr)))):=fun W hk hW h1 h2=>Bq hi hW (fun k i5 =>j0b (hM k i5) hk.size) (hG.keptM hk) h6 i9 a0 b4 a6 (R.headOf st a0) (R.headOf st fr) f6.symm h1 (Zr hi a0) h2 (Zr hi fr)
   have e7:=Zr hi a0;have e8:=Zr hi fr;rw[c6]at a8;rw[e2]at b6;clear c6 e2 h0 i4 f6 i1 i3 j0 e9 f0;generalize(LB[R.fnd st.brs a0]'a6).2.1=b1 at*;generalize(LB[R.fnd st.brs fr]'e6).2.1=b2 at*;have f7:Hid (R.joinH st a0 (R.headOf st a0) (R.headOf st fr)=if R.headOf st fr=0∨R.mark st.cms (R.headOf st a0) (R.headOf st fr)=true then(((R.headOf st a0:Nat):Int),0,st)|>fun p=>((p.1,p.2.1),p.2.2)else if R.headOf st a0=0∨R.mark st.cms (R.headOf st fr) (R.headOf st a0)=true then(((R.headOf st fr:Nat):Int),0)|>fun p=>(p,R.setHead st a0 (R.headOf st fr))else R.joinN st a0 (R.headOf st a0) (R.headOf st fr)):=rfl;generalize R.headOf st a0=hd at*;generalize R.headOf st fr=hd2 at*;refine z7 hP a1 fun T d=> ?_
   have HX:=z4 (hx.re T d);have HK:=z4 ((ze.refl w).re T d);generalize re w T d=W at*;go_wp2;refine z7 hP a1 fun T d=> ?_
   have f5:=z4 (HX.out.re T d);have g4:=z4 (HK.out.re T d);clear HX HK;generalize re W T d=W1 at*;go_wp2_with fail
   refine(a8.out W1 f5.out).mono ?_;rintro e W2 ⟨rfl,rfl⟩;go_wp2_with fail
   refine(b6.out W2 f5.out).mono ?_;rintro e W3 ⟨rfl,rfl⟩;go_wp2;refine z7 hP a1 fun T d=> ?_
   have g8:=z4 (f5.out.re T d);have g5:=z4 (g4.out.re T d);clear f5 g4 a8 b6;generalize re W3 T d=W4 at*;go_wp2;refine z7 hP a1 fun T d=> ?_
   have f8:=z4 (g8.out.re T d);have g6:=z4 (g5.out.re T d);clear g8 g5;generalize re W4 T d=W5 at*;go_wp2_with fail
   refine(g3.out W5 f8.out).mono ?_;rintro e W6 ⟨q,hq,rfl,g0⟩;have a9:=z4 (f8.out.below g0);have d3:=z4 (g6.out.trans (ze.of_below g0));clear f8 g6 g0 g3
   cases q
   rotate_left
   ·have i2:R.Written (R.workOf st a0)≠R.Written (R.treeOf st hd):=fun e=>by have:=hq.2 e;cases this
    rw[if_pos i2]at HJ;have a2:Hid (yG w M O B (R.joinB st a0 fr) (.tuple #[.int .i64 0,.int .i64 9]) W6):=by
     show yG _ _ _ _ _ _ _;rw[HJ.out];exact⟨rfl,yd.same hx d3.out⟩
    clear hq i2 HJ f7 d7 e1 b7 a9 d3;go_wp2;refine⟨rfl,_,fun W=> ?_,a2.out⟩;simp[results,MU,go_sem]
   have i0:=hq.1 rfl;rw[if_neg (fun h=>h i0),f7.out]at HJ;clear hq i0 f7;go_wp2;have a4:∀(w:eX) T d,uX b1 b2 hd hd2 w→uX b1 b2 hd hd2 (re w T d):=fun w T d h=>h
   have a3:Hid (uX b1 b2 hd hd2 W6):=⟨c7.out W6 a9.out,b5.out W6 a9.out⟩
   refine zn hP ?_;refine zn hP ?_;refine Vh hP (by kernel_rfl) a1.thenT.thenT (uX b1 b2 hd hd2) a4 ?_;simp only[tQ,nM,pC,tR,lQ];co_applyP zi (i:=0) a1.thenT.thenT a4 rfl (by kernel_rfl) (by kernel_rfl) (by kernel_rfl) (by rfl)
   case hv=>
    intro W' hS K hK;obtain⟨s0,s1⟩:=hS;go_simp
    exact hK
   case hS=>exact a3.out
   try walk_nrm
   co_applyP zi (i:=1) a1.thenT.thenT a4 rfl (by kernel_rfl) (by kernel_rfl) (by kernel_rfl) (by rfl)
   case hv=>
    intro W' hS K hK;obtain⟨s0,s1⟩:=hS;go_simp
    exact hK
   case hS=>exact a3.out
   try walk_nrm
   co_applyP zi (i:=2) a1.thenT.thenT a4 rfl (by kernel_rfl) (by kernel_rfl) (by kernel_rfl) (by rfl)
   case hv=>
    intro W' hS K hK;obtain⟨s0,s1⟩:=hS;go_simp
    exact hK
   case hS=>exact a3.out
   try walk_nrm
   co_applyP zi (i:=3) a1.thenT.thenT a4 rfl (by kernel_rfl) (by kernel_rfl) (by kernel_rfl) (by rfl)
   case hv=>
    intro W' hS K hK;obtain⟨s0,s1⟩:=hS;go_simp
    exact hK
   case hS=>exact a3.out
   try walk_nrm
   co_applyP zi (i:=4) a1.thenT.thenT a4 rfl (by kernel_rfl) (by kernel_rfl) (by kernel_rfl) (by rfl)
   case hv=>
    intro W' hS K hK;obtain⟨s0,s1⟩:=hS;go_simp
    exact hK
   case hS=>exact a3.out
   try walk_nrm
   co_applyP zi (i:=5) a1.thenT.thenT a4 rfl (by kernel_rfl) (by kernel_rfl) (by kernel_rfl) (by rfl)
   case hv=>
    intro W' hS K hK;obtain⟨s0,s1⟩:=hS;go_simp
    exact hK
   case hS=>exact a3.out
   try walk_nrm
   co_applyP zi (i:=6) a1.thenT.thenT a4 rfl (by kernel_rfl) (by kernel_rfl) (by kernel_rfl) (by rfl)
   case hv=>
    intro W' hS K hK;obtain⟨s0,s1⟩:=hS;go_simp
    exact hK
   case hS=>exact a3.out
   try walk_nrm
   co_applyP zi (i:=7) a1.thenT.thenT a4 rfl (by kernel_rfl) (by kernel_rfl) (by kernel_rfl) (by rfl)
   case hv=>
    intro W' hS K hK;obtain⟨s0,s1⟩:=hS;go_simp
    exact hK
   case hS=>exact a3.out
   try walk_nrm
   co_applyP zi (i:=8) a1.thenT.thenT a4 rfl (by kernel_rfl) (by kernel_rfl) (by kernel_rfl) (by rfl)
   case hv=>
    intro W' hS K hK;obtain⟨s0,s1⟩:=hS;go_simp
    exact hK
   case hS=>exact a3.out
   try walk_nrm
   by_cases d5:hd2=0∨R.mark st.cms hd hd2=true
   ·have a5:=b7.out W6 hd hd2 a9.out e7
    rw[decide_eq_true d5]at a5;rw[if_pos d5]at HJ;clear b7 e1 d7 d5;refine Yf (i:=9) (by kernel_rfl) rfl (by rfl) rfl (by simp[Act.eval]) MV (by decide) rfl a5 ?_;rintro v7 W7 ⟨rfl,c8⟩;have b3:=z4 (a9.out.keptM c8);have d8:=z4 (d3.out.trans c8);clear a5 a9 d3 a3 c8;refine⟨⟨c7.out W7 b3.out,b5.out W7 b3.out⟩,?_⟩;try walk_nrm
    refine YM (by kernel_rfl) ?_ _;simp only[Exit.then];refine zg hP a1.thenT fun T d=> ?_
    have x1:=c7.out _ (b3.out.re T d);have a2:Hid (yG w M O B (R.joinB st a0 fr) (.tuple #[.int .i64 (hd:Int),.int .i64 0]) (re W7 T d)):=by
     show yG _ _ _ _ _ _ _;rw[HJ.out];exact⟨rfl,yd.same hx (d8.out.re T d)⟩
    clear b3 d8 HJ;generalize re W7 T d=W8 at*;go_wp2;refine⟨rfl,_,fun W=> ?_,a2.out⟩;simp[results,MU,go_sem]
   ·have a5:=b7.out W6 hd hd2 a9.out e7
    rw[decide_eq_false d5]at a5;rw[if_neg d5]at HJ;refine Yf (i:=9) (by kernel_rfl) rfl (by rfl) rfl (by simp[Act.eval]) MV (by decide) rfl a5 ?_;rintro v7 W7 ⟨rfl,c8⟩;have b3:=z4 (a9.out.keptM c8);have d8:=z4 (d3.out.trans c8);clear a5 a9 d3 a3 c8;refine⟨⟨c7.out W7 b3.out,b5.out W7 b3.out⟩,?_⟩;try walk_nrm
    refine YM (by kernel_rfl) ?_ _;simp only[Exit.then];refine zg hP a1.thenT fun T d=> ?_
    have b9:=z4 (b3.out.re T d);have f4:=z4 (d8.out.re T d);clear b3 d8;generalize re W7 T d=W8 at*;go_wp2;have a3:Hid (uX b1 b2 hd hd2 W8):=⟨c7.out W8 b9.out,b5.out W8 b9.out⟩
    refine zn hP ?_;refine zn hP ?_;refine Vh hP (by kernel_rfl) a1.thenT.thenT (uX b1 b2 hd hd2) a4 ?_;simp only[tQ,nM,pC,tR,lQ];co_applyP zi (i:=0) a1.thenT.thenT a4 rfl (by kernel_rfl) (by kernel_rfl) (by kernel_rfl) (by rfl)
    case hv=>
     intro W' hS K hK;obtain⟨s0,s1⟩:=hS;go_simp
     exact hK
    case hS=>exact a3.out
    try walk_nrm
    co_applyP zi (i:=1) a1.thenT.thenT a4 rfl (by kernel_rfl) (by kernel_rfl) (by kernel_rfl) (by rfl)
    case hv=>
     intro W' hS K hK;obtain⟨s0,s1⟩:=hS;go_simp
     exact hK
    case hS=>exact a3.out
    try walk_nrm
    co_applyP zi (i:=2) a1.thenT.thenT a4 rfl (by kernel_rfl) (by kernel_rfl) (by kernel_rfl) (by rfl)
    case hv=>
     intro W' hS K hK;obtain⟨s0,s1⟩:=hS;go_simp
     exact hK
    case hS=>exact a3.out
    try walk_nrm
    co_applyP zi (i:=3) a1.thenT.thenT a4 rfl (by kernel_rfl) (by kernel_rfl) (by kernel_rfl) (by rfl)
    case hv=>
     intro W' hS K hK;obtain⟨s0,s1⟩:=hS;go_simp
     exact hK
    case hS=>exact a3.out
    try walk_nrm
    co_applyP zi (i:=4) a1.thenT.thenT a4 rfl (by kernel_rfl) (by kernel_rfl) (by kernel_rfl) (by rfl)
    case hv=>
     intro W' hS K hK;obtain⟨s0,s1⟩:=hS;go_simp
     exact hK
    case hS=>exact a3.out
    try walk_nrm
    co_applyP zi (i:=5) a1.thenT.thenT a4 rfl (by kernel_rfl) (by kernel_rfl) (by kernel_rfl) (by rfl)
    case hv=>
     intro W' hS K hK;obtain⟨s0,s1⟩:=hS;go_simp
     exact hK
    case hS=>exact a3.out
    try walk_nrm
    co_applyP zi (i:=6) a1.thenT.thenT a4 rfl (by kernel_rfl) (by kernel_rfl) (by kernel_rfl) (by rfl)
    case hv=>
     intro W' hS K hK;obtain⟨s0,s1⟩:=hS;go_simp
     exact hK
    case hS=>exact a3.out
    try walk_nrm
    co_applyP zi (i:=7) a1.thenT.thenT a4 rfl (by kernel_rfl) (by kernel_rfl) (by kernel_rfl) (by rfl)
    case hv=>
     intro W' hS K hK;obtain⟨s0,s1⟩:=hS;go_simp
     exact hK
    case hS=>exact a3.out
    try walk_nrm
    co_applyP zi (i:=8) a1.thenT.thenT a4 rfl (by kernel_rfl) (by kernel_rfl) (by kernel_rfl) (by rfl)
    case hv=>
     intro W' hS K hK;obtain⟨s0,s1⟩:=hS;go_simp
     exact hK
    case hS=>exact a3.out
    try walk_nrm
    by_cases d6:hd=0∨R.mark st.cms hd2 hd=true
    ·have a5:=b7.out W8 hd2 hd b9.out e8
     rw[decide_eq_true d6]at a5;rw[if_pos d6]at HJ;clear b7 d7 d6;refine Yf (i:=9) (by kernel_rfl) rfl (by rfl) rfl (by simp[Act.eval]) MV (by decide) rfl a5 ?_;rintro v9 W9 ⟨rfl,c9⟩;have a7:=z4 (b9.out.keptM c9);have d4:=z4 (f4.out.trans c9);clear a5 b9 f4 a3 c9;refine⟨⟨c7.out W9 a7.out,b5.out W9 a7.out⟩,?_⟩;try walk_nrm
     refine YM (by kernel_rfl) ?_ _;simp only[Exit.then];refine zg hP a1.thenT fun T d=> ?_
     have x2:=b5.out _ (a7.out.re T d);have g7:=z4 (e1.out _ (d4.out.re T d) (a7.out.re T d));have d9:=z4 (d4.out.re T d);clear a7 d4 e1;generalize re W9 T d=Wa at*;go_wp2_with fail
     refine g7.out.mono ?_;rintro e Wb ⟨rfl,f3,y1,y0⟩;have a2:Hid (yG w M O B (R.joinB st a0 fr) (.tuple #[.int .i64 (hd2:Int),.int .i64 0]) Wb):=by
      show yG _ _ _ _ _ _ _;rw[HJ.out];exact⟨rfl,yd.of d9.out f3⟩
     clear f3 g7 d9 HJ x2;go_wp2;refine⟨rfl,_,fun W=> ?_,a2.out⟩;simp[results,MU,go_sem]
    ·have a5:=b7.out W8 hd2 hd b9.out e8
     rw[decide_eq_false d6]at a5;rw[if_neg d6]at HJ;have i7:1≤hd:=MW fun e=>d6 (.inl e)
     have i8:1≤hd2:=MW fun e=>d5 (.inl e)
     refine Yf (i:=9) (by kernel_rfl) rfl (by rfl) rfl (by simp[Act.eval]) MV (by decide) rfl a5 ?_;rintro v9 W9 ⟨rfl,c9⟩;have a7:=z4 (b9.out.keptM c9);have d4:=z4 (f4.out.trans c9);clear a5 b9 f4 a3 c9 b7 e1;refine⟨⟨c7.out W9 a7.out,b5.out W9 a7.out⟩,?_⟩;try walk_nrm
     refine YM (by kernel_rfl) ?_ _;simp only[Exit.then];refine zg hP a1.thenT fun T d=> ?_
     have g9:=z4 (a7.out.re T d);have d9:=z4 (d4.out.re T d);clear a7 d4;generalize re W9 T d=Wa at*;go_wp2;refine zn hP ?_;refine zP hP 6 a1.thenT rfl rfl rfl Tryz.func49 (by decide) rfl fun T d=> ?_
     have f9:=z4 (g9.out.re T d);have b8:=z4 (d9.out.re T d);clear g9 d9;generalize re Wa T d=Wb at*;have x2:=b5.out Wb f9.out;simp only[aX,ME,MF,MG];go_wp2;refine⟨_,_,by simp[Act.eval],d7.out Wb b8.out f9.out i7 i8,?_⟩;rintro v Wc ⟨rfl,f3⟩ T d;have a2:Hid (yG w M O B (R.joinB st a0 fr) (.tuple #[.int .i64 (R.joinN st a0 hd hd2).1.1,.int .i64 (R.joinN st a0 hd hd2).1.2]) (re Wc T d)):=by
      show yG _ _ _ _ _ _ _;rw[HJ.out];refine⟨rfl,?_⟩;obtain⟨O',h1,h2,h3⟩:=f3.re T d;exact⟨O',h1,⟨h2.os.trans b8.out.os,h2.output.trans b8.out.output,j0f b8.out.size h2.size,fun k hk hn=>(h2.block k (j0b hk b8.out.size) hn).trans (b8.out.block k hk)⟩,fun k hk=>(h3 k hk).imp id fun h=>j0f b8.out.size h⟩
     clear f3 f9 b8 x2 d7 HJ;generalize re Wc T d=Wd at*;generalize R.joinN st a0 hd hd2=jn at*;go_wp2;refine Xj hP ?_;refine⟨rfl,_,fun W=> ?_,a2.out⟩;simp[results,MU,go_sem]
  ·have f0:R.fndI st.brs fr<0:=by rw[R.fndI,if_neg e3];omega
   obtain⟨a6,c6, -⟩:=Zy hx a0 b4;have e2:Zh LB st fr=none:=by rw[Zh,if_neg e3]
   rw[c6]at a8;rw[e2]at b6;refine zg hP a1 fun T d=> ?_
   have HA:=z4 (a8.out _ (hx.re T d));have HB:=z4 (b6.out _ (hx.re T d));have a2:Hid (yG w M O B (R.joinB st a0 fr) (.tuple #[.int .i64 0,.int .i64 5]) (re w T d)):=by
    show yG _ _ _ _ _ _ _;rw[R.joinB,if_pos (.inr f0)];exact⟨rfl,yd.same hx ((ze.refl w).re T d)⟩
   clear a8 b6 c6 e2 f0 e3 hx;generalize(LB[R.fnd st.brs a0]'a6).2.1=b1 at*;generalize re w T d=W at*;go_wp2_with fail
   refine HA.out.mono ?_;rintro e W2 ⟨rfl,rfl⟩;go_wp2_with fail
   refine HB.out.mono ?_;rintro e W3 ⟨rfl,rfl⟩;go_wp2;refine⟨rfl,_,fun W=> ?_,a2.out⟩;simp[results,MU,go_sem]
 ·have e9:R.fndI st.brs a0<0:=by rw[R.fndI,if_neg b4];omega
  have c6:Zh LB st a0=none:=by rw[Zh,if_neg b4]
  rw[c6]at a8;refine zg hP a1 fun T d=> ?_
  have HA:=z4 (a8.out _ (hx.re T d));have HB:=z4 (b6.out _ (hx.re T d));have a2:Hid (yG w M O B (R.joinB st a0 fr) (.tuple #[.int .i64 0,.int .i64 5]) (re w T d)):=by
   show yG _ _ _ _ _ _ _;rw[R.joinB,if_pos (.inl e9)];exact⟨rfl,yd.same hx ((ze.refl w).re T d)⟩
  clear a8 b6 c6 e9 b4 hx;generalize Zh LB st fr=p2 at*;generalize re w T d=W at*;go_wp2_with fail
  refine HA.out.mono ?_;rintro e W2 ⟨rfl,rfl⟩;go_wp2_with fail
  refine HB.out.mono ?_;rintro e W3 ⟨rfl,rfl⟩;go_wp2;refine⟨rfl,_,fun W=> ?_,a2.out⟩;simp[results,MU,go_sem]
end
section
variable {H:Type}{enc:TypeId×eB→H}
theorem Fo:Tryz.prog.cellsOf 3=1:=by kernel_rfl
theorem XD {n:Int}(h:(Lit.int .i64 n).wf=true): -9223372036854775808≤n∧n≤9223372036854775807:=by
 simpa[Lit.wf,IntKind.min,IntKind.max,IntKind.bits,IntKind.signed]using h
theorem JL {w:eX}{a:Addr}{v:eB}(h:w.cell? a=some v):a.block<w.heap.size:=by
 rcases mX a.block w.heap.size with h' |h'
 ·exact h'
 ·simp[sE,mY h']at h
end
theorem Fl:Tryz.prog.cellsOf 278=1:=by kernel_rfl
theorem Fm:Tryz.prog.cellsOf 298=20:=by kernel_rfl
theorem JA:(Tryz.prog.globals[1]?).map (·.type)=some 298:=by kernel_rfl
theorem uz:Tryz.prog.globalNamed "math/bits.deBruijn64tab" =some 7:=by kernel_rfl
theorem uo {W:eX}{l:List (String×DataW Unit)}(h:laidMetH sU l W)(hl:(l.filter fun x=>x.2.handleName?.isSome)=[]):laidMet sU l W:=by
 unfold laidMetH at h;rw[hl]at h;exact h
theorem bE {W:eX}(h:laidMetH sU Rows.valuesUptoRow.laid W)(hs:W.ShapedOpen sU):Zp W:=by
 refine⟨Tryz.laysM146.s1_3 W hs,?_,?_⟩
 ·have h1:=(uo h (by kernel_rfl)).tail.tail
  exact Lib.tabIs_of_head (zs:=Lib.pow10Tab) Oo JA Tryz.underlying298 Tryz.underlying278 Fl Fm h1
 ·have h1:=uo h (by kernel_rfl)
  obtain⟨ps,⟨_,_,_,_,_,_,_,_,_,_,⟨g,t,cs,a0,p,q,hg,ht,hv,_,_,_⟩,_⟩,_⟩:=h1;obtain rfl:(7:Nat)=g:=Option.some.inj (uz.symm.trans hg);simp only[World.var?,uz,Option.bind_some]at hv;rcases mX 7 W.heap.size with h' |h'
  ·omega
  ·rw[mY h']at hv
   cases hv
theorem uy {P:Program}{Post a0 :eB→eX→Prop}{m:Machine}{o:Outcome}{w' :eX}{t' :Trace}(h:Conc.Good P Post m o w' t')(hp:∀v,Post v w' →a0 v w'):Conc.Good P a0 m o w' t' :=
 h.elim fun v x=>⟨v,x.1,hp v x.2.1,x.2.2⟩
section
variable {H:Type}{enc:TypeId×eB→H}
theorem XF {a:Assume}{C:Checked}{os:Os}{f:FuncId}{fn:Func}{s:OpenSpec}{F:Stop.Interp}{a5:List PathCond}{apart fresh a1 a4:Bool}{a6:List (String×DataW Unit)}
  (own:ownKnob C.prog.godebug=none)(a2:os.Started)(b3:C.prog.funcs[f]? =some fn)
  (a3:∃(w:eX) (tape:Tape) (i:Input),w.os=os∧(w.forCall tape i).Shaped C.prog∧i.vars=[]∧Input.okWide C.prog (w.forCall tape i) .any w.heap.size f i∧
   s.preRow enc C.prog fn a5 apart a6 (w.forCall tape i).memory i.args∧a.holds C.prog (lone (iM C.prog f i.args .normal) [] (w.forCall tape i)))
  (runs:∀(W:eX) (base:Nat) (args:Array eB) (ds gs:List (DataW H)) (a0:List MemPlace),
   (∀(j:Nat) t v,fn.params[j]? =some t→args[j]? =some v→Value.okWide C.prog W .any base t v)→
   DataW.Whole enc C.prog fn.params.toList s.vars apart W args.toList ds gs a0→
   (∀k,s.cond=some k→k H (ds++gs)=true)→
   laidMetH C.prog a6 W→
   W.ShapedOpen C.prog→
   ∃M last o w' t',runNT C.prog (M+1) (solo (G (iM C.prog f args .normal) []) W) #[]=(.ended o w',t')∧runN C.prog M (solo (G (iM C.prog f args .normal) []) W)= .next last∧
    step C.prog last= .ended o w' ∧Conc.Good C.prog (fun v W' =>(s.at F).post enc C.prog fn apart fresh a1 a4 W args v W') last o w' t'):
  ReturnsInLeavingWide a C os f .any (s.preRow enc C.prog fn a5 apart a6) ((s.at F).post enc C.prog fn apart fresh a1 a4):=by
 refine returnsInLeavingWide_of_good own a2 a3 ?_;intro w tape i _ b5 _ b4 a9 a8;obtain⟨_,_,_,b2,a7,_,_,_,_,b1⟩:=b4;have e:b2 =fn:=Option.some.inj (a7.symm.trans b3);subst e;obtain⟨⟨hp,hl⟩,hz⟩:=a9;obtain⟨ds,gs,a0,hw,hc,hk⟩:=OpenSpec.pre_parts hp;have b6 :=DataW.Whole.of_heap (w' :=w.forCall tape i) (by rfl) hw;obtain⟨M,last,o,w',t',h1,h2,h3,h4⟩:=runs (w.forCall tape i) w.heap.size i.args ds gs a0 b1 b6 hk (hl.of_heap (by rfl)) b5;exact⟨M,last,o,w',t',h1,h2,h3,uy h4 fun v hp=>ChangeSpec.post_blind hp⟩
end
theorem holds_of_cond_leaving {p:Pinned}{s:OpenSpec}{c:OpenClaim}(f:FuncId)(fn:Func)
  (hn:c.program=p.name)(hs:c.sum=p.sum)(c8:c.spec=s.name)
  (a0:c.start= .entering)(a2:c.outside=[])(b8:c.inits=[])(c9:c.under=none)(b7:c.initsInPlace=[]∧c.initsUnfollowed=false∧c.initsRecurse=false∧c.initsNamed=[]∧c.initsPassed=[])(b3:c.noBlocks=false)(b9:c.leaving=true)(a6:c.followed=none)(a7:c.narrowed=s.cond.isSome)(a3:c.still=false)
  (b6:p.checked.prog.funcNamed c.func=some f)(hf:p.checked.prog.funcs[f]? =some fn)
  (a1:joinedFacts p.checked.prog f fn s.bare c=true)
  (a4:fn.isInstance p.checked.prog c.origin c.targs)(a5:fn.isWrapper p.checked.prog c.wrapper c.mainSum)
  (h:∀os:Os,os.Started→∀(H:Type) (enc:TypeId×eB→H),(∀a b,enc a=enc b→a=b)→∀F:Stop.Interp,
   ReturnsInLeavingWide c.assume p.checked os f .any (c.pre enc p.checked.prog fn s) ((s.at F).post enc p.checked.prog fn c.apart c.fresh c.handsOn c.again)):c.holds p s:=by
 simp only[joinedFacts,Bool.and_eq_true,beq_iff_eq,Array.all_eq_true_iff_forall_mem,List.all_eq_true,decide_eq_true_eq]at a1;obtain⟨⟨⟨⟨⟨⟨⟨⟨⟨⟨⟨⟨⟨⟨⟨⟨⟨⟨⟨⟨⟨⟨⟨⟨⟨⟨⟨⟨⟨⟨⟨k1,k2⟩,k3⟩,k4⟩,k5⟩,k6⟩,k7⟩,k8⟩,k9⟩,d4⟩,d5⟩,d6⟩,d7⟩,d8⟩,d9⟩,e6⟩,e7⟩,a8⟩,e8⟩,e9⟩,f0⟩,f3⟩,f4⟩,b4⟩,a9⟩,b5⟩,b1⟩,b2⟩,f5⟩,f6⟩,f7⟩,f8⟩:=a1;have hq:∀os:Os,Stop.quiet p.checked.prog os:=fun os k hk=>by rw[k9]at hk;cases hk
 refine⟨k1,hn,hs,c8,k2,k3,by unfold OpenClaim.startFits;rw[a0];exact b5,by unfold OpenClaim.startTold;rw[a0];exact⟨b8,c9,b7⟩,f,fn,b6,hf,⟨k4,e9⟩,(fun hb=>by rw[b3]at hb;cases hb),by unfold OpenClaim.namedList;rw[a6];exact k5,a4,a5,
  k6.trans k7.symm,⟨k8.trans k9.symm,by unfold Program.envWorded;rw[k9];rfl,a9⟩,d4,d5,d6,d7,d8,⟨d9,f7,f8⟩,⟨e6,f0⟩,⟨e7,f3,f5,f6⟩,⟨f4,b1,b2,a8⟩,(by rw[a2,a7];cases c7:c.shortTexts with|none=>simp|some _=>rw[c7]at b4;cases b4),fun n c6 =>varReadable_some (e8 n c6),
  ⟨_,by unfold OpenClaim.world;rw[a2,a0];exact WideRow.started_initial,hq _⟩,[],by unfold OpenClaim.lists;rw[a6],fun os st _ H enc d3=> ?_⟩
 have st' :os.Started:=by unfold OpenClaim.world at st;rw[a2,a0]at st;exact st
 rw[OpenClaim.post_not_still a3];unfold OpenClaim.form;rw[a0,k6];intro F;have e1:c.okInput=Input.okWide:=by unfold OpenClaim.okInput;rw[b3]
 have e2:c.atReturn p.checked.prog=leavingAtReturn p.checked.prog:=by unfold OpenClaim.atReturn;rw[b9]
 have e3:c.always p.checked.prog []=nothingAlways:=by unfold OpenClaim.always;rw[a6]
 have e4:s.post enc p.checked.prog fn F c.outside c.apart c.fresh c.handsOn c.again=(s.at F).post enc p.checked.prog fn c.apart c.fresh c.handsOn c.again:=by rw[a2];rfl
 rw[e1,e2,e3];show ReturnsInOpen _ _ _ _ _ _ _ _ (s.post enc p.checked.prog fn F c.outside c.apart c.fresh c.handsOn c.again) _ _;rw[e4];exact h os st' H enc d3 F b5
theorem jU {W W' :eX}(h:b_ W.heap.size W W')(a0:MemPlace→Prop):W.keptBut W' a0:=by
 refine⟨h.os,h.output,fun i hi=> ?_⟩;rw[h.block i hi]
 cases W.heap[i]? with
 |none=>rfl
 |some o=>cases o<;>first|exact⟨rfl,rfl,rfl,fun _ _=>rfl⟩|exact Or.inr ⟨rfl,rfl⟩|rfl
theorem QZ {W W' :eX}(h:b_ W.heap.size W W'){p:MemPlace}(hp:p.block<W.heap.size):W.sameAt W' p:=by
 have h1:=h.block p.block hp
 cases p<;>simp only[World.sameAt,MemPlace.block,sE]at h1⊢<;>simp[h1]
def YY (c n:Int):Int:=(if c<0 then-(c+1)else c) % n
theorem Vw (c n:Int)(h:0<n):0≤YY c n∧YY c n<n:=⟨Int.emod_nonneg _ (by omega),Int.emod_lt_of_pos _ h⟩
theorem UE (c n:Int)(w:eX)(h1: -9223372036854775808≤c)(h2:c≤9223372036854775807)(hn:0<n)(a0:n≤9223372036854775807):
  wH sU 25 #[.int .i64 c,.int .i64 n] w fun e w' =>e= .returned (.int .i64 (YY c n))∧w' =w:=by
 by_cases hc:c<0
 ·have HP:Hid (YY c n=(-(c+1)).tmod n):=by
   show _=_;unfold YY;rw[if_pos hc,Int.tmod_eq_emod_of_nonneg (by omega)]
  go_enter MX,MY;go_wp2;go_ret;exact⟨YP (by rw[HP.out,Int.neg_tmod]),rfl⟩
 ·have HP:Hid (YY c n=c % n):=by
   show _=_;unfold YY;rw[if_neg hc]
  go_enter MX,MY;go_wp2;go_ret;exact⟨YP HP.out,rfl⟩
structure ZV (H:Nat→Prop)(w w' :eX):Prop where
 os:w'.os=w.os
 output:w'.output=w.output
 size:w.heap.size≤w'.heap.size
 block:∀k,H k→w'.heap[k]? =w.heap[k]?
theorem ZV.refl (H:Nat→Prop)(w:eX):ZV H w w:=⟨rfl,rfl,j0a _,fun _ _=>rfl⟩
theorem ZV.trans {H:Nat→Prop}{w w1 w2:eX}(h:ZV H w w1)(h2:ZV H w1 w2):ZV H w w2:=⟨h2.os.trans h.os,h2.output.trans h.output,j0f h.size h2.size,fun k hk=>(h2.block k hk).trans (h.block k hk)⟩
theorem ze.h {w w' :eX}(k:ze w w'){H:Nat→Prop}(hs:∀b,H b→b<w.heap.size):ZV H w w' :=⟨k.os,k.output,k.size,fun b hb=>k.block b (hs b hb)⟩
theorem ZV.m {H:Nat→Prop}{w w' :eX}(h:ZV H w w')(hs:∀b,b<w.heap.size→H b):ze w w' :=⟨h.os,h.output,h.size,fun b hb=>h.block b (hs b hb)⟩
theorem ZV.smaller {H H2:Nat→Prop}{w w' :eX}(h:ZV H w w')(hs:∀b,H2 b→H b):ZV H2 w w' :=⟨h.os,h.output,h.size,fun b hb=>h.block b (hs b hb)⟩
theorem ZV.cell {H:Nat→Prop}{w w' :eX}(h:ZV H w w'){p:Addr}(hp:H p.block):w'.cell? p=w.cell? p:=sD (w:=w) (h.block _ hp)
def KS (w0:eX)(H:Nat→Prop)(B:Nat)(st:R.St)(c:Nat)(w:eX):Prop:=∃O:Nat→Prop,PS w O O B st∧(∀b,O b→¬H b∧b<w.heap.size)∧Inv st∧st.packed.length≤300000*c∧Zp w∧ZV H w0 w∧(∀b,b<6→H b)∧(∀b,H b→b<w.heap.size)
section
variable {w0 w w' :eX}{H:Nat→Prop}{B c:Nat}{st st' :R.St}
theorem KS.inv (h:KS w0 H B st c w):Inv st:=by obtain⟨O,_,_,h,_⟩:=h;exact h
theorem KS.glob (h:KS w0 H B st c w):Zp w:=by obtain⟨O,_,_,_,_,h,_⟩:=h;exact h
theorem KS.held (h:KS w0 H B st c w):ZV H w0 w:=by obtain⟨O,_,_,_,_,_,h,_⟩:=h;exact h
theorem KS.keptM (h:KS w0 H B st c w)(k:ze w w'):KS w0 H B st c w' :=by
 obtain⟨O,⟨bv,cv,LB,LCm,h1⟩,h2,h3,h4,h5,h6,h7,h8⟩:=h;exact⟨O,⟨bv,cv,LB,LCm,h1.keptM k⟩,fun b hb=>⟨(h2 b hb).1,j0b (h2 b hb).2 k.size⟩,h3,h4,h5.keptM k,h6.trans (k.h h8),h7,fun b hb=>j0b (h8 b hb) k.size⟩
theorem KS.re (h:KS w0 H B st c w)(T:Nat→iC→Nat)(d:Nat):KS w0 H B st c (mG w T d):=h.keptM ((ze.refl w).re T d)
theorem KS.mono (h:KS w0 H B st c w){c' :Nat}(hc:c≤c'):KS w0 H B st c' w:=by
 obtain⟨O,h1,h2,h3,h4,h5⟩:=h;exact⟨O,h1,h2,h3,by omega,h5⟩
theorem GV {O:Nat→Prop}(h2:∀b,O b→¬H b∧b<w.heap.size)(hG:Zp w)(hb:ZV H w0 w)(h6:∀b,b<6→H b)(h8:∀b,H b→b<w.heap.size)(h:yd w w' O O B st')(hi:Inv st')(hp:st'.packed.length≤300000*c):KS w0 H B st' c w' :=by
 obtain⟨O',p1,p2,p3⟩:=h;have hO:∀b,O' b→¬H b:=fun b hb he=>by
  rcases p3 b hb with h|h
  ·exact(h2 b h).1 he
  ·have:=h8 b he;omega
 obtain⟨bv,cv,LB,LCm,hx⟩:=p1;refine⟨O',PS.smaller ⟨bv,cv,LB,LCm,hx⟩ (fun b hb=> .inr hb) (fun b hb=>hb),fun b hb=>⟨hO b hb,hx.lt b hb⟩,hi,hp,?_,?_,h6,fun b hb=>j0b (h8 b hb) p2.size⟩
 ·have hk:zf O w (mG w' w.tape w'.drawn):=⟨p2.os,rfl,p2.output,p2.size,p2.block⟩
  have:=(hG.kept hk (fun b hb=>by
   apply MZ;intro e;exact(h2 b hb).1 (h6 b e))).re w'.tape w'.drawn
  exact this
 ·exact hb.trans ⟨p2.os,p2.output,p2.size,fun k hk=>p2.block k (h8 k hk) (fun e=>(h2 k e).1 hk)⟩
theorem KS.six {O:Nat→Prop}(h2:∀b,O b→¬H b∧b<w.heap.size)(h6:∀b,b<6→H b):∀b,O b→6≤b:=fun b hb=>MZ fun e=>(h2 b hb).1 (h6 b e)
theorem KS.call (h:KS w0 H B st c w){f:FuncId}{args:Array eB}{v:eB}(a0 :Inv st')(a1 :st'.packed.length≤st.packed.length+300000)
  (hc:∀O:Nat→Prop,PS w O O B st→(∀b,O b→b<w.heap.size)→(∀b,O b→6≤b)→Inv st→Zp w→st.packed.length≤300000*c→wH sU f args w fun e w' =>e= .returned v∧zx w w' O O B st'):
  wH sU f args w fun e w' =>e= .returned v∧KS w0 H B st' (c+1) w' :=by
 obtain⟨O,h1,h2,h3,h4,h5,h6,h7,h8⟩:=h;refine(hc O h1 (fun b hb=>(h2 b hb).2) (KS.six h2 h7) h3 h5 h4).mono fun e w' ⟨e1,e2⟩=>⟨e1,GV h2 h5 h6 h7 h8 (yd.of (ze.refl w) e2) a0 (by omega)⟩
theorem KS.look (h:KS w0 H B st c w){f:FuncId}{args:Array eB}{v:eB}
  (hc:∀O:Nat→Prop,PS w O O B st→Inv st→Zp w→wH sU f args w fun e w' =>e= .returned v∧Below w.heap.size w w'):
  wH sU f args w fun e w' =>e= .returned v∧KS w0 H B st c w' :=by
 obtain⟨O,h1,h2,h3,h4,h5,h6⟩:=id h;exact(hc O h1 h3 h5).mono fun e w' ⟨e1,e2⟩=>⟨e1,h.keptM (ze.of_below e2)⟩
def Bg (w0:eX)(H:Nat→Prop)(B c:Nat)(r:(Int×Int)×R.St)(v:eB)(w' :eX):Prop:=v= .tuple #[.int .i64 r.1.1,.int .i64 r.1.2]∧KS w0 H B r.2 c w'
theorem KS.join (h:KS w0 H B st c w)(hc:c≤300000)(a0 fr:List UInt8)(a1:a0.length≤1000):
  zF sU 19 #[.pointer (some ⟨B,0,none⟩),.string ⟨a0.toArray⟩,.string ⟨fr.toArray⟩] w (Bg w0 H B (c+1) (R.joinB st a0 fr)):=by
 obtain⟨O,h1,h2,h3,h4,h5,h6,h7,h8⟩:=h;refine(Bu h3 h1 (fun b hb=>(h2 b hb).2) h5 (KS.six h2 h7) (by omega) a0 fr a1).mono fun v w' ⟨e1,e2⟩=>⟨e1,GV h2 h5 h6 h7 h8 e2 (ur h3 a0 fr) ?_⟩
 have:=UF h3 a0 fr;omega
def Bj (w0:eX)(H:Nat→Prop)(B c:Nat)(st:R.St)(r:List UInt8×Int)(v:eB)(w' :eX):Prop:=v= .tuple #[.string ⟨r.1.toArray⟩,.int .i64 r.2]∧KS w0 H B st c w'
theorem KS.base (h:KS w0 H B st c w)(a b:Int):
  zF sU 35 #[.pointer (some ⟨B,0,none⟩),.int .i64 a,.int .i64 b] w (Bj w0 H B c st (R.baseAt st a b)):=by
 obtain⟨O,h1,h2,h3,h4,h5,h6⟩:=id h;exact(Bw h3 h1 (fun b hb=>(h2 b hb).2) h5 a b).mono fun v w' ⟨e1,e2⟩=>⟨e1,h.keptM e2⟩
end
section
variable {w0 w:eX}{H:Nat→Prop}{B c:Nat}{st:R.St}
theorem KS.branch (h:KS w0 H B st c w)(hc:c≤300000)(name:List UInt8)(a0:name.length≤maxLen){r:Int}(hr:(R.made st name [] false).1=r):
  wH sU 26 #[.pointer (some ⟨B,0,none⟩),.string ⟨name.toArray⟩] w fun e w' =>e= .returned (.int .i64 r)∧KS w0 H B (R.made st name [] false).2 (c+1) w' :=by
 subst hr;exact h.call (Qc h.inv _ _ _) (by have:=Kq st name [] false;omega) fun O h1 h2 h3 h4 h5 h6=>C5 B st name w O O h1 h4 a0 (by omega)
theorem KS.fork (h:KS w0 H B st c w)(hc:c≤300000)(name fr:List UInt8)(a0:name.length≤maxLen){r:Int}(hr:(R.made st name fr true).1=r):
  wH sU 29 #[.pointer (some ⟨B,0,none⟩),.string ⟨name.toArray⟩,.string ⟨fr.toArray⟩] w fun e w' =>e= .returned (.int .i64 r)∧KS w0 H B (R.made st name fr true).2 (c+1) w' :=by
 subst hr;exact h.call (Qc h.inv _ _ _) (by have:=Kq st name fr true;omega) fun O h1 h2 h3 h4 h5 h6=>BW B st name fr w O O h1 h4 a0 (by omega)
theorem KS.add (h:KS w0 H B st c w)(a0 path:List UInt8)(n:Int)(a3:path.length≤maxLen)(a1:n≤9223372036854775807)(a2: -9223372036854775808≤n){r:Int}(hr:(R.change st 35 a0 path n []).1=r):
  wH sU 27 #[.pointer (some ⟨B,0,none⟩),.string ⟨a0.toArray⟩,.string ⟨path.toArray⟩,.int .i64 n] w fun e w' =>e= .returned (.int .i64 r)∧KS w0 H B (R.change st 35 a0 path n []).2 (c+1) w' :=by
 subst hr;exact h.call (Ya h.inv _ _ _ _ _ (by simp)) (by rw[yY];omega) fun O h1 h2 h3 h4 h5 h6=>dG B st a0 path n w O O h1 h2 h4 h5 a3 a1 a2
theorem KS.note (h:KS w0 H B st c w)(a0 path text:List UInt8)(a1:path.length≤maxLen)(a2:text.length≤maxLen){r:Int}(hr:(R.change st 61 a0 path 0 text).1=r):
  wH sU 41 #[.pointer (some ⟨B,0,none⟩),.string ⟨a0.toArray⟩,.string ⟨path.toArray⟩,.string ⟨text.toArray⟩] w fun e w' =>e= .returned (.int .i64 r)∧KS w0 H B (R.change st 61 a0 path 0 text).2 (c+1) w' :=by
 subst hr;exact h.call (Ya h.inv _ _ _ _ _ (by simp)) (by rw[yY];omega) fun O h1 h2 h3 h4 h5 h6=>BV B st a0 path text w O O h1 h2 h4 h5 a1 a2
theorem KS.put (h:KS w0 H B st c w)(a0 path text:List UInt8)(a1:path.length≤maxLen)(a2:text.length≤maxLen){r:Int}(hr:(R.change st 42 a0 path 0 text).1=r):
  wH sU 31 #[.pointer (some ⟨B,0,none⟩),.string ⟨a0.toArray⟩,.string ⟨path.toArray⟩,.string ⟨text.toArray⟩] w fun e w' =>e= .returned (.int .i64 r)∧KS w0 H B (R.change st 42 a0 path 0 text).2 (c+1) w' :=by
 subst hr;exact h.call (Ya h.inv _ _ _ _ _ (by simp)) (by rw[yY];omega) fun O h1 h2 h3 h4 h5 h6=>dF B st a0 path text w O O h1 h2 h4 h5 a1 a2
theorem KS.take (h:KS w0 H B st c w)(a0 path text:List UInt8)(a1:path.length≤maxLen)(a2:text.length≤maxLen){r:Int}(hr:(R.change st 45 a0 path 0 text).1=r):
  wH sU 32 #[.pointer (some ⟨B,0,none⟩),.string ⟨a0.toArray⟩,.string ⟨path.toArray⟩,.string ⟨text.toArray⟩] w fun e w' =>e= .returned (.int .i64 r)∧KS w0 H B (R.change st 45 a0 path 0 text).2 (c+1) w' :=by
 subst hr;exact h.call (Ya h.inv _ _ _ _ _ (by simp)) (by rw[yY];omega) fun O h1 h2 h3 h4 h5 h6=>BT B st a0 path text w O O h1 h2 h4 h5 a1 a2
theorem KS.commit (h:KS w0 H B st c w)(hc:c≤300000)(name:List UInt8){r:Int×Int}(hr:(R.commit st name).1=r):
  wH sU 28 #[.pointer (some ⟨B,0,none⟩),.string ⟨name.toArray⟩] w fun e w' =>e= .returned (.tuple #[.int .i64 r.1,.int .i64 r.2])∧KS w0 H B (R.commit st name).2 (c+1) w' :=by
 subst hr;exact h.call (YI h.inv _) (JF h.inv name) fun O h1 h2 h3 h4 h5 h6=>C4 B st name w O O h1 h4 h2 (by omega) h5 h3
theorem KS.show_ (h:KS w0 H B st c w)(name:List UInt8){r:List UInt8×Int}(hr:R.shown st name=r):
  wH sU 20 #[.pointer (some ⟨B,0,none⟩),.string ⟨name.toArray⟩] w fun e w' =>e= .returned (.tuple #[.string ⟨r.1.toArray⟩,.int .i64 r.2])∧KS w0 H B st c w' :=by
 subst hr;exact h.look fun O h1 h4 h5=>C2 B st name w O O h1 h4 h5
end
def aw0:R.St:={cms:=[],brs:=[],packed:=[]}
def aw1:R.St:=(R.made aw0 [97] [] false).2
def aw2:R.St:=(R.change aw1 35 [97] [120,47,110] 5 []).2
def aw3:R.St:=(R.change aw2 61 [97] [120] 0 [104,105]).2
def aw4:R.St:=(R.commit aw3 [97]).2
def aw5:R.St:=(R.commit aw4 [97]).2
def aw6:R.St:=(R.made aw5 [98] [97] true).2
def aw7:R.St:=(R.change aw6 35 [98] [120,47,110] 2 []).2
def aw8:R.St:=(R.change aw7 42 [98] [115] 0 [112]).2
def aw9:R.St:=(R.commit aw8 [98]).2
def awa:R.St:=(R.change aw9 35 [97] [120,47,110] (-1) []).2
def awb:R.St:=(R.change awa 42 [97] [115] 0 [113]).2
def awc:R.St:=(R.commit awb [97]).2
def awd:R.St:=(R.joinB awc [97] [98]).2
def awe:R.St:=(R.joinB awd [98] [97]).2
theorem ae1:(R.made aw0 [97] [] false).1=0:=by decide+kernel
theorem ae2:(R.change aw1 35 [97] [120,47,110] 5 []).1=0:=by decide+kernel
theorem ae3:R.shown aw2 [97]=([120,47,110,32,35,53,10],0):=by decide+kernel
theorem ae4:(R.change aw2 61 [97] [120] 0 [104,105]).1=7:=by decide+kernel
theorem ae5:(R.commit aw3 [97]).1=(1,0):=by decide+kernel
theorem ae6:(R.commit aw4 [97]).1=(0,9):=by decide+kernel
theorem ae7:(R.made aw5 [98] [97] true).1=0:=by decide+kernel
theorem ae8:(R.change aw6 35 [98] [120,47,110] 2 []).1=0:=by decide+kernel
theorem ae9:(R.change aw7 42 [98] [115] 0 [112]).1=0:=by decide+kernel
theorem aea:(R.commit aw8 [98]).1=(2,0):=by decide+kernel
theorem aeb:(R.change aw9 35 [97] [120,47,110] (-1) []).1=0:=by decide+kernel
theorem aec:(R.change awa 42 [97] [115] 0 [113]).1=0:=by decide+kernel
theorem aed:(R.commit awb [97]).1=(3,0):=by decide+kernel
theorem aee:(R.joinB awc [97] [98]).1=(4,0):=by decide+kernel
theorem aef:R.shown awd [97]=([115,32,42,112,59,113,10,120,47,110,32,35,54,10],0):=by decide+kernel
theorem aeg:(R.joinB awd [98] [97]).1=(4,0):=by decide+kernel
theorem aeh:R.baseAt awe 2 3=([120,47,110,32,35,53,10],0):=by decide+kernel
theorem KS.new {w0 w:eX}{H:Nat→Prop}(hG:Zp w)(hb:ZV H w0 w)(h6:∀b,b<6→H b)(h8:∀b,H b→b<w.heap.size):KS w0 H w.heap.size aw0 0 (w.alloc (.cells #[.slice none 0 0,.slice none 0 0,.slice none 0 0] 102)):=by
 have a0:=(j0g w.heap.size w).alloc (j0a _) (.cells #[.slice none 0 0,.slice none 0 0,.slice none 0 0] 102);refine⟨fun b=>b=w.heap.size,Bf (heap_alloc_new w _) rfl,fun b hb=>⟨fun e=>by have:=h8 b e;omega,by simp;omega⟩,Inv.no,by simp[aw0],hG.below a0,hb.trans ((ze.of_below a0).h h8),h6,fun b hb=>by have:=h8 b hb;simp;omega⟩
def AwR (w:eX)(v:eB)(w' :eX):Prop:=v= .bool true∧ze w w'
theorem KS.kept {w:eX}{B c:Nat}{st:R.St}{w' :eX}(h:KS w (fun b=>b<w.heap.size) B st c w'):ze w w' :=h.held.m fun _ hb=>hb
theorem KS.joinE {w0 w:eX}{H:Nat→Prop}{B c:Nat}{st:R.St}(h:KS w0 H B st c w)(hc:c≤300000)(a0 fr:List UInt8)(a1:a0.length≤1000){r:Int×Int}(hr:(R.joinB st a0 fr).1=r):
  zF sU 19 #[.pointer (some ⟨B,0,none⟩),.string ⟨a0.toArray⟩,.string ⟨fr.toArray⟩] w (Bg w0 H B (c+1) (r,(R.joinB st a0 fr).2)):=by
 subst hr;exact h.join hc a0 fr a1
theorem KS.baseE {w0 w:eX}{H:Nat→Prop}{B c:Nat}{st:R.St}(h:KS w0 H B st c w)(a b:Int){r:List UInt8×Int}(hr:R.baseAt st a b=r):
  zF sU 35 #[.pointer (some ⟨B,0,none⟩),.int .i64 a,.int .i64 b] w (Bj w0 H B c st r):=by
 subst hr;exact h.base a b
section
theorem bB {w:eX}(hG:Zp w)(h6:6≤w.heap.size):zF sU 23 #[] w (AwR w):=by
 have hP:=xx;refine zL hP N0 rfl ?_;have a1:ReC (zZ sU Tryz.f23 (AwR w)):=ReC.body fun v w' T d ⟨h1,h2⟩=>⟨h1,h2.re T d⟩
 simp only[Tryz.ntmps23,tQ,nM,pC,tR,tS,tT,tU,tV,tX,nV,mJ];refine z7 hP a1 fun T d=> ?_
 have HG:=z4 (hG.keptM ((ze.refl w).re T d));have HB:=z4 ((ze.refl w).re T d);have a2:w.heap.size≤(re w T d).heap.size:=j0a _;generalize re w T d=W at*;go_wp2;refine z7 hP a1 fun T d=> ?_
 have HK:=HB.out.re T d;have HS:=z4 (KS.new (w:=re W T d) (H:=fun b=>b<w.heap.size) (hG.keptM HK) (HK.h fun _ hb=>hb) (fun b hb=>by omega) (fun b hb=>j0b hb a2));clear HK;clear HG HB a2;generalize re W T d=W1 at*;go_wp2_with fail
 refine(f9 W1).mono ?_;rintro e W2 ⟨rfl,rfl⟩;go_wp2;generalize W1.alloc (.cells #[.slice none 0 0,.slice none 0 0,.slice none 0 0] 102)=V0 at*;generalize W1.heap.size=B at*;refine z7 hP a1 fun T d=> ?_
 have a0 :=z4 (HS.out.re T d);clear HS;generalize re V0 T d=U0 at*;go_wp2;have HS:=z4 a0.out;clear a0;generalize hV:U0=V1 at*;clear hV;refine z7 hP a1 fun T d=> ?_
 have a0 :=z4 (HS.out.re T d);clear HS;generalize re V1 T d=U1 at*;go_wp2_with fail
 refine(a0.out.branch (by omega) [97] (by unfold maxLen;simp) ae1).mono ?_;rintro e V2 ⟨rfl,hs⟩;have HS:=z4 hs;clear a0 hs;go_wp2;refine z7 hP a1 fun T d=> ?_
 have a0 :=z4 (HS.out.re T d);clear HS;generalize re V2 T d=U2 at*;go_wp2_with fail
 refine(a0.out.add [97] [120,47,110] 5 (by unfold maxLen;simp) (by omega) (by omega) ae2).mono ?_;rintro e V3 ⟨rfl,hs⟩;have HS:=z4 hs;clear a0 hs;go_wp2;refine z7 hP a1 fun T d=> ?_
 have a0 :=z4 (HS.out.re T d);clear HS;generalize re V3 T d=U3 at*;go_wp2_with fail
 refine(a0.out.show_ [97] ae3).mono ?_;rintro e V4 ⟨rfl,hs⟩;have HS:=z4 hs;clear a0 hs;go_wp2;refine z7 hP a1 fun T d=> ?_
 have a0 :=z4 (HS.out.re T d);clear HS;generalize re V4 T d=U4 at*;go_wp2_with fail
 refine(a0.out.note [97] [120] [104,105] (by unfold maxLen;simp) (by unfold maxLen;simp) ae4).mono ?_;rintro e V5 ⟨rfl,hs⟩;have HS:=z4 hs;clear a0 hs;go_wp2;refine z7 hP a1 fun T d=> ?_
 have a0 :=z4 (HS.out.re T d);clear HS;generalize re V5 T d=U5 at*;go_wp2_with fail
 refine(a0.out.commit (by omega) [97] ae5).mono ?_;rintro e V6 ⟨rfl,hs⟩;have HS:=z4 hs;clear a0 hs;go_wp2;refine z7 hP a1 fun T d=> ?_
 have a0 :=z4 (HS.out.re T d);clear HS;generalize re V6 T d=U6 at*;go_wp2_with fail
 refine(a0.out.commit (by omega) [97] ae6).mono ?_;rintro e V7 ⟨rfl,hs⟩;have HS:=z4 hs;clear a0 hs;go_wp2;refine z7 hP a1 fun T d=> ?_
 have a0 :=z4 (HS.out.re T d);clear HS;generalize re V7 T d=U7 at*;go_wp2;have HS:=z4 a0.out;clear a0;generalize hV:U7=V8 at*;clear hV;refine z7 hP a1 fun T d=> ?_
 have a0 :=z4 (HS.out.re T d);clear HS;generalize re V8 T d=U8 at*;go_wp2_with fail
 refine(a0.out.fork (by omega) [98] [97] (by unfold maxLen;simp) ae7).mono ?_;rintro e V9 ⟨rfl,hs⟩;have HS:=z4 hs;clear a0 hs;go_wp2;refine z7 hP a1 fun T d=> ?_
 have a0 :=z4 (HS.out.re T d);clear HS;generalize re V9 T d=U9 at*;go_wp2_with fail
 refine(a0.out.add [98] [120,47,110] 2 (by unfold maxLen;simp) (by omega) (by omega) ae8).mono ?_;rintro e a3 ⟨rfl,hs⟩;have HS:=z4 hs;clear a0 hs;go_wp2;refine z7 hP a1 fun T d=> ?_
 have a0 :=z4 (HS.out.re T d);clear HS;generalize re a3 T d=U10 at*;go_wp2_with fail
 refine(a0.out.put [98] [115] [112] (by unfold maxLen;simp) (by unfold maxLen;simp) ae9).mono ?_;rintro e a4 ⟨rfl,hs⟩;have HS:=z4 hs;clear a0 hs;go_wp2;refine z7 hP a1 fun T d=> ?_
 have a0 :=z4 (HS.out.re T d);clear HS;generalize re a4 T d=U11 at*;go_wp2_with fail
 refine(a0.out.commit (by omega) [98] aea).mono ?_;rintro e a5 ⟨rfl,hs⟩;have HS:=z4 hs;clear a0 hs;go_wp2;refine z7 hP a1 fun T d=> ?_
 have a0 :=z4 (HS.out.re T d);clear HS;generalize re a5 T d=U12 at*;go_wp2_with fail
 refine(a0.out.add [97] [120,47,110] (-1) (by unfold maxLen;simp) (by omega) (by omega) aeb).mono ?_;rintro e a6 ⟨rfl,hs⟩;have HS:=z4 hs;clear a0 hs;go_wp2;refine z7 hP a1 fun T d=> ?_
 have a0 :=z4 (HS.out.re T d);clear HS;generalize re a6 T d=U13 at*;go_wp2_with fail
 refine(a0.out.put [97] [115] [113] (by unfold maxLen;simp) (by unfold maxLen;simp) aec).mono ?_;rintro e a7 ⟨rfl,hs⟩;have HS:=z4 hs;clear a0 hs;go_wp2;refine z7 hP a1 fun T d=> ?_
 have a0 :=z4 (HS.out.re T d);clear HS;generalize re a7 T d=U14 at*;go_wp2_with fail
 refine(a0.out.commit (by omega) [97] aed).mono ?_;rintro e a8 ⟨rfl,hs⟩;have HS:=z4 hs;clear a0 hs;go_wp2;refine z7 hP a1 fun T d=> ?_
 have a0 :=z4 (HS.out.re T d);clear HS;generalize re a8 T d=U15 at*;go_wp2;have HS:=z4 a0.out;clear a0;generalize hV:U15=V16 at*;clear hV;refine zn hP ?_;refine zP hP 1 a1.thenT rfl rfl rfl MT (by decide) rfl fun T d=> ?_
 have a0 :=z4 (HS.out.re T d);clear HS;generalize re V16 T d=U16 at*;go_wp2;refine⟨_,_,by simp[Act.eval],a0.out.joinE (by omega) [97] [98] (by simp) aee,?_⟩;rintro v V' ⟨rfl,hs⟩ T d;have HS:=z4 (hs.re T d);clear a0 hs;generalize re V' T d=V17 at*;clear V';go_wp2;refine z7 hP a1 fun T d=> ?_
 have a0 :=z4 (HS.out.re T d);clear HS;generalize re V17 T d=U17 at*;go_wp2_with fail
 refine(a0.out.show_ [97] aef).mono ?_;rintro e a9 ⟨rfl,hs⟩;have HS:=z4 hs;clear a0 hs;go_wp2;refine zn hP ?_;refine zP hP 1 a1.thenT rfl rfl rfl MT (by decide) rfl fun T d=> ?_
 have a0 :=z4 (HS.out.re T d);clear HS;generalize re a9 T d=U18 at*;go_wp2;refine⟨_,_,by simp[Act.eval],a0.out.joinE (by omega) [98] [97] (by simp) aeg,?_⟩;rintro v V' ⟨rfl,hs⟩ T d;have HS:=z4 (hs.re T d);clear a0 hs;generalize re V' T d=V19 at*;clear V';go_wp2;refine zn hP ?_;refine zP hP 1 a1.thenT rfl rfl rfl Tryz.func35 (by decide) rfl fun T d=> ?_
 have a0 :=z4 (HS.out.re T d);clear HS;generalize re V19 T d=U19 at*;go_wp2;refine⟨_,_,by simp[Act.eval],a0.out.baseE 2 3 aeh,?_⟩;rintro v V' ⟨rfl,hs⟩ T d;have HS:=z4 (hs.re T d);clear a0 hs;generalize re V' T d=V20 at*;clear V';go_wp2;refine z7 hP a1 fun T d=> ?_
 have a0 :=z4 (HS.out.re T d);clear HS;generalize re V20 T d=U20 at*;go_wp2;refine Xj hP ?_;refine⟨rfl,_,fun W=> ?_,⟨rfl,a0.out.kept⟩⟩;simp[results,Tryz.results23,go_sem]
end
def bgL (c:Nat→Bool)(k:Nat):List (List UInt8):=((mO k).filter c).map R.bgItem

theorem GN (c n:Int):R.pk_ c n=YY c n:=rfl
def UY:Obj:= .cells #[.string ⟨#[97]⟩,.string ⟨#[98]⟩,.string ⟨#[99]⟩] 9
theorem jV (c:Int)(w:eX)(h1: -9223372036854775808≤c)(h2:c≤9223372036854775807):
  wH sU 18 #[.int .i64 c] w fun e w' =>e= .returned (.string ⟨(R.brN c).toArray⟩)∧w' =w.alloc UY:=by
 obtain⟨p1,p2⟩:=Vw c 3 (by decide);obtain⟨i,hi⟩:∃i:Nat,YY c 3=(i:Int):=⟨(YY c 3).toNat,by omega⟩
 have HP:Hid (∀W:eX,wH sU 25 #[.int .i64 c,.int .i64 3] W fun e w' =>e= .returned (.int .i64 (i:Int))∧w' =W):=fun W=>by
  have:=UE c 3 W h1 h2 (by decide) (by decide);rw[hi]at this;exact this
 have a0:i<3:=by omega
 have e0:(w.alloc (.cells #[.string ⟨#[97]⟩,.string ⟨#[98]⟩,.string ⟨#[99]⟩] 9)).cell? ⟨w.heap.size,i,none⟩=some (.string ⟨(R.brN c).toArray⟩):=by
  unfold R.brN;rw[GN,hi];clear hi HP p1 p2;rcases(by omega:i=0∨i=1∨i=2)with rfl|rfl|rfl<;>simp<;>rfl
 clear hi p1 p2;go_enter Tryz.func18,Tryz.ntmps18;go_wp2_with fail
 refine(HP.out _).mono ?_;rintro e W' ⟨rfl,hw⟩;subst hw;go_wp2;go_ret;exact⟨Yj rfl,rfl⟩
def Gv:Obj:= .cells #[.string ⟨#[110]⟩,.string ⟨#[109]⟩,.string ⟨#[115]⟩,.string ⟨#[116]⟩,.string ⟨#[120,47,110]⟩,.string ⟨#[120,47,115]⟩,.string ⟨#[120,47,121,47,122]⟩,.string ⟨#[120]⟩,.string ⟨#[113,47,114]⟩,.string ⟨#[110,47,111]⟩] 9
theorem BM (c:Int)(w:eX)(h1: -9223372036854775808≤c)(h2:c≤9223372036854775807):
  wH sU 65 #[.int .i64 c] w fun e w' =>e= .returned (.string ⟨(R.pathN c).toArray⟩)∧w' =w.alloc Gv:=by
 obtain⟨p1,p2⟩:=Vw c 10 (by decide);obtain⟨i,hi⟩:∃i:Nat,YY c 10=(i:Int):=⟨(YY c 10).toNat,by omega⟩
 have HP:Hid (∀W:eX,wH sU 25 #[.int .i64 c,.int .i64 10] W fun e w' =>e= .returned (.int .i64 (i:Int))∧w' =W):=fun W=>by
  have:=UE c 10 W h1 h2 (by decide) (by decide);rw[hi]at this;exact this
 have a0:i<10:=by omega
 have e0:(w.alloc (.cells #[.string ⟨#[110]⟩,.string ⟨#[109]⟩,.string ⟨#[115]⟩,.string ⟨#[116]⟩,.string ⟨#[120,47,110]⟩,.string ⟨#[120,47,115]⟩,.string ⟨#[120,47,121,47,122]⟩,.string ⟨#[120]⟩,.string ⟨#[113,47,114]⟩,.string ⟨#[110,47,111]⟩] 9)).cell? ⟨w.heap.size,i,none⟩=some (.string ⟨(R.pathN c).toArray⟩):=by
  unfold R.pathN;rw[GN,hi];clear hi HP p1 p2;rcases(by omega:i=0∨i=1∨i=2∨i=3∨i=4∨i=5∨i=6∨i=7∨i=8∨i=9)with rfl|rfl|rfl|rfl|rfl|rfl|rfl|rfl|rfl|rfl<;>simp<;>rfl
 clear hi p1 p2;go_enter Tryz.func65,Tryz.ntmps65;go_wp2_with fail
 refine(HP.out _).mono ?_;rintro e W' ⟨rfl,hw⟩;subst hw;go_wp2;go_ret;exact⟨Yj rfl,rfl⟩
def Gu:Obj:= .cells #[.string ⟨#[112]⟩,.string ⟨#[113]⟩,.string ⟨#[114]⟩,.string ⟨#[115,111,109,101,32,116,101,120,116]⟩,.string ⟨#[122]⟩] 9
theorem UD (c:Int)(w:eX)(h1: -9223372036854775808≤c)(h2:c≤9223372036854775807):
  wH sU 66 #[.int .i64 c] w fun e w' =>e= .returned (.string ⟨(R.textN c).toArray⟩)∧w' =w.alloc Gu:=by
 obtain⟨p1,p2⟩:=Vw c 5 (by decide);obtain⟨i,hi⟩:∃i:Nat,YY c 5=(i:Int):=⟨(YY c 5).toNat,by omega⟩
 have HP:Hid (∀W:eX,wH sU 25 #[.int .i64 c,.int .i64 5] W fun e w' =>e= .returned (.int .i64 (i:Int))∧w' =W):=fun W=>by
  have:=UE c 5 W h1 h2 (by decide) (by decide);rw[hi]at this;exact this
 have a0:i<5:=by omega
 have e0:(w.alloc (.cells #[.string ⟨#[112]⟩,.string ⟨#[113]⟩,.string ⟨#[114]⟩,.string ⟨#[115,111,109,101,32,116,101,120,116]⟩,.string ⟨#[122]⟩] 9)).cell? ⟨w.heap.size,i,none⟩=some (.string ⟨(R.textN c).toArray⟩):=by
  unfold R.textN;rw[GN,hi];clear hi HP p1 p2;rcases(by omega:i=0∨i=1∨i=2∨i=3∨i=4)with rfl|rfl|rfl|rfl|rfl<;>simp<;>rfl
 clear hi p1 p2;go_enter Tryz.func66,Tryz.ntmps66;go_wp2_with fail
 refine(HP.out _).mono ?_;rintro e W' ⟨rfl,hw⟩;subst hw;go_wp2;go_ret;exact⟨Yj rfl,rfl⟩
section
def yk (l:List R.Raw):List eB:=l.flatMap fun a=> [.int .i64 a.kind,.int .i64 a.br,.int .i64 a.path,.int .i64 a.n]
theorem K4:∀(l:List R.Raw) (i:Nat) (h:i<l.length),(yk l)[i*4]? =some (.int .i64 l[i].kind)∧(yk l)[i*4+1]? =some (.int .i64 l[i].br)∧(yk l)[i*4+2]? =some (.int .i64 l[i].path)∧(yk l)[i*4+3]? =some (.int .i64 l[i].n)
 |x::r,0,_=>⟨rfl,rfl,rfl,rfl⟩
 |x::r,i+1,h=>by
  have ih:=K4 r i (by simpa using h);have e:∀j,(yk (x::r))[(i+1)*4+j]? =(yk r)[i*4+j]? :=fun j=>by
   show([.int .i64 x.kind,.int .i64 x.br,.int .i64 x.path,.int .i64 x.n]++yk r)[(i+1)*4+j]? =_;rw[List.getElem?_append_right (by simp;omega)];congr 1
   simp;omega
  have e0:=e 0;rw[iE,iE]at e0;rw[e0,e 1,e 2,e 3];exact ih
def okN (n:Int):Prop:= -9223372036854775808≤n∧n≤9223372036854775807
structure okR (a:R.Raw):Prop where
 k:okN a.kind
 b:okN a.br
 p:okN a.path
 n:okN a.n
theorem dv:(R.made aw0 [97] [] false).1=0:=by decide+kernel
theorem vO:∀l:List eB,l=(mO l.length).map fun i=>l.getD i undef
 |[]=>rfl
 |x::r=>by
  have ih:=vO r;rw[nM,List.range_succ_eq_map,List.map_cons,List.map_map];simp only[List.getD_cons_zero,Function.comp_def,List.getD_cons_succ];rw[←ih]
def SmQ (oa:Option Addr)(on oc B it:Nat)(A0:eX)(HH:Nat→Prop)(s0:Int)(e:Exit)(a:Act)(wr:eX):Prop:=
 e= .normal∧a.defers=[]∧a.tmps.size=204∧a.tmps[2]? =some (.slice oa on oc)∧a.tmps[8]? =some (.pointer (some ⟨B,0,none⟩))∧a.tmps[14]? =some (.slice (some ⟨it,0,none⟩) 5 5)∧∃(sum:Int) (na:Nat) (st:R.St),na≤20∧a.tmps[9]? =some (.int .i64 sum)∧R.SumA s0 sum na 0 21 st∧KS A0 HH B st 48 wr
def SnQ (w:eX)(B:Nat)(s0 sum:Int)(e:Exit)(a:Act)(wr:eX):Prop:=
 e= .normal∧a.defers=[]∧a.tmps.size=204∧a.tmps[8]? =some (.pointer (some ⟨B,0,none⟩))∧a.tmps[9]? =some (.int .i64 sum)∧∃(st:R.St) (w1:eX) (HX:Nat→Prop),R.SumB s0 sum [] 30 st∧KS w1 HX B st 58 wr∧(∀b,b<w.heap.size→HX b)∧ze w w1
def dn (w1:eX)(HX:Nat→Prop)(la:Option Addr)(lc:Nat)(L:List Nat):Prop:=0<L.length→∃g,la=some ⟨g,0,none⟩∧L.length≤lc∧lc≤9223372036854775807∧HX g∧∀j (h:j<L.length),w1.cell? ⟨g,j,none⟩=some (.string ⟨(R.bgItem L[j]).toArray⟩)
def SnI (w:eX)(oa:Option Addr)(on oc B:Nat)(s0 sum:Int)(a:Act)(wr:eX):Prop:=
 (a.defers=[]∧a.tmps.size=204∧a.tmps[2]? =some (.slice oa on oc)∧a.tmps[8]? =some (.pointer (some ⟨B,0,none⟩))∧a.tmps[9]? =some (.int .i64 sum))∧
 ∃(i:Nat) (L:List Nat) (la:Option Addr) (lc:Nat) (st:R.St) (w1:eX) (HX:Nat→Prop),i≤4∧i+L.length=4∧L.Nodup∧(∀j∈L,1≤j∧j<5)∧a.tmps[27]? =some (.int .i64 (i:Int))∧a.tmps[26]? =some (.slice la L.length lc)∧R.SumB s0 sum L (26+i) st∧KS w1 HX B st (54+i) wr∧(∀b,b<w.heap.size→HX b)∧ze w w1∧dn w1 HX la lc L
def De (a:Act):Nat:=(intOf (a.tmps.getD 27 undef)).toNat
def SkQ (oa:Option Addr)(on oc B i n:Nat)(sum:Int)(la:Option Addr)(lc:Nat)(w1:eX)(HX:Nat→Prop)(st:R.St)(e:Exit)(a:Act)(wr:eX):Prop:=
 e= .normal∧a.defers=[]∧a.tmps.size=204∧a.tmps[2]? =some (.slice oa on oc)∧a.tmps[8]? =some (.pointer (some ⟨B,0,none⟩))∧a.tmps[9]? =some (.int .i64 sum)∧a.tmps[26]? =some (.slice la n lc)∧a.tmps[27]? =some (.int .i64 (i:Int))∧KS w1 HX B st (54+i) wr∧∃k:Nat,k<n∧a.tmps[28]? =some (.int .i64 (k:Int))
def nmV (j:Nat):eB:= .string ⟨(R.bgItem j).toArray⟩
theorem F8:(Tryz.prog.info? 9).map (fun i=>(i.zero,i.size,i.bytes))=some (some (.string ⟨#[]⟩),1,16):=by kernel_rfl
end
section
theorem KS.delete {w0 w:eX}{H:Nat→Prop}{B c:Nat}{st:R.St}(h:KS w0 H B st c w)(a0 path:List UInt8)(a1:path.length≤maxLen){r:Int}(hr:(R.change st 0 a0 path 0 []).1=r):
  wH sU 42 #[.pointer (some ⟨B,0,none⟩),.string ⟨a0.toArray⟩,.string ⟨path.toArray⟩] w fun e w' =>e= .returned (.int .i64 r)∧KS w0 H B (R.change st 0 a0 path 0 []).2 (c+1) w' :=by
 subst hr;exact h.call (Ya h.inv _ _ _ _ _ (by simp)) (by rw[yY];omega) fun O h1 h2 h3 h4 h5 h6=>C3 B st a0 path w O O h1 h2 h4 h5 a1
theorem KS.alloc {w0 w:eX}{H:Nat→Prop}{B c:Nat}{st:R.St}(h:KS w0 H B st c w)(o:Obj):KS w0 H B st c (w.alloc o):=h.keptM ((ze.refl w).alloc o)
def Qv (w0:eX)(H:Nat→Prop)(v:eB)(l:List R.Raw):Prop:=∃a cap,v= .slice a l.length cap∧l.length≤cap∧cap≤9223372036854775807∧(0<l.length→∃b off,a=some ⟨b,off,none⟩∧H b∧∀j u,(yk l)[j]? =some u→w0.cell? ⟨b,off+j,none⟩=some u)
theorem kf (l:List (List UInt8))(n:Nat)(h:∀x∈l,x.length≤n)(i:Nat):(l.getD i []).length≤n:=by
 rw[lB]
 cases e:l[i]? with
 |none=>simp
 |some x=>exact h x (List.mem_of_getElem? e)
theorem bS (c:Int):(R.brN c).length≤10:=kf _ 10 (by decide) _
theorem fN (c:Int):(R.pathN c).length≤10:=kf _ 10 (by decide) _
theorem Qw (c:Int):(R.textN c).length≤10:=kf _ 10 (by decide) _
theorem QA (c:Int)(hc:okN c)(n:Int)(h0:0<n)(hn:n≤9223372036854775807):∃f:Nat,(f:Int)<n∧R.pk_ c n=(f:Int)∧∀W:eX,wH sU 25 #[.int .i64 c,.int .i64 n] W fun e w' =>e= .returned (.int .i64 f)∧w' =W:=by
 have hp:=Vw c n h0;refine⟨(YY c n).toNat,by omega,by rw[GN];omega,fun W=> ?_⟩;have:=UE c n W hc.1 hc.2 h0 hn;rw[show(((YY c n).toNat:Nat):Int)=YY c n by omega];exact this
theorem gt {a:Act}(hd:a.defers=[])(hs:a.tmps.size=110):∃f:Nat→eB,(∀i v,a.tmps[i]? =some v→f i=v)∧a=⟨#[f 0,f 1,f 2,f 3,f 4,f 5,f 6,f 7,f 8,f 9,f 10,f 11,f 12,f 13,f 14,f 15,f 16,f 17,f 18,f 19,f 20,f 21,f 22,f 23,f 24,f 25,f 26,f 27,f 28,f 29,f 30,f 31,f 32,f 33,f 34,f 35,f 36,f 37,f 38,f 39,f 40,f 41,f 42,f 43,f 44,f 45,f 46,f 47,f 48,f 49,f 50,f 51,f 52,f 53,f 54,f 55,f 56,f 57,f 58,f 59,f 60,f 61,f 62,f 63,f 64,f 65,f 66,f 67,f 68,f 69,f 70,f 71,f 72,f 73,f 74,f 75,f 76,f 77,f 78,f 79,f 80,f 81,f 82,f 83,f 84,f 85,f 86,f 87,f 88,f 89,f 90,f 91,f 92,f 93,f 94,f 95,f 96,f 97,f 98,f 99,f 100,f 101,f 102,f 103,f 104,f 105,f 106,f 107,f 108,f 109],[]⟩:=by
 obtain⟨⟨l⟩,ds⟩:=a;simp only at hd;subst hd;have hl:l.length=110:=hs;refine⟨fun i=>l.getD i undef,fun i v hv=> ?_,?_⟩
 ·have:l[i]? =some v:=by simpa using hv
  simp[lB,this]
 ·have:=vO l
  rw[hl]at this;exact congrArg (fun x:List eB=>(⟨⟨x⟩,[]⟩:Act)) this
def AcI (w0:eX)(H:Nat→Prop)(B c:Nat)(st:R.St)(l:List R.Raw)(sa:Option Addr)(sc:Nat)(a:Act)(wr:eX):Prop:=
 (a.defers=[]∧a.tmps.size=110∧a.tmps[0]? =some (.pointer (some ⟨B,0,none⟩))∧a.tmps[1]? =some (.slice sa l.length sc))∧
 ∃i:Nat,i≤25∧i≤l.length∧a.tmps[4]? =some (.int .i64 (i:Int))∧KS w0 H B ((l.take i).foldl R.actP st) (c+2*i) wr
theorem AcI.re {w0:eX}{H:Nat→Prop}{B c:Nat}{st:R.St}{l:List R.Raw}{sa:Option Addr}{sc:Nat}{a:Act}{wr:eX}(h:AcI w0 H B c st l sa sc a wr)(T:Nat→iC→Nat)(d:Nat):AcI w0 H B c st l sa sc a (mG wr T d):=by
 obtain⟨h0,i,h1,h2,h3,h4⟩:=h;exact⟨h0,i,h1,h2,h3,h4.re T d⟩
def at4 (a:Act):Nat:=(intOf (a.tmps.getD 4 undef)).toNat
theorem C7 (l:List R.Raw)(st:R.St)(i:Nat)(h:i<l.length):(l.take (i+1)).foldl R.actP st=R.actP ((l.take i).foldl R.actP st) l[i]:=by
 rw[nN h,List.foldl_append];rfl
def dr (w0:eX)(H:Nat→Prop)(B c:Nat)(st:R.St)(v:eB)(w' :eX):Prop:=v= .tuple #[]∧KS w0 H B st c w'
theorem Ge {w0 w:eX}{H:Nat→Prop}{B c:Nat}{st:R.St}(h:KS w0 H B st c w)(hc:c≤200000){v:eB}{l:List R.Raw}(hA:Qv w0 H v l)(b5:∀a∈l,okR a):
  zF sU 36 #[.pointer (some ⟨B,0,none⟩),v] w (dr w0 H B (c+50) (R.actsP st l)):=by
 have hP:=xx;obtain⟨sa,sc,rfl,i2,i3,f8⟩:=hA;have d3:=z4 f8;have g0:=z4 b5;have HS:=z4 h;clear f8 b5 h;refine zL hP N1 rfl ?_;have f3:ReC (zZ sU N3 (dr w0 H B (c+50) (R.actsP st l))):=ReC.body fun v w' T d ⟨h1,h2⟩=>⟨h1,h2.re T d⟩
 simp only[Tryz.ntmps36,tQ,nM,pC,tR,tS,tT,tU,tV,tX,nV,mJ];refine z7 hP f3 fun T d=> ?_
 have a0 :=z4 (HS.out.re T d);clear HS;generalize re w T d=W at*;go_wp2;refine ZK hP ?_;refine Vg hP (AcI w0 H B c st l sa sc) (fun a _=>25-at4 a) ⟨⟨rfl,rfl,rfl,rfl⟩,0,wB _,wB _,rfl,a0.out⟩ ?_;clear a0;rintro a wr ⟨⟨hd,f9,t0,t1⟩,i,g4,h0,t4,hs⟩;have a2:∀μ0:Nat,ReC (Exit.then (fun a' w' =>AcI w0 H B c st l sa sc a' w' ∧25-at4 a' <μ0) (Exit.inBlock 0 (zZ sU N3 (dr w0 H B (c+50) (R.actsP st l))))):=fun μ0=>f3.inBlock.thenM fun a w T d ⟨h1,h6⟩=>⟨h1.re T d,h6⟩
 have f6:25-at4 a=25-i:=by
  unfold at4;simp only[Array.getD_eq_getD_getElem?,t4];simp[intOf]
 rw[f6];obtain⟨f,c8,f5⟩:=gt hd f9;rw[c8 0 _ t0,c8 1 _ t1,c8 4 _ t4]at f5;clear f6 c8 hd f9 t0 t1 t4;subst f5;have HS:=z4 hs;clear hs;by_cases b6:i<l.length∧i<25
 ·obtain⟨b6,g6⟩:=b6
  obtain⟨b,off,rfl,hb,b8⟩:=d3.out (by omega);have b1:Hid (∀(st:R.St) (c:Nat) (X:eX),KS w0 H B st c X→∀(k j:Nat) (u:eB),(yk l)[k*4+j]? =some u→X.cell? ⟨b,off+k*4+j,none⟩=some u):=fun st c X hX k j u hu=>by
   rw[hX.held.cell (p:=⟨b,off+k*4+j,none⟩) hb,Nat.add_assoc];exact b8 _ _ hu
  clear b8 hb;obtain⟨q0,q1,q2,q3⟩:=K4 l i b6;have g1:Hid ((yk l)[i*4+0]? =_):=q0;have g2:=z4 q1;have g3:=z4 q2;have c6:=z4 q3;have b5:=g0.out _ (j0c b6);have HF:=z4 (C7 l st i b6);generalize l[i]'b6=act at*;obtain⟨ak,ab,ap,an⟩:=act;clear q0 q1 q2 q3;generalize(l.take i).foldl R.actP st=st1 at*;obtain⟨pk,i0,f7,b9⟩:=QA ak b5.k 10 (by decide) (by decide);have PK:=z4 b9;have b2:=z4 f7;have d6:=z4 (fun W=>jV ab W b5.b.1 b5.b.2);have d8:=z4 (fun W=>BM ap W b5.p.1 b5.p.2);have g9:=bS ab;have i1:=fN ap;have a7:=z4 b5.n;clear b9 f7 b5;refine z7 hP (a2 _) fun T d=> ?_
  have a0 :=z4 (HS.out.re T d);clear HS;generalize re wr T d=X0 at*;go_wp2;refine zn hP ?_;refine ZK hP ?_;refine z7 hP (a2 _).thenT.inBlock fun T d=> ?_
  have HS:=z4 (a0.out.re T d);clear a0;generalize re X0 T d=X1 at*;have e1:=b1.out _ _ X1 HS.out i 1 _ g2.out;go_wp2_with fail
  refine(d6.out _).mono ?_;rintro e X2 ⟨rfl,hw⟩;have b7:Hid (KS w0 H B st1 (c+2*i) X2):=by subst hw;exact HS.out.alloc _
  clear HS hw e1;go_wp2;refine z7 hP (a2 _).thenT.inBlock fun T d=> ?_
  have HS:=z4 (b7.out.re T d);clear b7;generalize re X2 T d=X3 at*;have e2:=b1.out _ _ X3 HS.out i 2 _ g3.out;go_wp2_with fail
  refine(d8.out _).mono ?_;rintro e X4 ⟨rfl,hw⟩;have b7:Hid (KS w0 H B st1 (c+2*i) X4):=by subst hw;exact HS.out.alloc _
  clear HS hw e2;go_wp2;refine z7 hP (a2 _).thenT.inBlock fun T d=> ?_
  have HS:=z4 (b7.out.re T d);clear b7;generalize re X4 T d=X5 at*;have e0:=b1.out _ _ X5 HS.out i 0 _ g1.out;simp only[iE]at e0;go_wp2_with fail
  refine(PK.out _).mono ?_;rintro e W' ⟨rfl,hw⟩;replace hw:=hw.symm;subst hw;clear e0 PK d6 d8;go_wp2;generalize c7:R.pathN ap=pa at*;have b3:=z4 c7;clear c7;generalize f4:R.brN ab=br at*;have a6:=z4 f4;clear f4;rcases(by omega:pk=0∨pk=1∨pk=2∨pk=3∨pk=4∨pk=5∨pk=6∨pk=7∨pk=8∨pk=9)with rfl|rfl|rfl|rfl|rfl|rfl|rfl|rfl|rfl|rfl
  ·have a5:Hid (R.actP st1 ⟨ak,ab,ap,an⟩=(R.change st1 35 br pa (R.pk_ an 200-100) []).2):=by
    show _=_;unfold R.actP;simp only[b2.out,a6.out,b3.out];rfl
   obtain⟨pn,g7,a9,a3⟩:=QA an a7.out 200 (by decide) (by decide);have PN:=z4 a3;rw[a9]at a5;clear a3 a9;refine zg hP (a2 _).thenT.inBlock fun T d=> ?_
   have a0 :=z4 (HS.out.re T d);clear HS;generalize re X5 T d=X6 at*;have e3:=b1.out _ _ X6 a0.out i 3 _ c6.out;go_wp2_with fail
   refine(PN.out _).mono ?_;rintro e W' ⟨rfl,hw⟩;replace hw:=hw.symm;subst hw;clear e3;go_wp2_with fail
   refine(a0.out.add br pa ((pn:Int)-100) (by unfold maxLen;omega) (by omega) (by omega) rfl).mono ?_;rintro e X9 ⟨rfl,hs⟩;have a1:=z4 hs;clear hs;go_wp2;refine zg hP (a2 _) fun T d=> ?_
   have a4:Hid (KS w0 H B ((l.take (i+1)).foldl R.actP st) (c+2*(i+1)) (re X9 T d)):=by
    show KS _ _ _ _ _ _;rw[HF.out,a5.out];exact(a1.out.re T d).mono (by omega)
   clear a1;generalize re X9 T d=Y0 at*;go_wp2;exact⟨⟨⟨rfl,rfl,rfl,rfl⟩,i+1,by omega,by omega,by simp,a4.out⟩,by simp[at4,intOf];omega⟩
  ·have a5:Hid (R.actP st1 ⟨ak,ab,ap,an⟩=(R.change st1 35 br pa (R.pk_ an 200-100) []).2):=by
    show _=_;unfold R.actP;simp only[b2.out,a6.out,b3.out];rfl
   obtain⟨pn,g7,a9,a3⟩:=QA an a7.out 200 (by decide) (by decide);have PN:=z4 a3;rw[a9]at a5;clear a3 a9;refine zg hP (a2 _).thenT.inBlock fun T d=> ?_
   have a0 :=z4 (HS.out.re T d);clear HS;generalize re X5 T d=X6 at*;have e3:=b1.out _ _ X6 a0.out i 3 _ c6.out;go_wp2_with fail
   refine(PN.out _).mono ?_;rintro e W' ⟨rfl,hw⟩;replace hw:=hw.symm;subst hw;clear e3;go_wp2_with fail
   refine(a0.out.add br pa ((pn:Int)-100) (by unfold maxLen;omega) (by omega) (by omega) rfl).mono ?_;rintro e X9 ⟨rfl,hs⟩;have a1:=z4 hs;clear hs;go_wp2;refine zg hP (a2 _) fun T d=> ?_
   have a4:Hid (KS w0 H B ((l.take (i+1)).foldl R.actP st) (c+2*(i+1)) (re X9 T d)):=by
    show KS _ _ _ _ _ _;rw[HF.out,a5.out];exact(a1.out.re T d).mono (by omega)
   clear a1;generalize re X9 T d=Y0 at*;go_wp2;exact⟨⟨⟨rfl,rfl,rfl,rfl⟩,i+1,by omega,by omega,by simp,a4.out⟩,by simp[at4,intOf];omega⟩
  ·have a5:Hid (R.actP st1 ⟨ak,ab,ap,an⟩=(R.change st1 61 br pa 0 (R.textN an)).2):=by
    show _=_;unfold R.actP;simp only[b2.out,a6.out,b3.out];rfl
   refine zg hP (a2 _).thenT.inBlock fun T d=> ?_
   have a0 :=z4 (HS.out.re T d);clear HS;generalize re X5 T d=X6 at*;have a8:=z4 (fun W=>UD an W a7.out.1 a7.out.2);have d4:=Qw an;have e3:=b1.out _ _ X6 a0.out i 3 _ c6.out;go_wp2_with fail
   refine(a8.out _).mono ?_;rintro e X7 ⟨rfl,hw⟩;have b4:Hid (KS w0 H B st1 (c+2*i) X7):=by subst hw;exact a0.out.alloc _
   clear a0 hw e3 a8;go_wp2_with fail
   refine(b4.out.note br pa (R.textN an) (by unfold maxLen;omega) (by unfold maxLen;omega) rfl).mono ?_;rintro e X9 ⟨rfl,hs⟩;have a1:=z4 hs;clear hs;go_wp2;refine zg hP (a2 _) fun T d=> ?_
   have a4:Hid (KS w0 H B ((l.take (i+1)).foldl R.actP st) (c+2*(i+1)) (re X9 T d)):=by
    show KS _ _ _ _ _ _;rw[HF.out,a5.out];exact(a1.out.re T d).mono (by omega)
   clear a1;generalize re X9 T d=Y0 at*;go_wp2;exact⟨⟨⟨rfl,rfl,rfl,rfl⟩,i+1,by omega,by omega,by simp,a4.out⟩,by simp[at4,intOf];omega⟩
  ·have a5:Hid (R.actP st1 ⟨ak,ab,ap,an⟩=(R.change st1 42 br pa 0 (R.textN an)).2):=by
    show _=_;unfold R.actP;simp only[b2.out,a6.out,b3.out];rfl
   refine zg hP (a2 _).thenT.inBlock fun T d=> ?_
   have a0 :=z4 (HS.out.re T d);clear HS;generalize re X5 T d=X6 at*;have a8:=z4 (fun W=>UD an W a7.out.1 a7.out.2);have d4:=Qw an;have e3:=b1.out _ _ X6 a0.out i 3 _ c6.out;go_wp2_with fail
   refine(a8.out _).mono ?_;rintro e X7 ⟨rfl,hw⟩;have b4:Hid (KS w0 H B st1 (c+2*i) X7):=by subst hw;exact a0.out.alloc _
   clear a0 hw e3 a8;go_wp2_with fail
   refine(b4.out.put br pa (R.textN an) (by unfold maxLen;omega) (by unfold maxLen;omega) rfl).mono ?_;rintro e X9 ⟨rfl,hs⟩;have a1:=z4 hs;clear hs;go_wp2;refine zg hP (a2 _) fun T d=> ?_
   have a4:Hid (KS w0 H B ((l.take (i+1)).foldl R.actP st) (c+2*(i+1)) (re X9 T d)):=by
    show KS _ _ _ _ _ _;rw[HF.out,a5.out];exact(a1.out.re T d).mono (by omega)
   clear a1;generalize re X9 T d=Y0 at*;go_wp2;exact⟨⟨⟨rfl,rfl,rfl,rfl⟩,i+1,by omega,by omega,by simp,a4.out⟩,by simp[at4,intOf];omega⟩
  ·have a5:Hid (R.actP st1 ⟨ak,ab,ap,an⟩=(R.change st1 42 br pa 0 (R.textN an)).2):=by
    show _=_;unfold R.actP;simp only[b2.out,a6.out,b3.out];rfl
   refine zg hP (a2 _).thenT.inBlock fun T d=> ?_
   have a0 :=z4 (HS.out.re T d);clear HS;generalize re X5 T d=X6 at*;have a8:=z4 (fun W=>UD an W a7.out.1 a7.out.2);have d4:=Qw an;have e3:=b1.out _ _ X6 a0.out i 3 _ c6.out;go_wp2_with fail
   refine(a8.out _).mono ?_;rintro e X7 ⟨rfl,hw⟩;have b4:Hid (KS w0 H B st1 (c+2*i) X7):=by subst hw;exact a0.out.alloc _
   clear a0 hw e3 a8;go_wp2_with fail
   refine(b4.out.put br pa (R.textN an) (by unfold maxLen;omega) (by unfold maxLen;omega) rfl).mono ?_;rintro e X9 ⟨rfl,hs⟩;have a1:=z4 hs;clear hs;go_wp2;refine zg hP (a2 _) fun T d=> ?_
   have a4:Hid (KS w0 H B ((l.take (i+1)).foldl R.actP st) (c+2*(i+1)) (re X9 T d)):=by
    show KS _ _ _ _ _ _;rw[HF.out,a5.out];exact(a1.out.re T d).mono (by omega)
   clear a1;generalize re X9 T d=Y0 at*;go_wp2;exact⟨⟨⟨rfl,rfl,rfl,rfl⟩,i+1,by omega,by omega,by simp,a4.out⟩,by simp[at4,intOf];omega⟩
  ·have a5:Hid (R.actP st1 ⟨ak,ab,ap,an⟩=(R.change st1 45 br pa 0 (R.textN an)).2):=by
    show _=_;unfold R.actP;simp only[b2.out,a6.out,b3.out];rfl
   refine zg hP (a2 _).thenT.inBlock fun T d=> ?_
   have a0 :=z4 (HS.out.re T d);clear HS;generalize re X5 T d=X6 at*;have a8:=z4 (fun W=>UD an W a7.out.1 a7.out.2);have d4:=Qw an;have e3:=b1.out _ _ X6 a0.out i 3 _ c6.out;go_wp2_with fail
   refine(a8.out _).mono ?_;rintro e X7 ⟨rfl,hw⟩;have b4:Hid (KS w0 H B st1 (c+2*i) X7):=by subst hw;exact a0.out.alloc _
   clear a0 hw e3 a8;go_wp2_with fail
   refine(b4.out.take br pa (R.textN an) (by unfold maxLen;omega) (by unfold maxLen;omega) rfl).mono ?_;rintro e X9 ⟨rfl,hs⟩;have a1:=z4 hs;clear hs;go_wp2;refine zg hP (a2 _) fun T d=> ?_
   have a4:Hid (KS w0 H B ((l.take (i+1)).foldl R.actP st) (c+2*(i+1)) (re X9 T d)):=by
    show KS _ _ _ _ _ _;rw[HF.out,a5.out];exact(a1.out.re T d).mono (by omega)
   clear a1;generalize re X9 T d=Y0 at*;go_wp2;exact⟨⟨⟨rfl,rfl,rfl,rfl⟩,i+1,by omega,by omega,by simp,a4.out⟩,by simp[at4,intOf];omega⟩
  ·have a5:Hid (R.actP st1 ⟨ak,ab,ap,an⟩=(R.change st1 0 br pa 0 []).2):=by
    show _=_;unfold R.actP;simp only[b2.out,a6.out,b3.out];rfl
   refine zg hP (a2 _).thenT.inBlock fun T d=> ?_
   have a0 :=z4 (HS.out.re T d);clear HS;generalize re X5 T d=X6 at*;go_wp2_with fail
   refine(a0.out.delete br pa (by unfold maxLen;omega) rfl).mono ?_;rintro e X9 ⟨rfl,hs⟩;have a1:=z4 hs;clear hs;go_wp2;refine zg hP (a2 _) fun T d=> ?_
   have a4:Hid (KS w0 H B ((l.take (i+1)).foldl R.actP st) (c+2*(i+1)) (re X9 T d)):=by
    show KS _ _ _ _ _ _;rw[HF.out,a5.out];exact(a1.out.re T d).mono (by omega)
   clear a1;generalize re X9 T d=Y0 at*;go_wp2;exact⟨⟨⟨rfl,rfl,rfl,rfl⟩,i+1,by omega,by omega,by simp,a4.out⟩,by simp[at4,intOf];omega⟩
  ·have a5:Hid (R.actP st1 ⟨ak,ab,ap,an⟩=(R.commit st1 br).2):=by
    show _=_;unfold R.actP;simp only[b2.out,a6.out,b3.out];rfl
   refine zg hP (a2 _).thenT.inBlock fun T d=> ?_
   have a0 :=z4 (HS.out.re T d);clear HS;generalize re X5 T d=X6 at*;go_wp2_with fail
   refine(a0.out.commit (by omega) br rfl).mono ?_;rintro e X9 ⟨rfl,hs⟩;have a1:=z4 hs;clear hs;go_wp2;refine zg hP (a2 _) fun T d=> ?_
   have a4:Hid (KS w0 H B ((l.take (i+1)).foldl R.actP st) (c+2*(i+1)) (re X9 T d)):=by
    show KS _ _ _ _ _ _;rw[HF.out,a5.out];exact(a1.out.re T d).mono (by omega)
   clear a1;generalize re X9 T d=Y0 at*;go_wp2;exact⟨⟨⟨rfl,rfl,rfl,rfl⟩,i+1,by omega,by omega,by simp,a4.out⟩,by simp[at4,intOf];omega⟩
  ·have a5:Hid (R.actP st1 ⟨ak,ab,ap,an⟩=(R.commit st1 br).2):=by
    show _=_;unfold R.actP;simp only[b2.out,a6.out,b3.out];rfl
   refine zg hP (a2 _).thenT.inBlock fun T d=> ?_
   have a0 :=z4 (HS.out.re T d);clear HS;generalize re X5 T d=X6 at*;go_wp2_with fail
   refine(a0.out.commit (by omega) br rfl).mono ?_;rintro e X9 ⟨rfl,hs⟩;have a1:=z4 hs;clear hs;go_wp2;refine zg hP (a2 _) fun T d=> ?_
   have a4:Hid (KS w0 H B ((l.take (i+1)).foldl R.actP st) (c+2*(i+1)) (re X9 T d)):=by
    show KS _ _ _ _ _ _;rw[HF.out,a5.out];exact(a1.out.re T d).mono (by omega)
   clear a1;generalize re X9 T d=Y0 at*;go_wp2;exact⟨⟨⟨rfl,rfl,rfl,rfl⟩,i+1,by omega,by omega,by simp,a4.out⟩,by simp[at4,intOf];omega⟩
  ·have a5:Hid (R.actP st1 ⟨ak,ab,ap,an⟩=(R.joinB (R.commit st1 br).2 br (R.brN an)).2):=by
    show _=_;unfold R.actP;simp only[b2.out,a6.out,b3.out];rfl
   have d5:=z4 (fun W=>jV an W a7.out.1 a7.out.2);refine ZK hP ?_;refine z7 hP (a2 _).thenT.inBlock.inBlock fun T d=> ?_
   have d9:=z4 (HS.out.re T d);clear HS;generalize re X5 T d=Z0 at*;go_wp2;refine yR (t:=false) hP (by simp[Act.eval]) ?_;simp only[eU,if_false];refine z7 hP (a2 _).thenT.inBlock.inBlock fun T d=> ?_
   have e6:=z4 (d9.out.re T d);clear d9;generalize re Z0 T d=Z1 at*;go_wp2;refine yR (t:=false) hP (by simp[Act.eval]) ?_;simp only[eU,if_false];refine z7 hP (a2 _).thenT.inBlock.inBlock fun T d=> ?_
   have b7:=z4 (e6.out.re T d);clear e6;generalize re Z1 T d=Z2 at*;go_wp2;refine yR (t:=false) hP (by simp[Act.eval]) ?_;simp only[eU,if_false];refine z7 hP (a2 _).thenT.inBlock.inBlock fun T d=> ?_
   have e7:=z4 (b7.out.re T d);clear b7;generalize re Z2 T d=Z3 at*;go_wp2;refine yR (t:=false) hP (by simp[Act.eval]) ?_;simp only[eU,if_false];refine z7 hP (a2 _).thenT.inBlock.inBlock fun T d=> ?_
   have e8:=z4 (e7.out.re T d);clear e7;generalize re Z3 T d=Z4 at*;go_wp2;refine yR (t:=false) hP (by simp[Act.eval]) ?_;simp only[eU,if_false];refine z7 hP (a2 _).thenT.inBlock.inBlock fun T d=> ?_
   have e9:=z4 (e8.out.re T d);clear e8;generalize re Z4 T d=Z5 at*;go_wp2;refine yR (t:=false) hP (by simp[Act.eval]) ?_;simp only[eU,if_false];refine z7 hP (a2 _).thenT.inBlock.inBlock fun T d=> ?_
   have f0:=z4 (e9.out.re T d);clear e9;generalize re Z5 T d=Z6 at*;go_wp2_with fail
   refine(f0.out.commit (by omega) br rfl).mono ?_;rintro e Z7 ⟨rfl,hs⟩;have b4:=z4 hs;clear hs f0;go_wp2;refine zP hP 8 (a2 _).thenT.inBlock.inBlock rfl rfl rfl MT (by decide) rfl fun T d=> ?_
   have a1:=z4 (b4.out.re T d);clear b4;generalize re Z7 T d=Z8 at*;have e3:=b1.out _ _ Z8 a1.out i 3 _ c6.out;simp only[aX,ME,MF,MG];go_wp2_with fail
   refine(d5.out _).mono ?_;rintro e Z9 ⟨rfl,hw⟩;have a4:Hid (KS w0 H B (R.commit st1 br).2 (c+2*i+1) Z9):=by subst hw;exact a1.out.alloc _
   clear a1 hw e3 d5;go_wp2;refine⟨_,_,by simp[Act.eval],a4.out.join (by omega) br (R.brN an) (by omega),?_⟩;rintro v V' ⟨rfl,hs⟩ T d;have a1:=z4 (hs.re T d);clear a4 hs;generalize re V' T d=X9 at*;clear V';go_wp2;refine zg hP (a2 _) fun T d=> ?_
   have a4:Hid (KS w0 H B ((l.take (i+1)).foldl R.actP st) (c+2*(i+1)) (re X9 T d)):=by
    show KS _ _ _ _ _ _;rw[HF.out,a5.out];exact(a1.out.re T d).mono (by omega)
   clear a1;generalize re X9 T d=Y0 at*;go_wp2;exact⟨⟨⟨rfl,rfl,rfl,rfl⟩,i+1,by omega,by omega,by simp,a4.out⟩,by simp[at4,intOf];omega⟩
 ·have c9:¬(i<l.length∧i<25):=b6
  have HE:Hid (KS w0 H B (R.actsP st l) (c+50) wr):=by
   have e:l.take i=l.take 25:=by
    by_cases h1:i<l.length
    ·have:i=25:=by
      rcases mX i 25 with h2|h2
      ·exact absurd ⟨h1,h2⟩ c9
      ·omega
     rw[this]
    ·have:i=l.length:=by omega
     rw[this,aU,List.take_of_length_le (by omega)]
   have h2:=HS.out;rw[e]at h2;exact h2.mono (by omega)
  clear HS;refine z7 hP (a2 _) fun T d=> ?_
  have d7 :=z4 (HE.out.re T d);clear HE;generalize re wr T d=X0 at*;by_cases g5:i<l.length
  ·have g8:¬i<25:=fun h=>c9 ⟨g5,h⟩
   clear c9 b6;go_wp2;refine⟨rfl,.tuple #[],fun W=> ?_,rfl,d7.out⟩;simp[results,N4,go_sem]
  ·clear c9 b6
   go_wp2;refine⟨rfl,.tuple #[],fun W=> ?_,rfl,d7.out⟩;simp[results,N4,go_sem]
end
section
def FD (w:eX)(v:eB)(w' :eX):Prop:=∃(B:Nat) (st:R.St),v= .pointer (some ⟨B,0,none⟩)∧R.Lived st∧R.PathI st∧KS w (fun b=>b<w.heap.size) B st 70 w'
theorem FD.re {w:eX}{v:eB}{w' :eX}(h:FD w v w')(T:Nat→iC→Nat)(d:Nat):FD w v (mG w' T d):=by
 obtain⟨B,st,h1,h2,hp,h3⟩:=h;exact⟨B,st,h1,h2,hp,h3.re T d⟩
theorem uU {w:eX}{v:eB}{l:List R.Raw}(h:Rd w (fun _=>False) v l.length (yk l)):Qv w (fun b=>b<w.heap.size) v l:=by
 obtain⟨a,cap,rfl,h1,h2,h3⟩:=h;unfold maxLen at h2;refine⟨a,cap,rfl,h1,by omega,fun h0=> ?_⟩;obtain⟨b,off,h4,h5,_,h6⟩:=h3 h0;exact⟨b,off,h4,h5,h6⟩
theorem bA {w:eX}(hG:Zp w)(h6:6≤w.heap.size){v:eB}{l:List R.Raw}(hA:Rd w (fun _=>False) v l.length (yk l))(b4:∀a∈l,okR a):
  zF sU 16 #[v] w (FD w):=by
 have hP:=xx;have b6:=z4 (uU hA);have b8:=z4 b4;clear hA b4;obtain⟨c8,ea⟩:=R.add5 7 (by decide) (by decide);obtain⟨c9,ec⟩:=R.commit0 7 c8;obtain⟨d3,e1⟩:=R.fork5 7 (k:=1) (by decide) (by decide) c9;obtain⟨a6,e2⟩:=R.fork5 7 (k:=2) (by decide) (by decide) d3;have a4:=z4 (R.pack_liv ea ec e1 e2);have EA:=z4 ea;have EC:=z4 ec;have E1:=z4 e1;have E2:=z4 e2;clear ea ec e1 e2;refine zL hP Tryz.func16 rfl ?_;have a1:ReC (zZ sU Tryz.f16 (FD w)):=ReC.body fun v w' T d h=>h.re T d
 simp only[Tryz.ntmps16,tQ,nM,pC,tR,tS,tT,tU,tV,tX,nV,mJ];refine z7 hP a1 fun T d=> ?_
 have HB:=z4 ((ze.refl w).re T d);generalize re w T d=W at*;go_wp2;refine zn hP ?_;refine zP hP 0 a1.thenT rfl rfl rfl N0 (by decide) rfl fun T d=> ?_
 have HK:=z4 (HB.out.re T d);clear HB;generalize re W T d=W1 at*;go_wp2;refine⟨_,_,by simp[Act.eval],bB (hG.keptM HK.out) (j0f h6 HK.out.size),?_⟩;rintro v' V' ⟨rfl,hk⟩ T d;have HB:=z4 ((HK.out.trans hk).re T d);clear HK hk;generalize re V' T d=W2 at*;clear V';go_wp2;refine z7 hP a1 fun T d=> ?_
 have HK:=HB.out.re T d;have HS:=z4 (KS.new (w:=re W2 T d) (H:=fun b=>b<w.heap.size) (hG.keptM HK) (HK.h fun _ hb=>hb) (fun b hb=>by omega) (fun b hb=>j0b hb HK.size));clear HK HB;generalize re W2 T d=W3 at*;go_wp2_with fail
 refine(f9 W3).mono ?_;rintro e W4 ⟨rfl,rfl⟩;go_wp2;generalize W3.alloc (.cells #[.slice none 0 0,.slice none 0 0,.slice none 0 0] 102)=V0 at*;generalize W3.heap.size=B at*;refine z7 hP a1 fun T d=> ?_
 have a0 :=z4 (HS.out.re T d);clear HS;generalize re V0 T d=U0 at*;go_wp2;have HS:=z4 a0.out;clear a0;generalize hV:U0=V1 at*;clear hV;refine z7 hP a1 fun T d=> ?_
 have a0 :=z4 (HS.out.re T d);clear HS;generalize re V1 T d=U1 at*;go_wp2_with fail
 refine(a0.out.branch (by omega) [97] (by unfold maxLen;simp) dv).mono ?_;rintro e V2 ⟨rfl,hs⟩;have HS:=z4 hs;clear a0 hs;go_wp2;refine z7 hP a1 fun T d=> ?_
 have a0 :=z4 (HS.out.re T d);clear HS;generalize re V2 T d=U2 at*;go_wp2_with fail
 refine(a0.out.add [97] [110] 7 (by unfold maxLen;simp) (by omega) (by omega) (congrArg Prod.fst EA.out)).mono ?_;rintro e V3 ⟨rfl,hs⟩;rw[show(R.change (R.made aw0 [97] [] false).2 35 [97] [110] 7 []).2=_ from congrArg Prod.snd EA.out]at hs;have HS:=z4 hs;clear a0 hs;go_wp2;refine z7 hP a1 fun T d=> ?_
 have a0 :=z4 (HS.out.re T d);clear HS;generalize re V3 T d=U3 at*;go_wp2_with fail
 refine(a0.out.commit (by omega) [97] (congrArg Prod.fst EC.out)).mono ?_;rintro e V4 ⟨rfl,hs⟩;rw[show(R.commit _ [97]).2=_ from congrArg Prod.snd EC.out]at hs;have HS:=z4 hs;clear a0 hs;go_wp2;refine z7 hP a1 fun T d=> ?_
 have a0 :=z4 (HS.out.re T d);clear HS;generalize re V4 T d=U4 at*;go_wp2_with fail
 refine(a0.out.fork (by omega) [98] [97] (by unfold maxLen;simp) (congrArg Prod.fst E1.out)).mono ?_;rintro e V5 ⟨rfl,hs⟩;rw[show(R.made _ [98] [97] true).2=_ from congrArg Prod.snd E1.out]at hs;have HS:=z4 hs;clear a0 hs;go_wp2;refine z7 hP a1 fun T d=> ?_
 have a0 :=z4 (HS.out.re T d);clear HS;generalize re V5 T d=U5 at*;go_wp2_with fail
 refine(a0.out.fork (by omega) [99] [97] (by unfold maxLen;simp) (congrArg Prod.fst E2.out)).mono ?_;rintro e V6 ⟨rfl,hs⟩;rw[show(R.made _ [99] [97] true).2=_ from congrArg Prod.snd E2.out]at hs;have HS:=z4 hs;clear a0 hs;go_wp2;refine z7 hP a1 fun T d=> ?_
 have a0 :=z4 (HS.out.re T d);clear HS;generalize re V6 T d=U6 at*;clear EA EC E1 E2;go_wp2;have HS:=z4 a0.out;clear a0;generalize hV:U6=V7 at*;clear hV;refine zn hP ?_;refine zP hP 2 a1.thenT rfl rfl rfl N1 (by decide) rfl fun T d=> ?_
 have a0 :=z4 (HS.out.re T d);clear HS;generalize re V7 T d=U7 at*;simp only[aX,ME,MF,MG];go_wp2;refine⟨_,_,by simp[Act.eval],Ge a0.out (by omega) b6.out b8.out,?_⟩;rintro v' V' ⟨rfl,hs⟩ T d;have HS:=z4 (hs.re T d);clear a0 hs;generalize re V' T d=V8 at*;clear V';go_wp2;have b3:=(R.liv0 a6).acts l;have a9:=(R.grows_acts (R.forkS 7 3 a6) l).len;have a5:(R.actsP (R.forkS 7 3 a6) l).cms.length≤51:=a9;obtain⟨b5,b1⟩:=R.lived_of b3 HS.out.inv a5 (a4.out.1.acts a4.out.2 l);have c6:=z4 b5;have b7:=z4 b1;have b9:=z4 ((R.path0 a6).acts l).lived;clear b3 a9 a5 b5 b1;generalize R.actsP (R.forkS 7 3 a6) l=st at*;refine z7 hP a1 fun T d=> ?_
 have a0 :=z4 (HS.out.re T d);clear HS;generalize re V8 T d=U8 at*;go_wp2;go_loopw [11] (fun i wr=>∃k:Nat,k≤3∧i= .int .i64 k∧KS w (fun b=>b<w.heap.size) B (R.lvA st k) (60+k) wr) (fun i _=>3-(intOf i).toNat)
 case atStart=>exact⟨0,wB _,rfl,a0.out.mono (by omega)⟩
 case round=>
  obtain⟨k,hk,rfl,hs⟩:=hrel;have HS:=z4 hs;clear hs a0;by_cases b2:k<3
  ·obtain⟨a2,a3⟩:=c6.out k b2
   have a8:=z4 (fun W=>jV (k:Int) W (by omega) (by omega));rw[R.brN_small k b2]at a8;have d4:(([[97],[98],[99]]:List (List UInt8)).getD k []).length≤10:=kf _ 10 (by decide) k;generalize([[97],[98],[99]]:List (List UInt8)).getD k []=br at*;go_wp2_with fail
   refine(a8.out _).mono ?_;rintro e X1 ⟨rfl,hw⟩;have c7:Hid (KS w (fun b=>b<w.heap.size) B (R.lvA st k) (60+k) X1):=by subst hw;exact HS.out.alloc _
   clear HS hw a8;rcases hr:(R.commit (R.lvA st k) br).1 with⟨r1,r2⟩
   rw[hr]at a2;have HR:=z4 hr;clear hr;go_wp2_with fail
   refine(c7.out.commit (by omega) br HR.out).mono ?_;rintro e X2 ⟨rfl,hs⟩;rw[a3]at hs;have a7:=z4 hs;clear hs HR a3;rcases a2 with a2|a2
   ·have a2:r2=0:=a2
    subst a2;go_wp2;go_roundw
    case rel=>exact⟨k+1,by omega,by simp,a7.out⟩
    case measure=>simp[intOf];omega
   ·have a2:r2=9:=a2
    subst a2;go_wp2;go_roundw
    case rel=>exact⟨k+1,by omega,by simp,a7.out⟩
    case measure=>simp[intOf];omega
  ·have:k=3:=by omega
   subst this;go_wp2;refine z7 hP a1 fun T d=> ?_
   have a7:=z4 (HS.out.re T d);clear HS;generalize re wr T d=X3 at*;go_wp2;refine Xj hP ?_;refine⟨rfl,_,fun W=> ?_,⟨B,_,rfl,b7.out,b9.out,a7.out.mono (by decide)⟩⟩;simp[results,Tryz.results16,go_sem]
end
section
theorem KS.tree {w0 w:eX}{H:Nat→Prop}{B c:Nat}{st:R.St}(h:KS w0 H B st c w)(n:Int){r:List UInt8×Int}(hr:R.treeAt st n=r):
  wH sU 22 #[.pointer (some ⟨B,0,none⟩),.int .i64 n] w fun e w' =>e= .returned (.tuple #[.string ⟨r.1.toArray⟩,.int .i64 r.2])∧KS w0 H B st c w' ∧ze w w' :=by
 subst hr;obtain⟨O,h1,h2,h3,h4,h5,h6⟩:=id h;exact(BS B st n w O O h1 h3 h5).mono fun e w' ⟨e1,e2⟩=>⟨e1,h.keptM (ze.of_below e2),ze.of_below e2⟩
def FQ (l:List UInt8):eB:= .string ⟨l.toArray⟩
def trL (st:R.St):List eB:=st.cms.map fun c=>FQ (R.Written c.tree)
theorem Vn (st:R.St):(trL st).length=st.cms.length:=by simp[trL]
theorem FL {st:R.St}{k:Nat}(h:k<st.cms.length):∃s,R.treeAt st ((k:Int)+1)=(s,0)∧(trL st).take (k+1)=(trL st).take k++ [FQ s]:=by
 refine⟨R.Written (R.treeOf st (k+1)),?_,?_⟩
 ·have:=R.treeAt_in (st:=st) (k:=k+1) (by omega) (by omega)
  rw[←this];rfl
 ·rw[nN (by rw[Vn];exact h)]
  congr 2
  simp[trL,R.treeOf,j0d h]
theorem gG (st:R.St):R.treeAt st ((st.cms.length:Int)+1)=([],10):=by
 unfold R.treeAt;rw[if_pos (by omega)]
def Ct (w0:eX)(H:Nat→Prop)(B c:Nat)(st:R.St)(w:eX)(e:Ending)(w' :eX):Prop:=∃la lc,e= .returned (.slice la st.cms.length lc)∧w'.ownsRow w.heap.size 9 1 (.slice la st.cms.length lc) st.cms.length (trL st)∧KS w0 H B st c w' ∧ze w w'
theorem GX {w0 w:eX}{H:Nat→Prop}{B c:Nat}{st:R.St}(h:KS w0 H B st c w):wH sU 34 #[.pointer (some ⟨B,0,none⟩)] w (Ct w0 H B c st w):=by
 have b7:=h.inv.few;have b5:=z4 h;clear h;go_enter Tryz.func34,Tryz.ntmps34;go_wp2;go_loopw [3,4] (fun lv nv wr=>∃(k:Nat) (la:Option Addr) (lc:Nat),k≤st.cms.length∧nv= .int .i64 ((k:Int)+1)∧lv= .slice la k lc∧wr.ownsRow w.heap.size 9 1 (.slice la k lc) k ((trL st).take k)∧ze w wr) (fun _ nv _=>70-(intOf nv).toNat)
 case atStart=>exact⟨0,none,0,wB _,rfl,rfl,World.ownsRow_nil _ _ _ _,ze.refl w⟩
 case round=>
  obtain⟨k,la,lc,hk,rfl,rfl,ho,a4⟩:=hrel;have HS:=z4 (b5.out.keptM a4);have HO:=z4 ho;have HK:=z4 a4;obtain⟨_,_,b9,c7,b6,_⟩:=zh ho;injection b9 with e1 e2 e3
  subst e1 e3;unfold maxLen at b6;clear ho a4;by_cases b8:k<st.cms.length
  ·obtain⟨s,a8,a9⟩:=FL b8
   have HT:=z4 a8;have HL:=z4 a9;clear a8 a9;go_wp2_with fail
   refine(HS.out.tree _ HT.out).mono ?_;rintro e X1 ⟨rfl,hs,a0⟩;have a3:=z4 hs;have a1:=z4 (yT HO.out a0);have a2:=z4 (HK.out.trans a0);have c8:=a2.out.size;clear hs a0 HS HO HK;go_wp2_with (at_builtin;go_loud (refine jf _ (by rfl) _ _ 45 (by rfl) w.heap.size 9 (.string ⟨#[]⟩) 1 16 Tryz.underlying45 F8 (by rfl) (by decide) (a1.out.alloc _) ⟨X1.heap.size,0,none⟩ 1 1 [.string ⟨s.toArray⟩] (by rfl) (by exact y6 X1 #[.string ⟨s.toArray⟩] 9) (by rfl) (by rfl) (by intro u hu;simp at hu;subst hu;rfl) (by unfold maxLen;omega) (by omega) (by simp;omega) ?_))
   intro v' X2 ho hc;have a5:Hid (∀b,(Value.slice la k lc).ownBlock=some b→w.heap.size≤b):=fun b hb=>(a1.out.lt b hb).1
   have a7:ze w X2:=by
    have a6:=a2.out.alloc (Obj.cells #[.string ⟨s.toArray⟩] 9);rcases hc with⟨h1,h2⟩|⟨h1,h2⟩
    ·exact a6.kept (O:=fun b=>(Value.slice la k lc).ownBlock=some b) ⟨h2.os,h2.tape,h2.output,h2.size,fun b hb hn=>h2.block b hb (fun e=>hn e.symm)⟩ (fun b hb=>a5.out b hb)
    ·exact a6.kept (O:=fun _=>False) ⟨h2.os,h2.tape,h2.output,h2.size,fun b hb _=>h2.block b hb (by simp)⟩ (fun b hb=>hb.elim)
   obtain⟨b1,b2,c6,_⟩:=zh ho;subst c6;have b4:Hid (X2.ownsRow w.heap.size 9 1 (.slice b1 (k+1) b2) (k+1) ((trL st).take (k+1))):=by
    show World.ownsRow _ _ _ _ _ _ _;rw[HL.out];exact ho
   have b3:=z4 a7;clear ho hc a7 a1 a2 a3 a5;go_wp2;go_roundw
   case rel=>exact⟨k+1,b1,b2,by omega,by simp,rfl,b4.out,b3.out⟩
   case measure=>simp[intOf];omega
  ·have:k=st.cms.length:=by omega
   subst this;have HT:=z4 (gG st);go_wp2_with fail
   refine(HS.out.tree _ HT.out).mono ?_;rintro e X1 ⟨rfl,hs,a0⟩;have a3:=z4 hs;have a1:=z4 (yT HO.out a0);have a2:=z4 (HK.out.trans a0);clear hs a0 HS HO HK;rw[←Vn st,aU,Vn st]at a1;go_wp2;go_ret;exact⟨la,lc,rfl,a1.out,a3.out,a2.out⟩
end
section
structure D6 (st:R.St)(name:List UInt8)(L:List Nat)(tt:List UInt8)(h0:Nat):Prop where
 hist:xj st name=(L,0)
 pos:0<L.length
 le:L.length≤60
 last:∀h:L.length-1<L.length,L[L.length-1]=1
 fall:∀i,1≤i→∀h:i<L.length,L[i]<L[i-1]
 first:∀h:0<L.length,L[0]=h0
 one:1≤h0
 t0:R.treeAt st (h0:Int)=(tt,0)
 b0:R.baseAt st (h0:Int) (h0:Int)=(tt,0)
 n0:h0≤st.cms.length
 sh:R.shown st name=(tt,0)
 each:∀k,∀h:k<L.length,∃s,R.baseAt st (L[k]:Int) (h0:Int)=(s,0)∧R.treeAt st (L[k]:Int)=(s,0)
theorem kT {st:R.St}(hl:R.Lived st)(hi:Inv st){name:List UInt8}(hn:name=[97]∨name=[98]∨name=[99]):∃L tt h0,D6 st name L tt h0:=by
 obtain⟨f1,f2⟩:=hl.liv.fnd hn;have h1:=hl.liv.headOf f1;have h2:=Zr hi name;have H:=hl.liv.hist hi.wf h1 h2;have a2:=xL st.cms (R.headOf st name);have a0:0<(zt st.cms (R.headOf st name)).length:=(rD.1 H.first).1;have e0:(zt st.cms (R.headOf st name))[0]=R.headOf st name:=(rD.1 H.first).2;have a3:=R.mark_self_of hi.wf h1;have a1:=hl.com name hn;have a4:=hi.few;refine⟨zt st.cms (R.headOf st name),R.Written (R.treeOf st (R.headOf st name)),R.headOf st name,⟨?_,a0,by omega,fun h=> ?_,fun i a5 h=>R.fall_get H.fall h (by omega),fun h=>e0,h1,R.treeAt_in h1 h2,R.baseAt_in hi h1 h2 a3,h2,?_,fun k hk=> ?_⟩⟩
 ·unfold xj
  rw[if_neg f2];exact congrArg (fun x=>(x,(0:Int))) (ux hi.wf _)
 ·exact(rD.1 H.last).2
 ·unfold R.shown
  rw[if_neg f2,a1]
 ·obtain⟨m1,m2,m3⟩:=H.mem _ (j0c hk)
  refine⟨R.Written (R.treeOf st ((zt st.cms (R.headOf st name))[k])),?_,R.treeAt_in m2 (by omega)⟩;exact R.baseAt_in hi m2 h2 m1
theorem KS.history {w0 w:eX}{H:Nat→Prop}{B c:Nat}{st:R.St}(h:KS w0 H B st c w)(name:List UInt8){L:List Nat}(hL:xj st name=(L,0)):
  zF sU 38 #[.pointer (some ⟨B,0,none⟩),.string ⟨name.toArray⟩] w fun v w' =>∃hv,v= .tuple #[hv,.int .i64 0]∧w'.ownsRow 0 3 1 hv L.length (Ym L)∧ze w w' :=by
 obtain⟨O,h1,h2,h3,h4,h5,h6⟩:=id h;refine(fx B st name w O O h1 h3).mono fun v w' ⟨hv,e1,e2,e3,e4⟩=> ?_
 rw[hL]at e1 e2;exact⟨hv,e1,e2,e4⟩
theorem KS.showK {w0 w:eX}{H:Nat→Prop}{B c:Nat}{st:R.St}(h:KS w0 H B st c w)(name:List UInt8){r:List UInt8×Int}(hr:R.shown st name=r):
  wH sU 20 #[.pointer (some ⟨B,0,none⟩),.string ⟨name.toArray⟩] w fun e w' =>e= .returned (.tuple #[.string ⟨r.1.toArray⟩,.int .i64 r.2])∧ze w w' :=by
 subst hr;obtain⟨O,h1,h2,h3,h4,h5,h6⟩:=id h;exact(C2 B st name w O O h1 h3 h5).mono fun e w' ⟨e1,e2⟩=>⟨e1,ze.of_below e2⟩
structure Di (w:eX)(B:Nat)(st:R.St)(L:List Nat)(g:Nat)(X:eX):Prop where
 ks:KS w (fun b=>b<w.heap.size) B st 70 X
 lt:g<X.heap.size
 cell:∀j (h:j<L.length),X.cell? ⟨g,j,none⟩=some (.int .i64 (L[j]:Int))
end
theorem fg {w:eX}{pv:eB}{pk:List UInt8}(h:w.ownsRow 0 5 1 pv pk.length (tG pk)):(convert 100 9 pv).run sU w= .ok (.string ⟨pk.toArray⟩) w:=by
 obtain⟨a,cap,rfl,h1,h2,h3,h4⟩:=zh h
 cases a with
 |none=>
  have e:pk=[]:=List.length_eq_zero_iff.1 (h3 rfl).1;subst e;exact run_convert_bytes_nil w 100 5 H5 N5 _ _ 9 H6
 |some ad=>
  obtain⟨g,rfl,_,_,_,h5⟩:=h4 ad rfl;refine run_convert_bytes_back _ 100 9 5 ⟨g,0,none⟩ cap pk H5 N5 H6 ?_;intro j hj;rw[yF,lQ];refine h5 j _ ?_;simp[tG,j0d hj]
theorem KS.pack {w0 w:eX}{H:Nat→Prop}{B c:Nat}{st:R.St}(h:KS w0 H B st c w):
  wH sU 21 #[.pointer (some ⟨B,0,none⟩)] w fun e w' =>e= .returned (.string ⟨st.packed.toArray⟩)∧w' =w:=by
 obtain⟨O,⟨bv,cv,LB,LCm,hx⟩,_⟩:=h;obtain⟨pv,hp⟩:=hx.pk;have c2:=hp.c2;have a1:=fg hp.row;obtain⟨pa,pn,pc,a0⟩:∃a n k,pv= .slice a n k:=by obtain⟨a,k,e,_⟩:=zh hp.row;exact⟨a,_,k,e⟩
 subst a0;clear hp hx;generalize st.packed=pk at*;go_enter Tryz.func21,Tryz.ntmps21;go_wp2;go_ret;exact⟨Yj rfl,rfl⟩
theorem CE:(R.made aw0 [97] [] false).2.packed=[66,0,2,0,97,166]:=by decide+kernel
theorem F0 {w:eX}(hG:Zp w)(h6:6≤w.heap.size):
  wH sU 15 #[] w fun e w' =>e= .returned (.bool true)∧ze w w' :=by
 have HS:=z4 (KS.new (w0:=w) (w:=w) (H:=fun b=>b<w.heap.size) hG (ZV.refl _ _) (fun b hb=>by omega) (fun b hb=>hb));go_enter Tryz.func15,Tryz.ntmps15;go_wp2_with fail
 refine(f9 w).mono ?_;rintro e W4 ⟨rfl,rfl⟩;generalize hV:w.alloc (.cells #[.slice none 0 0,.slice none 0 0,.slice none 0 0] 102)=V0 at*;generalize hB:w.heap.size=B at*;go_wp2_with fail
 refine(HS.out.branch (by omega) [97] (by unfold maxLen;simp) dv).mono ?_;rintro e V1 ⟨rfl,hs⟩;have a1:=z4 hs;have a0:=z4 hs.pack;rw[CE]at a0;clear hs HS hV;go_wp2_with fail
 refine a0.out.mono ?_;rintro e V2 ⟨rfl,rfl⟩;go_wp2;go_ret;exact⟨rfl,a1.out.held.m fun b hb=>by omega⟩
section
variable {w0 w:eX}{H:Nat→Prop}{B c:Nat}{st:R.St}
end
section
def GK:List Int:=[5,1,9,1,5,5,2,2,3,3,3,10,10,8]
structure Dh (K:eX→Prop)(ge gw:Nat)(X:eX):Prop where
 ks:K X
 e:∀i,i<14→X.cell? ⟨ge,i,none⟩=some (.int .i64 (GK.getD i 0))
 w:∀i,i<14→X.cell? ⟨gw,i,none⟩=some (.int .i64 (GK.getD i 0))
 le:ge<X.heap.size
 lw:gw<X.heap.size
theorem oW {w w' :eX}{v:eB}{n:Nat}{xs:List eB}(h:Rd w (fun _=>False) v n xs)(k:ze w w'):Rd w' (fun _=>False) v n xs:=by
 obtain⟨a,cap,rfl,h1,h2,h3⟩:=h;refine⟨a,cap,rfl,h1,h2,fun h0=> ?_⟩;obtain⟨b,off,h4,h5,h6,h7⟩:=h3 h0;exact⟨b,off,h4,j0b h5 k.size,h6,fun j u hu=>by rw[sD (a:=⟨b,off+j,none⟩) (k.block b h5)];exact h7 j u hu⟩
end
section
structure Dg (Q:eX→Prop)(g:Nat)(L:List eB)(X:eX):Prop where
 ks:Q X
 lt:g<X.heap.size
 cell:∀j (h:j<L.length),X.cell? ⟨g,j,none⟩=some L[j]
theorem oY {a b:List UInt8}(h:b.take a.length=a):(ByteArray.mk b.toArray).extract 0 a.length=⟨a.toArray⟩:=by
 have h3:b=a++b.drop a.length:=by
  conv=>lhs;rw[←List.take_append_drop a.length b,h]
 generalize b.drop a.length=r at h3;subst h3;apply ByteArray.ext;simp[ByteArray.data_extract]
theorem CH (st:R.St)(j:Nat)(h:j<(trL st).length):(trL st)[j]=FQ (R.Written (st.cms[j]'(by rw[Vn]at h;exact h)).tree):=by simp[trL]
end
