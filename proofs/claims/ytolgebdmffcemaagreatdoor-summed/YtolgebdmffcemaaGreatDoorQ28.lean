import Derived.Test.YtolgebdmffcemaaGreatDoorQ27
import Derived.Test.YtolgebdmffcemaaGreatDoorQ19
import Derived.Test.YtolgebdmffcemaaGreatDoorQ13
set_option linter.all false
set_option maxHeartbeats 20000000
set_option maxRecDepth 1000000
namespace Go.Proofs.YtolgebdmffcemaaGreatDoor
open Go.RowKit Go Go.Conc
theorem KM (B:Nat)(st:R.St)(a0 path:List UInt8)(kind n:Int)(text:List UInt8)(w:World)(M O:Nat→Prop)(F:Nat)(C:List Value)(r:Int×R.Leaf)(h:PS w M O B st)(hM:∀b,M b→b<w.heap.size)(hi:Inv st)(hG:ZO w)(d8:path.length≤maxLen)
  (d5:F=56∨F=73∨F=60∨F=62∨F=75)
  (hr:r=R.valV kind (R.workOf st a0) (R.at_ (R.workOf st a0) path) path n text)
  (hF:R.isPath path=true→∀ta tc W,Below w.heap.size w W→PT W M (.slice ta (R.workOf st a0).length tc) (R.workOf st a0)→Calls Tryz.prog F (.slice ta (R.workOf st a0).length tc::C).toArray W fun e w' =>K_ W w' M e (R.workOf st a0) r):
  Calls Tryz.prog 55 #[.pointer (some ⟨B,0,none⟩),.string ⟨a0.toArray⟩,.string ⟨path.toArray⟩,.func (.func F) #[] C.toArray] w fun e w' =>e= .returned (.int .i64 (R.change st kind a0 path n text).1)∧zU w w' M O B (R.change st kind a0 path n text).2:=by
 have a9:=h;obtain⟨bv,cv,LB,LCm,hP⟩:=h;have a4:=QG hP hi a0;obtain⟨mx,d7⟩:=hG.mx;have b3:=fun W (hW:Below w.heap.size w W)=>GZ path W d8 mx (by rw[hW.cell (p:=⟨0,0,none⟩) (by have:=hG.size;show 0<_;omega)];exact d7)
 have a7:=z8 a9;by_cases hf:R.fnd st.brs a0<st.brs.length
 ·obtain⟨hl,ha,he,_,c6⟩:=Zv hP a0 hf
  have a1:¬R.fndI st.brs a0<0:=by rw[R.fndI,if_pos hf];omega
  cases a2:R.isPath path
  ·have HR:Hid (R.change st kind a0 path n text=(2,st)):=by show _=_;rw[R.change,if_neg a1,if_pos a2]
   rw[a2]at b3;rw[ha]at a4;generalize(LB[R.fnd st.brs a0]'hl).2.1=bb at*;clear a9 hi hP hf a1 a2 he ha c6;go_enter Tryz.func55,Tryz.ntmps55;go_wp2_with fail
   refine a4.mono ?_;rintro e w1 ⟨rfl,a6⟩;subst a6;go_wp2_with fail
   refine(b3 _ (j0g _ _)).mono ?_;rintro e w2 ⟨rfl,a3⟩;go_wp2;go_ret;exact⟨xA (by rw[HR.out]),by rw[HR.out];exact zU.same a7.out a3⟩
  ·have b0:=hP.at_ _ (j0c hl)
   have b7:=hP.blk _ (j0c hl);have b6:=hP.lt _ b7.1;rw[a2]at b3;rw[ha]at a4;have b4:Hid (∀(tv:Value) (t:List R.Leaf) (w5:World),Below w.heap.size w w5→PT w5 M tv t→zU w (w5.setCell ⟨(LB[R.fnd st.brs a0]'hl).2.1,2,none⟩ tv) M O B (R.setWork st (R.fnd st.brs a0) t)):=fun tv t w5 hb ht=>o5 hP hl hb ht
   have b8:=ZI hi a0;have a5:=b0.work;rw[←c6]at a5;have c2:=b0.c2;have d4:=b0.fr 2;obtain⟨ta,tc,c8⟩:=kR a5;rw[c8]at c2 a5;have c7:Hid (R.change st kind a0 path n text=if r.1=0 then(0,R.setWork st (R.fnd st.brs a0) (R.set (R.workOf st a0) r.2))else(r.1,st)):=by
    show _=_;rw[R.change,if_neg a1,if_neg (by rw[a2];simp),hr]
   have b5:=fun W (hW:Below w.heap.size w W)=>hF a2 ta tc W hW (a5.below hW)
   generalize(LB[R.fnd st.brs a0]'hl).2.1=bb at*;clear a9 hi hP hf a1 a2 he ha c6 a5 b0 b8 c8 hF hr;generalize R.workOf st a0=t at*;rcases d5 with rfl|rfl|rfl|rfl|rfl
   all_goals
    have d9:=a7.out;go_enter Tryz.func55,Tryz.ntmps55;go_wp2_with fail
    refine a4.mono ?_;rintro e w1 ⟨rfl,a6⟩;subst a6;go_wp2_with fail
    refine(b3 _ (j0g _ _)).mono ?_;rintro e w2 ⟨rfl,a3⟩;have d2:=(a3.cell (p:=⟨bb,2,none⟩) b6).trans c2;go_wp2_with fail
    refine(b5 _ a3).mono ?_;rintro e w3 ⟨va,vn,vc,rfl,b9,d6⟩;have a8:=a3.trans (d6.mono a3.size);by_cases hr:r.1=0
    ·have b1:(r.1==0)=true:=by simpa using hr
     have b2:(r.1 !=0)=false:=by simp[hr]
     have d3:=(a8.cell (p:=⟨bb,2,none⟩) b6).trans c2;have f3:=(a8.frozen (p:=⟨bb,2,none⟩) b6).trans d4;have c9:=z8 (b9 hr);have HR:=z8 hr;clear hr b9 d2;go_wp2;go_ret;rw[c7.out,if_pos HR.out];exact⟨rfl,b4.out _ _ _ a8 c9.out⟩
    ·have b1:(r.1==0)=false:=by simpa using hr
     have b2:(r.1 !=0)=true:=by simp[hr]
     have HR:=z8 hr;clear hr b9 d2;go_wp2;go_ret;rw[c7.out,if_neg HR.out];exact⟨rfl,zU.same a7.out a8⟩
 ·have a1:R.fndI st.brs a0<0:=by rw[R.fndI,if_neg hf];omega
  have HR:Hid (R.change st kind a0 path n text=(5,st)):=by show _=_;rw[R.change,if_pos a1]
  have ha:Zh LB st a0=none:=by rw[Zh,if_neg hf]
  rw[ha]at a4;clear a9 hi hP hf a1 ha;go_enter Tryz.func55,Tryz.ntmps55;go_wp2_with fail
  refine a4.mono ?_;rintro e w1 ⟨rfl,a6⟩;subst a6;go_wp2;go_ret;exact⟨xA (by rw[HR.out]),by rw[HR.out];exact zU.same a7.out (j0g _ _)⟩
theorem cA (tv:Value)(t:List R.Leaf)(path:List UInt8)(n:Int)(w:World)(M:Nat→Prop)(p0 p1:Nat)(hM:∀b,M b→b<w.heap.size)(h:PT w M tv t)(a0:OkT t)(hs:R.isPath path=true)(a2:n≤9223372036854775807)(a3: -9223372036854775808≤n)
  (a4:w.cell? ⟨p0,0,none⟩=some (.string ⟨path.toArray⟩))(a5:w.cell? ⟨p1,0,none⟩=some (.int .i64 n)):
  Calls Tryz.prog 56 #[tv,.pointer (some ⟨p0,0,none⟩),.pointer (some ⟨p1,0,none⟩)] w fun e w' =>K_ w w' M e t (R.addV t (R.at_ t path) path n):=by
 have a1:=C1 tv t path n w M hM h a0 hs a2 a3;clear h a0;go_enter Tryz.func56,Tryz.ntmps56;go_wp2_with fail
 refine a1.mono ?_;rintro e w1 ⟨va,vn,vc,rfl,hp,hb⟩;go_wp2;go_ret2;exact⟨va,vn,vc,rfl,hp,hb⟩
theorem Fh (tv:Value)(t:List R.Leaf)(path:List UInt8)(text:List UInt8)(w:World)(M:Nat→Prop)(p0 p1:Nat)(hM:∀b,M b→b<w.heap.size)(h:PT w M tv t)(a0:OkT t)(hs:R.isPath path=true)(a2:text.length≤maxLen)
  (a3:w.cell? ⟨p0,0,none⟩=some (.string ⟨path.toArray⟩))(a4:w.cell? ⟨p1,0,none⟩=some (.string ⟨text.toArray⟩)):
  Calls Tryz.prog 73 #[tv,.pointer (some ⟨p0,0,none⟩),.pointer (some ⟨p1,0,none⟩)] w fun e w' =>K_ w w' M e t (R.noteV t (R.at_ t path) path text):=by
 have a1:=cu tv t path text w M hM h a0 hs a2;clear h a0;go_enter Tryz.func73,Tryz.ntmps73;go_wp2_with fail
 refine a1.mono ?_;rintro e w1 ⟨va,vn,vc,rfl,hp,hb⟩;go_wp2;go_ret2;exact⟨va,vn,vc,rfl,hp,hb⟩
theorem cx (tv:Value)(t:List R.Leaf)(path:List UInt8)(text:List UInt8)(w:World)(M:Nat→Prop)(p0 p1:Nat)(hM:∀b,M b→b<w.heap.size)(h:PT w M tv t)(a0:OkT t)(hs:R.isPath path=true)(a2:text.length≤maxLen)
  (a3:w.cell? ⟨p0,0,none⟩=some (.string ⟨path.toArray⟩))(a4:w.cell? ⟨p1,0,none⟩=some (.string ⟨text.toArray⟩)):
  Calls Tryz.prog 60 #[tv,.pointer (some ⟨p0,0,none⟩),.pointer (some ⟨p1,0,none⟩)] w fun e w' =>K_ w w' M e t (R.putV t (R.at_ t path) path text):=by
 have a1:=C0 tv t path text w M hM h a0 hs a2;clear h a0;go_enter Tryz.func60,Tryz.ntmps60;go_wp2_with fail
 refine a1.mono ?_;rintro e w1 ⟨va,vn,vc,rfl,hp,hb⟩;go_wp2;go_ret2;exact⟨va,vn,vc,rfl,hp,hb⟩
theorem C3 (B:Nat)(st:R.St)(a0 path:List UInt8)(n:Int)(w:World)(M O:Nat→Prop)(h:PS w M O B st)(hM:∀b,M b→b<w.heap.size)(hi:Inv st)(hG:ZO w)(a5:path.length≤maxLen)(a2:n≤9223372036854775807)(a3: -9223372036854775808≤n):
  Calls Tryz.prog 27 #[.pointer (some ⟨B,0,none⟩),.string ⟨a0.toArray⟩,.string ⟨path.toArray⟩,.int .i64 n] w fun e w' =>e= .returned (.int .i64 (R.change st 35 a0 path n []).1)∧zU w w' M O B (R.change st 35 a0 path n []).2:=by
 have hB:Below w.heap.size w ((w.alloc (Obj.cells #[.string ⟨path.toArray⟩] 9)).alloc (Obj.cells #[.int .i64 n] 3)):=((j0g _ _).alloc (j0a _) _).alloc (by simp) _;have a1:=KM B st a0 path 35 n [] ((w.alloc (Obj.cells #[.string ⟨path.toArray⟩] 9)).alloc (Obj.cells #[.int .i64 n] 3)) M O 56 [.pointer (some ⟨w.heap.size,0,none⟩),.pointer (some ⟨w.heap.size+1,0,none⟩)] _ (h.below hB) (fun b hb=>by have:=hM b hb;simp;omega) hi (hG.below hB) a5 (.inl rfl) rfl (fun a4 ta tc W hW hp=>cA _ _ path n W M w.heap.size (w.heap.size+1) (fun b hb=>by have:=hM b hb;have:=hW.size;simp at this;omega) hp (ZI hi a0) a4 a2 a3 (by rw[hW.cell (p:=⟨w.heap.size,0,none⟩) (by simp<;>omega)];simp) (by rw[hW.cell (p:=⟨w.heap.size+1,0,none⟩) (by simp)];simp));clear h;go_enter Tryz.func27,Tryz.ntmps27;go_wp2_with fail
 refine a1.mono ?_;rintro e w1 ⟨rfl,a6⟩;go_wp2;go_ret;exact⟨rfl,a6.after hB⟩
theorem cy (B:Nat)(st:R.St)(a0 path:List UInt8)(text:List UInt8)(w:World)(M O:Nat→Prop)(h:PS w M O B st)(hM:∀b,M b→b<w.heap.size)(hi:Inv st)(hG:ZO w)(a3:path.length≤maxLen)(a5:text.length≤maxLen):
  Calls Tryz.prog 41 #[.pointer (some ⟨B,0,none⟩),.string ⟨a0.toArray⟩,.string ⟨path.toArray⟩,.string ⟨text.toArray⟩] w fun e w' =>e= .returned (.int .i64 (R.change st 61 a0 path 0 text).1)∧zU w w' M O B (R.change st 61 a0 path 0 text).2:=by
 have hB:Below w.heap.size w ((w.alloc (Obj.cells #[.string ⟨path.toArray⟩] 9)).alloc (Obj.cells #[.string ⟨text.toArray⟩] 9)):=((j0g _ _).alloc (j0a _) _).alloc (by simp) _;have a1:=KM B st a0 path 61 0 text ((w.alloc (Obj.cells #[.string ⟨path.toArray⟩] 9)).alloc (Obj.cells #[.string ⟨text.toArray⟩] 9)) M O 73 [.pointer (some ⟨w.heap.size,0,none⟩),.pointer (some ⟨w.heap.size+1,0,none⟩)] _ (h.below hB) (fun b hb=>by have:=hM b hb;simp;omega) hi (hG.below hB) a3 (.inr (.inl rfl)) rfl (fun a2 ta tc W hW hp=>Fh _ _ path text W M w.heap.size (w.heap.size+1) (fun b hb=>by have:=hM b hb;have:=hW.size;simp at this;omega) hp (ZI hi a0) a2 a5 (by rw[hW.cell (p:=⟨w.heap.size,0,none⟩) (by simp<;>omega)];simp) (by rw[hW.cell (p:=⟨w.heap.size+1,0,none⟩) (by simp)];simp));clear h;go_enter Tryz.func41,Tryz.ntmps41;go_wp2_with fail
 refine a1.mono ?_;rintro e w1 ⟨rfl,a4⟩;go_wp2;go_ret;exact⟨rfl,a4.after hB⟩
theorem C2 (B:Nat)(st:R.St)(a0 path:List UInt8)(text:List UInt8)(w:World)(M O:Nat→Prop)(h:PS w M O B st)(hM:∀b,M b→b<w.heap.size)(hi:Inv st)(hG:ZO w)(a3:path.length≤maxLen)(a5:text.length≤maxLen):
  Calls Tryz.prog 31 #[.pointer (some ⟨B,0,none⟩),.string ⟨a0.toArray⟩,.string ⟨path.toArray⟩,.string ⟨text.toArray⟩] w fun e w' =>e= .returned (.int .i64 (R.change st 42 a0 path 0 text).1)∧zU w w' M O B (R.change st 42 a0 path 0 text).2:=by
 have hB:Below w.heap.size w ((w.alloc (Obj.cells #[.string ⟨path.toArray⟩] 9)).alloc (Obj.cells #[.string ⟨text.toArray⟩] 9)):=((j0g _ _).alloc (j0a _) _).alloc (by simp) _;have a1:=KM B st a0 path 42 0 text ((w.alloc (Obj.cells #[.string ⟨path.toArray⟩] 9)).alloc (Obj.cells #[.string ⟨text.toArray⟩] 9)) M O 60 [.pointer (some ⟨w.heap.size,0,none⟩),.pointer (some ⟨w.heap.size+1,0,none⟩)] _ (h.below hB) (fun b hb=>by have:=hM b hb;simp;omega) hi (hG.below hB) a3 (.inr (.inr (.inl rfl))) rfl (fun a2 ta tc W hW hp=>cx _ _ path text W M w.heap.size (w.heap.size+1) (fun b hb=>by have:=hM b hb;have:=hW.size;simp at this;omega) hp (ZI hi a0) a2 a5 (by rw[hW.cell (p:=⟨w.heap.size,0,none⟩) (by simp<;>omega)];simp) (by rw[hW.cell (p:=⟨w.heap.size+1,0,none⟩) (by simp)];simp));clear h;go_enter Tryz.func31,Tryz.ntmps31;go_wp2_with fail
 refine a1.mono ?_;rintro e w1 ⟨rfl,a4⟩;go_wp2;go_ret;exact⟨rfl,a4.after hB⟩
theorem f6 (B:Nat)(st:R.St)(name:List UInt8)(w:World)(M O:Nat→Prop)(h:PS w M O B st)(hi:Inv st)(hM:∀b,M b→b<w.heap.size)(e8:st.packed.length≤100000000000)(hG:ZO w)(h6:∀b,O b→6≤b):
  Calls Tryz.prog 28 #[.pointer (some ⟨B,0,none⟩),.string ⟨name.toArray⟩] w fun e w' =>e= .returned (.tuple #[.int .i64 (R.commit st name).1.1,.int .i64 (R.commit st name).1.2])∧zU w w' M O B (R.commit st name).2:=by
 have a7:=h;obtain⟨bv,cv,LB,LCm,hP⟩:=h;have a3:=QG hP hi name;by_cases hf:R.fnd st.brs name<st.brs.length
 ·obtain⟨hl,ha,he,b4,b8⟩:=Zv hP name hf
  have a5:¬R.fndI st.brs name<0:=by rw[R.fndI,if_pos hf];omega
  have a8:=hP.at_ _ (j0c hl);have c9:=hP.lt _ (hP.blk _ (j0c hl)).1;have b2:=Uj hP hi _ (j0c hl);rw[←b4,←b8]at b2;have c1:=a8.c1;have c2:=a8.c2;have a6:=a8.work;rw[←b8]at a6;rw[←b4]at c1;obtain⟨ta,tn,tc,d5⟩:∃a n k,(LB[R.fnd st.brs name]'hl).2.2= .slice a n k:=by obtain⟨L,_,⟨a,k,e,_⟩,_⟩:=a6;exact⟨a,_,k,e⟩
  rw[d5]at c2 a6;have b5:=Vf hi name;have a0:=ZI hi name;have a4:=a0.inj (qH hi (R.headOf st name));rw[ha]at a3;have a1:Hid (∀W pa pc,Below w.heap.size w W→Rd W (fun b=>b<w.heap.size) (.slice pa (R.parsOf (R.headOf st name)).length pc) (R.parsOf (R.headOf st name)).length (kG (R.parsOf (R.headOf st name)))→Calls Tryz.prog 58 #[.pointer (some ⟨B,0,none⟩),.pointer (some ⟨(LB[R.fnd st.brs name]'hl).2.1,0,none⟩),.agg #[.slice pa (R.parsOf (R.headOf st name)).length pc,.slice ta tn tc]] W fun e w' =>e= .returned (.tuple #[.int .i64 (zZ st name {tree:=R.workOf st name,parents:=R.parsOf (R.headOf st name)}).1.1,.int .i64 (zZ st name {tree:=R.workOf st name,parents:=R.parsOf (R.headOf st name)}).1.2])∧zU w w' M O B (zZ st name {tree:=R.workOf st name,parents:=R.parsOf (R.headOf st name)}).2):=fun W pa pc hW a9=>by
   have:=jU (hP.kept (Z:=fun _=>False) (zh.of_below hW) (fun _ e=>e.elim) (fun b e=> .inl e) hP.sub) hi name hf hl {tree:=R.workOf st name,parents:=R.parsOf (R.headOf st name)} pa pc ta tn tc (a6.below hW) (a9.step (zh.refl (fun _=>False) W) (fun _ e=>e.elim) (fun b e=> .inl (hM b e))) (fun b e=>j0b (hM b e) hW.size) a0 b5.1 b5.2 e8 (hG.below hW) h6;refine this.mono ?_;rintro e w' ⟨he,b0⟩;exact⟨he,zU.after hW b0⟩
  have e1:Hid (∀W,Calls Tryz.prog 59 #[.int .i64 (R.headOf st name:Int)] W fun e w' =>∃pa pc,e= .returned (.slice pa (R.parsOf (R.headOf st name)).length pc)∧Rd w' (fun b=>b<W.heap.size) (.slice pa (R.parsOf (R.headOf st name)).length pc) (R.parsOf (R.headOf st name)).length (kG (R.parsOf (R.headOf st name)))∧Below W.heap.size W w'):=fun W=>Ub _ W
  have d7:Hid (R.workOf st name=R.treeOf st (R.headOf st name)→R.commit st name=((0,9),st)):=fun e=>by
   rw[R.commit,if_neg a5,if_pos (by rw[←e])]
  have c7:Hid (¬R.workOf st name=R.treeOf st (R.headOf st name)→R.commit st name=zZ st name {tree:=R.workOf st name,parents:=R.parsOf (R.headOf st name)}):=fun e=>by
   rw[R.commit,if_neg a5,if_neg (fun h=>e (a4.1 h)),zZ]
  have b1:=z6 a7;have d6:=z6 b2;have d9:=z6 a3;obtain⟨ad,c8⟩:∃ad,ad=zZ st name {tree:=R.workOf st name,parents:=R.parsOf (R.headOf st name)}:=⟨_,rfl⟩
  rw[←c8]at a1 c7;generalize(LB[R.fnd st.brs name]'hl).2.1=bb at*;clear hP a7 hi hG b2 a8 a6 b5 a0 a4 a3 b8 b4 he ha d5 c8 hM;generalize R.parsOf (R.headOf st name)=ps at*;generalize R.headOf st name=hd at*;generalize R.workOf st name=wk at*;go_enter Tryz.func28,Tryz.ntmps28;go_wp2_with fail
  refine d9.out.mono ?_;rintro e w1 ⟨rfl,b7⟩;subst b7;go_wp2_with fail
  refine d6.out.mono ?_;rintro e w2 ⟨b,hb,rfl,a2⟩;have b9:=z6 a2;have c6:=z6 hb;have d1:=(a2.cell (p:=⟨bb,1,none⟩) c9).trans c1;have d2:=(a2.cell (p:=⟨bb,2,none⟩) c9).trans c2;have d4:=a2.size;clear hb a2
  cases b
  ·go_wp2
   go_ret2;rw[d7.out (c6.out.1 (by first|trivial|rfl))];exact⟨rfl,zU.same b1.out b9.out⟩
  ·have d8:Hid (R.commit st name=ad):=c7.out (fun e=>by have:=c6.out.2 e;first|exact this|cases this)
   have e6:Below w1.heap.size w1 w2.drew:=b9.out.drew;have e7:bb<w2.drew.heap.size:=by show bb<w2.heap.size;omega
   go_wp2;go_region_with (first
    |(go_at_call 59;refine(e1.out _).mono ?_;rintro e w9 ⟨pa,pc,rfl,a9,b3⟩;have e3:Below w1.heap.size w1 w9:=e6.trans (b3.mono d4);have d3:∀o,w9.cell? ⟨bb,o,none⟩=w2.drew.cell? ⟨bb,o,none⟩:=fun o=>b3.cell (p:=⟨bb,o,none⟩) e7;have b6:Rd w9 (fun b=>b<w1.heap.size) (.slice pa ps.length pc) ps.length (kG ps):=Rd.step a9 (zh.refl (fun _=>False) w9) (fun _ e=>e.elim) (fun b e=> .inl (j0b e d4));have f2:w9.cell? ⟨bb,2,none⟩=some (.slice ta tn tc):=(d3 2).trans d2;clear a9 b3 d3)
    |(go_at_call 58;with_reducible refine(a1.out _ _ _ e3 b6).mono ?_;rintro e e9 ⟨rfl,b0⟩))
   all_goals
    have e2:=z6 b0;clear b0;go_wp2;go_ret2;rw[d8.out];exact⟨rfl,e2.out⟩
 ·have a5:R.fndI st.brs name<0:=by rw[R.fndI,if_neg hf];omega
  have HR:Hid (R.commit st name=((0,5),st)):=by show _=_;rw[R.commit,if_pos a5]
  have ha:Zh LB st name=none:=by rw[Zh,if_neg hf]
  rw[ha]at a3;have b1:=z6 a7;clear hP a7 hi hf a5 ha hG;go_enter Tryz.func28,Tryz.ntmps28;go_wp2_with fail
  refine a3.mono ?_;rintro e w1 ⟨rfl,b7⟩;subst b7;go_wp2;go_ret2;rw[HR.out];exact⟨rfl,zU.same b1.out (j0g _ _)⟩
structure SP where
 bx:Nat
 by_:Nat
 ox:Nat→Prop
 oy:Nat→Prop
 sx:R.St
 sy:R.St
def MM (O:Nat→Prop)(L:List SP)(b:Nat):Prop:=O b∨∃(j:Nat) (h:j<L.length),L[j].ox b∨L[j].oy b
structure LW (w:World)(h0 Wb:Nat)(O:Nat→Prop)(L:List SP)(names:List (Value×List UInt8))(nums:List (Value×Int))(last:Nat):Prop where
 lw:∃av nv tv uv kv,LWx w (MM O L) O Wb av (L.map fun p=>(p.bx,p.by_)) nv tv uv kv names nums last
 px:∀(j:Nat) (h:j<L.length),PS w (MM O L) L[j].ox L[j].bx L[j].sx∧Inv L[j].sx
 py:∀(j:Nat) (h:j<L.length),RS w (MM O L) L[j].oy L[j].by_ L[j].sy∧Inv L[j].sy
 d0:∀(j:Nat) (h:j<L.length) (b:Nat),O b→¬L[j].ox b∧¬L[j].oy b
 d1:∀(j:Nat) (h:j<L.length) (b:Nat),L[j].ox b→¬L[j].oy b
 d2:∀(i j:Nat) (hi:i<L.length) (hj:j<L.length),i≠j→∀b,(L[i].ox b∨L[i].oy b)→¬(L[j].ox b∨L[j].oy b)
 lo:∀b,MM O L b→h0≤b
 lt:∀b,MM O L b→b<w.heap.size
 g:ZO w
 h6:6≤h0
 hs:h0≤w.heap.size
 nb:nums.length≤9*last
theorem PS.smaller {w:World}{M M' O:Nat→Prop}{B:Nat}{st:R.St}(h:PS w M O B st)(hM:∀b,M' b→M b)(hO:∀b,O b→M' b):PS w M' O B st:=h.kept (zh.refl (fun _=>False) w) (fun _ e=>e.elim) (fun b e=> .inl (hM b e)) hO
def Kp:R.St:={cms:=[],brs:=[],packed:=[]}
theorem Inv.no:Inv Kp:=⟨by simp[Kp],by simp[Kp],by simp[Kp,zY],by simp[Kp],by simp[Kp],by simp[Kp],by simp[Kp],by simp[Kp],by simp[Kp]⟩
theorem C9 {w:World}{M:Nat→Prop}{B:Nat}(hb:w.heap[B]? =some (.cells #[.slice none 0 0,.slice none 0 0,.slice none 0 0] 102 (0,0)))(hM:M B):PS w M (fun b=>b=B) B Kp:=by
 have hl:B<w.heap.size:=(Array.getElem?_eq_some_iff.1 hb).1;refine⟨.slice none 0 0,.slice none 0 0,[],[],fun b e=>e▸hM,fun b e=>e▸hl,rfl,by simp[World.cell?,hb],by simp[World.cell?,hb],fun o=>by simp[World.frozen?,hb],rfl,World.ownsRow_nil _ _ _ _,fun g e=>by simp[Value.ownBlock]at e,by simp,by simp,by simp,rfl,World.ownsRow_nil _ _ _ _,fun g e=>by simp[Value.ownBlock]at e,by simp,by simp,.slice none 0 0,by simp[World.cell?,hb],World.ownsRow_nil _ _ _ _,fun g e=>by simp[Value.ownBlock]at e⟩
theorem KV:∀(L:List (R.Cm×Value×Value)) (i:Nat) (h:i<L.length),(YC L)[i*2]? =some (L[i]'h).2.1
 |p::r,0,_=>by simp[YC]
 |p::r,i+1,h=>by
  have ih:=KV r i (by simpa using h);unfold YC at ih⊢;rw[List.flatMap_cons,List.getElem?_append_right (by simp;omega)];rw[show(i+1)*2- [p.2.1,p.2.2].length=i*2 from by simp;omega];simpa using ih
theorem PSx.tc {w:World}{M O:Nat→Prop}{B:Nat}{st:R.St}{bv cv:Value}{LB:List BrP}{LCm:List (R.Cm×Value×Value)}(hP:PSx w M O B st bv cv LB LCm):∃g cap,0<st.cms.length→TC (fun b=>b<w.heap.size) B g cap st.cms.length (R.parents st) w:=by
 obtain⟨a,c,hv,h1,h2,h3,h4⟩:=zn hP.crow;have hl:LCm.length=st.cms.length:=by rw[←hP.cms,List.length_map]
 cases a with
 |none=>exact⟨0,0,fun h=>by have:=(h3 rfl).1;omega⟩
 |some ad=>
  obtain⟨g,rfl,_,hg,_,hc⟩:=h4 ad rfl;refine⟨g,c,fun _=>⟨hP.lt B hP.own,hg,by rw[←hl,←hv];exact hP.c1,fun m hm=> ?_⟩⟩;have a0:m<LCm.length:=by omega
  have a1:R.parents st (m+1)=(LCm[m]'a0).1.parents:=by
   have e:(LCm[m]'a0).1=st.cms[m]:=by simp[←hP.cms]
   rw[R.parents,Nat.add_sub_cancel,j0d hm,e];rfl
  have a2:=hP.cpar _ (j0c a0);rw[←a1]at a2;obtain⟨pa,pc,a5,a6,a7,a4⟩:=a2;refine⟨pa,pc,by rw[←a5];exact hc _ _ (KV LCm m a0),fun j hj=> ?_⟩;obtain⟨b,off,e,hb,_,a3⟩:=a4 (by omega);exact⟨b,off,e,hb,a3 j _ (by simp[hj,List.getD_eq_getElem?_getD])⟩
section
end
