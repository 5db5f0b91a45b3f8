import Derived.Test.YtolgebdmffcemaaGreatDoorQ27
import Derived.Test.YtolgebdmffcemaaGreatDoorQ29
set_option linter.all false
set_option maxHeartbeats 20000000
set_option maxRecDepth 1000000
namespace Go.Proofs.YtolgebdmffcemaaGreatDoor
open Go.RowKit
theorem qR (B:Nat)(st:R.St)(a0 path:List UInt8)(kind n:Int)(text:List UInt8)(w:World)(M O:Nat→Prop)(F:Nat)(C:List Value)(r:Int×R.Leaf)(h:PS w M O B st)(hM:∀b,M b→b<w.heap.size)(hi:Inv st)(hG:Y8 w)(d8:path.length≤maxLen)
  (d5:F=56∨F=73∨F=60∨F=62∨F=75)
  (hr:r=R.valV kind (R.workOf st a0) (R.at_ (R.workOf st a0) path) path n text)
  (hF:R.isPath path=true→∀ta tc W,Below w.heap.size w W→PT W M (.slice ta (R.workOf st a0).length tc) (R.workOf st a0)→Calls Tryz.prog F (.slice ta (R.workOf st a0).length tc::C).toArray W fun e w' =>Q3 W w' M e (R.workOf st a0) r):
  Calls Tryz.prog 55 #[.pointer (some ⟨B,0,none⟩),.string ⟨a0.toArray⟩,.string ⟨path.toArray⟩,.func (.func F) #[] C.toArray] w fun e w' =>e= .returned (.int .i64 (R.change st kind a0 path n text).1)∧zR w w' M O B (R.change st kind a0 path n text).2:=by
 have a9:=h;obtain⟨bv,cv,LB,e1,hP⟩:=h;have a4:=Vu hP hi a0;obtain⟨mx,d7⟩:=hG.mx;have b3:=fun W (hW:Below w.heap.size w W)=>gw path W d8 mx (by rw[hW.cell (p:=⟨0,0,none⟩) (by have:=hG.size;show 0<_;omega)];exact d7)
 have a7:=zk a9;by_cases hf:R.fnd st.brs a0<st.brs.length
 ·obtain⟨hl,ha,he,_,c6⟩:=yU hP a0 hf
  have a1:¬R.fndI st.brs a0<0:=by rw[R.fndI,if_pos hf];omega
  cases a2:R.isPath path
  ·have HR:Hid (R.change st kind a0 path n text=(2,st)):=by show _=_;rw[R.change,if_neg a1,if_pos a2]
   rw[a2]at b3;rw[ha]at a4;generalize(LB[R.fnd st.brs a0]'hl).2.1=bb at*;clear a9 hi hP hf a1 a2 he ha c6;go_enter Tryz.func55,Tryz.ntmps55;go_wp2_with fail
   refine a4.mono ?_;rintro e w1 ⟨rfl,a6⟩;subst a6;go_wp2_with fail
   refine(b3 _ (j0g _ _)).mono ?_;rintro e w2 ⟨rfl,a3⟩;go_wp2;go_ret;exact⟨zq (by rw[HR.out]),by rw[HR.out];exact zR.same a7.out a3⟩
  ·have b0:=hP.at_ _ (j0c hl)
   have b7:=hP.blk _ (j0c hl);have b6:=hP.lt _ b7.1;rw[a2]at b3;rw[ha]at a4;have b4:Hid (∀(tv:Value) (t:List R.Leaf) (w5:World),Below w.heap.size w w5→PT w5 M tv t→zR w (w5.setCell ⟨(LB[R.fnd st.brs a0]'hl).2.1,2,none⟩ tv) M O B (R.setWork st (R.fnd st.brs a0) t)):=fun tv t w5 hb ht=>U3 hP hl hb ht
   have b8:=Zc hi a0;have a5:=b0.work;rw[←c6]at a5;have c2:=b0.c2;have d4:=b0.fr 2;obtain⟨ta,tc,c8⟩:=Q9 a5;rw[c8]at c2 a5;have c7:Hid (R.change st kind a0 path n text=if r.1=0 then(0,R.setWork st (R.fnd st.brs a0) (R.set (R.workOf st a0) r.2))else(r.1,st)):=by
    show _=_;rw[R.change,if_neg a1,if_neg (by rw[a2];simp),hr]
   have b5:=fun W (hW:Below w.heap.size w W)=>hF a2 ta tc W hW (a5.below hW)
   generalize(LB[R.fnd st.brs a0]'hl).2.1=bb at*;clear a9 hi hP hf a1 a2 he ha c6 a5 b0 b8 c8 hF hr;generalize R.workOf st a0=t at*;rcases d5 with rfl|rfl|rfl|rfl|rfl
   all_goals
    have d9:=a7.out;go_enter Tryz.func55,Tryz.ntmps55;go_wp2_with fail
    refine a4.mono ?_;rintro e w1 ⟨rfl,a6⟩;subst a6;go_wp2_with fail
    refine(b3 _ (j0g _ _)).mono ?_;rintro e w2 ⟨rfl,a3⟩;have d2:=(a3.cell (p:=⟨bb,2,none⟩) b6).trans c2;go_wp2_with fail
    refine(b5 _ a3).mono ?_;rintro e w3 ⟨va,vn,vc,rfl,b9,d6⟩;have a8:=a3.trans (d6.mono a3.size);by_cases hr:r.1=0
    ·have b1:(r.1==0)=true:=by simpa using hr
     have b2:(r.1 !=0)=false:=by simp[hr]
     have d3:=(a8.cell (p:=⟨bb,2,none⟩) b6).trans c2;have f3:=(a8.frozen (p:=⟨bb,2,none⟩) b6).trans d4;have c9:=zk (b9 hr);have HR:=zk hr;clear hr b9 d2;go_wp2;go_ret;rw[c7.out,if_pos HR.out];exact⟨rfl,b4.out _ _ _ a8 c9.out⟩
    ·have b1:(r.1==0)=false:=by simpa using hr
     have b2:(r.1 !=0)=true:=by simp[hr]
     have HR:=zk hr;clear hr b9 d2;go_wp2;go_ret;rw[c7.out,if_neg HR.out];exact⟨rfl,zR.same a7.out a8⟩
 ·have a1:R.fndI st.brs a0<0:=by rw[R.fndI,if_neg hf];omega
  have HR:Hid (R.change st kind a0 path n text=(5,st)):=by show _=_;rw[R.change,if_pos a1]
  have ha:ZH LB st a0=none:=by rw[ZH,if_neg hf]
  rw[ha]at a4;clear a9 hi hP hf a1 ha;go_enter Tryz.func55,Tryz.ntmps55;go_wp2_with fail
  refine a4.mono ?_;rintro e w1 ⟨rfl,a6⟩;subst a6;go_wp2;go_ret;exact⟨zq (by rw[HR.out]),by rw[HR.out];exact zR.same a7.out (j0g _ _)⟩
theorem fE (tv:Value)(t:List R.Leaf)(path:List UInt8)(n:Int)(w:World)(M:Nat→Prop)(p0 p1:Nat)(hM:∀b,M b→b<w.heap.size)(h:PT w M tv t)(a0:OkT t)(hs:R.isPath path=true)(a2:n≤9223372036854775807)(a3: -9223372036854775808≤n)
  (a4:w.cell? ⟨p0,0,none⟩=some (.string ⟨path.toArray⟩))(a5:w.cell? ⟨p1,0,none⟩=some (.int .i64 n)):
  Calls Tryz.prog 56 #[tv,.pointer (some ⟨p0,0,none⟩),.pointer (some ⟨p1,0,none⟩)] w fun e w' =>Q3 w w' M e t (R.addV t (R.at_ t path) path n):=by
 have a1:=fZ tv t path n w M hM h a0 hs a2 a3;clear h a0;go_enter Tryz.func56,Tryz.ntmps56;go_wp2_with fail
 refine a1.mono ?_;rintro e w1 ⟨va,vn,vc,rfl,hp,hb⟩;go_wp2;go_ret2;exact⟨va,vn,vc,rfl,hp,hb⟩
theorem Gt (tv:Value)(t:List R.Leaf)(path:List UInt8)(text:List UInt8)(w:World)(M:Nat→Prop)(p0 p1:Nat)(hM:∀b,M b→b<w.heap.size)(h:PT w M tv t)(a0:OkT t)(hs:R.isPath path=true)(a2:text.length≤maxLen)
  (a3:w.cell? ⟨p0,0,none⟩=some (.string ⟨path.toArray⟩))(a4:w.cell? ⟨p1,0,none⟩=some (.string ⟨text.toArray⟩)):
  Calls Tryz.prog 73 #[tv,.pointer (some ⟨p0,0,none⟩),.pointer (some ⟨p1,0,none⟩)] w fun e w' =>Q3 w w' M e t (R.noteV t (R.at_ t path) path text):=by
 have a1:=ft tv t path text w M hM h a0 hs a2;clear h a0;go_enter Tryz.func73,Tryz.ntmps73;go_wp2_with fail
 refine a1.mono ?_;rintro e w1 ⟨va,vn,vc,rfl,hp,hb⟩;go_wp2;go_ret2;exact⟨va,vn,vc,rfl,hp,hb⟩
theorem fx (tv:Value)(t:List R.Leaf)(path:List UInt8)(text:List UInt8)(w:World)(M:Nat→Prop)(p0 p1:Nat)(hM:∀b,M b→b<w.heap.size)(h:PT w M tv t)(a0:OkT t)(hs:R.isPath path=true)(a2:text.length≤maxLen)
  (a3:w.cell? ⟨p0,0,none⟩=some (.string ⟨path.toArray⟩))(a4:w.cell? ⟨p1,0,none⟩=some (.string ⟨text.toArray⟩)):
  Calls Tryz.prog 60 #[tv,.pointer (some ⟨p0,0,none⟩),.pointer (some ⟨p1,0,none⟩)] w fun e w' =>Q3 w w' M e t (R.putV t (R.at_ t path) path text):=by
 have a1:=fY tv t path text w M hM h a0 hs a2;clear h a0;go_enter Tryz.func60,Tryz.ntmps60;go_wp2_with fail
 refine a1.mono ?_;rintro e w1 ⟨va,vn,vc,rfl,hp,hb⟩;go_wp2;go_ret2;exact⟨va,vn,vc,rfl,hp,hb⟩
theorem Gs (tv:Value)(t:List R.Leaf)(path:List UInt8)(text:List UInt8)(w:World)(M:Nat→Prop)(p0 p1:Nat)(hM:∀b,M b→b<w.heap.size)(h:PT w M tv t)(a0:OkT t)(hs:R.isPath path=true)(a2:text.length≤maxLen)
  (a3:w.cell? ⟨p0,0,none⟩=some (.string ⟨path.toArray⟩))(a4:w.cell? ⟨p1,0,none⟩=some (.string ⟨text.toArray⟩)):
  Calls Tryz.prog 62 #[tv,.pointer (some ⟨p0,0,none⟩),.pointer (some ⟨p1,0,none⟩)] w fun e w' =>Q3 w w' M e t (R.takeV (R.at_ t path) path text):=by
 have a1:=fs tv t path text w M hM h a0 hs a2;clear h a0;go_enter Tryz.func62,Tryz.ntmps62;go_wp2_with fail
 refine a1.mono ?_;rintro e w1 ⟨va,vn,vc,rfl,hp,hb⟩;go_wp2;go_ret2;exact⟨va,vn,vc,rfl,hp,hb⟩
theorem O4 (tv:Value)(t:List R.Leaf)(path:List UInt8)(w:World)(M:Nat→Prop)(p0:Nat)(hM:∀b,M b→b<w.heap.size)(h:PT w M tv t)(a0:OkT t)(hs:R.isPath path=true)
  (a2:w.cell? ⟨p0,0,none⟩=some (.string ⟨path.toArray⟩)):
  Calls Tryz.prog 75 #[tv,.pointer (some ⟨p0,0,none⟩)] w fun e w' =>Q3 w w' M e t (R.delV (R.at_ t path) path):=by
 have a1:=gu tv t path w M hM h a0 hs;clear h a0;go_enter Tryz.func75,Tryz.ntmps75;go_wp2_with fail
 refine a1.mono ?_;rintro e w1 ⟨va,vn,vc,rfl,hp,hb⟩;go_wp2;go_ret2;exact⟨va,vn,vc,rfl,hp,hb⟩
theorem F1 (B:Nat)(st:R.St)(a0 path:List UInt8)(n:Int)(w:World)(M O:Nat→Prop)(h:PS w M O B st)(hM:∀b,M b→b<w.heap.size)(hi:Inv st)(hG:Y8 w)(a5:path.length≤maxLen)(a2:n≤9223372036854775807)(a3: -9223372036854775808≤n):
  Calls Tryz.prog 27 #[.pointer (some ⟨B,0,none⟩),.string ⟨a0.toArray⟩,.string ⟨path.toArray⟩,.int .i64 n] w fun e w' =>e= .returned (.int .i64 (R.change st 35 a0 path n []).1)∧zR w w' M O B (R.change st 35 a0 path n []).2:=by
 have hB:Below w.heap.size w ((w.alloc (Obj.cells #[.string ⟨path.toArray⟩] 9)).alloc (Obj.cells #[.int .i64 n] 3)):=((j0g _ _).alloc (j0a _) _).alloc (by simp) _;have a1:=qR B st a0 path 35 n [] ((w.alloc (Obj.cells #[.string ⟨path.toArray⟩] 9)).alloc (Obj.cells #[.int .i64 n] 3)) M O 56 [.pointer (some ⟨w.heap.size,0,none⟩),.pointer (some ⟨w.heap.size+1,0,none⟩)] _ (h.below hB) (fun b hb=>by have:=hM b hb;simp;omega) hi (hG.below hB) a5 (.inl rfl) rfl (fun a4 ta tc W hW hp=>fE _ _ path n W M w.heap.size (w.heap.size+1) (fun b hb=>by have:=hM b hb;have:=hW.size;simp at this;omega) hp (Zc hi a0) a4 a2 a3 (by rw[hW.cell (p:=⟨w.heap.size,0,none⟩) (by simp<;>omega)];simp) (by rw[hW.cell (p:=⟨w.heap.size+1,0,none⟩) (by simp)];simp));clear h;go_enter Tryz.func27,Tryz.ntmps27;go_wp2_with fail
 refine a1.mono ?_;rintro e w1 ⟨rfl,a6⟩;go_wp2;go_ret;exact⟨rfl,a6.after hB⟩
theorem fA (B:Nat)(st:R.St)(a0 path:List UInt8)(text:List UInt8)(w:World)(M O:Nat→Prop)(h:PS w M O B st)(hM:∀b,M b→b<w.heap.size)(hi:Inv st)(hG:Y8 w)(a3:path.length≤maxLen)(a5:text.length≤maxLen):
  Calls Tryz.prog 41 #[.pointer (some ⟨B,0,none⟩),.string ⟨a0.toArray⟩,.string ⟨path.toArray⟩,.string ⟨text.toArray⟩] w fun e w' =>e= .returned (.int .i64 (R.change st 61 a0 path 0 text).1)∧zR w w' M O B (R.change st 61 a0 path 0 text).2:=by
 have hB:Below w.heap.size w ((w.alloc (Obj.cells #[.string ⟨path.toArray⟩] 9)).alloc (Obj.cells #[.string ⟨text.toArray⟩] 9)):=((j0g _ _).alloc (j0a _) _).alloc (by simp) _;have a1:=qR B st a0 path 61 0 text ((w.alloc (Obj.cells #[.string ⟨path.toArray⟩] 9)).alloc (Obj.cells #[.string ⟨text.toArray⟩] 9)) M O 73 [.pointer (some ⟨w.heap.size,0,none⟩),.pointer (some ⟨w.heap.size+1,0,none⟩)] _ (h.below hB) (fun b hb=>by have:=hM b hb;simp;omega) hi (hG.below hB) a3 (.inr (.inl rfl)) rfl (fun a2 ta tc W hW hp=>Gt _ _ path text W M w.heap.size (w.heap.size+1) (fun b hb=>by have:=hM b hb;have:=hW.size;simp at this;omega) hp (Zc hi a0) a2 a5 (by rw[hW.cell (p:=⟨w.heap.size,0,none⟩) (by simp<;>omega)];simp) (by rw[hW.cell (p:=⟨w.heap.size+1,0,none⟩) (by simp)];simp));clear h;go_enter Tryz.func41,Tryz.ntmps41;go_wp2_with fail
 refine a1.mono ?_;rintro e w1 ⟨rfl,a4⟩;go_wp2;go_ret;exact⟨rfl,a4.after hB⟩
theorem f_ (B:Nat)(st:R.St)(a0 path:List UInt8)(text:List UInt8)(w:World)(M O:Nat→Prop)(h:PS w M O B st)(hM:∀b,M b→b<w.heap.size)(hi:Inv st)(hG:Y8 w)(a3:path.length≤maxLen)(a5:text.length≤maxLen):
  Calls Tryz.prog 31 #[.pointer (some ⟨B,0,none⟩),.string ⟨a0.toArray⟩,.string ⟨path.toArray⟩,.string ⟨text.toArray⟩] w fun e w' =>e= .returned (.int .i64 (R.change st 42 a0 path 0 text).1)∧zR w w' M O B (R.change st 42 a0 path 0 text).2:=by
 have hB:Below w.heap.size w ((w.alloc (Obj.cells #[.string ⟨path.toArray⟩] 9)).alloc (Obj.cells #[.string ⟨text.toArray⟩] 9)):=((j0g _ _).alloc (j0a _) _).alloc (by simp) _;have a1:=qR B st a0 path 42 0 text ((w.alloc (Obj.cells #[.string ⟨path.toArray⟩] 9)).alloc (Obj.cells #[.string ⟨text.toArray⟩] 9)) M O 60 [.pointer (some ⟨w.heap.size,0,none⟩),.pointer (some ⟨w.heap.size+1,0,none⟩)] _ (h.below hB) (fun b hb=>by have:=hM b hb;simp;omega) hi (hG.below hB) a3 (.inr (.inr (.inl rfl))) rfl (fun a2 ta tc W hW hp=>fx _ _ path text W M w.heap.size (w.heap.size+1) (fun b hb=>by have:=hM b hb;have:=hW.size;simp at this;omega) hp (Zc hi a0) a2 a5 (by rw[hW.cell (p:=⟨w.heap.size,0,none⟩) (by simp<;>omega)];simp) (by rw[hW.cell (p:=⟨w.heap.size+1,0,none⟩) (by simp)];simp));clear h;go_enter Tryz.func31,Tryz.ntmps31;go_wp2_with fail
 refine a1.mono ?_;rintro e w1 ⟨rfl,a4⟩;go_wp2;go_ret;exact⟨rfl,a4.after hB⟩
theorem fv (B:Nat)(st:R.St)(a0 path:List UInt8)(text:List UInt8)(w:World)(M O:Nat→Prop)(h:PS w M O B st)(hM:∀b,M b→b<w.heap.size)(hi:Inv st)(hG:Y8 w)(a3:path.length≤maxLen)(a5:text.length≤maxLen):
  Calls Tryz.prog 32 #[.pointer (some ⟨B,0,none⟩),.string ⟨a0.toArray⟩,.string ⟨path.toArray⟩,.string ⟨text.toArray⟩] w fun e w' =>e= .returned (.int .i64 (R.change st 45 a0 path 0 text).1)∧zR w w' M O B (R.change st 45 a0 path 0 text).2:=by
 have hB:Below w.heap.size w ((w.alloc (Obj.cells #[.string ⟨path.toArray⟩] 9)).alloc (Obj.cells #[.string ⟨text.toArray⟩] 9)):=((j0g _ _).alloc (j0a _) _).alloc (by simp) _;have a1:=qR B st a0 path 45 0 text ((w.alloc (Obj.cells #[.string ⟨path.toArray⟩] 9)).alloc (Obj.cells #[.string ⟨text.toArray⟩] 9)) M O 62 [.pointer (some ⟨w.heap.size,0,none⟩),.pointer (some ⟨w.heap.size+1,0,none⟩)] _ (h.below hB) (fun b hb=>by have:=hM b hb;simp;omega) hi (hG.below hB) a3 (.inr (.inr (.inr (.inl rfl)))) rfl (fun a2 ta tc W hW hp=>Gs _ _ path text W M w.heap.size (w.heap.size+1) (fun b hb=>by have:=hM b hb;have:=hW.size;simp at this;omega) hp (Zc hi a0) a2 a5 (by rw[hW.cell (p:=⟨w.heap.size,0,none⟩) (by simp<;>omega)];simp) (by rw[hW.cell (p:=⟨w.heap.size+1,0,none⟩) (by simp)];simp));clear h;go_enter Tryz.func32,Tryz.ntmps32;go_wp2_with fail
 refine a1.mono ?_;rintro e w1 ⟨rfl,a4⟩;go_wp2;go_ret;exact⟨rfl,a4.after hB⟩
theorem gA (B:Nat)(st:R.St)(a0 path:List UInt8)(w:World)(M O:Nat→Prop)(h:PS w M O B st)(hM:∀b,M b→b<w.heap.size)(hi:Inv st)(hG:Y8 w)(a3:path.length≤maxLen):
  Calls Tryz.prog 42 #[.pointer (some ⟨B,0,none⟩),.string ⟨a0.toArray⟩,.string ⟨path.toArray⟩] w fun e w' =>e= .returned (.int .i64 (R.change st 0 a0 path 0 []).1)∧zR w w' M O B (R.change st 0 a0 path 0 []).2:=by
 have hB:Below w.heap.size w (w.alloc (Obj.cells #[.string ⟨path.toArray⟩] 9)):=(j0g _ _).alloc (j0a _) _;have a1:=qR B st a0 path 0 0 [] (w.alloc (Obj.cells #[.string ⟨path.toArray⟩] 9)) M O 75 [.pointer (some ⟨w.heap.size,0,none⟩)] _ (h.below hB) (fun b hb=>by have:=hM b hb;simp;omega) hi (hG.below hB) a3 (.inr (.inr (.inr (.inr rfl)))) rfl (fun a2 ta tc W hW hp=>O4 _ _ path W M w.heap.size (fun b hb=>by have:=hM b hb;have:=hW.size;simp at this;omega) hp (Zc hi a0) a2 (by rw[hW.cell (p:=⟨w.heap.size,0,none⟩) (by simp)];simp));clear h;go_enter Tryz.func42,Tryz.ntmps42;go_wp2_with fail
 refine a1.mono ?_;rintro e w1 ⟨rfl,a4⟩;go_wp2;go_ret;exact⟨rfl,a4.after hB⟩
structure SP where
 bx:Nat
 by_:Nat
 ox:Nat→Prop
 oy:Nat→Prop
 sx:R.St
 sy:R.St
def MM (O:Nat→Prop)(L:List SP)(b:Nat):Prop:=O b∨∃(j:Nat) (h:j<L.length),L[j].ox b∨L[j].oy b
structure LW (w:World)(h0 Wb:Nat)(O:Nat→Prop)(L:List SP)(names:List (Value×List UInt8))(nums:List (Value×Int))(last:Nat):Prop where
 lw:∃av nv tv uv kv,LWx w (MM O L) O Wb av (L.map fun p=>(p.bx,p.by_)) nv tv uv kv names nums last
 px:∀(j:Nat) (h:j<L.length),PS w (MM O L) L[j].ox L[j].bx L[j].sx∧Inv L[j].sx
 py:∀(j:Nat) (h:j<L.length),RS w (MM O L) L[j].oy L[j].by_ L[j].sy∧Inv L[j].sy
 d0:∀(j:Nat) (h:j<L.length) (b:Nat),O b→¬L[j].ox b∧¬L[j].oy b
 d1:∀(j:Nat) (h:j<L.length) (b:Nat),L[j].ox b→¬L[j].oy b
 d2:∀(i j:Nat) (hi:i<L.length) (hj:j<L.length),i≠j→∀b,(L[i].ox b∨L[i].oy b)→¬(L[j].ox b∨L[j].oy b)
 lo:∀b,MM O L b→h0≤b
 lt:∀b,MM O L b→b<w.heap.size
 g:Y8 w
 h6:6≤h0
 hs:h0≤w.heap.size
 nb:nums.length≤9*last
theorem PS.smaller {w:World}{M M' O:Nat→Prop}{B:Nat}{st:R.St}(h:PS w M O B st)(hM:∀b,M' b→M b)(hO:∀b,O b→M' b):PS w M' O B st:=h.kept (zj.refl (fun _=>False) w) (fun _ e=>e.elim) (fun b e=> .inl (hM b e)) hO
theorem RS.smaller {w:World}{M M' O:Nat→Prop}{B:Nat}{st:R.St}(h:RS w M O B st)(hM:∀b,M' b→M b)(hO:∀b,O b→M' b):RS w M' O B st:=h.kept (zj.refl (fun _=>False) w) (fun _ e=>e.elim) (fun b e=> .inl (hM b e)) hO
theorem zj.below0 {Z:Nat→Prop}{w w' :World}(hk:zj Z w w'){h0:Nat}(hs:h0≤w.heap.size)(hZ:∀b,Z b→h0≤b):Below h0 w w' :=
 ⟨hk.os,hk.tape,hk.output,hk.size,fun k a0=>hk.block k (by omega) (fun e=>by have:=hZ k e;omega)⟩
theorem LW.stepX {w w' :World}{h0 Wb:Nat}{O:Nat→Prop}{L:List SP}{names:List (Value×List UInt8)}{b1:List (Value×Int)}{last:Nat}(h:LW w h0 Wb O L names b1 last)(i:Nat)(hi:i<L.length){st' :R.St}(b6:zR w w' (MM O L) L[i].ox L[i].bx st')(hI:Inv st'):
  ∃o',LW w' h0 Wb O (L.set i {L[i]with ox:=o',sx:=st' }) names b1 last∧Below h0 w w' :=by
 obtain⟨o',hP,hK,ho⟩:=b6;refine⟨o',?_⟩;have a8:∀b,L[i].ox b→MM O L b:=fun b e=> .inr ⟨i,hi,.inl e⟩
 have hZ:∀b,L[i].ox b→h0≤b:=fun b e=>h.lo b (a8 b e)
 generalize hx:({L[i]with ox:=o',sx:=st' }:SP)=x;have a5:x.ox=o' :=by rw[←hx]
 have a6:x.oy=L[i].oy:=by rw[←hx]
 have a1:∀(j:Nat) (hj:j<(L.set i x).length),(i=j∧(L.set i x)[j]=x)∨(i≠j∧∃a0 :j<L.length,(L.set i x)[j]=L[j]):=fun j hj=>by
  rw[List.length_set]at hj;by_cases e:i=j
  ·subst e;exact .inl ⟨rfl,by simp⟩
  ·exact .inr ⟨e,hj,by rw[List.getElem_set_ne e]⟩
 have a3:∀b,MM O (L.set i x) b→MM O L b∨(o' b∧w.heap.size≤b):=by
  rintro b (e|⟨j,hj,e⟩)
  ·exact .inl (.inl e)
  ·rcases a1 j hj with⟨rfl,hg⟩|⟨_,a0,hg⟩
   ·rw[hg]at e
    have e' :x.ox b∨x.oy b:=by first|exact e|exact e.symm
    rcases e' with e|e
    ·rw[a5]at e
     rcases ho b e with h1|h1
     ·exact .inl (a8 b h1)
     ·exact .inr ⟨e,h1⟩
    ·rw[a6]at e;exact .inl (.inr ⟨i,hi,.inr e⟩)
   ·rw[hg]at e;exact .inl (.inr ⟨j,a0,e⟩)
 have b2:∀b,MM O (L.set i x) b→MM O L b∨w.heap.size≤b:=fun b e=>(a3 b e).imp id (·.2)
 have b4:∀b,MM O (L.set i x) b→MM O L b∨o' b:=fun b e=>(a3 b e).imp id (·.1)
 have b3 :∀b,o' b→b<w'.heap.size:=by
  obtain⟨_,_,_,_,hq⟩:=hP;exact hq.lt
 have ix:∀b,o' b→MM O (L.set i x) b:=fun b e=> .inr ⟨i,by simpa using hi,by simp only[List.getElem_set_self];exact .inl (by rw[a5];exact e)⟩
 have iy:∀b,L[i].oy b→MM O (L.set i x) b:=fun b e=> .inr ⟨i,by simpa using hi,by simp only[List.getElem_set_self];exact .inr (by rw[a6];exact e)⟩
 have ij:∀(j:Nat) (hj:j<L.length),i≠j→∀b,(L[j].ox b∨L[j].oy b)→MM O (L.set i x) b:=fun j hj a2 b e=> .inr ⟨j,by simpa using hj,by rw[List.getElem_set_ne a2];exact e⟩
 refine⟨⟨?_,fun j hj=> ?_,fun j hj=> ?_,fun j hj b hb=> ?_,fun j hj b hb=> ?_,fun j k hj hk a2 b hb=> ?_,fun b hb=> ?_,fun b hb=> ?_,h.g.kept hK (fun b e=>j0f h.h6 (hZ b e)),h.h6,j0f h.hs hK.size,h.nb⟩,hK.below0 h.hs hZ⟩
 ·obtain⟨av,nv,tv,uv,kv,hl⟩:=h.lw
  refine⟨av,nv,tv,uv,kv,?_⟩;have e:(L.set i x).map (fun p=>(p.bx,p.by_))=L.map fun p=>(p.bx,p.by_):=by
   rw[List.map_set];apply List.ext_getElem?;intro j;rw[List.getElem?_set];split
   ·rename_i e;subst e;simp[hi,←hx]
   ·rfl
  rw[e];exact hl.kept hK (fun b e=>⟨a8 b e,fun e2=>(h.d0 i hi b e2).1 e⟩) b2 (fun b e=> .inl e)
 ·rcases a1 j hj with⟨rfl,hg⟩|⟨a2,a0,hg⟩
  ·rw[hg]
   have e1:x.bx=L[i].bx:=by rw[←hx]
   have e2:x.sx=st' :=by rw[←hx]
   rw[a5,e1,e2];exact⟨hP.smaller b4 ix,hI⟩
  ·rw[hg]
   refine⟨(h.px j a0).1.kept hK (fun b e=>⟨a8 b e,fun e2=>h.d2 i j hi a0 a2 b (.inl e) (.inl e2)⟩) b2 (fun b e=>ij j a0 a2 b (.inl e)),(h.px j a0).2⟩
 ·rcases a1 j hj with⟨rfl,hg⟩|⟨a2,a0,hg⟩
  ·rw[hg]
   have e1:x.by_=L[i].by_:=by rw[←hx]
   have e2:x.sy=L[i].sy:=by rw[←hx]
   rw[a6,e1,e2];exact⟨(h.py i hi).1.kept hK (fun b e=>⟨a8 b e,fun e2=>h.d1 i hi b e e2⟩) b2 iy,(h.py i hi).2⟩
  ·rw[hg]
   refine⟨(h.py j a0).1.kept hK (fun b e=>⟨a8 b e,fun e2=>h.d2 i j hi a0 a2 b (.inl e) (.inr e2)⟩) b2 (fun b e=>ij j a0 a2 b (.inr e)),(h.py j a0).2⟩
 ·have b7:=h.lt b (.inl hb)
  rcases a1 j hj with⟨rfl,hg⟩|⟨a2,a0,hg⟩
  ·rw[hg]
   have n1:¬x.ox b:=fun e=>by
    rw[a5]at e;rcases ho b e with h1|h1
    ·exact(h.d0 i hi b hb).1 h1
    ·omega
   have n2:¬x.oy b:=fun e=>by rw[a6]at e;exact(h.d0 i hi b hb).2 e
   exact⟨n1,n2⟩
  ·rw[hg];exact h.d0 j a0 b hb
 ·rcases a1 j hj with⟨rfl,hg⟩|⟨a2,a0,hg⟩
  ·rw[hg]at hb⊢
   rw[a5]at hb;rw[a6];rcases ho b hb with h1|h1
   ·exact h.d1 i hi b h1
   ·exact fun e=>by have:=h.lt b (.inr ⟨i,hi,.inr e⟩);omega
  ·rw[hg]at hb⊢;exact h.d1 j a0 b hb
 ·rcases a1 j hj with⟨rfl,hg⟩|⟨b0,a0,hg⟩
  ·rcases a1 k hk with⟨rfl,a7⟩|⟨a4,a9,a7⟩
   ·exact absurd rfl a2
   ·rw[hg]at hb
    rw[a7];have b5 :x.ox b∨x.oy b:=by first|exact hb|exact hb.symm
    rcases b5 with hb|hb
    ·rw[a5]at hb
     rcases ho b hb with h1|h1
     ·exact h.d2 i k hi a9 a4 b (.inl h1)
     ·exact fun e=>by have:=h.lt b (.inr ⟨k,a9,e⟩);omega
    ·rw[a6]at hb
     exact h.d2 i k hi a9 a4 b (.inr hb)
  ·rcases a1 k hk with⟨rfl,a7⟩|⟨a4,a9,a7⟩
   ·rw[hg]at hb
    rw[a7];intro e;have e' :x.ox b∨x.oy b:=by first|exact e|exact e.symm
    rcases e' with e|e
    ·rw[a5]at e
     rcases ho b e with h1|h1
     ·exact h.d2 i j hi a0 b0 b (.inl h1) hb
     ·have:=h.lt b (.inr ⟨j,a0,hb⟩);omega
    ·rw[a6]at e
     exact h.d2 i j hi a0 b0 b (.inr e) hb
   ·rw[hg]at hb;rw[a7];exact h.d2 j k a0 a9 a2 b hb
 ·rcases a3 b hb with e|e
  ·exact h.lo b e
  ·have:=h.hs;omega
 ·rcases a3 b hb with e|e
  ·exact j0b (h.lt b e) hK.size
  ·exact b3 b e.1
theorem LW.stepY {w w' :World}{h0 Wb:Nat}{O:Nat→Prop}{L:List SP}{names:List (Value×List UInt8)}{b1:List (Value×Int)}{last:Nat}(h:LW w h0 Wb O L names b1 last)(i:Nat)(hi:i<L.length){st' :R.St}(b6:zG w w' (MM O L) L[i].oy L[i].by_ st')(hI:Inv st'):
  ∃o',LW w' h0 Wb O (L.set i {L[i]with oy:=o',sy:=st' }) names b1 last∧Below h0 w w' :=by
 obtain⟨o',hP,hK,ho⟩:=b6;refine⟨o',?_⟩;have a8:∀b,L[i].oy b→MM O L b:=fun b e=> .inr ⟨i,hi,.inr e⟩
 have hZ:∀b,L[i].oy b→h0≤b:=fun b e=>h.lo b (a8 b e)
 generalize hx:({L[i]with oy:=o',sy:=st' }:SP)=x;have a5:x.oy=o' :=by rw[←hx]
 have a6:x.ox=L[i].ox:=by rw[←hx]
 have a1:∀(j:Nat) (hj:j<(L.set i x).length),(i=j∧(L.set i x)[j]=x)∨(i≠j∧∃a0 :j<L.length,(L.set i x)[j]=L[j]):=fun j hj=>by
  rw[List.length_set]at hj;by_cases e:i=j
  ·subst e;exact .inl ⟨rfl,by simp⟩
  ·exact .inr ⟨e,hj,by rw[List.getElem_set_ne e]⟩
 have a3:∀b,MM O (L.set i x) b→MM O L b∨(o' b∧w.heap.size≤b):=by
  rintro b (e|⟨j,hj,e⟩)
  ·exact .inl (.inl e)
  ·rcases a1 j hj with⟨rfl,hg⟩|⟨_,a0,hg⟩
   ·rw[hg]at e
    have e' :x.oy b∨x.ox b:=by first|exact e|exact e.symm
    rcases e' with e|e
    ·rw[a5]at e
     rcases ho b e with h1|h1
     ·exact .inl (a8 b h1)
     ·exact .inr ⟨e,h1⟩
    ·rw[a6]at e;exact .inl (.inr ⟨i,hi,.inl e⟩)
   ·rw[hg]at e;exact .inl (.inr ⟨j,a0,e⟩)
 have b2:∀b,MM O (L.set i x) b→MM O L b∨w.heap.size≤b:=fun b e=>(a3 b e).imp id (·.2)
 have b4:∀b,MM O (L.set i x) b→MM O L b∨o' b:=fun b e=>(a3 b e).imp id (·.1)
 have b3 :∀b,o' b→b<w'.heap.size:=by
  obtain⟨_,_,_,_,hq⟩:=hP;exact hq.lt
 have ix:∀b,o' b→MM O (L.set i x) b:=fun b e=> .inr ⟨i,by simpa using hi,by simp only[List.getElem_set_self];exact .inr (by rw[a5];exact e)⟩
 have iy:∀b,L[i].ox b→MM O (L.set i x) b:=fun b e=> .inr ⟨i,by simpa using hi,by simp only[List.getElem_set_self];exact .inl (by rw[a6];exact e)⟩
 have ij:∀(j:Nat) (hj:j<L.length),i≠j→∀b,(L[j].ox b∨L[j].oy b)→MM O (L.set i x) b:=fun j hj a2 b e=> .inr ⟨j,by simpa using hj,by rw[List.getElem_set_ne a2];exact e⟩
 refine⟨⟨?_,fun j hj=> ?_,fun j hj=> ?_,fun j hj b hb=> ?_,fun j hj b hb=> ?_,fun j k hj hk a2 b hb=> ?_,fun b hb=> ?_,fun b hb=> ?_,h.g.kept hK (fun b e=>j0f h.h6 (hZ b e)),h.h6,j0f h.hs hK.size,h.nb⟩,hK.below0 h.hs hZ⟩
 ·obtain⟨av,nv,tv,uv,kv,hl⟩:=h.lw
  refine⟨av,nv,tv,uv,kv,?_⟩;have e:(L.set i x).map (fun p=>(p.bx,p.by_))=L.map fun p=>(p.bx,p.by_):=by
   rw[List.map_set];apply List.ext_getElem?;intro j;rw[List.getElem?_set];split
   ·rename_i e;subst e;simp[hi,←hx]
   ·rfl
  rw[e];exact hl.kept hK (fun b e=>⟨a8 b e,fun e2=>(h.d0 i hi b e2).2 e⟩) b2 (fun b e=> .inl e)
 ·rcases a1 j hj with⟨rfl,hg⟩|⟨a2,a0,hg⟩
  ·rw[hg]
   have e1:x.bx=L[i].bx:=by rw[←hx]
   have e2:x.sx=L[i].sx:=by rw[←hx]
   rw[a6,e1,e2];exact⟨(h.px i hi).1.kept hK (fun b e=>⟨a8 b e,fun e2=>h.d1 i hi b e2 e⟩) b2 iy,(h.px i hi).2⟩
  ·rw[hg]
   refine⟨(h.px j a0).1.kept hK (fun b e=>⟨a8 b e,fun e2=>h.d2 i j hi a0 a2 b (.inr e) (.inl e2)⟩) b2 (fun b e=>ij j a0 a2 b (.inl e)),(h.px j a0).2⟩
 ·rcases a1 j hj with⟨rfl,hg⟩|⟨a2,a0,hg⟩
  ·rw[hg]
   have e1:x.by_=L[i].by_:=by rw[←hx]
   have e2:x.sy=st' :=by rw[←hx]
   rw[a5,e1,e2];exact⟨hP.smaller b4 ix,hI⟩
  ·rw[hg]
   refine⟨(h.py j a0).1.kept hK (fun b e=>⟨a8 b e,fun e2=>h.d2 i j hi a0 a2 b (.inr e) (.inr e2)⟩) b2 (fun b e=>ij j a0 a2 b (.inr e)),(h.py j a0).2⟩
 ·have b7:=h.lt b (.inl hb)
  rcases a1 j hj with⟨rfl,hg⟩|⟨a2,a0,hg⟩
  ·rw[hg]
   have n1:¬x.oy b:=fun e=>by
    rw[a5]at e;rcases ho b e with h1|h1
    ·exact(h.d0 i hi b hb).2 h1
    ·omega
   have n2:¬x.ox b:=fun e=>by rw[a6]at e;exact(h.d0 i hi b hb).1 e
   exact⟨n2,n1⟩
  ·rw[hg];exact h.d0 j a0 b hb
 ·rcases a1 j hj with⟨rfl,hg⟩|⟨a2,a0,hg⟩
  ·rw[hg]at hb⊢
   rw[a6]at hb;rw[a5];intro e;rcases ho b e with h1|h1
   ·exact h.d1 i hi b hb h1
   ·have:=h.lt b (.inr ⟨i,hi,.inl hb⟩);omega
  ·rw[hg]at hb⊢;exact h.d1 j a0 b hb
 ·rcases a1 j hj with⟨rfl,hg⟩|⟨b0,a0,hg⟩
  ·rcases a1 k hk with⟨rfl,a7⟩|⟨a4,a9,a7⟩
   ·exact absurd rfl a2
   ·rw[hg]at hb
    rw[a7];have b5 :x.oy b∨x.ox b:=by first|exact hb|exact hb.symm
    rcases b5 with hb|hb
    ·rw[a5]at hb
     rcases ho b hb with h1|h1
     ·exact h.d2 i k hi a9 a4 b (.inr h1)
     ·exact fun e=>by have:=h.lt b (.inr ⟨k,a9,e⟩);omega
    ·rw[a6]at hb
     exact h.d2 i k hi a9 a4 b (.inl hb)
  ·rcases a1 k hk with⟨rfl,a7⟩|⟨a4,a9,a7⟩
   ·rw[hg]at hb
    rw[a7];intro e;have e' :x.oy b∨x.ox b:=by first|exact e|exact e.symm
    rcases e' with e|e
    ·rw[a5]at e
     rcases ho b e with h1|h1
     ·exact h.d2 i j hi a0 b0 b (.inr h1) hb
     ·have:=h.lt b (.inr ⟨j,a0,hb⟩);omega
    ·rw[a6]at e
     exact h.d2 i j hi a0 b0 b (.inl e) hb
   ·rw[hg]at hb;rw[a7];exact h.d2 j k a0 a9 a2 b hb
 ·rcases a3 b hb with e|e
  ·exact h.lo b e
  ·have:=h.hs;omega
 ·rcases a3 b hb with e|e
  ·exact j0b (h.lt b e) hK.size
  ·exact b3 b e.1
theorem LWx.smaller {w:World}{M M' O:Nat→Prop}{Wb:Nat}{av:Value}{ps:List (Nat×Nat)}{nv tv uv kv:Value}{names:List (Value×List UInt8)}{a0:List (Value×Int)}{last:Nat}(h:LWx w M O Wb av ps nv tv uv kv names a0 last)(hM:∀b,M' b→M b)(hO:∀b,O b→M' b):LWx w M' O Wb av ps nv tv uv kv names a0 last:=
 h.kept (zj.refl (fun _=>False) w) (fun _ e=>e.elim) (fun b e=> .inl (hM b e)) hO
theorem LW.below {w w' :World}{h0 Wb:Nat}{O:Nat→Prop}{L:List SP}{names:List (Value×List UInt8)}{a0:List (Value×Int)}{last:Nat}(h:LW w h0 Wb O L names a0 last)(hb:Below w.heap.size w w'):LW w' h0 Wb O L names a0 last:=by
 have hK:zj (fun _=>False) w w' :=zj.of_below hb;refine⟨?_,fun j hj=>⟨(h.px j hj).1.below hb,(h.px j hj).2⟩,fun j hj=>⟨(h.py j hj).1.below hb,(h.py j hj).2⟩,h.d0,h.d1,h.d2,h.lo,fun b e=>j0b (h.lt b e) hb.size,h.g.below hb,h.h6,j0f h.hs hb.size,h.nb⟩;obtain⟨av,nv,tv,uv,kv,hl⟩:=h.lw;exact⟨av,nv,tv,uv,kv,hl.kept hK (fun _ e=>e.elim) (fun b e=> .inl e) hl.sub⟩
theorem LW.mine {w w' :World}{h0 Wb:Nat}{O O' :Nat→Prop}{L:List SP}{names a1 :List (Value×List UInt8)}{a5 a2 :List (Value×Int)}{last a0 :Nat}(h:LW w h0 Wb O L names a5 last)(hK:zj O w w')(hO:∀b,O' b→O b∨w.heap.size≤b)
  (hl:∃av nv tv uv kv,LWx w' (fun b=>MM O L b∨O' b) O' Wb av (L.map fun p=>(p.bx,p.by_)) nv tv uv kv a1 a2 a0)(a6:a2.length≤9*a0):LW w' h0 Wb O' L a1 a2 a0 ∧Below h0 w w' :=by
 obtain⟨av,nv,tv,uv,kv,hl⟩:=hl;have a3:∀b,MM O' L b→MM O L b∨O' b:=by
  rintro b (e|e)
  ·exact .inr e
  ·exact .inl (.inr e)
 have a4:∀b,MM O' L b→MM O L b∨w.heap.size≤b:=fun b e=>by
  rcases e with e|e
  ·rcases hO b e with e|e
   ·exact .inl (.inl e)
   ·exact .inr e
  ·exact .inl (.inr e)
 have hZ:∀b,O b→h0≤b:=fun b e=>h.lo b (.inl e)
 refine⟨⟨⟨av,nv,tv,uv,kv,hl.smaller a3 (fun b e=> .inl e)⟩,fun j hj=>⟨(h.px j hj).1.kept hK (fun b e=>⟨.inl e,(h.d0 j hj b e).1⟩) a4 (fun b e=> .inr ⟨j,hj,.inl e⟩),(h.px j hj).2⟩,fun j hj=>⟨(h.py j hj).1.kept hK (fun b e=>⟨.inl e,(h.d0 j hj b e).2⟩) a4 (fun b e=> .inr ⟨j,hj,.inr e⟩),(h.py j hj).2⟩,fun j hj b hb=> ?_,h.d1,h.d2,fun b hb=> ?_,fun b hb=> ?_,h.g.kept hK (fun b e=>j0f h.h6 (hZ b e)),h.h6,j0f h.hs hK.size,a6⟩,hK.below0 h.hs hZ⟩
 ·rcases hO b hb with e|e
  ·exact h.d0 j hj b e
  ·exact⟨fun e2=>by have:=h.lt b (.inr ⟨j,hj,.inl e2⟩);omega,fun e2=>by have:=h.lt b (.inr ⟨j,hj,.inr e2⟩);omega⟩
 ·rcases a4 b hb with e|e
  ·exact h.lo b e
  ·have:=h.hs;omega
 ·rcases a3 b hb with e|e
  ·exact j0b (h.lt b e) hK.size
  ·exact hl.lt b e
def Xh:R.St:={cms:=[],brs:=[],packed:=[]}
theorem Inv.no:Inv Xh:=⟨by simp[Xh],by simp[Xh],by simp[Xh,Zr],by simp[Xh],by simp[Xh],by simp[Xh],by simp[Xh],by simp[Xh],by simp[Xh]⟩
theorem F8 {w:World}{M:Nat→Prop}{B:Nat}(hb:w.heap[B]? =some (.cells #[.slice none 0 0,.slice none 0 0,.slice none 0 0] 102 (0,0)))(hM:M B):PS w M (fun b=>b=B) B Xh:=by
 have hl:B<w.heap.size:=(Array.getElem?_eq_some_iff.1 hb).1;refine⟨.slice none 0 0,.slice none 0 0,[],[],fun b e=>e▸hM,fun b e=>e▸hl,rfl,by simp[World.cell?,hb],by simp[World.cell?,hb],fun o=>by simp[World.frozen?,hb],rfl,World.ownsRow_nil _ _ _ _,fun g e=>by simp[Value.ownBlock]at e,by simp,by simp,by simp,rfl,World.ownsRow_nil _ _ _ _,fun g e=>by simp[Value.ownBlock]at e,by simp,by simp,.slice none 0 0,by simp[World.cell?,hb],World.ownsRow_nil _ _ _ _,fun g e=>by simp[Value.ownBlock]at e⟩
theorem F7 {w:World}{M:Nat→Prop}{B:Nat}{C:Array Value}(hC:ZC C)(hb:w.heap[B]? =some (.cells C 82 (0,0)))(hM:M B):RS w M (fun b=>b=B) B Xh:=by
 have hl:B<w.heap.size:=(Array.getElem?_eq_some_iff.1 hb).1;refine⟨.slice none 0 0,.slice none 0 0,[],[],fun b e=>e▸hM,fun b e=>e▸hl,rfl,by simp[World.cell?,hb,hC.c0],by simp[World.cell?,hb,hC.c1],by simp[World.cell?,hb,Xh,hC.c2],fun o=>by simp[World.frozen?,hb],rfl,World.ownsRow_nil _ _ _ _,fun g e=>by simp[Value.ownBlock]at e,by simp,rfl,World.ownsRow_nil _ _ _ _,fun g e=>by simp[Value.ownBlock]at e,by simp,by simp,fun a b ha a0 =>⟨0,.slice none 0 0,0,by simp only[World.cell?,hb];exact hC.kn _ (by omega),by simp only[World.cell?,hb];exact hC.bs _ (by omega),by simp only[World.cell?,hb];exact hC.er _ (by omega),.inl rfl⟩⟩
theorem LW.pair {w w' :World}{h0 Wb:Nat}{O O' :Nat→Prop}{L:List SP}{names:List (Value×List UInt8)}{a4:List (Value×Int)}{last:Nat}(h:LW w h0 Wb O L names a4 last)(hK:zj O w w')(hO:∀b,O' b→O b∨w.heap.size≤b){bx by_:Nat}(h1:w.heap.size≤bx)(h2:w.heap.size≤by_)(h3:bx≠by_)(h4:¬O' bx)(h5:¬O' by_)
  (hx:w'.heap[bx]? =some (.cells #[.slice none 0 0,.slice none 0 0,.slice none 0 0] 102 (0,0))){C:Array Value}(hC:ZC C)(hy:w'.heap[by_]? =some (.cells C 82 (0,0)))
  (hl:∃av nv tv uv kv,LWx w' (fun b=>MM O L b∨O' b∨b=bx∨b=by_) O' Wb av ((L.map fun p=>(p.bx,p.by_))++ [(bx,by_)]) nv tv uv kv names a4 last):
  LW w' h0 Wb O' (L++ [⟨bx,by_,fun b=>b=bx,fun b=>b=by_,Xh,Xh⟩]) names a4 last∧Below h0 w w' :=by
 obtain⟨av,nv,tv,uv,kv,hl⟩:=hl;generalize hq:(⟨bx,by_,fun b=>b=bx,fun b=>b=by_,Xh,Xh⟩:SP)=q;have q1:q.bx=bx:=by rw[←hq]
 have q2:q.by_=by_:=by rw[←hq]
 have q3:∀b,q.ox b↔b=bx:=by rw[←hq];intro b;exact Iff.rfl
 have q4:∀b,q.oy b↔b=by_:=by rw[←hq];intro b;exact Iff.rfl
 have a6:L.length<(L++ [q]).length:=by simp
 have a2:(L++ [q])[L.length]'a6=q:=by simp
 have a1:∀(j:Nat) (hj:j<(L++ [q]).length),(j=L.length∧(L++ [q])[j]=q)∨(∃a0 :j<L.length,(L++ [q])[j]=L[j]):=fun j hj=>by
  by_cases e:j<L.length
  ·exact .inr ⟨e,List.getElem_append_left e⟩
  ·have:j=L.length:=by simp at hj;omega
   subst this;exact .inl ⟨rfl,a2⟩
 have a3:∀b,MM O' (L++ [q]) b→MM O L b∨O' b∨b=bx∨b=by_:=by
  rintro b (e|⟨j,hj,e⟩)
  ·exact .inr (.inl e)
  ·rcases a1 j hj with⟨_,hg⟩|⟨a0,hg⟩
   ·rw[hg]at e
    rcases e with e|e
    ·exact .inr (.inr (.inl ((q3 b).1 e)))
    ·exact .inr (.inr (.inr ((q4 b).1 e)))
   ·rw[hg]at e;exact .inl (.inr ⟨j,a0,e⟩)
 have a8:∀b,MM O' (L++ [q]) b→MM O L b∨w.heap.size≤b:=fun b e=>by
  rcases a3 b e with e|e|e|e
  ·exact .inl e
  ·rcases hO b e with e|e
   ·exact .inl (.inl e)
   ·exact .inr e
  all_goals
   exact .inr (by omega)
 have hZ:∀b,O b→h0≤b:=fun b e=>h.lo b (.inl e)
 have im:∀(j:Nat) (hj:j<L.length) b,(L[j].ox b∨L[j].oy b)→MM O' (L++ [q]) b:=fun j hj b e=> .inr ⟨j,by simp;omega,by rw[List.getElem_append_left hj];exact e⟩
 have iq:∀b,(q.ox b∨q.oy b)→MM O' (L++ [q]) b:=fun b e=> .inr ⟨L.length,a6,by rw[a2];exact e⟩
 have b1:bx<w'.heap.size:=(Array.getElem?_eq_some_iff.1 hx).1;have b2:by_<w'.heap.size:=(Array.getElem?_eq_some_iff.1 hy).1;refine⟨⟨⟨av,nv,tv,uv,kv,?_⟩,fun j hj=> ?_,fun j hj=> ?_,fun j hj b hb=> ?_,fun j hj b hb=> ?_,fun i j hi hj b0 b hb=> ?_,fun b hb=> ?_,fun b hb=> ?_,h.g.kept hK (fun b e=>j0f h.h6 (hZ b e)),h.h6,j0f h.hs hK.size,h.nb⟩,hK.below0 h.hs hZ⟩
 ·rw[List.map_append,List.map_cons,List.map_nil,q1,q2]
  exact hl.smaller a3 (fun b e=> .inl e)
 ·rcases a1 j hj with⟨_,hg⟩|⟨a0,hg⟩
  ·rw[hg,←hq];exact⟨F8 hx (iq _ (.inl ((q3 _).2 rfl))|>fun e=>by rw[hq];exact e),Inv.no⟩
  ·rw[hg];exact⟨(h.px j a0).1.kept hK (fun b e=>⟨.inl e,(h.d0 j a0 b e).1⟩) a8 (fun b e=>im j a0 b (.inl e)),(h.px j a0).2⟩
 ·rcases a1 j hj with⟨_,hg⟩|⟨a0,hg⟩
  ·rw[hg,←hq];exact⟨F7 hC hy (iq _ (.inr ((q4 _).2 rfl))|>fun e=>by rw[hq];exact e),Inv.no⟩
  ·rw[hg];exact⟨(h.py j a0).1.kept hK (fun b e=>⟨.inl e,(h.d0 j a0 b e).2⟩) a8 (fun b e=>im j a0 b (.inr e)),(h.py j a0).2⟩
 ·rcases a1 j hj with⟨_,hg⟩|⟨a0,hg⟩
  ·rw[hg];exact⟨fun e=>h4 (by rw[←(q3 b).1 e];exact hb),fun e=>h5 (by rw[←(q4 b).1 e];exact hb)⟩
  ·rw[hg]
   rcases hO b hb with e|e
   ·exact h.d0 j a0 b e
   ·exact⟨fun e2=>by have:=h.lt b (.inr ⟨j,a0,.inl e2⟩);omega,fun e2=>by have:=h.lt b (.inr ⟨j,a0,.inr e2⟩);omega⟩
 ·rcases a1 j hj with⟨_,hg⟩|⟨a0,hg⟩
  ·rw[hg]at hb⊢;exact fun e=>h3 (by rw[←(q3 b).1 hb,←(q4 b).1 e])
  ·rw[hg]at hb⊢;exact h.d1 j a0 b hb
 ·have a7:∀b,(q.ox b∨q.oy b)→w.heap.size≤b:=fun b e=>by
   rcases e with e|e
   ·have:=(q3 b).1 e;omega
   ·have:=(q4 b).1 e;omega
  rcases a1 i hi with⟨e1,hg⟩|⟨a9,hg⟩
  ·rcases a1 j hj with⟨e2,a5⟩|⟨a0,a5⟩
   ·exact absurd (e1.trans e2.symm) b0
   ·rw[hg]at hb;rw[a5]
    exact fun e=>by have:=h.lt b (.inr ⟨j,a0,e⟩);have:=a7 b hb;omega
  ·rcases a1 j hj with⟨e2,a5⟩|⟨a0,a5⟩
   ·rw[hg]at hb;rw[a5]
    exact fun e=>by have:=h.lt b (.inr ⟨i,a9,hb⟩);have:=a7 b e;omega
   ·rw[hg]at hb;rw[a5];exact h.d2 i j a9 a0 b0 b hb
 ·rcases a8 b hb with e|e
  ·exact h.lo b e
  ·have:=h.hs;omega
 ·rcases a3 b hb with e|e|e|e
  ·exact j0b (h.lt b e) hK.size
  ·exact hl.lt b e
  all_goals
   omega
theorem LW.X {W w' :World}{h0 Wb:Nat}{O:Nat→Prop}{L:List SP}{names:List (Value×List UInt8)}{a0:List (Value×Int)}{last:Nat}(h:LW W h0 Wb O L names a0 last)(i:Nat)(hi:i<L.length){st' :R.St}(a1:zR W w' (MM O L) L[i].ox L[i].bx st')(hI:Inv st'):
  ∃L1,L1.length=L.length∧LW w' h0 Wb O L1 names a0 last∧(∃h1:i<L1.length,L1[i].bx=L[i].bx∧L1[i].by_=L[i].by_∧L1[i].sx=st' ∧L1[i].sy=L[i].sy∧L1[i].oy=L[i].oy)∧(∀(j:Nat) (hj:j<L.length) (a2:j<L1.length),j≠i→L1[j]=L[j])∧Below h0 W w' ∧zj L[i].ox W w' :=by
 have hk:zj L[i].ox W w' :=by obtain⟨_,_,hk,_⟩:=a1;exact hk
 obtain⟨o',hl,hb⟩:=h.stepX i hi a1 hI;refine⟨_,by rw[List.length_set],hl,⟨by simpa using hi,by simp,by simp,by simp,by simp,by simp⟩,fun j hj a2 a3=> ?_,hb,hk⟩;rw[List.getElem_set_ne (fun e=>a3 e.symm)]
theorem LW.Y {W w' :World}{h0 Wb:Nat}{O:Nat→Prop}{L:List SP}{names:List (Value×List UInt8)}{a0:List (Value×Int)}{last:Nat}(h:LW W h0 Wb O L names a0 last)(i:Nat)(hi:i<L.length){st' :R.St}(a1:zG W w' (MM O L) L[i].oy L[i].by_ st')(hI:Inv st'):
  ∃L1,L1.length=L.length∧LW w' h0 Wb O L1 names a0 last∧(∃h1:i<L1.length,L1[i].bx=L[i].bx∧L1[i].by_=L[i].by_∧L1[i].sy=st' ∧L1[i].sx=L[i].sx∧L1[i].ox=L[i].ox)∧(∀(j:Nat) (hj:j<L.length) (a2:j<L1.length),j≠i→L1[j]=L[j])∧Below h0 W w' ∧zj L[i].oy W w' :=by
 have hk:zj L[i].oy W w' :=by obtain⟨_,_,hk,_⟩:=a1;exact hk
 obtain⟨o',hl,hb⟩:=h.stepY i hi a1 hI;refine⟨_,by rw[List.length_set],hl,⟨by simpa using hi,by simp,by simp,by simp,by simp,by simp⟩,fun j hj a2 a3=> ?_,hb,hk⟩;rw[List.getElem_set_ne (fun e=>a3 e.symm)]
theorem Qj {w W w' :World}{h0 Wb:Nat}{O:Nat→Prop}{L:List SP}{names:List (Value×List UInt8)}{a0:List (Value×Int)}{last:Nat}(h:LW w h0 Wb O L names a0 last)(_hb:Below w.heap.size w W){Z:Nat→Prop}(hZ:∀b,Z b→MM O L b)(hk:zj Z W w'){k:Nat}(a2:w.heap.size≤k)(a1:k<W.heap.size)(o:Nat):w'.cell? ⟨k,o,none⟩=W.cell? ⟨k,o,none⟩:=
 hk.cell (p:=⟨k,o,none⟩) a1 (fun e=>by have:=h.lt k (hZ k e);omega)
