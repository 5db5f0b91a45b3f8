import Derived.Test.YtolgebdmffcemaaGreatDoorQ26
set_option linter.all false
set_option maxHeartbeats 20000000
set_option maxRecDepth 1000000
namespace Go.Proofs.YtolgebdmffcemaaGreatDoor
open Go.RowKit
theorem FZ (v:Value)(t:List R.Leaf)(s text:List UInt8)(w:World)(M:Nat→Prop)(hM:∀b,M b→b<w.heap.size)(h:PT w M v t)(b2:OkT t)(hs:R.isPath s=true)(e3:text.length≤maxLen):
  Calls Tryz.prog 63 #[v,.string ⟨s.toArray⟩,.string ⟨text.toArray⟩] w fun e w' =>vX w w' M e t (R.takeV (R.at_ t s) s text):=by
 have e2:=b2.few;have b3:=Uc text w e3;have b4:=ki v t s 3 w M h (by omega) b2.sort;have d4:=fun W (hW:Below w.heap.size w W)=>Ug v t s W M (h.below hW) (by omega) b2.sort
 have a6:=atX b2 s;have HM:=z9 hM;have a1:=fun W (hW:Below w.heap.size w W) (y:R.Leaf) (iv:Value) (a2:It W M (y,iv)) (hp:y.path=s) (hx:y.kind=0∨OkL y) (h0:y.kind=0→pk y=0)=>Jr v t y iv W M (fun b hb=>by have:=hM b hb;have:=hW.size;omega) (h.below hW) b2 (by rw[hp];exact hs) a2 hx h0
 clear h b2 hM;generalize R.at_ t s=x at*;by_cases c0:(!R.isText text||text==[])=true
 ·have HR:Hid (R.takeV x s text=(3,x)):=by show _=_;rw[R.takeV,if_pos c0]
  rw[c0]at b3;clear a6 c0 a1;go_enter Tryz.func63,Tryz.ntmps63;go_wp2_with fail
  refine b3.mono ?_;rintro e w0 ⟨rfl,b0⟩;subst b0;go_wp2;go_ret2;exact⟨none,0,0,Zp (by rw[HR.out]),(fun h=>by rw[HR.out]at h;cases h),j0g _ _⟩
 have b5 :(!R.isText text||text==[])=false:=by simpa using c0
 rw[b5]at b3;by_cases c1:x.kind≠0∧x.kind≠42
 ·have e1:((pk x !=0)&&(pk x !=3))=true:=by
   rw[a6.oth 3 42 (by simp)];exact decide_eq_true c1
  have HR:Hid (R.takeV x s text=(6,x)):=by show _=_;rw[R.takeV,if_neg c0,if_pos c1]
  rw[e1]at b4;clear a6 c1 e1 c0 b5 a1;go_enter Tryz.func63,Tryz.ntmps63;go_wp2_with fail
  refine b3.mono ?_;rintro e w0 ⟨rfl,b0⟩;subst b0;go_wp2_with fail
  refine b4.mono ?_;rintro e w1 ⟨rfl,a8⟩;go_wp2;go_ret2;exact⟨none,0,0,Zp (by rw[HR.out]),(fun h=>by rw[HR.out]at h;cases h),a8⟩
 have e1:((pk x !=0)&&(pk x !=3))=false:=by
  rw[a6.oth 3 42 (by simp)];exact decide_eq_false c1
 rw[e1]at b4;have hk:x=R.none s∨(OkL x∧x.kind=42):=by
  rcases a6.kinds with k|k|k|k
  ·exact .inl k.2.2
  ·exact absurd ⟨by rw[k.1];decide,by rw[k.1];decide⟩ c1
  ·exact absurd ⟨by rw[k.1];decide,by rw[k.1];decide⟩ c1
  ·exact .inr ⟨k.2.2,k.1⟩
 have b6:Z0 x.items∧x.items.length≤8:=by
  rcases hk with hk|⟨hk,_⟩
  ·rw[hk];exact⟨fun i j hi=>by simp[R.none]at hi,by simp[R.none]⟩
  ·exact⟨hk.sort,hk.many⟩
 have a3:=fun W (ia:Option Addr) (ic:Nat) (a2:It W M (x,.slice ia x.items.length ic))=>qU x (.slice ia x.items.length ic) text W M a2 (by have:=b6.2;omega) b6.1
 have c7:=z9 c0;have c8:=z9 c1
 cases a0:(x.items.any fun y=>y==text)
 ·have HR:Hid (R.takeV x s text=(10,x)):=by show _=_;rw[R.takeV,if_neg c7.out,if_neg c8.out,if_pos a0]
  rw[a0]at a3;clear a6 c1 e1 c0 b5 a1 hk b6 a0;go_enter Tryz.func63,Tryz.ntmps63;go_wp2_with fail
  refine b3.mono ?_;rintro e w0 ⟨rfl,b0⟩;subst b0;go_wp2_with fail
  refine b4.mono ?_;rintro e w1 ⟨rfl,a8⟩;go_wp2_with fail
  refine(d4 _ a8).mono ?_;rintro e w2 ⟨ia,ic,rfl,a2,a5⟩;have a7:=a8.trans (a5.mono a8.size);go_wp2_with fail
  refine(a3 _ ia ic (Rd.below a2 (by first|exact a5|exact a5.alloc a5.size _))).mono ?_;rintro e w3 ⟨rfl,a9⟩;go_wp2;go_ret2;exact⟨none,0,0,Zp (by rw[HR.out]),(fun h=>by rw[HR.out]at h;cases h),by first|exact a7.trans (a9.mono a7.size)|exact(a7.alloc a7.size _).trans (a9.mono (by simp;exact Nat.le_succ_of_le a7.size))⟩
 ·have b1:OkL x:=by
   rcases hk with hk|hk
   ·rw[hk]at a0;simp[R.none]at a0
   ·exact hk.1
  have HR:Hid (R.takeV x s text=(0,Zn x text)):=by
   show _=_;rw[R.takeV,if_neg c7.out,if_neg c8.out,if_neg (by rw[a0];simp),Zn,a6.path]
  have d7:=fun W (hW:Below w.heap.size w W) (ia:Option Addr) (ic:Nat) (a2:It W M (x,.slice ia x.items.length ic))=>j7 x (.slice ia x.items.length ic) text W M (fun b hb=>by have:=HM.out b hb;have:=hW.size;omega) a2 b1 a0
  have d3:(Zn x text).kind=0∨OkL (Zn x text):=by
   by_cases hw:R.without x.items text=[]
   ·left;simp[Zn,hw]
   ·right
    refine⟨b1.path,.inr (.inr ⟨by simp[Zn,hw],rfl,rfl,hw⟩),by simp[Zn],by simp[Zn],rfl,?_,fun i hi=>b1.item i (List.mem_filter.1 hi).1,zV.i (List.Pairwise.sublist List.filter_sublist b1.sort.k)⟩;have:=List.length_filter_le (fun y:List UInt8=> !(y==text)) x.items;have:=b1.many;simp only[Zn,R.without];omega
  have h0:(Zn x text).kind=0→pk (Zn x text)=0:=fun e=>by unfold pk;rw[e];simp
  have a4 :=fun W hW iv a2=>a1 W hW (Zn x text) iv a2 a6.path d3 h0
  have d6:(Zn x text).path=s:=a6.path;simp only[d6]at a4;rw[a0]at a3;clear a6 c1 e1 c0 b5 a1 hk b6 a0 b1 d3 h0 d6;go_enter Tryz.func63,Tryz.ntmps63;go_wp2_with fail
  refine b3.mono ?_;rintro e w0 ⟨rfl,b0⟩;subst b0;go_wp2_with fail
  refine b4.mono ?_;rintro e w1 ⟨rfl,a8⟩;go_wp2_with fail
  refine(d4 _ a8).mono ?_;rintro e w2 ⟨ia,ic,rfl,a2,a5⟩;have a7:=a8.trans (a5.mono a8.size);go_wp2_with fail
  refine(a3 _ ia ic (Rd.below a2 (by first|exact a5|exact a5.alloc a5.size _))).mono ?_;rintro e w3 ⟨rfl,a9⟩;have y0:w3.cell? ⟨w2.heap.size,0,none⟩=some (.int .i64 (pk x)):=by rw[a9.cell (p:=⟨w2.heap.size,0,none⟩) (by simp)];simp
  have y1:w3.cell? ⟨w2.heap.size,1,none⟩=some (.int .i64 x.n):=by rw[a9.cell (p:=⟨w2.heap.size,1,none⟩) (by simp)];simp
  have y2:w3.cell? ⟨w2.heap.size,2,none⟩=some (.string ⟨x.text.toArray⟩):=by rw[a9.cell (p:=⟨w2.heap.size,2,none⟩) (by simp)];simp
  have y3:w3.cell? ⟨w2.heap.size,3,none⟩=some (.slice ia x.items.length ic):=by rw[a9.cell (p:=⟨w2.heap.size,3,none⟩) (by simp)];simp
  have c9:=(a7.alloc a7.size _).trans (a9.mono (by simp;exact Nat.le_succ_of_le a7.size));have b8:Hid (It w3 M (x,.slice ia x.items.length ic)):=Rd.below (Rd.below a2 a5) (((j0g _ _).alloc (j0a _) _).trans (a9.mono (by simp)));have b7:=z9 c9;clear a9 a2 a5 a8 a7 c9 a3;go_wp2_with fail
  refine(d7 _ b7.out ia ic b8.out).mono ?_;rintro e w4 ⟨ja,jc,rfl,c6,d8⟩;have b9:=b7.out.trans (d8.mono b7.out.size);go_wp2_with fail
  refine(a4 _ b9 _ c6).mono ?_;rintro e w5 ⟨v5,rfl,d5,d9⟩;obtain⟨va,vc,rfl⟩:=vk d5;go_wp2;go_ret2;exact⟨va,_,vc,Zp (by rw[HR.out]),(fun _=>by rw[HR.out];exact d5),b9.trans (d9.mono b9.size)⟩
theorem vO (B:Nat)(st:R.St)(a0 path:List UInt8)(kind n:Int)(text:List UInt8)(w:World)(M O:Nat→Prop)(F:Nat)(C:List Value)(r:Int×R.Leaf)(h:PS w M O B st)(hM:∀b,M b→b<w.heap.size)(hi:Inv st)(hG:ZL w)(d8:path.length≤maxLen)
  (d5:F=56∨F=73∨F=60∨F=62∨F=75)
  (hr:r=R.valV kind (R.workOf st a0) (R.at_ (R.workOf st a0) path) path n text)
  (hF:R.isPath path=true→∀ta tc W,Below w.heap.size w W→PT W M (.slice ta (R.workOf st a0).length tc) (R.workOf st a0)→Calls Tryz.prog F (.slice ta (R.workOf st a0).length tc::C).toArray W fun e w' =>vX W w' M e (R.workOf st a0) r):
  Calls Tryz.prog 55 #[.pointer (some ⟨B,0,none⟩),.string ⟨a0.toArray⟩,.string ⟨path.toArray⟩,.func (.func F) #[] C.toArray] w fun e w' =>e= .returned (.int .i64 (R.change st kind a0 path n text).1)∧zS w w' M O B (R.change st kind a0 path n text).2:=by
 have a9:=h;obtain⟨bv,cv,LB,LCm,hP⟩:=h;have a4:=QL hP hi a0;obtain⟨mx,d7⟩:=hG.mx;have b3:=fun W (hW:Below w.heap.size w W)=>GN path W d8 mx (by rw[hW.cell (p:=⟨0,0,none⟩) (by have:=hG.size;show 0<_;omega)];exact d7)
 have a7:=z9 a9;by_cases hf:R.fnd st.brs a0<st.brs.length
 ·obtain⟨hl,ha,he,_,c6⟩:=Zy hP a0 hf
  have a1:¬R.fndI st.brs a0<0:=by rw[R.fndI,if_pos hf];omega
  cases a2:R.isPath path
  ·have HR:Hid (R.change st kind a0 path n text=(2,st)):=by show _=_;rw[R.change,if_neg a1,if_pos a2]
   rw[a2]at b3;rw[ha]at a4;generalize(LB[R.fnd st.brs a0]'hl).2.1=bb at*;clear a9 hi hP hf a1 a2 he ha c6;go_enter Tryz.func55,Tryz.ntmps55;go_wp2_with fail
   refine a4.mono ?_;rintro e w1 ⟨rfl,a6⟩;subst a6;go_wp2_with fail
   refine(b3 _ (j0g _ _)).mono ?_;rintro e w2 ⟨rfl,a3⟩;go_wp2;go_ret;exact⟨xB (by rw[HR.out]),by rw[HR.out];exact zS.same a7.out a3⟩
  ·have b0:=hP.at_ _ (j0c hl)
   have b7:=hP.blk _ (j0c hl);have b6:=hP.lt _ b7.1;rw[a2]at b3;rw[ha]at a4;have b4:Hid (∀(tv:Value) (t:List R.Leaf) (w5:World),Below w.heap.size w w5→PT w5 M tv t→zS w (w5.setCell ⟨(LB[R.fnd st.brs a0]'hl).2.1,2,none⟩ tv) M O B (R.setWork st (R.fnd st.brs a0) t)):=fun tv t w5 hb ht=>UT hP hl hb ht
   have b8:=Zs hi a0;have a5:=b0.work;rw[←c6]at a5;have c2:=b0.c2;have d4:=b0.fr 2;obtain⟨ta,tc,c8⟩:=vk a5;rw[c8]at c2 a5;have c7:Hid (R.change st kind a0 path n text=if r.1=0 then(0,R.setWork st (R.fnd st.brs a0) (R.set (R.workOf st a0) r.2))else(r.1,st)):=by
    show _=_;rw[R.change,if_neg a1,if_neg (by rw[a2];simp),hr]
   have b5:=fun W (hW:Below w.heap.size w W)=>hF a2 ta tc W hW (a5.below hW)
   generalize(LB[R.fnd st.brs a0]'hl).2.1=bb at*;clear a9 hi hP hf a1 a2 he ha c6 a5 b0 b8 c8 hF hr;generalize R.workOf st a0=t at*;rcases d5 with rfl|rfl|rfl|rfl|rfl
   all_goals
    have d9:=a7.out;go_enter Tryz.func55,Tryz.ntmps55;go_wp2_with fail
    refine a4.mono ?_;rintro e w1 ⟨rfl,a6⟩;subst a6;go_wp2_with fail
    refine(b3 _ (j0g _ _)).mono ?_;rintro e w2 ⟨rfl,a3⟩;have d2:=(a3.cell (p:=⟨bb,2,none⟩) b6).trans c2;go_wp2_with fail
    refine(b5 _ a3).mono ?_;rintro e w3 ⟨va,vn,vc,rfl,b9,d6⟩;have a8:=a3.trans (d6.mono a3.size);by_cases hr:r.1=0
    ·have b1:(r.1==0)=true:=by simpa using hr
     have b2:(r.1 !=0)=false:=by simp[hr]
     have d3:=(a8.cell (p:=⟨bb,2,none⟩) b6).trans c2;have f3:=(a8.frozen (p:=⟨bb,2,none⟩) b6).trans d4;have c9:=z9 (b9 hr);have HR:=z9 hr;clear hr b9 d2;go_wp2;go_ret;rw[c7.out,if_pos HR.out];exact⟨rfl,b4.out _ _ _ a8 c9.out⟩
    ·have b1:(r.1==0)=false:=by simpa using hr
     have b2:(r.1 !=0)=true:=by simp[hr]
     have HR:=z9 hr;clear hr b9 d2;go_wp2;go_ret;rw[c7.out,if_neg HR.out];exact⟨rfl,zS.same a7.out a8⟩
 ·have a1:R.fndI st.brs a0<0:=by rw[R.fndI,if_neg hf];omega
  have HR:Hid (R.change st kind a0 path n text=(5,st)):=by show _=_;rw[R.change,if_pos a1]
  have ha:Zg LB st a0=none:=by rw[Zg,if_neg hf]
  rw[ha]at a4;clear a9 hi hP hf a1 ha;go_enter Tryz.func55,Tryz.ntmps55;go_wp2_with fail
  refine a4.mono ?_;rintro e w1 ⟨rfl,a6⟩;subst a6;go_wp2;go_ret;exact⟨xB (by rw[HR.out]),by rw[HR.out];exact zS.same a7.out (j0g _ _)⟩
theorem cf (tv:Value)(t:List R.Leaf)(path:List UInt8)(n:Int)(w:World)(M:Nat→Prop)(p0 p1:Nat)(hM:∀b,M b→b<w.heap.size)(h:PT w M tv t)(a0:OkT t)(hs:R.isPath path=true)(a2:n≤9223372036854775807)(a3: -9223372036854775808≤n)
  (a4:w.cell? ⟨p0,0,none⟩=some (.string ⟨path.toArray⟩))(a5:w.cell? ⟨p1,0,none⟩=some (.int .i64 n)):
  Calls Tryz.prog 56 #[tv,.pointer (some ⟨p0,0,none⟩),.pointer (some ⟨p1,0,none⟩)] w fun e w' =>vX w w' M e t (R.addV t (R.at_ t path) path n):=by
 have a1:=C3 tv t path n w M hM h a0 hs a2 a3;clear h a0;go_enter Tryz.func56,Tryz.ntmps56;go_wp2_with fail
 refine a1.mono ?_;rintro e w1 ⟨va,vn,vc,rfl,hp,hb⟩;go_wp2;go_ret2;exact⟨va,vn,vc,rfl,hp,hb⟩
theorem F4 (tv:Value)(t:List R.Leaf)(path:List UInt8)(text:List UInt8)(w:World)(M:Nat→Prop)(p0 p1:Nat)(hM:∀b,M b→b<w.heap.size)(h:PT w M tv t)(a0:OkT t)(hs:R.isPath path=true)(a2:text.length≤maxLen)
  (a3:w.cell? ⟨p0,0,none⟩=some (.string ⟨path.toArray⟩))(a4:w.cell? ⟨p1,0,none⟩=some (.string ⟨text.toArray⟩)):
  Calls Tryz.prog 73 #[tv,.pointer (some ⟨p0,0,none⟩),.pointer (some ⟨p1,0,none⟩)] w fun e w' =>vX w w' M e t (R.noteV t (R.at_ t path) path text):=by
 have a1:=F_ tv t path text w M hM h a0 hs a2;clear h a0;go_enter Tryz.func73,Tryz.ntmps73;go_wp2_with fail
 refine a1.mono ?_;rintro e w1 ⟨va,vn,vc,rfl,hp,hb⟩;go_wp2;go_ret2;exact⟨va,vn,vc,rfl,hp,hb⟩
theorem c9 (tv:Value)(t:List R.Leaf)(path:List UInt8)(text:List UInt8)(w:World)(M:Nat→Prop)(p0 p1:Nat)(hM:∀b,M b→b<w.heap.size)(h:PT w M tv t)(a0:OkT t)(hs:R.isPath path=true)(a2:text.length≤maxLen)
  (a3:w.cell? ⟨p0,0,none⟩=some (.string ⟨path.toArray⟩))(a4:w.cell? ⟨p1,0,none⟩=some (.string ⟨text.toArray⟩)):
  Calls Tryz.prog 60 #[tv,.pointer (some ⟨p0,0,none⟩),.pointer (some ⟨p1,0,none⟩)] w fun e w' =>vX w w' M e t (R.putV t (R.at_ t path) path text):=by
 have a1:=C2 tv t path text w M hM h a0 hs a2;clear h a0;go_enter Tryz.func60,Tryz.ntmps60;go_wp2_with fail
 refine a1.mono ?_;rintro e w1 ⟨va,vn,vc,rfl,hp,hb⟩;go_wp2;go_ret2;exact⟨va,vn,vc,rfl,hp,hb⟩
theorem F3 (tv:Value)(t:List R.Leaf)(path:List UInt8)(text:List UInt8)(w:World)(M:Nat→Prop)(p0 p1:Nat)(hM:∀b,M b→b<w.heap.size)(h:PT w M tv t)(a0:OkT t)(hs:R.isPath path=true)(a2:text.length≤maxLen)
  (a3:w.cell? ⟨p0,0,none⟩=some (.string ⟨path.toArray⟩))(a4:w.cell? ⟨p1,0,none⟩=some (.string ⟨text.toArray⟩)):
  Calls Tryz.prog 62 #[tv,.pointer (some ⟨p0,0,none⟩),.pointer (some ⟨p1,0,none⟩)] w fun e w' =>vX w w' M e t (R.takeV (R.at_ t path) path text):=by
 have a1:=FZ tv t path text w M hM h a0 hs a2;clear h a0;go_enter Tryz.func62,Tryz.ntmps62;go_wp2_with fail
 refine a1.mono ?_;rintro e w1 ⟨va,vn,vc,rfl,hp,hb⟩;go_wp2;go_ret2;exact⟨va,vn,vc,rfl,hp,hb⟩
theorem C5 (B:Nat)(st:R.St)(a0 path:List UInt8)(n:Int)(w:World)(M O:Nat→Prop)(h:PS w M O B st)(hM:∀b,M b→b<w.heap.size)(hi:Inv st)(hG:ZL w)(a5:path.length≤maxLen)(a2:n≤9223372036854775807)(a3: -9223372036854775808≤n):
  Calls Tryz.prog 27 #[.pointer (some ⟨B,0,none⟩),.string ⟨a0.toArray⟩,.string ⟨path.toArray⟩,.int .i64 n] w fun e w' =>e= .returned (.int .i64 (R.change st 35 a0 path n []).1)∧zS w w' M O B (R.change st 35 a0 path n []).2:=by
 have hB:Below w.heap.size w ((w.alloc (Obj.cells #[.string ⟨path.toArray⟩] 9)).alloc (Obj.cells #[.int .i64 n] 3)):=((j0g _ _).alloc (j0a _) _).alloc (by simp) _;have a1:=vO B st a0 path 35 n [] ((w.alloc (Obj.cells #[.string ⟨path.toArray⟩] 9)).alloc (Obj.cells #[.int .i64 n] 3)) M O 56 [.pointer (some ⟨w.heap.size,0,none⟩),.pointer (some ⟨w.heap.size+1,0,none⟩)] _ (h.below hB) (fun b hb=>by have:=hM b hb;simp;omega) hi (hG.below hB) a5 (.inl rfl) rfl (fun a4 ta tc W hW hp=>cf _ _ path n W M w.heap.size (w.heap.size+1) (fun b hb=>by have:=hM b hb;have:=hW.size;simp at this;omega) hp (Zs hi a0) a4 a2 a3 (by rw[hW.cell (p:=⟨w.heap.size,0,none⟩) (by simp<;>omega)];simp) (by rw[hW.cell (p:=⟨w.heap.size+1,0,none⟩) (by simp)];simp));clear h;go_enter Tryz.func27,Tryz.ntmps27;go_wp2_with fail
 refine a1.mono ?_;rintro e w1 ⟨rfl,a6⟩;go_wp2;go_ret;exact⟨rfl,a6.after hB⟩
theorem cd (B:Nat)(st:R.St)(a0 path:List UInt8)(text:List UInt8)(w:World)(M O:Nat→Prop)(h:PS w M O B st)(hM:∀b,M b→b<w.heap.size)(hi:Inv st)(hG:ZL w)(a3:path.length≤maxLen)(a5:text.length≤maxLen):
  Calls Tryz.prog 41 #[.pointer (some ⟨B,0,none⟩),.string ⟨a0.toArray⟩,.string ⟨path.toArray⟩,.string ⟨text.toArray⟩] w fun e w' =>e= .returned (.int .i64 (R.change st 61 a0 path 0 text).1)∧zS w w' M O B (R.change st 61 a0 path 0 text).2:=by
 have hB:Below w.heap.size w ((w.alloc (Obj.cells #[.string ⟨path.toArray⟩] 9)).alloc (Obj.cells #[.string ⟨text.toArray⟩] 9)):=((j0g _ _).alloc (j0a _) _).alloc (by simp) _;have a1:=vO B st a0 path 61 0 text ((w.alloc (Obj.cells #[.string ⟨path.toArray⟩] 9)).alloc (Obj.cells #[.string ⟨text.toArray⟩] 9)) M O 73 [.pointer (some ⟨w.heap.size,0,none⟩),.pointer (some ⟨w.heap.size+1,0,none⟩)] _ (h.below hB) (fun b hb=>by have:=hM b hb;simp;omega) hi (hG.below hB) a3 (.inr (.inl rfl)) rfl (fun a2 ta tc W hW hp=>F4 _ _ path text W M w.heap.size (w.heap.size+1) (fun b hb=>by have:=hM b hb;have:=hW.size;simp at this;omega) hp (Zs hi a0) a2 a5 (by rw[hW.cell (p:=⟨w.heap.size,0,none⟩) (by simp<;>omega)];simp) (by rw[hW.cell (p:=⟨w.heap.size+1,0,none⟩) (by simp)];simp));clear h;go_enter Tryz.func41,Tryz.ntmps41;go_wp2_with fail
 refine a1.mono ?_;rintro e w1 ⟨rfl,a4⟩;go_wp2;go_ret;exact⟨rfl,a4.after hB⟩
theorem C4 (B:Nat)(st:R.St)(a0 path:List UInt8)(text:List UInt8)(w:World)(M O:Nat→Prop)(h:PS w M O B st)(hM:∀b,M b→b<w.heap.size)(hi:Inv st)(hG:ZL w)(a3:path.length≤maxLen)(a5:text.length≤maxLen):
  Calls Tryz.prog 31 #[.pointer (some ⟨B,0,none⟩),.string ⟨a0.toArray⟩,.string ⟨path.toArray⟩,.string ⟨text.toArray⟩] w fun e w' =>e= .returned (.int .i64 (R.change st 42 a0 path 0 text).1)∧zS w w' M O B (R.change st 42 a0 path 0 text).2:=by
 have hB:Below w.heap.size w ((w.alloc (Obj.cells #[.string ⟨path.toArray⟩] 9)).alloc (Obj.cells #[.string ⟨text.toArray⟩] 9)):=((j0g _ _).alloc (j0a _) _).alloc (by simp) _;have a1:=vO B st a0 path 42 0 text ((w.alloc (Obj.cells #[.string ⟨path.toArray⟩] 9)).alloc (Obj.cells #[.string ⟨text.toArray⟩] 9)) M O 60 [.pointer (some ⟨w.heap.size,0,none⟩),.pointer (some ⟨w.heap.size+1,0,none⟩)] _ (h.below hB) (fun b hb=>by have:=hM b hb;simp;omega) hi (hG.below hB) a3 (.inr (.inr (.inl rfl))) rfl (fun a2 ta tc W hW hp=>c9 _ _ path text W M w.heap.size (w.heap.size+1) (fun b hb=>by have:=hM b hb;have:=hW.size;simp at this;omega) hp (Zs hi a0) a2 a5 (by rw[hW.cell (p:=⟨w.heap.size,0,none⟩) (by simp<;>omega)];simp) (by rw[hW.cell (p:=⟨w.heap.size+1,0,none⟩) (by simp)];simp));clear h;go_enter Tryz.func31,Tryz.ntmps31;go_wp2_with fail
 refine a1.mono ?_;rintro e w1 ⟨rfl,a4⟩;go_wp2;go_ret;exact⟨rfl,a4.after hB⟩
theorem c6 (B:Nat)(st:R.St)(a0 path:List UInt8)(text:List UInt8)(w:World)(M O:Nat→Prop)(h:PS w M O B st)(hM:∀b,M b→b<w.heap.size)(hi:Inv st)(hG:ZL w)(a3:path.length≤maxLen)(a5:text.length≤maxLen):
  Calls Tryz.prog 32 #[.pointer (some ⟨B,0,none⟩),.string ⟨a0.toArray⟩,.string ⟨path.toArray⟩,.string ⟨text.toArray⟩] w fun e w' =>e= .returned (.int .i64 (R.change st 45 a0 path 0 text).1)∧zS w w' M O B (R.change st 45 a0 path 0 text).2:=by
 have hB:Below w.heap.size w ((w.alloc (Obj.cells #[.string ⟨path.toArray⟩] 9)).alloc (Obj.cells #[.string ⟨text.toArray⟩] 9)):=((j0g _ _).alloc (j0a _) _).alloc (by simp) _;have a1:=vO B st a0 path 45 0 text ((w.alloc (Obj.cells #[.string ⟨path.toArray⟩] 9)).alloc (Obj.cells #[.string ⟨text.toArray⟩] 9)) M O 62 [.pointer (some ⟨w.heap.size,0,none⟩),.pointer (some ⟨w.heap.size+1,0,none⟩)] _ (h.below hB) (fun b hb=>by have:=hM b hb;simp;omega) hi (hG.below hB) a3 (.inr (.inr (.inr (.inl rfl)))) rfl (fun a2 ta tc W hW hp=>F3 _ _ path text W M w.heap.size (w.heap.size+1) (fun b hb=>by have:=hM b hb;have:=hW.size;simp at this;omega) hp (Zs hi a0) a2 a5 (by rw[hW.cell (p:=⟨w.heap.size,0,none⟩) (by simp<;>omega)];simp) (by rw[hW.cell (p:=⟨w.heap.size+1,0,none⟩) (by simp)];simp));clear h;go_enter Tryz.func32,Tryz.ntmps32;go_wp2_with fail
 refine a1.mono ?_;rintro e w1 ⟨rfl,a4⟩;go_wp2;go_ret;exact⟨rfl,a4.after hB⟩
theorem GP (B:Nat)(st:R.St)(name:List UInt8)(w:World)(M O:Nat→Prop)(h:PS w M O B st)(hi:Inv st)(hM:∀b,M b→b<w.heap.size)(e8:st.packed.length≤100000000000)(hG:ZL w)(h6:∀b,O b→6≤b):
  Calls Tryz.prog 28 #[.pointer (some ⟨B,0,none⟩),.string ⟨name.toArray⟩] w fun e w' =>e= .returned (.tuple #[.int .i64 (R.commit st name).1.1,.int .i64 (R.commit st name).1.2])∧zS w w' M O B (R.commit st name).2:=by
 have a7:=h;obtain⟨bv,cv,LB,LCm,hP⟩:=h;have a3:=QL hP hi name;by_cases hf:R.fnd st.brs name<st.brs.length
 ·obtain⟨hl,ha,he,b4,b8⟩:=Zy hP name hf
  have a5:¬R.fndI st.brs name<0:=by rw[R.fndI,if_pos hf];omega
  have a8:=hP.at_ _ (j0c hl);have c9:=hP.lt _ (hP.blk _ (j0c hl)).1;have b2:=Uf hP hi _ (j0c hl);rw[←b4,←b8]at b2;have c1:=a8.c1;have c2:=a8.c2;have a6:=a8.work;rw[←b8]at a6;rw[←b4]at c1;obtain⟨ta,tn,tc,d5⟩:∃a n k,(LB[R.fnd st.brs name]'hl).2.2= .slice a n k:=by obtain⟨L,_,⟨a,k,e,_⟩,_⟩:=a6;exact⟨a,_,k,e⟩
  rw[d5]at c2 a6;have b5:=Vf hi name;have a0:=Zs hi name;have a4:=a0.inj (qK hi (R.headOf st name));rw[ha]at a3;have a1:Hid (∀W pa pc,Below w.heap.size w W→Rd W (fun b=>b<w.heap.size) (.slice pa (R.parsOf (R.headOf st name)).length pc) (R.parsOf (R.headOf st name)).length (kF (R.parsOf (R.headOf st name)))→Calls Tryz.prog 58 #[.pointer (some ⟨B,0,none⟩),.pointer (some ⟨(LB[R.fnd st.brs name]'hl).2.1,0,none⟩),.agg #[.slice pa (R.parsOf (R.headOf st name)).length pc,.slice ta tn tc]] W fun e w' =>e= .returned (.tuple #[.int .i64 (zZ st name {tree:=R.workOf st name,parents:=R.parsOf (R.headOf st name)}).1.1,.int .i64 (zZ st name {tree:=R.workOf st name,parents:=R.parsOf (R.headOf st name)}).1.2])∧zS w w' M O B (zZ st name {tree:=R.workOf st name,parents:=R.parsOf (R.headOf st name)}).2):=fun W pa pc hW a9=>by
   have:=jL (hP.kept (Z:=fun _=>False) (zg.of_below hW) (fun _ e=>e.elim) (fun b e=> .inl e) hP.sub) hi name hf hl {tree:=R.workOf st name,parents:=R.parsOf (R.headOf st name)} pa pc ta tn tc (a6.below hW) (a9.step (zg.refl (fun _=>False) W) (fun _ e=>e.elim) (fun b e=> .inl (hM b e))) (fun b e=>j0b (hM b e) hW.size) a0 b5.1 b5.2 e8 (hG.below hW) h6;refine this.mono ?_;rintro e w' ⟨he,b0⟩;exact⟨he,zS.after hW b0⟩
  have e1:Hid (∀W,Calls Tryz.prog 59 #[.int .i64 (R.headOf st name:Int)] W fun e w' =>∃pa pc,e= .returned (.slice pa (R.parsOf (R.headOf st name)).length pc)∧Rd w' (fun b=>b<W.heap.size) (.slice pa (R.parsOf (R.headOf st name)).length pc) (R.parsOf (R.headOf st name)).length (kF (R.parsOf (R.headOf st name)))∧Below W.heap.size W w'):=fun W=>uY _ W
  have d7:Hid (R.workOf st name=R.treeOf st (R.headOf st name)→R.commit st name=((0,9),st)):=fun e=>by
   rw[R.commit,if_neg a5,if_pos (by rw[←e])]
  have c7:Hid (¬R.workOf st name=R.treeOf st (R.headOf st name)→R.commit st name=zZ st name {tree:=R.workOf st name,parents:=R.parsOf (R.headOf st name)}):=fun e=>by
   rw[R.commit,if_neg a5,if_neg (fun h=>e (a4.1 h)),zZ]
  have b1:=z6 a7;have d6:=z6 b2;have d9:=z6 a3;obtain⟨ad,c8⟩:∃ad,ad=zZ st name {tree:=R.workOf st name,parents:=R.parsOf (R.headOf st name)}:=⟨_,rfl⟩
  rw[←c8]at a1 c7;generalize(LB[R.fnd st.brs name]'hl).2.1=bb at*;clear hP a7 hi hG b2 a8 a6 b5 a0 a4 a3 b8 b4 he ha d5 c8 hM;generalize R.parsOf (R.headOf st name)=ps at*;generalize R.headOf st name=hd at*;generalize R.workOf st name=wk at*;go_enter Tryz.func28,Tryz.ntmps28;go_wp2_with fail
  refine d9.out.mono ?_;rintro e w1 ⟨rfl,b7⟩;subst b7;go_wp2_with fail
  refine d6.out.mono ?_;rintro e w2 ⟨b,hb,rfl,a2⟩;have b9:=z6 a2;have c6:=z6 hb;have d1:=(a2.cell (p:=⟨bb,1,none⟩) c9).trans c1;have d2:=(a2.cell (p:=⟨bb,2,none⟩) c9).trans c2;have d4:=a2.size;clear hb a2
  cases b
  ·go_wp2
   go_ret2;rw[d7.out (c6.out.1 (by first|trivial|rfl))];exact⟨rfl,zS.same b1.out b9.out⟩
  ·have d8:Hid (R.commit st name=ad):=c7.out (fun e=>by have:=c6.out.2 e;first|exact this|cases this)
   have e6:Below w1.heap.size w1 w2.drew:=b9.out.drew;have e7:bb<w2.drew.heap.size:=by show bb<w2.heap.size;omega
   go_wp2;go_region_with (first
    |(go_at_call 59;refine(e1.out _).mono ?_;rintro e w9 ⟨pa,pc,rfl,a9,b3⟩;have e3:Below w1.heap.size w1 w9:=e6.trans (b3.mono d4);have d3:∀o,w9.cell? ⟨bb,o,none⟩=w2.drew.cell? ⟨bb,o,none⟩:=fun o=>b3.cell (p:=⟨bb,o,none⟩) e7;have b6:Rd w9 (fun b=>b<w1.heap.size) (.slice pa ps.length pc) ps.length (kF ps):=Rd.step a9 (zg.refl (fun _=>False) w9) (fun _ e=>e.elim) (fun b e=> .inl (j0b e d4));have f2:w9.cell? ⟨bb,2,none⟩=some (.slice ta tn tc):=(d3 2).trans d2;clear a9 b3 d3)
    |(go_at_call 58;with_reducible refine(a1.out _ _ _ e3 b6).mono ?_;rintro e e9 ⟨rfl,b0⟩))
   all_goals
    have e2:=z6 b0;clear b0;go_wp2;go_ret2;rw[d8.out];exact⟨rfl,e2.out⟩
 ·have a5:R.fndI st.brs name<0:=by rw[R.fndI,if_neg hf];omega
  have HR:Hid (R.commit st name=((0,5),st)):=by show _=_;rw[R.commit,if_pos a5]
  have ha:Zg LB st name=none:=by rw[Zg,if_neg hf]
  rw[ha]at a3;have b1:=z6 a7;clear hP a7 hi hf a5 ha hG;go_enter Tryz.func28,Tryz.ntmps28;go_wp2_with fail
  refine a3.mono ?_;rintro e w1 ⟨rfl,b7⟩;subst b7;go_wp2;go_ret2;rw[HR.out];exact⟨rfl,zS.same b1.out (j0g _ _)⟩
