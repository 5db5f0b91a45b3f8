import Derived.Test.YtolgebdmffcemaaGreatDoorQ26
set_option linter.all false
set_option maxHeartbeats 20000000
set_option maxRecDepth 1000000
namespace Go.Proofs.YtolgebdmffcemaaGreatDoor
open Go.RowKit
theorem bh (v:Value)(t:List R.Leaf)(s text:List UInt8)(w:World)(M:Nat→Prop)(hM:∀b,M b→b<w.heap.size)(h:PT w M v t)(b4:OkT t)(hs:R.isPath s=true)(f4:text.length≤maxLen):
  Calls Tryz.prog 61 #[v,.string ⟨s.toArray⟩,.string ⟨text.toArray⟩] w fun e w' =>Qa w w' M e t (R.putV t (R.at_ t s) s text):=by
 have f0:=b4.few;have f3:s.length≤1000:=by have:=xG _ hs;omega
 have e2:∀x∈t,x.path.length≤1000:=fun x hx=>(b4.ok x hx).good.path
 have b5:=ou text w f4;have a9:=js v t s 3 w M h (by omega) b4.sort e2 f3;have d7:=fun W (hW:Below w.heap.size w W)=>uI v t s W M (h.below hW) (by omega) b4.sort
 have c7:=fun W (hW:Below w.heap.size w W)=>OT v t s W M (h.below hW) (by omega) b4.sort
 have b2:=atX b4 s;have HM:=z9 hM;have a4:=fun W (hW:Below w.heap.size w W) (x:R.Leaf) (iv:Value) (a7:It W M (ZO x (R.item x.items text),iv)) (hp:x.path=s) (hx:OkL (ZO x (R.item x.items text)))=>uC v t (ZO x (R.item x.items text)) iv W M (fun b hb=>by have:=hM b hb;have:=hW.size;omega) (h.below hW) b4 (by rw[show(ZO x (R.item x.items text)).path=s from hp];exact hs) a7 (.inr hx) (by simp[ZO])
 clear h b4 e2 hM;generalize R.at_ t s=x at*;by_cases c0:(!R.isText text||text==[])=true
 ·have HR:Hid (R.putV t x s text=(3,x)):=by show _=_;rw[R.putV,if_pos c0]
  rw[c0]at b5;clear b2 c0 a4;go_enter Tryz.func61,Tryz.ntmps61;go_wp2_with fail
  refine b5.mono ?_;rintro e w0 ⟨rfl,b1⟩;subst b1;go_wp2;go_ret2;exact⟨none,0,0,Zv (by rw[HR.out]),(fun h=>by rw[HR.out]at h;cases h),by first|exact j0g _ _|exact(j0g _ _).alloc (j0a _) _⟩
 have c6 :(!R.isText text||text==[])=false:=by simpa using c0
 have hT:R.isText text=true∧text≠ []:=by simpa using c6
 rw[c6]at b5;by_cases c1:x.kind≠0∧x.kind≠42
 ·have e1:((pk x !=0)&&(pk x !=3))=true:=by
   rw[b2.oth 3 42 (by simp)];exact decide_eq_true c1
  have HR:Hid (R.putV t x s text=(6,x)):=by show _=_;rw[R.putV,if_neg c0,if_pos c1]
  rw[e1]at a9;simp only[if_true]at a9;clear b2 c1 e1 c0 c6 hT a4;go_enter Tryz.func61,Tryz.ntmps61;go_wp2_with fail
  refine b5.mono ?_;rintro e w0 ⟨rfl,b1⟩;subst b1;go_wp2_with fail
  refine a9.mono ?_;rintro e w1 ⟨rfl,a0⟩;go_wp2;go_ret2;exact⟨none,0,0,Zv (by rw[HR.out]),(fun h=>by rw[HR.out]at h;cases h),by first|exact a0|exact a0.alloc a0.size _⟩
 have e1:((pk x !=0)&&(pk x !=3))=false:=by
  rw[b2.oth 3 42 (by simp)];exact decide_eq_false c1
 rw[e1]at a9;simp only[Bool.false_eq_true,if_false]at a9;by_cases c2:R.blocked t s=true
 ·have HR:Hid (R.putV t x s text=(7,x)):=by show _=_;rw[R.putV,if_neg c0,if_neg c1,if_pos c2]
  rw[if_pos c2]at a9;clear b2 c1 e1 c2 c0 c6 hT a4;go_enter Tryz.func61,Tryz.ntmps61;go_wp2_with fail
  refine b5.mono ?_;rintro e w0 ⟨rfl,b1⟩;subst b1;go_wp2_with fail
  refine a9.mono ?_;rintro e w1 ⟨rfl,a0⟩;go_wp2;go_ret2;exact⟨none,0,0,Zv (by rw[HR.out]),(fun h=>by rw[HR.out]at h;cases h),by first|exact a0|exact a0.alloc a0.size _⟩
 rw[if_neg c2]at a9;have hk:x=R.none x.path∨(OkL x∧x.kind=42):=by
  rcases b2.kinds with k|k|k|k
  ·exact .inl (by rw[b2.path];exact k.2.2)
  ·exact absurd ⟨by rw[k.1];decide,by rw[k.1];decide⟩ c1
  ·exact absurd ⟨by rw[k.1];decide,by rw[k.1];decide⟩ c1
  ·exact .inr ⟨k.2.2,k.1⟩
 have d6:=fun W (hW:Below w.heap.size w W) (ia:Option Addr) (ic:Nat) (a7:It W M (x,.slice ia x.items.length ic))=>OR x (.slice ia x.items.length ic) text W M (fun b hb=>by have:=HM.out b hb;have:=hW.size;omega) a7 hk
 have f6:(R.item x.items text).length≤9:=by
  have h1:=R.item_length text x.items false;have h2:x.items.length≤8:=by
   rcases hk with hk|⟨hk,_⟩
   ·rw[hk];simp[R.none]
   ·exact hk.many
  unfold R.item;omega
 have c9:=b2.zero;have a1:=b2.path;have d9:Ze x.items:=by
  rcases hk with hk|⟨hk,_⟩
  ·rw[hk];intro i j hi;simp[R.none]at hi
  ·exact hk.sort
 have e8:Hid ((R.item x.items text).length≤8→OkL (ZO x (R.item x.items text))):=by
  intro h8;refine⟨by show R.isPath x.path=true;rw[a1];exact hs,.inr (.inr ⟨rfl,rfl,rfl,gM _ d9 _⟩),by simp[ZO],by simp[ZO],rfl,h8,fun i hi=> ?_,ko d9 text⟩;rcases jl hi with rfl|hi
  ·exact hT
  ·rcases hk with hk|⟨hk,_⟩
   ·rw[hk]at hi;simp[R.none]at hi
   ·exact hk.item i hi
 have HB:Hid (ZO x (R.item x.items text)={path:=s,kind:=42,n:=0,text:=[],items:=R.item x.items text}):=by show _=_;rw[ZO,a1]
 have a2 :=fun W hW iv a7 hx=>a4 W hW x iv a7 a1 hx
 have c8:pk (ZO x (R.item x.items text))=3:=by simp[pk,ZO]
 have e6:(ZO x (R.item x.items text)).path=s:=a1;simp only[c8,e6]at a2;have f5:=z9 a1;have d3:=z9 c0;have d4:=z9 c1;have d5:=z9 c2;clear b2 hk a4 d9 hT c0 c6 e1 a1 c8 e6 c1 c2
 cases hF:((pk x==0)&&decide (24≤t.length))
 ·rw[hF]at c7
  have d8:¬(x.kind=0∧24≤t.length):=by
   rw[c9,←Bool.decide_and]at hF;exact of_decide_eq_false hF
  clear hF c9;by_cases c5:8<(R.item x.items text).length
  ·have HR:Hid (R.putV t x s text=(4,x)):=by
    show _=_;rw[R.putV,if_neg d3.out,if_neg d4.out,if_neg d5.out,if_pos c5]
   clear a2 d8;go_enter Tryz.func61,Tryz.ntmps61;go_wp2_with fail
   refine b5.mono ?_;rintro e w0 ⟨rfl,b1⟩;subst b1;go_wp2_with fail
   refine a9.mono ?_;rintro e w1 ⟨rfl,a0⟩;go_wp2_with fail
   refine(d7 _ a0).mono ?_;rintro e w2 ⟨ia,ic,rfl,a7,b3⟩;have a6:=a0.trans (b3.mono a0.size);go_wp2_with fail
   refine(d6 _ a6 ia ic (Rd.below a7 b3)).mono ?_;rintro e w3 ⟨ja,jc,rfl,a8,b7⟩;have a3:=a6.trans (b7.mono a6.size);go_wp2_with fail
   refine(c7 _ (a3.alloc a3.size _)).mono ?_;rintro e w4 ⟨rfl,a5⟩;have b6:=(a3.alloc a3.size _).trans (a5.mono (by simp;exact Nat.le_succ_of_le a3.size));have y0:w4.cell? ⟨w3.heap.size,0,none⟩=some (.int .i64 3):=by rw[a5.cell (p:=⟨w3.heap.size,0,none⟩) (by simp)];simp
   have y1:w4.cell? ⟨w3.heap.size,1,none⟩=some (.int .i64 0):=by rw[a5.cell (p:=⟨w3.heap.size,1,none⟩) (by simp)];simp
   have y2:w4.cell? ⟨w3.heap.size,2,none⟩=some (.string ⟨#[]⟩):=by rw[a5.cell (p:=⟨w3.heap.size,2,none⟩) (by simp)];simp
   have y3:w4.cell? ⟨w3.heap.size,3,none⟩=some (.slice ja (R.item x.items text).length jc):=by rw[a5.cell (p:=⟨w3.heap.size,3,none⟩) (by simp)];simp
   have b9:Hid (It w4 M (ZO x (R.item x.items text),.slice ja (R.item x.items text).length jc)):=Rd.below a8 (((j0g _ _).alloc (j0a _) _).trans (a5.mono (by simp)));have b8:=z9 b6;clear a5 a8 b7 a7 b3 a0 a6 a3 b6;go_wp2;go_ret2;exact⟨none,0,0,Zv (by rw[HR.out]),(fun h=>by rw[HR.out]at h;cases h),b8.out⟩
  ·have HR:Hid (R.putV t x s text=(0,ZO x (R.item x.items text))):=by
    show _=_;rw[R.putV,if_neg d3.out,if_neg d4.out,if_neg d5.out,if_neg c5,if_neg d8,HB.out]
   have e7:=z9 (e8.out (by omega));clear d8;go_enter Tryz.func61,Tryz.ntmps61;go_wp2_with fail
   refine b5.mono ?_;rintro e w0 ⟨rfl,b1⟩;subst b1;go_wp2_with fail
   refine a9.mono ?_;rintro e w1 ⟨rfl,a0⟩;go_wp2_with fail
   refine(d7 _ a0).mono ?_;rintro e w2 ⟨ia,ic,rfl,a7,b3⟩;have a6:=a0.trans (b3.mono a0.size);go_wp2_with fail
   refine(d6 _ a6 ia ic (Rd.below a7 b3)).mono ?_;rintro e w3 ⟨ja,jc,rfl,a8,b7⟩;have a3:=a6.trans (b7.mono a6.size);go_wp2_with fail
   refine(c7 _ (a3.alloc a3.size _)).mono ?_;rintro e w4 ⟨rfl,a5⟩;have b6:=(a3.alloc a3.size _).trans (a5.mono (by simp;exact Nat.le_succ_of_le a3.size));have y0:w4.cell? ⟨w3.heap.size,0,none⟩=some (.int .i64 3):=by rw[a5.cell (p:=⟨w3.heap.size,0,none⟩) (by simp)];simp
   have y1:w4.cell? ⟨w3.heap.size,1,none⟩=some (.int .i64 0):=by rw[a5.cell (p:=⟨w3.heap.size,1,none⟩) (by simp)];simp
   have y2:w4.cell? ⟨w3.heap.size,2,none⟩=some (.string ⟨#[]⟩):=by rw[a5.cell (p:=⟨w3.heap.size,2,none⟩) (by simp)];simp
   have y3:w4.cell? ⟨w3.heap.size,3,none⟩=some (.slice ja (R.item x.items text).length jc):=by rw[a5.cell (p:=⟨w3.heap.size,3,none⟩) (by simp)];simp
   have b9:Hid (It w4 M (ZO x (R.item x.items text),.slice ja (R.item x.items text).length jc)):=Rd.below a8 (((j0g _ _).alloc (j0a _) _).trans (a5.mono (by simp)));have b8:=z9 b6;clear a5 a8 b7 a7 b3 a0 a6 a3 b6;go_wp2_with fail
   refine(a2 _ b8.out _ b9.out e7.out).mono ?_;rintro e w5 ⟨v5,rfl,e3,e9⟩;obtain⟨va,vc,rfl⟩:=Qi e3;go_wp2;go_ret2;exact⟨va,_,vc,Zv (by rw[HR.out]),(fun _=>by rw[HR.out];exact e3),b8.out.trans (e9.mono b8.out.size)⟩
 ·rw[hF]at c7
  have HR:Hid (R.putV t x s text=(4,x)):=by
   show _=_;rw[c9,←Bool.decide_and]at hF;rw[R.putV,if_neg d3.out,if_neg d4.out,if_neg d5.out,if_pos (of_decide_eq_true hF)];split<;>rfl
  clear hF c9 a2;go_enter Tryz.func61,Tryz.ntmps61;go_wp2_with fail
  refine b5.mono ?_;rintro e w0 ⟨rfl,b1⟩;subst b1;go_wp2_with fail
  refine a9.mono ?_;rintro e w1 ⟨rfl,a0⟩;go_wp2_with fail
  refine(d7 _ a0).mono ?_;rintro e w2 ⟨ia,ic,rfl,a7,b3⟩;have a6:=a0.trans (b3.mono a0.size);go_wp2_with fail
  refine(d6 _ a6 ia ic (Rd.below a7 b3)).mono ?_;rintro e w3 ⟨ja,jc,rfl,a8,b7⟩;have a3:=a6.trans (b7.mono a6.size);go_wp2_with fail
  refine(c7 _ (a3.alloc a3.size _)).mono ?_;rintro e w4 ⟨rfl,a5⟩;have b6:=(a3.alloc a3.size _).trans (a5.mono (by simp;exact Nat.le_succ_of_le a3.size));go_wp2;go_ret2;exact⟨none,0,0,Zv (by rw[HR.out]),(fun h=>by rw[HR.out]at h;cases h),b6⟩
theorem CB (v:Value)(t:List R.Leaf)(s text:List UInt8)(w:World)(M:Nat→Prop)(hM:∀b,M b→b<w.heap.size)(h:PT w M v t)(b3:OkT t)(hs:R.isPath s=true)(e6:text.length≤maxLen):
  Calls Tryz.prog 63 #[v,.string ⟨s.toArray⟩,.string ⟨text.toArray⟩] w fun e w' =>Qa w w' M e t (R.takeV (R.at_ t s) s text):=by
 have e3:=b3.few;have b4:=ou text w e6;have b5:=kY v t s 3 w M h (by omega) b3.sort;have d5:=fun W (hW:Below w.heap.size w W)=>uI v t s W M (h.below hW) (by omega) b3.sort
 have a6:=atX b3 s;have HM:=z9 hM;have a1:=fun W (hW:Below w.heap.size w W) (y:R.Leaf) (iv:Value) (a2:It W M (y,iv)) (hp:y.path=s) (hx:y.kind=0∨OkL y) (h0:y.kind=0→pk y=0)=>uC v t y iv W M (fun b hb=>by have:=hM b hb;have:=hW.size;omega) (h.below hW) b3 (by rw[hp];exact hs) a2 hx h0
 clear h b3 hM;generalize R.at_ t s=x at*;by_cases c0:(!R.isText text||text==[])=true
 ·have HR:Hid (R.takeV x s text=(3,x)):=by show _=_;rw[R.takeV,if_pos c0]
  rw[c0]at b4;clear a6 c0 a1;go_enter Tryz.func63,Tryz.ntmps63;go_wp2_with fail
  refine b4.mono ?_;rintro e w0 ⟨rfl,b1⟩;subst b1;go_wp2;go_ret2;exact⟨none,0,0,Zv (by rw[HR.out]),(fun h=>by rw[HR.out]at h;cases h),j0g _ _⟩
 have b6 :(!R.isText text||text==[])=false:=by simpa using c0
 rw[b6]at b4;by_cases c1:x.kind≠0∧x.kind≠42
 ·have e1:((pk x !=0)&&(pk x !=3))=true:=by
   rw[a6.oth 3 42 (by simp)];exact decide_eq_true c1
  have HR:Hid (R.takeV x s text=(6,x)):=by show _=_;rw[R.takeV,if_neg c0,if_pos c1]
  rw[e1]at b5;clear a6 c1 e1 c0 b6 a1;go_enter Tryz.func63,Tryz.ntmps63;go_wp2_with fail
  refine b4.mono ?_;rintro e w0 ⟨rfl,b1⟩;subst b1;go_wp2_with fail
  refine b5.mono ?_;rintro e w1 ⟨rfl,a8⟩;go_wp2;go_ret2;exact⟨none,0,0,Zv (by rw[HR.out]),(fun h=>by rw[HR.out]at h;cases h),a8⟩
 have e1:((pk x !=0)&&(pk x !=3))=false:=by
  rw[a6.oth 3 42 (by simp)];exact decide_eq_false c1
 rw[e1]at b5;have hk:x=R.none s∨(OkL x∧x.kind=42):=by
  rcases a6.kinds with k|k|k|k
  ·exact .inl k.2.2
  ·exact absurd ⟨by rw[k.1];decide,by rw[k.1];decide⟩ c1
  ·exact absurd ⟨by rw[k.1];decide,by rw[k.1];decide⟩ c1
  ·exact .inr ⟨k.2.2,k.1⟩
 have b7:Ze x.items∧x.items.length≤8:=by
  rcases hk with hk|⟨hk,_⟩
  ·rw[hk];exact⟨fun i j hi=>by simp[R.none]at hi,by simp[R.none]⟩
  ·exact⟨hk.sort,hk.many⟩
 have a3:=fun W (ia:Option Addr) (ic:Nat) (a2:It W M (x,.slice ia x.items.length ic))=>Qn x (.slice ia x.items.length ic) text W M a2 (by have:=b7.2;omega) b7.1
 have c8:=z9 c0;have c9:=z9 c1
 cases a0:(x.items.any fun y=>y==text)
 ·have HR:Hid (R.takeV x s text=(10,x)):=by show _=_;rw[R.takeV,if_neg c8.out,if_neg c9.out,if_pos a0]
  rw[a0]at a3;clear a6 c1 e1 c0 b6 a1 hk b7 a0;go_enter Tryz.func63,Tryz.ntmps63;go_wp2_with fail
  refine b4.mono ?_;rintro e w0 ⟨rfl,b1⟩;subst b1;go_wp2_with fail
  refine b5.mono ?_;rintro e w1 ⟨rfl,a8⟩;go_wp2_with fail
  refine(d5 _ a8).mono ?_;rintro e w2 ⟨ia,ic,rfl,a2,a5⟩;have a7:=a8.trans (a5.mono a8.size);go_wp2_with fail
  refine(a3 _ ia ic (Rd.below a2 (by first|exact a5|exact a5.alloc a5.size _))).mono ?_;rintro e w3 ⟨rfl,a9⟩;go_wp2;go_ret2;exact⟨none,0,0,Zv (by rw[HR.out]),(fun h=>by rw[HR.out]at h;cases h),by first|exact a7.trans (a9.mono a7.size)|exact(a7.alloc a7.size _).trans (a9.mono (by simp;exact Nat.le_succ_of_le a7.size))⟩
 ·have b2:OkL x:=by
   rcases hk with hk|hk
   ·rw[hk]at a0;simp[R.none]at a0
   ·exact hk.1
  have HR:Hid (R.takeV x s text=(0,ZA x text)):=by
   show _=_;rw[R.takeV,if_neg c8.out,if_neg c9.out,if_neg (by rw[a0];simp),ZA,a6.path]
  have d8:=fun W (hW:Below w.heap.size w W) (ia:Option Addr) (ic:Nat) (a2:It W M (x,.slice ia x.items.length ic))=>jW x (.slice ia x.items.length ic) text W M (fun b hb=>by have:=HM.out b hb;have:=hW.size;omega) a2 b2 a0
  have d4:(ZA x text).kind=0∨OkL (ZA x text):=by
   by_cases hw:R.without x.items text=[]
   ·left;simp[ZA,hw]
   ·right
    refine⟨b2.path,.inr (.inr ⟨by simp[ZA,hw],rfl,rfl,hw⟩),by simp[ZA],by simp[ZA],rfl,?_,fun i hi=>b2.item i (List.mem_filter.1 hi).1,zZ.i (List.Pairwise.sublist List.filter_sublist b2.sort.k)⟩;have:=List.length_filter_le (fun y:List UInt8=> !(y==text)) x.items;have:=b2.many;simp only[ZA,R.without];omega
  have h0:(ZA x text).kind=0→pk (ZA x text)=0:=fun e=>by unfold pk;rw[e];simp
  have a4 :=fun W hW iv a2=>a1 W hW (ZA x text) iv a2 a6.path d4 h0
  have d7:(ZA x text).path=s:=a6.path;simp only[d7]at a4;rw[a0]at a3;clear a6 c1 e1 c0 b6 a1 hk b7 a0 b2 d4 h0 d7;go_enter Tryz.func63,Tryz.ntmps63;go_wp2_with fail
  refine b4.mono ?_;rintro e w0 ⟨rfl,b1⟩;subst b1;go_wp2_with fail
  refine b5.mono ?_;rintro e w1 ⟨rfl,a8⟩;go_wp2_with fail
  refine(d5 _ a8).mono ?_;rintro e w2 ⟨ia,ic,rfl,a2,a5⟩;have a7:=a8.trans (a5.mono a8.size);go_wp2_with fail
  refine(a3 _ ia ic (Rd.below a2 (by first|exact a5|exact a5.alloc a5.size _))).mono ?_;rintro e w3 ⟨rfl,a9⟩;have y0:w3.cell? ⟨w2.heap.size,0,none⟩=some (.int .i64 (pk x)):=by rw[a9.cell (p:=⟨w2.heap.size,0,none⟩) (by simp)];simp
  have y1:w3.cell? ⟨w2.heap.size,1,none⟩=some (.int .i64 x.n):=by rw[a9.cell (p:=⟨w2.heap.size,1,none⟩) (by simp)];simp
  have y2:w3.cell? ⟨w2.heap.size,2,none⟩=some (.string ⟨x.text.toArray⟩):=by rw[a9.cell (p:=⟨w2.heap.size,2,none⟩) (by simp)];simp
  have y3:w3.cell? ⟨w2.heap.size,3,none⟩=some (.slice ia x.items.length ic):=by rw[a9.cell (p:=⟨w2.heap.size,3,none⟩) (by simp)];simp
  have d3:=(a7.alloc a7.size _).trans (a9.mono (by simp;exact Nat.le_succ_of_le a7.size));have b9:Hid (It w3 M (x,.slice ia x.items.length ic)):=Rd.below (Rd.below a2 a5) (((j0g _ _).alloc (j0a _) _).trans (a9.mono (by simp)));have b8:=z9 d3;clear a9 a2 a5 a8 a7 d3 a3;go_wp2_with fail
  refine(d8 _ b8.out ia ic b9.out).mono ?_;rintro e w4 ⟨ja,jc,rfl,c7,d9⟩;have c6:=b8.out.trans (d9.mono b8.out.size);go_wp2_with fail
  refine(a4 _ c6 _ c7).mono ?_;rintro e w5 ⟨v5,rfl,d6,e2⟩;obtain⟨va,vc,rfl⟩:=Qi d6;go_wp2;go_ret2;exact⟨va,_,vc,Zv (by rw[HR.out]),(fun _=>by rw[HR.out];exact d6),c6.trans (e2.mono c6.size)⟩
theorem qY (B:Nat)(st:R.St)(a0 path:List UInt8)(kind n:Int)(text:List UInt8)(w:World)(M O:Nat→Prop)(F:Nat)(C:List Value)(r:Int×R.Leaf)(h:PS w M O B st)(hM:∀b,M b→b<w.heap.size)(hi:Inv st)(hG:ZL w)(d9:path.length≤maxLen)
  (d6:F=56∨F=73∨F=60∨F=62∨F=75)
  (hr:r=R.valV kind (R.workOf st a0) (R.at_ (R.workOf st a0) path) path n text)
  (hF:R.isPath path=true→∀ta tc W,Below w.heap.size w W→PT W M (.slice ta (R.workOf st a0).length tc) (R.workOf st a0)→Calls Tryz.prog F (.slice ta (R.workOf st a0).length tc::C).toArray W fun e w' =>Qa W w' M e (R.workOf st a0) r):
  Calls Tryz.prog 55 #[.pointer (some ⟨B,0,none⟩),.string ⟨a0.toArray⟩,.string ⟨path.toArray⟩,.func (.func F) #[] C.toArray] w fun e w' =>e= .returned (.int .i64 (R.change st kind a0 path n text).1)∧zO w w' M O B (R.change st kind a0 path n text).2:=by
 have a9:=h;obtain⟨bv,cv,LB,LCm,hP⟩:=h;have a4:=vv hP hi a0;obtain⟨mx,d8⟩:=hG.mx;have b4:=fun W (hW:Below w.heap.size w W)=>Fe path W d9 mx (by rw[hW.cell (p:=⟨0,0,none⟩) (by have:=hG.size;show 0<_;omega)];exact d8)
 have a7:=z9 a9;by_cases hf:R.fnd st.brs a0<st.brs.length
 ·obtain⟨hl,ha,he,_,c7⟩:=ZN hP a0 hf
  have a1:¬R.fndI st.brs a0<0:=by rw[R.fndI,if_pos hf];omega
  cases a2:R.isPath path
  ·have HR:Hid (R.change st kind a0 path n text=(2,st)):=by show _=_;rw[R.change,if_neg a1,if_pos a2]
   rw[a2]at b4;rw[ha]at a4;generalize(LB[R.fnd st.brs a0]'hl).2.1=bb at*;clear a9 hi hP hf a1 a2 he ha c7;go_enter Tryz.func55,Tryz.ntmps55;go_wp2_with fail
   refine a4.mono ?_;rintro e w1 ⟨rfl,a6⟩;subst a6;go_wp2_with fail
   refine(b4 _ (j0g _ _)).mono ?_;rintro e w2 ⟨rfl,a3⟩;go_wp2;go_ret;exact⟨YB (by rw[HR.out]),by rw[HR.out];exact zO.same a7.out a3⟩
  ·have b3:=hP.at_ _ (j0c hl)
   have b8:=hP.blk _ (j0c hl);have b7:=hP.lt _ b8.1;rw[a2]at b4;rw[ha]at a4;have b5:Hid (∀(tv:Value) (t:List R.Leaf) (w5:World),Below w.heap.size w w5→PT w5 M tv t→zO w (w5.setCell ⟨(LB[R.fnd st.brs a0]'hl).2.1,2,none⟩ tv) M O B (R.setWork st (R.fnd st.brs a0) t)):=fun tv t w5 hb ht=>Om hP hl hb ht
   have b9:=ZB hi a0;have a5:=b3.work;rw[←c7]at a5;have c2:=b3.c2;have d5:=b3.fr 2;obtain⟨ta,tc,c9⟩:=Qi a5;rw[c9]at c2 a5;have c8:Hid (R.change st kind a0 path n text=if r.1=0 then(0,R.setWork st (R.fnd st.brs a0) (R.set (R.workOf st a0) r.2))else(r.1,st)):=by
    show _=_;rw[R.change,if_neg a1,if_neg (by rw[a2];simp),hr]
   have b6:=fun W (hW:Below w.heap.size w W)=>hF a2 ta tc W hW (a5.below hW)
   generalize(LB[R.fnd st.brs a0]'hl).2.1=bb at*;clear a9 hi hP hf a1 a2 he ha c7 a5 b3 b9 c9 hF hr;generalize R.workOf st a0=t at*;rcases d6 with rfl|rfl|rfl|rfl|rfl
   all_goals
    have e1:=a7.out;go_enter Tryz.func55,Tryz.ntmps55;go_wp2_with fail
    refine a4.mono ?_;rintro e w1 ⟨rfl,a6⟩;subst a6;go_wp2_with fail
    refine(b4 _ (j0g _ _)).mono ?_;rintro e w2 ⟨rfl,a3⟩;have d2:=(a3.cell (p:=⟨bb,2,none⟩) b7).trans c2;go_wp2_with fail
    refine(b6 _ a3).mono ?_;rintro e w3 ⟨va,vn,vc,rfl,c6,d7⟩;have a8:=a3.trans (d7.mono a3.size);by_cases hr:r.1=0
    ·have b1:(r.1==0)=true:=by simpa using hr
     have b2:(r.1 !=0)=false:=by simp[hr]
     have d3:=(a8.cell (p:=⟨bb,2,none⟩) b7).trans c2;have f3:=(a8.frozen (p:=⟨bb,2,none⟩) b7).trans d5;have d4:=z9 (c6 hr);have HR:=z9 hr;clear hr c6 d2;go_wp2;go_ret;rw[c8.out,if_pos HR.out];exact⟨rfl,b5.out _ _ _ a8 d4.out⟩
    ·have b1:(r.1==0)=false:=by simpa using hr
     have b2:(r.1 !=0)=true:=by simp[hr]
     have HR:=z9 hr;clear hr c6 d2;go_wp2;go_ret;rw[c8.out,if_neg HR.out];exact⟨rfl,zO.same a7.out a8⟩
 ·have a1:R.fndI st.brs a0<0:=by rw[R.fndI,if_neg hf];omega
  have HR:Hid (R.change st kind a0 path n text=(5,st)):=by show _=_;rw[R.change,if_pos a1]
  have ha:Zs LB st a0=none:=by rw[Zs,if_neg hf]
  rw[ha]at a4;clear a9 hi hP hf a1 ha;go_enter Tryz.func55,Tryz.ntmps55;go_wp2_with fail
  refine a4.mono ?_;rintro e w1 ⟨rfl,a6⟩;subst a6;go_wp2;go_ret;exact⟨YB (by rw[HR.out]),by rw[HR.out];exact zO.same a7.out (j0g _ _)⟩
theorem CK (tv:Value)(t:List R.Leaf)(path:List UInt8)(n:Int)(w:World)(M:Nat→Prop)(p0 p1:Nat)(hM:∀b,M b→b<w.heap.size)(h:PT w M tv t)(a0:OkT t)(hs:R.isPath path=true)(a2:n≤9223372036854775807)(a3: -9223372036854775808≤n)
  (a4:w.cell? ⟨p0,0,none⟩=some (.string ⟨path.toArray⟩))(a5:w.cell? ⟨p1,0,none⟩=some (.int .i64 n)):
  Calls Tryz.prog 56 #[tv,.pointer (some ⟨p0,0,none⟩),.pointer (some ⟨p1,0,none⟩)] w fun e w' =>Qa w w' M e t (R.addV t (R.at_ t path) path n):=by
 have a1:=bi tv t path n w M hM h a0 hs a2 a3;clear h a0;go_enter Tryz.func56,Tryz.ntmps56;go_wp2_with fail
 refine a1.mono ?_;rintro e w1 ⟨va,vn,vc,rfl,hp,hb⟩;go_wp2;go_ret2;exact⟨va,vn,vc,rfl,hp,hb⟩
theorem cP (tv:Value)(t:List R.Leaf)(path:List UInt8)(text:List UInt8)(w:World)(M:Nat→Prop)(p0 p1:Nat)(hM:∀b,M b→b<w.heap.size)(h:PT w M tv t)(a0:OkT t)(hs:R.isPath path=true)(a2:text.length≤maxLen)
  (a3:w.cell? ⟨p0,0,none⟩=some (.string ⟨path.toArray⟩))(a4:w.cell? ⟨p1,0,none⟩=some (.string ⟨text.toArray⟩)):
  Calls Tryz.prog 73 #[tv,.pointer (some ⟨p0,0,none⟩),.pointer (some ⟨p1,0,none⟩)] w fun e w' =>Qa w w' M e t (R.noteV t (R.at_ t path) path text):=by
 have a1:=CC tv t path text w M hM h a0 hs a2;clear h a0;go_enter Tryz.func73,Tryz.ntmps73;go_wp2_with fail
 refine a1.mono ?_;rintro e w1 ⟨va,vn,vc,rfl,hp,hb⟩;go_wp2;go_ret2;exact⟨va,vn,vc,rfl,hp,hb⟩
theorem CG (tv:Value)(t:List R.Leaf)(path:List UInt8)(text:List UInt8)(w:World)(M:Nat→Prop)(p0 p1:Nat)(hM:∀b,M b→b<w.heap.size)(h:PT w M tv t)(a0:OkT t)(hs:R.isPath path=true)(a2:text.length≤maxLen)
  (a3:w.cell? ⟨p0,0,none⟩=some (.string ⟨path.toArray⟩))(a4:w.cell? ⟨p1,0,none⟩=some (.string ⟨text.toArray⟩)):
  Calls Tryz.prog 60 #[tv,.pointer (some ⟨p0,0,none⟩),.pointer (some ⟨p1,0,none⟩)] w fun e w' =>Qa w w' M e t (R.putV t (R.at_ t path) path text):=by
 have a1:=bh tv t path text w M hM h a0 hs a2;clear h a0;go_enter Tryz.func60,Tryz.ntmps60;go_wp2_with fail
 refine a1.mono ?_;rintro e w1 ⟨va,vn,vc,rfl,hp,hb⟩;go_wp2;go_ret2;exact⟨va,vn,vc,rfl,hp,hb⟩
theorem cO (tv:Value)(t:List R.Leaf)(path:List UInt8)(text:List UInt8)(w:World)(M:Nat→Prop)(p0 p1:Nat)(hM:∀b,M b→b<w.heap.size)(h:PT w M tv t)(a0:OkT t)(hs:R.isPath path=true)(a2:text.length≤maxLen)
  (a3:w.cell? ⟨p0,0,none⟩=some (.string ⟨path.toArray⟩))(a4:w.cell? ⟨p1,0,none⟩=some (.string ⟨text.toArray⟩)):
  Calls Tryz.prog 62 #[tv,.pointer (some ⟨p0,0,none⟩),.pointer (some ⟨p1,0,none⟩)] w fun e w' =>Qa w w' M e t (R.takeV (R.at_ t path) path text):=by
 have a1:=CB tv t path text w M hM h a0 hs a2;clear h a0;go_enter Tryz.func62,Tryz.ntmps62;go_wp2_with fail
 refine a1.mono ?_;rintro e w1 ⟨va,vn,vc,rfl,hp,hb⟩;go_wp2;go_ret2;exact⟨va,vn,vc,rfl,hp,hb⟩
theorem GK (tv:Value)(t:List R.Leaf)(path:List UInt8)(w:World)(M:Nat→Prop)(p0:Nat)(hM:∀b,M b→b<w.heap.size)(h:PT w M tv t)(a0:OkT t)(hs:R.isPath path=true)
  (a2:w.cell? ⟨p0,0,none⟩=some (.string ⟨path.toArray⟩)):
  Calls Tryz.prog 75 #[tv,.pointer (some ⟨p0,0,none⟩)] w fun e w' =>Qa w w' M e t (R.delV (R.at_ t path) path):=by
 have a1:=Fc tv t path w M hM h a0 hs;clear h a0;go_enter Tryz.func75,Tryz.ntmps75;go_wp2_with fail
 refine a1.mono ?_;rintro e w1 ⟨va,vn,vc,rfl,hp,hb⟩;go_wp2;go_ret2;exact⟨va,vn,vc,rfl,hp,hb⟩
theorem bk (B:Nat)(st:R.St)(a0 path:List UInt8)(n:Int)(w:World)(M O:Nat→Prop)(h:PS w M O B st)(hM:∀b,M b→b<w.heap.size)(hi:Inv st)(hG:ZL w)(a5:path.length≤maxLen)(a2:n≤9223372036854775807)(a3: -9223372036854775808≤n):
  Calls Tryz.prog 27 #[.pointer (some ⟨B,0,none⟩),.string ⟨a0.toArray⟩,.string ⟨path.toArray⟩,.int .i64 n] w fun e w' =>e= .returned (.int .i64 (R.change st 35 a0 path n []).1)∧zO w w' M O B (R.change st 35 a0 path n []).2:=by
 have hB:Below w.heap.size w ((w.alloc (Obj.cells #[.string ⟨path.toArray⟩] 9)).alloc (Obj.cells #[.int .i64 n] 3)):=((j0g _ _).alloc (j0a _) _).alloc (by simp) _;have a1:=qY B st a0 path 35 n [] ((w.alloc (Obj.cells #[.string ⟨path.toArray⟩] 9)).alloc (Obj.cells #[.int .i64 n] 3)) M O 56 [.pointer (some ⟨w.heap.size,0,none⟩),.pointer (some ⟨w.heap.size+1,0,none⟩)] _ (h.below hB) (fun b hb=>by have:=hM b hb;simp;omega) hi (hG.below hB) a5 (.inl rfl) rfl (fun a4 ta tc W hW hp=>CK _ _ path n W M w.heap.size (w.heap.size+1) (fun b hb=>by have:=hM b hb;have:=hW.size;simp at this;omega) hp (ZB hi a0) a4 a2 a3 (by rw[hW.cell (p:=⟨w.heap.size,0,none⟩) (by simp<;>omega)];simp) (by rw[hW.cell (p:=⟨w.heap.size+1,0,none⟩) (by simp)];simp));clear h;go_enter Tryz.func27,Tryz.ntmps27;go_wp2_with fail
 refine a1.mono ?_;rintro e w1 ⟨rfl,a6⟩;go_wp2;go_ret;exact⟨rfl,a6.after hB⟩
theorem CH (B:Nat)(st:R.St)(a0 path:List UInt8)(text:List UInt8)(w:World)(M O:Nat→Prop)(h:PS w M O B st)(hM:∀b,M b→b<w.heap.size)(hi:Inv st)(hG:ZL w)(a3:path.length≤maxLen)(a5:text.length≤maxLen):
  Calls Tryz.prog 41 #[.pointer (some ⟨B,0,none⟩),.string ⟨a0.toArray⟩,.string ⟨path.toArray⟩,.string ⟨text.toArray⟩] w fun e w' =>e= .returned (.int .i64 (R.change st 61 a0 path 0 text).1)∧zO w w' M O B (R.change st 61 a0 path 0 text).2:=by
 have hB:Below w.heap.size w ((w.alloc (Obj.cells #[.string ⟨path.toArray⟩] 9)).alloc (Obj.cells #[.string ⟨text.toArray⟩] 9)):=((j0g _ _).alloc (j0a _) _).alloc (by simp) _;have a1:=qY B st a0 path 61 0 text ((w.alloc (Obj.cells #[.string ⟨path.toArray⟩] 9)).alloc (Obj.cells #[.string ⟨text.toArray⟩] 9)) M O 73 [.pointer (some ⟨w.heap.size,0,none⟩),.pointer (some ⟨w.heap.size+1,0,none⟩)] _ (h.below hB) (fun b hb=>by have:=hM b hb;simp;omega) hi (hG.below hB) a3 (.inr (.inl rfl)) rfl (fun a2 ta tc W hW hp=>cP _ _ path text W M w.heap.size (w.heap.size+1) (fun b hb=>by have:=hM b hb;have:=hW.size;simp at this;omega) hp (ZB hi a0) a2 a5 (by rw[hW.cell (p:=⟨w.heap.size,0,none⟩) (by simp<;>omega)];simp) (by rw[hW.cell (p:=⟨w.heap.size+1,0,none⟩) (by simp)];simp));clear h;go_enter Tryz.func41,Tryz.ntmps41;go_wp2_with fail
 refine a1.mono ?_;rintro e w1 ⟨rfl,a4⟩;go_wp2;go_ret;exact⟨rfl,a4.after hB⟩
theorem bj (B:Nat)(st:R.St)(a0 path:List UInt8)(text:List UInt8)(w:World)(M O:Nat→Prop)(h:PS w M O B st)(hM:∀b,M b→b<w.heap.size)(hi:Inv st)(hG:ZL w)(a3:path.length≤maxLen)(a5:text.length≤maxLen):
  Calls Tryz.prog 31 #[.pointer (some ⟨B,0,none⟩),.string ⟨a0.toArray⟩,.string ⟨path.toArray⟩,.string ⟨text.toArray⟩] w fun e w' =>e= .returned (.int .i64 (R.change st 42 a0 path 0 text).1)∧zO w w' M O B (R.change st 42 a0 path 0 text).2:=by
 have hB:Below w.heap.size w ((w.alloc (Obj.cells #[.string ⟨path.toArray⟩] 9)).alloc (Obj.cells #[.string ⟨text.toArray⟩] 9)):=((j0g _ _).alloc (j0a _) _).alloc (by simp) _;have a1:=qY B st a0 path 42 0 text ((w.alloc (Obj.cells #[.string ⟨path.toArray⟩] 9)).alloc (Obj.cells #[.string ⟨text.toArray⟩] 9)) M O 60 [.pointer (some ⟨w.heap.size,0,none⟩),.pointer (some ⟨w.heap.size+1,0,none⟩)] _ (h.below hB) (fun b hb=>by have:=hM b hb;simp;omega) hi (hG.below hB) a3 (.inr (.inr (.inl rfl))) rfl (fun a2 ta tc W hW hp=>CG _ _ path text W M w.heap.size (w.heap.size+1) (fun b hb=>by have:=hM b hb;have:=hW.size;simp at this;omega) hp (ZB hi a0) a2 a5 (by rw[hW.cell (p:=⟨w.heap.size,0,none⟩) (by simp<;>omega)];simp) (by rw[hW.cell (p:=⟨w.heap.size+1,0,none⟩) (by simp)];simp));clear h;go_enter Tryz.func31,Tryz.ntmps31;go_wp2_with fail
 refine a1.mono ?_;rintro e w1 ⟨rfl,a4⟩;go_wp2;go_ret;exact⟨rfl,a4.after hB⟩
theorem CE (B:Nat)(st:R.St)(a0 path:List UInt8)(text:List UInt8)(w:World)(M O:Nat→Prop)(h:PS w M O B st)(hM:∀b,M b→b<w.heap.size)(hi:Inv st)(hG:ZL w)(a3:path.length≤maxLen)(a5:text.length≤maxLen):
  Calls Tryz.prog 32 #[.pointer (some ⟨B,0,none⟩),.string ⟨a0.toArray⟩,.string ⟨path.toArray⟩,.string ⟨text.toArray⟩] w fun e w' =>e= .returned (.int .i64 (R.change st 45 a0 path 0 text).1)∧zO w w' M O B (R.change st 45 a0 path 0 text).2:=by
 have hB:Below w.heap.size w ((w.alloc (Obj.cells #[.string ⟨path.toArray⟩] 9)).alloc (Obj.cells #[.string ⟨text.toArray⟩] 9)):=((j0g _ _).alloc (j0a _) _).alloc (by simp) _;have a1:=qY B st a0 path 45 0 text ((w.alloc (Obj.cells #[.string ⟨path.toArray⟩] 9)).alloc (Obj.cells #[.string ⟨text.toArray⟩] 9)) M O 62 [.pointer (some ⟨w.heap.size,0,none⟩),.pointer (some ⟨w.heap.size+1,0,none⟩)] _ (h.below hB) (fun b hb=>by have:=hM b hb;simp;omega) hi (hG.below hB) a3 (.inr (.inr (.inr (.inl rfl)))) rfl (fun a2 ta tc W hW hp=>cO _ _ path text W M w.heap.size (w.heap.size+1) (fun b hb=>by have:=hM b hb;have:=hW.size;simp at this;omega) hp (ZB hi a0) a2 a5 (by rw[hW.cell (p:=⟨w.heap.size,0,none⟩) (by simp<;>omega)];simp) (by rw[hW.cell (p:=⟨w.heap.size+1,0,none⟩) (by simp)];simp));clear h;go_enter Tryz.func32,Tryz.ntmps32;go_wp2_with fail
 refine a1.mono ?_;rintro e w1 ⟨rfl,a4⟩;go_wp2;go_ret;exact⟨rfl,a4.after hB⟩
theorem Fh (B:Nat)(st:R.St)(a0 path:List UInt8)(w:World)(M O:Nat→Prop)(h:PS w M O B st)(hM:∀b,M b→b<w.heap.size)(hi:Inv st)(hG:ZL w)(a3:path.length≤maxLen):
  Calls Tryz.prog 42 #[.pointer (some ⟨B,0,none⟩),.string ⟨a0.toArray⟩,.string ⟨path.toArray⟩] w fun e w' =>e= .returned (.int .i64 (R.change st 0 a0 path 0 []).1)∧zO w w' M O B (R.change st 0 a0 path 0 []).2:=by
 have hB:Below w.heap.size w (w.alloc (Obj.cells #[.string ⟨path.toArray⟩] 9)):=(j0g _ _).alloc (j0a _) _;have a1:=qY B st a0 path 0 0 [] (w.alloc (Obj.cells #[.string ⟨path.toArray⟩] 9)) M O 75 [.pointer (some ⟨w.heap.size,0,none⟩)] _ (h.below hB) (fun b hb=>by have:=hM b hb;simp;omega) hi (hG.below hB) a3 (.inr (.inr (.inr (.inr rfl)))) rfl (fun a2 ta tc W hW hp=>GK _ _ path W M w.heap.size (fun b hb=>by have:=hM b hb;have:=hW.size;simp at this;omega) hp (ZB hi a0) a2 (by rw[hW.cell (p:=⟨w.heap.size,0,none⟩) (by simp)];simp));clear h;go_enter Tryz.func42,Tryz.ntmps42;go_wp2_with fail
 refine a1.mono ?_;rintro e w1 ⟨rfl,a4⟩;go_wp2;go_ret;exact⟨rfl,a4.after hB⟩
theorem Fi (B:Nat)(st:R.St)(name:List UInt8)(w:World)(M O:Nat→Prop)(h:PS w M O B st)(hi:Inv st)(hM:∀b,M b→b<w.heap.size)(e9:st.packed.length≤100000000000)(hG:ZL w)(h6:∀b,O b→6≤b):
  Calls Tryz.prog 28 #[.pointer (some ⟨B,0,none⟩),.string ⟨name.toArray⟩] w fun e w' =>e= .returned (.tuple #[.int .i64 (R.commit st name).1.1,.int .i64 (R.commit st name).1.2])∧zO w w' M O B (R.commit st name).2:=by
 have a7:=h;obtain⟨bv,cv,LB,LCm,hP⟩:=h;have a3:=vv hP hi name;by_cases hf:R.fnd st.brs name<st.brs.length
 ·obtain⟨hl,ha,he,b5,b9⟩:=ZN hP name hf
  have a5:¬R.fndI st.brs name<0:=by rw[R.fndI,if_pos hf];omega
  have a8:=hP.at_ _ (j0c hl);have d3:=hP.lt _ (hP.blk _ (j0c hl)).1;have b3:=oA hP hi _ (j0c hl);rw[←b5,←b9]at b3;have c1:=a8.c1;have c2:=a8.c2;have a6:=a8.work;rw[←b9]at a6;rw[←b5]at c1;obtain⟨ta,tn,tc,d6⟩:∃a n k,(LB[R.fnd st.brs name]'hl).2.2= .slice a n k:=by obtain⟨L,_,⟨a,k,e,_⟩,_⟩:=a6;exact⟨a,_,k,e⟩
  rw[d6]at c2 a6;have b6:=Qj hi name;have a0:=ZB hi name;have a4:=a0.inj (Xg hi (R.headOf st name));rw[ha]at a3;have a1:Hid (∀W pa pc,Below w.heap.size w W→Rd W (fun b=>b<w.heap.size) (.slice pa (R.parsOf (R.headOf st name)).length pc) (R.parsOf (R.headOf st name)).length (Kk (R.parsOf (R.headOf st name)))→Calls Tryz.prog 58 #[.pointer (some ⟨B,0,none⟩),.pointer (some ⟨(LB[R.fnd st.brs name]'hl).2.1,0,none⟩),.agg #[.slice pa (R.parsOf (R.headOf st name)).length pc,.slice ta tn tc]] W fun e w' =>e= .returned (.tuple #[.int .i64 (Zc st name {tree:=R.workOf st name,parents:=R.parsOf (R.headOf st name)}).1.1,.int .i64 (Zc st name {tree:=R.workOf st name,parents:=R.parsOf (R.headOf st name)}).1.2])∧zO w w' M O B (Zc st name {tree:=R.workOf st name,parents:=R.parsOf (R.headOf st name)}).2):=fun W pa pc hW a9=>by
   have:=JC (hP.kept (Z:=fun _=>False) (zh.of_below hW) (fun _ e=>e.elim) (fun b e=> .inl e) hP.sub) hi name hf hl {tree:=R.workOf st name,parents:=R.parsOf (R.headOf st name)} pa pc ta tn tc (a6.below hW) (a9.step (zh.refl (fun _=>False) W) (fun _ e=>e.elim) (fun b e=> .inl (hM b e))) (fun b e=>j0b (hM b e) hW.size) a0 b6.1 b6.2 e9 (hG.below hW) h6;refine this.mono ?_;rintro e w' ⟨he,b1⟩;exact⟨he,zO.after hW b1⟩
  have e2:Hid (∀W,Calls Tryz.prog 59 #[.int .i64 (R.headOf st name:Int)] W fun e w' =>∃pa pc,e= .returned (.slice pa (R.parsOf (R.headOf st name)).length pc)∧Rd w' (fun b=>b<W.heap.size) (.slice pa (R.parsOf (R.headOf st name)).length pc) (R.parsOf (R.headOf st name)).length (Kk (R.parsOf (R.headOf st name)))∧Below W.heap.size W w'):=fun W=>oh _ W
  have d8:Hid (R.workOf st name=R.treeOf st (R.headOf st name)→R.commit st name=((0,9),st)):=fun e=>by
   rw[R.commit,if_neg a5,if_pos (by rw[←e])]
  have c8:Hid (¬R.workOf st name=R.treeOf st (R.headOf st name)→R.commit st name=Zc st name {tree:=R.workOf st name,parents:=R.parsOf (R.headOf st name)}):=fun e=>by
   rw[R.commit,if_neg a5,if_neg (fun h=>e (a4.1 h)),Zc]
  have b2:=z6 a7;have d7:=z6 b3;have e1:=z6 a3;obtain⟨ad,c9⟩:∃ad,ad=Zc st name {tree:=R.workOf st name,parents:=R.parsOf (R.headOf st name)}:=⟨_,rfl⟩
  rw[←c9]at a1 c8;generalize(LB[R.fnd st.brs name]'hl).2.1=bb at*;clear hP a7 hi hG b3 a8 a6 b6 a0 a4 a3 b9 b5 he ha d6 c9 hM;generalize R.parsOf (R.headOf st name)=ps at*;generalize R.headOf st name=hd at*;generalize R.workOf st name=wk at*;go_enter Tryz.func28,Tryz.ntmps28;go_wp2_with fail
  refine e1.out.mono ?_;rintro e w1 ⟨rfl,b8⟩;subst b8;go_wp2_with fail
  refine d7.out.mono ?_;rintro e w2 ⟨b,hb,rfl,a2⟩;have c6:=z6 a2;have c7:=z6 hb;have d1:=(a2.cell (p:=⟨bb,1,none⟩) d3).trans c1;have d2:=(a2.cell (p:=⟨bb,2,none⟩) d3).trans c2;have d5:=a2.size;clear hb a2
  cases b
  ·go_wp2
   go_ret2;rw[d8.out (c7.out.1 (by first|trivial|rfl))];exact⟨rfl,zO.same b2.out c6.out⟩
  ·have d9:Hid (R.commit st name=ad):=c8.out (fun e=>by have:=c7.out.2 e;first|exact this|cases this)
   have e7:Below w1.heap.size w1 w2.drew:=c6.out.drew;have e8:bb<w2.drew.heap.size:=by show bb<w2.heap.size;omega
   go_wp2;go_region_with (first
    |(go_at_call 59;refine(e2.out _).mono ?_;rintro e w9 ⟨pa,pc,rfl,a9,b4⟩;have e6:Below w1.heap.size w1 w9:=e7.trans (b4.mono d5);have d4:∀o,w9.cell? ⟨bb,o,none⟩=w2.drew.cell? ⟨bb,o,none⟩:=fun o=>b4.cell (p:=⟨bb,o,none⟩) e8;have b7:Rd w9 (fun b=>b<w1.heap.size) (.slice pa ps.length pc) ps.length (Kk ps):=Rd.step a9 (zh.refl (fun _=>False) w9) (fun _ e=>e.elim) (fun b e=> .inl (j0b e d5));have f2:w9.cell? ⟨bb,2,none⟩=some (.slice ta tn tc):=(d4 2).trans d2;clear a9 b4 d4)
    |(go_at_call 58;with_reducible refine(a1.out _ _ _ e6 b7).mono ?_;rintro e f0 ⟨rfl,b1⟩))
   all_goals
    have e3:=z6 b1;clear b1;go_wp2;go_ret2;rw[d9.out];exact⟨rfl,e3.out⟩
 ·have a5:R.fndI st.brs name<0:=by rw[R.fndI,if_neg hf];omega
  have HR:Hid (R.commit st name=((0,5),st)):=by show _=_;rw[R.commit,if_pos a5]
  have ha:Zs LB st name=none:=by rw[Zs,if_neg hf]
  rw[ha]at a3;have b2:=z6 a7;clear hP a7 hi hf a5 ha hG;go_enter Tryz.func28,Tryz.ntmps28;go_wp2_with fail
  refine a3.mono ?_;rintro e w1 ⟨rfl,b8⟩;subst b8;go_wp2;go_ret2;rw[HR.out];exact⟨rfl,zO.same b2.out (j0g _ _)⟩
