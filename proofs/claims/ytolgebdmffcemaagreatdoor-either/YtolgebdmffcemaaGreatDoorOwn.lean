/- THE CARD of graftkeep.Either: for all raw acts and every two numbers the call returns true and leaves them as they were (the tables of Go's library laid as the program's text lays them). -/
import Derived.Test.YtolgebdmffcemaaGreatDoorQ35
import Derived.Test.YtolgebdmffcemaaGreatDoorCards
import Derived.Test.YtolgebdmffcemaaGreatDoorTie
import Derived.LaidLaws
set_option linter.all false
set_option maxHeartbeats 20000000
set_option maxRecDepth 1000000
open Nat renaming le_of_not_lt→L9
open Go.Proofs.Tryz renaming prog→rJ,func6→M9,f6→MA,func19→LD,results6→MB,params6→MC,underlying3→LI,checked→ME
open Go.Frame renaming enter→eW
open List renaming take_succ_cons→IP,take_zero→IQ,drop_succ_cons→IR,drop_zero→IS
open Go.World renaming holding→MD
namespace Go.Proofs.YtolgebdmffcemaaGreatDoor
open Go Go.Conc Go.RowKit Go.ChangeShapes Go.WideShapes Go.ChangeAt
def K2 (w0:World)(H:Nat→Prop)(B B2:Nat)(st st2:R.St)(c:Nat)(w:World):Prop:=∃O O2:Nat→Prop,(PS w (fun b=>O b∨O2 b) O B st∧PS w (fun b=>O b∨O2 b) O2 B2 st2)∧(∀b,O b→¬O2 b)∧(∀b,O b∨O2 b→¬H b∧b<w.heap.size)∧(Inv st∧Inv st2)∧(st.packed.length≤300000*c∧st2.packed.length≤300000*c)∧Zy w∧Yq H w0 w∧(∀b,b<6→H b)∧(∀b,H b→b<w.heap.size)
section
variable {w0 w w' :World}{H:Nat→Prop}{B B2 c:Nat}{st st2 st' :R.St}
theorem K2.swap (h:K2 w0 H B B2 st st2 c w):K2 w0 H B2 B st2 st c w:=by
 obtain⟨O,O2,h1,h2,h3,h4,h5,h6⟩:=h;exact⟨O2,O,⟨h1.2.smaller (fun b hb=>hb.symm) (fun b hb=> .inl hb),h1.1.smaller (fun b hb=>hb.symm) (fun b hb=> .inr hb)⟩,fun b hb a0=>h2 b a0 hb,fun b hb=>h3 b hb.symm,h4.symm,h5.symm,h6⟩
theorem K2.ks (h:K2 w0 H B B2 st st2 c w):KS w0 H B st c w:=by
 obtain⟨O,O2,h1,h2,h3,h4,h5,h6,h7,h8,h9⟩:=h;exact⟨O,h1.1.smaller (fun b hb=> .inl hb) (fun b hb=>hb),fun b hb=>h3 b (.inl hb),h4.1,h5.1,h6,h7,h8,h9⟩
theorem K2.keptM (h:K2 w0 H B B2 st st2 c w)(k:zf w w'):K2 w0 H B B2 st st2 c w' :=by
 obtain⟨O,O2,⟨⟨bv,cv,LB,LCm,h1⟩,⟨a2,a3,a1,a0,a4⟩⟩,h2,h3,h4,h5,h6,h7,h8,h9⟩:=h;exact⟨O,O2,⟨⟨bv,cv,LB,LCm,h1.keptM k⟩,⟨a2,a3,a1,a0,a4.keptM k⟩⟩,h2,fun b hb=>⟨(h3 b hb).1,j0b (h3 b hb).2 k.size⟩,h4,h5,h6.keptM k,h7.trans (k.h h9),h8,fun b hb=>j0b (h9 b hb) k.size⟩
theorem K2.re (h:K2 w0 H B B2 st st2 c w)(T:Nat→Question→Nat)(d:Nat):K2 w0 H B B2 st st2 c (Go.Proofs.YtolgebdmffcemaaGreatDoor.re w T d):=h.keptM ((zf.refl w).re T d)
theorem K2.alloc (h:K2 w0 H B B2 st st2 c w)(o:Obj):K2 w0 H B B2 st st2 c (w.alloc o):=h.keptM ((zf.refl w).alloc o)
theorem CW {O O2:Nat→Prop}(h1:PS w (fun b=>O b∨O2 b) O2 B2 st2)(h2:∀b,O b→¬O2 b)(h3:∀b,O b∨O2 b→¬H b∧b<w.heap.size)(a2:Inv st2)(a4:st2.packed.length≤300000*c)(hG:Zy w)(hb:Yq H w0 w)(h6:∀b,b<6→H b)(h8:∀b,H b→b<w.heap.size)
  (h:ZT w w' (fun b=>O b∨O2 b) O B st')(hi:Inv st')(hp:st'.packed.length≤300000*c):K2 w0 H B B2 st' st2 c w' :=by
 obtain⟨O',p1,p2,p3⟩:=h;have hk:ze O w (Go.Proofs.YtolgebdmffcemaaGreatDoor.re w' w.tape w'.drawn):=⟨p2.os,rfl,p2.output,p2.size,p2.block⟩
 have a1 :∀b,O' b→¬O2 b:=fun b hb a0=>by
  rcases p3 b hb with h|h
  ·exact h2 b h a0
  ·have:=(h3 b (.inr a0)).2;omega
 have a3:∀b,O' b→b<w'.heap.size:=by obtain⟨bv,cv,LB,LCm,hx⟩:=p1;exact hx.lt
 have q2:PS w' (fun b=>O' b∨O2 b) O2 B2 st2:=by
  have:=h1.kept hk (fun b hb=>⟨.inl hb,h2 b hb⟩) (M' :=fun b=>O' b∨O2 b) (fun b hb=>by
   rcases hb with hb|hb
   ·rcases p3 b hb with h|h
    ·exact .inl (.inl h)
    ·exact .inr h
   ·exact .inl (.inr hb)) (fun b hb=> .inr hb)
  obtain⟨bv,cv,LB,LCm,hx⟩:=this;exact⟨bv,cv,LB,LCm,hx.keptM ((zf.refl _).re w'.tape w'.drawn)⟩
 refine⟨O',O2,⟨p1.smaller (fun b hb=>hb.elim (fun hb=> .inr hb) (fun hb=> .inl (.inr hb))) (fun b hb=> .inl hb),q2⟩,a1,fun b hb=> ?_,⟨hi,a2⟩,⟨hp,a4⟩,?_,?_,h6,fun b hb=>j0b (h8 b hb) p2.size⟩
 ·rcases hb with hb|hb
  ·refine⟨fun e=> ?_,a3 b hb⟩
   rcases p3 b hb with h|h
   ·exact(h3 b (.inl h)).1 e
   ·have:=h8 b e;omega
  ·exact⟨(h3 b (.inr hb)).1,j0b (h3 b (.inr hb)).2 p2.size⟩
 ·have:=(hG.kept hk (fun b hb=>by
   apply L9;intro e;exact(h3 b (.inl hb)).1 (h6 b e))).re w'.tape w'.drawn
  exact this
 ·exact hb.trans ⟨p2.os,p2.output,p2.size,fun k hk=>p2.block k (h8 k hk) (fun e=>(h3 k (.inl e)).1 hk)⟩
def dn (w0:World)(H:Nat→Prop)(B B2 c:Nat)(st2:R.St)(r:(Int×Int)×R.St)(v:Value)(w' :World):Prop:=v= .tuple #[.int .i64 r.1.1,.int .i64 r.1.2]∧K2 w0 H B B2 r.2 st2 c w'
theorem K2.join (h:K2 w0 H B B2 st st2 c w)(hc:c≤300000)(a0 fr:List UInt8)(a1:a0.length≤1000){r:(Int×Int)×R.St}(hr:R.joinB st a0 fr=r):
  zO rJ 19 #[.pointer (some ⟨B,0,none⟩),.string ⟨a0.toArray⟩,.string ⟨fr.toArray⟩] w (dn w0 H B B2 (c+1) st2 r):=by
 subst hr;obtain⟨O,O2,h1,h2,h3,h4,h5,h6,h7,h8,h9⟩:=h;refine(Fv h4.1 h1.1 (fun b hb=>(h3 b hb).2) h6 (fun b hb=>L9 fun e=>(h3 b (.inl hb)).1 (h8 b e)) (by omega) a0 fr a1).mono fun v w' ⟨e1,e2⟩=>⟨e1,CW h1.2 h2 h3 h4.2 (by omega) h6 h7 h8 h9 e2 (QA h4.1 a0 fr) ?_⟩
 have:=VT h4.1 a0 fr;omega
def Cf (w0:World)(H:Nat→Prop)(B c:Nat)(st:R.St)(w:World)(e:Ending)(w' :World):Prop:=∃B2,e= .returned (.pointer (some ⟨B2,0,none⟩))∧K2 w0 H B B2 st st c w' ∧Below w.heap.size w w' ∧w.heap.size≤B2
theorem CV (h:KS w0 H B st c w)(hc:c≤1000)(hl:R.Lived st):Calls rJ 17 #[.pointer (some ⟨B,0,none⟩)] w (Cf w0 H B c st w):=by
 have hi:=h.inv;obtain⟨rs,r1,r2,r3⟩:=hl.open_ hi;have a2:=z6 h.pack;obtain⟨O,h1,h2,h3,h4,h5,h6,h7,h8⟩:=id h;have a0:=z6 (Bn r1 [] (.inl R.whole_nil) w O (fun b hb=>(h2 b hb).2) h5 (by rw[←r3];omega) (by simp));rw[r2,←r3,List.append_nil]at a0;have HK:Hid (∀(e:Ending) (w' :World),bM w O st e w' →Cf w0 H B c st w e w'):=fun e w' ⟨B2,O2,e1,e2,e3,e4⟩=>by
  have a3:O2 B2:=by obtain⟨bv,cv,LB,LCm,hx⟩:=e2;exact hx.own
  refine⟨B2,e1,⟨O,O2,⟨?_,e2⟩,fun b hb a4=> ?_,fun b hb=> ?_,⟨hi,hi⟩,⟨h4,h4⟩,h5.below e3,h6.trans ((zf.of_below e3).h h8),h7,fun b hb=>j0b (h8 b hb) e3.size⟩,e3,e4 B2 a3⟩
  ·exact h1.kept (ze.of_below (M:=fun _=>False) e3) (fun _ e=>e.elim) (fun b hb=>hb.imp id (fun h=>e4 b h)) (fun b hb=> .inl hb)
  ·have:=(h2 b hb).2;have:=e4 b a4;omega
  ·rcases hb with hb|hb
   ·exact⟨(h2 b hb).1,j0b (h2 b hb).2 e3.size⟩
   ·refine⟨fun e=> ?_,?_⟩
    ·have:=h8 b e;have:=e4 b hb;omega
    ·obtain⟨bv,cv,LB,LCm,hx⟩:=e2;exact hx.lt b hb
 clear h1 h2 h3 h4 h5 h6 h7 h8 r1 r2 r3 h hl;generalize a6:st.packed=pk at*;go_enter Tryz.func17,Tryz.ntmps17;go_wp2_with fail
 refine a2.out.mono ?_;rintro e W1 ⟨rfl,hw⟩;replace hw:=hw.symm;subst hw;go_wp2_with fail
 refine a0.out.mono ?_;intro e W2 ho;obtain⟨B2,rfl,h2,hb,a5⟩:=HK.out e W2 ho;have a1:=z6 h2.swap.ks.pack;rw[a6]at a1;have H2:=z6 h2;have HB:=z6 hb;clear h2 hb ho a0 HK a2;go_wp2_with fail
 refine a1.out.mono ?_;rintro e W3 ⟨rfl,hw⟩;replace hw:=hw.symm;subst hw;go_wp2;go_ret;exact⟨B2,rfl,H2.out,HB.out,a5⟩
end
section
theorem K2.kept {w:World}{B B2 c:Nat}{st st2:R.St}{w' :World}(h:K2 w (fun b=>b<w.heap.size) B B2 st st2 c w'):zf w w' :=h.ks.kept
theorem fR {w:World}(hG:Zy w)(h6:6≤w.heap.size){v:Value}{l:List R.Raw}(hA:Rd w (fun _=>False) v l.length (yx l))(b9:∀a∈l,okR a)(x y:Int)(hx:okN x)(hy:okN y):
  ∃N last o w' t',runNT rJ (N+1) (solo (G (eW rJ 6 #[v,.int .i64 x,.int .i64 y] .normal) []) w) #[]=(.ended o w',t')∧runN rJ N (solo (G (eW rJ 6 #[v,.int .i64 x,.int .i64 y] .normal) []) w)= .next last∧
   step rJ last= .ended o w' ∧Conc.Good rJ (AwR w) last o w' t' :=by
 have hP:=xT;have b5:=z6 hA;have b3:=z6 b9;have a8:=z6 (fun W=>Q6 x W hx.1 hx.2);have a9:=z6 (fun W=>Q6 y W hy.1 hy.2);obtain⟨sa,sc,rfl,d8,d3,_⟩:=hA;unfold maxLen at d3;clear b9 hx hy;have hR:∀(v:Value) (w' :World) (T:Nat→Question→Nat) (d:Nat),AwR w v w' →AwR w v (re w' T d):=fun v w' T d ⟨h1,h2⟩=>⟨h1,h2.re T d⟩
 refine O8 hR (oM hP hR M9 rfl (by kernel_rfl) ?_);have a1:ReC (K0 rJ MA (AwR w)):=ReC.bodyE hR;simp only[Tryz.ntmps6,List.size_toArray,List.length_cons,List.length_nil,Nat.reduceAdd,Nat.reduceSub,Array.replicate_succ,Array.replicate_zero,List.push_toArray,List.append_toArray,List.nil_append,List.cons_append];refine z7 hP a1 fun T d=> ?_
 have HB:=z6 ((zf.refl w).re T d);generalize re w T d=W at*;go_wp2;refine z7 hP a1 fun T d=> ?_
 have HK:=z6 (HB.out.re T d);clear HB;generalize re W T d=W1 at*;go_wp2_with fail
 refine(fH (hG.keptM HK.out) (j0f h6 HK.out.size)).mono ?_;rintro e W2 ⟨rfl,hk⟩;have HB:=z6 (HK.out.trans hk);clear HK hk;go_wp2;refine zw hP ?_;refine zN hP 1 a1.thenT rfl rfl rfl Tryz.func16 (by decide) rfl fun T d=> ?_
 have b1:Hid (zO rJ 16 #[.slice sa l.length sc] (re W2 T d) (Fl (re W2 T d))):=CT (hG.keptM (HB.out.re T d)) (j0f h6 (HB.out.re T d).size) (v:= .slice sa l.length sc) (l:=l) (FP b5.out (HB.out.re T d)) b3.out;have a7:=z6 (HB.out.re T d);clear HB;generalize re W2 T d=W3 at*;simp only[IP,IQ,IR,IS];go_wp2;refine⟨_,_,by simp[Act.eval],b1.out,?_⟩;rintro v' V' ⟨B,st,rfl,a5,_,hs⟩ T d;have HS:=z6 (hs.re T d);have b2:=z6 a5;obtain⟨n,m,er,s1,t1,u,v,j1,j2,u1,v1,a3⟩:=R.either_facts a5 hs.inv (R.brN_abc x) (R.brN_abc y);have d6:=UJ x;have d7:=UJ y;clear hs b1 b5 b3 a5;generalize R.brN x=na at*;generalize R.brN y=nb at*;have J1:=z6 j1;have J2:=z6 j2;have b6:=z6 u1;have b7:=z6 v1;clear j1 j2 u1 v1;generalize re V' T d=V0 at*;clear V';go_wp2;refine z7 hP a1 fun T d=> ?_
 have a0 :=z6 (HS.out.re T d);clear HS;generalize re V0 T d=U0 at*;go_wp2;have HS:=z6 a0.out;clear a0;generalize hV:U0=V1 at*;clear hV;refine z7 hP a1 fun T d=> ?_
 have a0 :=z6 (HS.out.re T d);clear HS;generalize re V1 T d=U1 at*;have a6:=z6 (CV a0.out (by omega) b2.out);go_wp2_with fail
 refine a6.out.mono ?_;rintro e V2 ⟨B2,rfl,h2,_,_⟩;have HS:=z6 h2;clear h2 a6 a0 b2;go_wp2;refine z7 hP a1 fun T d=> ?_
 have a0 :=z6 (HS.out.re T d);clear HS;generalize re V2 T d=U2 at*;go_wp2;have HS:=z6 a0.out;clear a0;generalize hV:U2=V3 at*;clear hV;refine z7 hP a1 fun T d=> ?_
 have a0 :=z6 (HS.out.re T d);clear HS;generalize re V3 T d=U3 at*;go_wp2_with fail
 refine(a8.out _).mono ?_;rintro e V4 ⟨rfl,hw⟩;have HS:Hid (K2 W3 (fun b=>b<W3.heap.size) B B2 st st 70 V4):=by subst hw;exact a0.out.alloc _
 clear a0 hw a8;go_wp2;refine z7 hP a1 fun T d=> ?_
 have a0 :=z6 (HS.out.re T d);clear HS;generalize re V4 T d=U4 at*;go_wp2_with fail
 refine(a9.out _).mono ?_;rintro e V5 ⟨rfl,hw⟩;have HS:Hid (K2 W3 (fun b=>b<W3.heap.size) B B2 st st 70 V5):=by subst hw;exact a0.out.alloc _
 clear a0 hw a9;go_wp2;refine zw hP ?_;refine zN hP 3 a1.thenT rfl rfl rfl LD (by decide) rfl fun T d=> ?_
 have a0 :=z6 (HS.out.re T d);clear HS;generalize re V5 T d=U5 at*;simp only[IP,IQ,IR,IS];go_wp2;refine⟨_,_,by simp[Act.eval],a0.out.join (by omega) na nb (by omega) J1.out,?_⟩;rintro v' V' ⟨rfl,hs⟩ T d;have HS:=z6 (hs.re T d);clear a0 hs J1;generalize re V' T d=V6 at*;clear V';go_wp2;refine zw hP ?_;refine zN hP 3 a1.thenT rfl rfl rfl LD (by decide) rfl fun T d=> ?_
 have a0 :=z6 (HS.out.re T d);clear HS;generalize re V6 T d=U6 at*;simp only[IP,IQ,IR,IS];go_wp2;refine⟨_,_,by simp[Act.eval],a0.out.swap.join (by omega) nb na (by omega) J2.out,?_⟩;rintro v' V' ⟨rfl,hs⟩ T d;have HS:=z6 (hs.swap.re T d);clear a0 hs J2;generalize re V' T d=V7 at*;clear V';go_wp2;refine z7 hP a1 fun T d=> ?_
 have a0 :=z6 (HS.out.re T d);clear HS;generalize re V7 T d=U7 at*;go_wp2_with fail
 refine(a0.out.ks.showK na b6.out).mono ?_;rintro e V8 ⟨rfl,hk⟩;have HS:=z6 (a0.out.keptM hk);clear a0 hk b6;go_wp2;refine z7 hP a1 fun T d=> ?_
 have a0 :=z6 (HS.out.re T d);clear HS;generalize re V8 T d=U8 at*;go_wp2_with fail
 refine(a0.out.swap.ks.showK nb b7.out).mono ?_;rintro e V9 ⟨rfl,hk⟩;have HS:=z6 (a0.out.keptM hk);clear a0 hk b7;go_wp2;refine z7 hP a1 fun T d=> ?_
 have a0 :=z6 (HS.out.re T d);clear HS;generalize re V9 T d=U9 at*;go_wp2;have HS:=z6 a0.out;clear a0;generalize hV:U9=V10 at*;clear hV;rcases a3 with⟨b8,rfl,rfl,c6⟩|⟨rfl,rfl,oo,s2,j3,j4,s3,s4⟩
 ·have d4:(er==0)=false:=by rw[beq_eq_false_iff_ne];exact b8
  have d5:(er !=0)=true:=by rw[bne_iff_ne];exact b8
  have c7:=z6 c6;clear c6;refine z7 hP a1 fun T d=> ?_
  have a0 :=z6 (HS.out.re T d);clear HS;generalize re V10 T d=U10 at*;have a4:=z6 a0.out.ks.pack;rw[c7.out]at a4;have b4:=z6 a0.out.swap.ks.pack;go_wp2_with fail
  refine a4.out.mono ?_;rintro e W' ⟨rfl,hw⟩;replace hw:=hw.symm;subst hw;clear a4;go_wp2_with fail
  refine b4.out.mono ?_;rintro e W' ⟨rfl,hw⟩;replace hw:=hw.symm;subst hw;clear b4;go_wp2;refine⟨rfl,_,fun W=>⟨by simp[results,MB,go_sem],by simp[results,MB,go_sem]⟩,⟨rfl,a7.out.trans a0.out.kept⟩⟩
 ·have J3:=z6 j3
  have J4:=z6 j4;have S3:=z6 s3;have S4:=z6 s4;clear j3 j4 s3 s4;refine z7 hP a1 fun T d=> ?_
  have a0 :=z6 (HS.out.re T d);clear HS;generalize re V10 T d=U10 at*;go_wp2;have HS:=z6 a0.out;clear a0;generalize hV:U10=V11 at*;clear hV;refine z7 hP a1 fun T d=> ?_
  have a0 :=z6 (HS.out.re T d);clear HS;generalize re V11 T d=U11 at*;have a2:=z6 a0.out.ks.pack;go_wp2_with fail
  refine a2.out.mono ?_;rintro e W' ⟨rfl,hw⟩;replace hw:=hw.symm;subst hw;clear a2;go_wp2;have HS:=z6 a0.out;clear a0;generalize hV:U11=V12 at*;clear hV;refine zw hP ?_;refine zN hP 3 a1.thenT rfl rfl rfl LD (by decide) rfl fun T d=> ?_
  have a0 :=z6 (HS.out.re T d);clear HS;generalize re V12 T d=U12 at*;simp only[IP,IQ,IR,IS];go_wp2;refine⟨_,_,by simp[Act.eval],a0.out.join (by omega) na nb (by omega) J3.out,?_⟩;rintro v' V' ⟨rfl,hs⟩ T d;have HS:=z6 (hs.re T d);clear a0 hs J3;generalize re V' T d=V13 at*;clear V';go_wp2;refine z7 hP a1 fun T d=> ?_
  have a0 :=z6 (HS.out.re T d);clear HS;generalize re V13 T d=U13 at*;have a2:=z6 a0.out.ks.pack;go_wp2_with fail
  refine a2.out.mono ?_;rintro e W' ⟨rfl,hw⟩;replace hw:=hw.symm;subst hw;clear a2;go_wp2;have HS:=z6 a0.out;clear a0;generalize hV:U13=V14 at*;clear hV;refine z7 hP a1 fun T d=> ?_
  have a0 :=z6 (HS.out.re T d);clear HS;generalize re V14 T d=U14 at*;go_wp2;have HS:=z6 a0.out;clear a0;generalize hV:U14=V15 at*;clear hV;refine zw hP ?_;refine zN hP 3 a1.thenT rfl rfl rfl LD (by decide) rfl fun T d=> ?_
  have a0 :=z6 (HS.out.re T d);clear HS;generalize re V15 T d=U15 at*;simp only[IP,IQ,IR,IS];go_wp2;refine⟨_,_,by simp[Act.eval],a0.out.join (by omega) nb na (by omega) J4.out,?_⟩;rintro v' V' ⟨rfl,hs⟩ T d;have HS:=z6 (hs.re T d);clear a0 hs J4;generalize re V' T d=V16 at*;clear V';go_wp2;refine z7 hP a1 fun T d=> ?_
  have a0 :=z6 (HS.out.re T d);clear HS;generalize re V16 T d=U16 at*;go_wp2_with fail
  refine(a0.out.ks.showK nb S3.out).mono ?_;rintro e c8 ⟨rfl,hk⟩;have HS:=z6 (a0.out.keptM hk);clear a0 hk S3;go_wp2;refine z7 hP a1 fun T d=> ?_
  have a0 :=z6 (HS.out.re T d);clear HS;generalize re c8 T d=U17 at*;go_wp2_with fail
  refine(a0.out.ks.tree _ S4.out).mono ?_;rintro e c9 ⟨rfl,_,hk⟩;have HS:=z6 (a0.out.keptM hk);clear a0 hk S4;go_wp2;refine z7 hP a1 fun T d=> ?_
  have a0 :=z6 (HS.out.re T d);clear HS;generalize re c9 T d=U18 at*;go_wp2;refine qa hP ?_;refine⟨rfl,_,fun W=>⟨by simp[results,MB,go_sem],by simp[results,MB,go_sem]⟩,⟨rfl,a7.out.trans a0.out.kept⟩⟩
end
theorem oD (H:Type)(enc:TypeId×Value→H)(W:World)(base:Nat)(args:Array Value)(ds gs:List (DataW H))(a1:List MemPlace)
  (a0:∀(j:Nat) t v,Tryz.f6.params[j]? =some t→args[j]? =some v→Value.okWide rJ W .any base t v)
  (hW:DataW.Whole enc rJ Tryz.f6.params.toList Rows.eitherSpec.vars false W args.toList ds gs a1)
  (hL:laidMetH rJ Rows.eitherRow.laid W)(hS:W.ShapedOpen rJ):
  ∃M last o w' t',runNT rJ (M+1) (solo (G (eW rJ 6 args .normal) []) W) #[]=(.ended o w',t')∧runN rJ M (solo (G (eW rJ 6 args .normal) []) W)= .next last∧
   step rJ last= .ended o w' ∧Conc.Good rJ (fun v W' =>Rows.eitherSpec.post enc rJ MA false true false false W args v W') last o w' t' :=by
 have a6 :=hW;obtain⟨p,q,a5,hV,rfl,b5,b6⟩:=hW;have hA:DataW.TrodAll enc rJ W 0 (fun _=>true) true Tryz.f6.params.toList args.toList ds p:=a5;rw[MC]at hA a0;obtain⟨v0,b7,d0,a9,p0,q0,a7,rfl,rfl,h0,r0⟩:=trodAll_cons hA;obtain⟨v1,b8,d1,b3,p1,q1,a2,rfl,rfl,h1,r1⟩:=trodAll_cons r0;obtain⟨v2,b9,d2,b4,p2,q2,a3,rfl,rfl,h2,r2⟩:=trodAll_cons r1;obtain⟨rfl,rfl,rfl⟩:=trodAll_nil r2;subst a3 a2;obtain rfl:args= #[v0,v1,v2]:=by cases args;simp_all
 obtain⟨rfl,rfl⟩:=trodVars_none hV;clear a5;obtain⟨n1,rfl,rfl,rfl,b1⟩:=open_int LI (a0 1 3 v1 rfl rfl) h1;obtain⟨n2,rfl,rfl,rfl,b2⟩:=open_int LI (a0 2 3 v2 rfl rfl) h2;obtain⟨l,a8,hR⟩:=fs (a0 0 25 v0 rfl rfl) h0;have hG:Zy W:=CY hL hS;obtain⟨M,last,o,w',t',k1,k2,k3,k4⟩:=fR hG hG.size hR a8 n1 n2 (xB b1) (xB b2);refine⟨M,last,o,w',t',k1,k2,k3,un k4 ?_⟩;rintro v ⟨rfl,hk⟩;have hg:=JM hk;have a4:∀x∈p0,x.block<W.heap.size:=fun x hx=>a6.lt x (by simp[hx])
 refine⟨[d0,.lit (.int .i64 n1),.lit (.int .i64 n2)],[],p0++([]++([]++ [])),[],p0++([]++([]++ [])),[],by simpa using a6,trodAll_cons_mk (shut_bool Tryz.underlying4 _) trodAll_mk0,?_,rfl,jS hg _,fun h=>by cases h⟩;exact trodAll_cons_mk (Go.WideElems.Trod_stays fF JN bu h0 (fun x hx=>Jo hg (a4 x hx)) (fun x hx=>by simpa using a4 x hx)) (trodAll_cons_mk (shut_int LI b1) (trodAll_cons_mk (shut_int LI b2) trodAll_mk0))
def BZ:DataW Unit→List Value
 | .lit (.int k z)=> [.int k z]
 |_=> []
def BX:DataW Unit→List Value
 | .agg l=>l.flatMap BZ
 |d=>BZ d
def dw:DataW Unit→Array Value
 | .agg l=>(l.flatMap BX).toArray
 |d=>(BX d).toArray
def XS (d:DataW Unit):Obj→Obj
 | .cells _ t frozen=> .cells (dw d) t frozen
 |o=>o
def Ov (b:Nat):Obj→Obj
 | .cells _ t frozen=> .cells #[.iface 323 (.pointer (some ⟨b,0,none⟩))] t frozen
 |o=>o
theorem gV (os:Os):∃w0:World,w0.os=os∧(w0.forCall (fun _ _=>0) ⟨#[],#[.slice none 0 0,.int .i64 0,.int .i64 0],[]⟩).variablesB Tryz.checked.prog=true∧
  ((w0.forCall (fun _ _=>0) ⟨#[],#[.slice none 0 0,.int .i64 0,.int .i64 0],[]⟩).heap.toList.drop Tryz.checked.prog.globals.size).take ((begin Tryz.checked.prog (fun _ _=>0) default).world.heap.size-Tryz.checked.prog.globals.size)=
   (begin Tryz.checked.prog (fun _ _=>0) default).world.heap.toList.drop Tryz.checked.prog.globals.size∧
  Input.okWideB Tryz.checked.prog (w0.forCall (fun _ _=>0) ⟨#[],#[.slice none 0 0,.int .i64 0,.int .i64 0],[]⟩) 6 ⟨#[],#[.slice none 0 0,.int .i64 0,.int .i64 0],[]⟩=true∧
  laidMet rJ Rows.eitherRow.laid (w0.forCall (fun _ _=>0) ⟨#[],#[.slice none 0 0,.int .i64 0,.int .i64 0],[]⟩).memory:=
 ⟨{MD rJ os ⟨#[],#[],[]⟩with heap:=(((((((((MD rJ os ⟨#[],#[],[]⟩).heap.modify 1 (XS Rows.laid_internal_strconv_uint64pow10)).modify 2 (XS Rows.laid_unicode_utf8_first)).modify 3 (XS Rows.laid_unicode_utf8_acceptRanges)).modify 4 (Ov 13)).modify 5 (Ov 14)).modify 6 (XS Rows.laid_math_bits_deBruijn32tab)).modify 7 (XS Rows.laid_math_bits_deBruijn64tab)).push (.cells #[.string ⟨#[105,110,118,97,108,105,100,32,115,121,110,116,97,120]⟩] 325 (0,0))).push (.cells #[.string ⟨#[118,97,108,117,101,32,111,117,116,32,111,102,32,114,97,110,103,101]⟩] 325 (0,0))},
  rfl,by kernel_rfl,by kernel_rfl,by kernel_rfl,laidMet_of_run' 8 (by kernel_rfl) (by kernel_rfl)⟩
theorem BT (w0:World){H:Type}(enc:TypeId×Value→H):DataW.whole enc rJ (w0.forCall (fun _ _=>0) ⟨#[],#[.slice none 0 0,.int .i64 0,.int .i64 0],[]⟩).memory Tryz.f6.params.toList Rows.eitherSpec.vars false (#[.slice none 0 0,.int .i64 0,.int .i64 0]:Array Value).toList 8=some ([.nil,.lit (.int .i64 0),.lit (.int .i64 0)],[],[]):=by kernel_rfl
theorem own:ownKnob Tryz.prog.godebug=none:=by kernel_rfl
theorem Um (os:Os)(a0:os.Started)(H:Type)(enc:TypeId×Value→H)(F:Stop.Interp):
  ReturnsInLeavingWide {} ME os 6 .any ((OpenSpec.ofChange Rows.eitherSpec).preRow enc rJ MA Rows.eitherRow.domain false Rows.eitherRow.laid) (((OpenSpec.ofChange Rows.eitherSpec).at F).post enc rJ MA false true false false):=by
 obtain⟨w0,ho,h1,h2,h3,h4⟩:=gV os;refine Xy (C:=ME) (s:=OpenSpec.ofChange Rows.eitherSpec) own a0 M9
  (witness_row_at (enc:=enc) (C:=ME) false w0 #[.slice none 0 0,.int .i64 0,.int .i64 0] ho h1 h2 h3
   (OpenSpec.preRow_of_cond 8 (BT w0 enc) (by kernel_rfl) (fun k hk=>by cases hk) (by kernel_rfl) h4)) ?_
 intro W base args ds gs a1 a2 hW hc hL hS;exact oD H enc W base args ds gs a1 a2 hW hL hS
theorem JG:joinedFacts Tryz.pinned.checked.prog 6 MA (OpenSpec.ofChange Rows.eitherSpec).bare Rows.eitherRow=true:=by
 unfold joinedFacts;simp only[Bool.and_eq_true];repeat' apply And.intro
 all_goals as_aux_lemma=>kernel_rfl
theorem FE:Rows.EitherSaid:=
 holds_of_cond_leaving 6 MA rfl rfl rfl rfl rfl rfl rfl ⟨rfl,rfl,rfl,rfl,rfl⟩ rfl rfl rfl rfl rfl (by as_aux_lemma=>kernel_rfl) M9 JG
  (of_decide_eq_true (by as_aux_lemma=>kernel_rfl)) (by unfold Func.isWrapper;first|(rw[if_pos (by decide+kernel)];kernel_rfl)|(rw[if_neg (by decide+kernel)];exact⟨rfl,rfl⟩))
  (fun os a0 H enc _ F=>by rw[OpenClaim.pre_eq_preRow];exact Um os a0 H enc F)
theorem plain (f:FuncId)(fn:Func)(hf:Tryz.pinned.checked.prog.funcNamed "graft/graftkeep.Either" =some f)(a0:Tryz.pinned.checked.prog.funcs[f]? =some fn):
  true=Tryz.pinned.checked.prog.looks []∧∀(j:Nat) t,fn.params[j]? =some t→Tryz.pinned.checked.prog.wantsStandIn t=false:=by
 obtain rfl:f=6:=Option.some.inj ((show Tryz.prog.funcNamed "graft/graftkeep.Either" =some 6 by kernel_rfl).symm.trans hf)|>.symm;obtain rfl:fn=MA:=(Option.some.inj (Tryz.func6.symm.trans a0)).symm;refine⟨by as_aux_lemma=>kernel_rfl,fun j t ht=> ?_⟩;rw[MC]at ht;have a1 :t=25∨t=3:=by simpa using Array.mem_of_getElem? ht
 rcases a1 with rfl|rfl
 ·exact(show Tryz.prog.wantsStandIn 25=false by kernel_rfl)
 ·exact(show Tryz.prog.wantsStandIn 3=false by kernel_rfl)
theorem tied_goes (Lk:Looks){p:Pinned}{s:OpenSpec}{c:OpenClaim}(kinds:List LaidKind)(a0:Bool)(a1:Bool×String)(lk:Bool)
  (hc:c.holds p s)(hw:c.wfByText s=true)(a2:c.laidByTextAt Lk p kinds a0)
  (a4:c.start= .entering)(a3:c.noBlocks=false∧c.again=false)(hm:p.checked.prog.mainIs=some (a1.1,a1.2.toList))(hn:(!a1.1&&a1.2.isEmpty&& !lk)=false)
  (hl:∀f fn,p.checked.prog.funcNamed c.func=some f→p.checked.prog.funcs[f]? =some fn→lk=p.checked.prog.looks []∧∀(j:Nat) t,fn.params[j]? =some t→p.checked.prog.wantsStandIn t=false)
  (hg:true=c.goesBy p.checked.prog):
  Claim7.holds p (.plain s) {stood:={row:=c,standIns:=[],harness:=a1,looks:=lk},kinds:=[],alts:=[],goes:=true,laidByText:=true,laidKinds:=kinds,laidTests:=a0,laidLooks:=Lk}:=by
 have h6:Claim7.isSixth {stood:={row:=c,standIns:=[],harness:=a1,looks:=lk},kinds:=[]}=false:=by simpa[Claim7.isSixth]using hn
 exact⟨Claim7.tied_new_at Lk kinds a0 (Claim7.new_of_sixth hc a1 lk a4 a3 hm h6 hl) hw,fun D hD=>(by cases hD),a2,(fun h=>by cases h),hg⟩
theorem either_full:Rows.EitherCardSaid:=
 tied_goes .later _ _ _ _ FE (by as_aux_lemma=>kernel_rfl) either_row_tie rfl ⟨rfl,rfl⟩ (by as_aux_lemma=>kernel_rfl) rfl plain (by as_aux_lemma=>kernel_rfl)
#print axioms either_full
