import Derived.Test.YtolgebdmffcemaaGreatDoorQ32
import Derived.Laws.BytesArg
set_option linter.all false
set_option maxHeartbeats 20000000
set_option maxRecDepth 1000000
namespace Go.Proofs.YtolgebdmffcemaaGreatDoor
open Go Go.Conc Go.RowKit
theorem cA {w:World}{pv:Value}{pk:List UInt8}(h:w.ownsRow 0 5 1 pv pk.length (Lib.byteCells pk)):(convert 100 9 pv).run Tryz.prog w= .ok (.string ⟨pk.toArray⟩) w:=by
 obtain⟨a,cap,rfl,h1,h2,h3,h4⟩:=zl h
 cases a with
 |none=>
  have e:pk=[]:=List.length_eq_zero_iff.1 (h3 rfl).1;subst e;exact run_convert_bytes_nil w 100 5 Tryz.underlying100 Tryz.underlying5 _ _ 9 Tryz.underlying9
 |some ad=>
  obtain⟨g,rfl,_,_,_,h5⟩:=h4 ad rfl;refine run_convert_bytes_back _ 100 9 5 ⟨g,0,none⟩ cap pk Tryz.underlying100 Tryz.underlying5 Tryz.underlying9 ?_;intro j hj;rw[yq,Nat.zero_add];refine h5 j _ ?_;simp[Lib.byteCells,j0d hj]
theorem KS.pack {w0 w:World}{H:Nat→Prop}{B c:Nat}{st:R.St}(h:KS w0 H B st c w):
  Calls Tryz.prog 21 #[.pointer (some ⟨B,0,none⟩)] w fun e w' =>e= .returned (.string ⟨st.packed.toArray⟩)∧w' =w:=by
 obtain⟨O,⟨bv,cv,LB,LCm,hx⟩,_⟩:=h;obtain⟨pv,hp⟩:=hx.pk;have c2:=hp.c2;have a1:=cA hp.row;obtain⟨pa,pn,pc,a0⟩:∃a n k,pv= .slice a n k:=by obtain⟨a,k,e,_⟩:=zl hp.row;exact⟨a,_,k,e⟩
 subst a0;clear hp hx;generalize st.packed=pk at*;go_enter Tryz.func21,Tryz.ntmps21;go_wp2;go_ret;exact⟨YF rfl,rfl⟩
theorem Fm:(R.made aw0 [97] [] false).2.packed=[66,0,2,0,97,166]:=by decide+kernel
theorem G9 {w:World}(hG:ZL w)(h6:6≤w.heap.size):
  Calls Tryz.prog 15 #[] w fun e w' =>e= .returned (.bool true)∧ze w w' :=by
 have HS:=z6 (KS.new (w0:=w) (w:=w) (H:=fun b=>b<w.heap.size) hG (xk.refl _ _) (fun b hb=>by omega) (fun b hb=>hb));go_enter Tryz.func15,Tryz.ntmps15;go_wp2_with fail
 refine(fR w).mono ?_;rintro e W4 ⟨rfl,rfl⟩;generalize hV:w.alloc (.cells #[.slice none 0 0,.slice none 0 0,.slice none 0 0] 102)=V0 at*;generalize hB:w.heap.size=B at*;go_wp2_with fail
 refine(HS.out.branch (by omega) [97] (by unfold maxLen;simp) CJ).mono ?_;rintro e V1 ⟨rfl,hs⟩;have a1:=z6 hs;have a0:=z6 hs.pack;rw[Fm]at a0;clear hs HS hV;go_wp2_with fail
 refine a0.out.mono ?_;rintro e V2 ⟨rfl,rfl⟩;go_wp2;go_ret;exact⟨rfl,a1.out.held.m fun b hb=>by omega⟩
section
variable {w0 w:World}{H:Nat→Prop}{B c:Nat}{st:R.St}
theorem KS.drop (h:KS w0 H B st c w)(hc:c≤300000)(name:List UInt8)(a2:name.length≤8){r:Int}(hr:(R.dropped st name).1=r)(a0 :Inv (R.dropped st name).2)(a1 :(R.dropped st name).2.packed.length≤st.packed.length+300000):
  Calls Tryz.prog 37 #[.pointer (some ⟨B,0,none⟩),.string ⟨name.toArray⟩] w fun e w' =>e= .returned (.int .i64 r)∧KS w0 H B (R.dropped st name).2 (c+1) w' :=by
 subst hr;exact h.call a0 a1 fun O h1 h2 h3 h4 h5 h6=>Cq B st name w O O h1 h4 (by omega)
theorem KS.c1 (h:KS w0 H B st c w)(hc:c≤300000)(hl:R.LivI st)(hp:R.PathI st):Calls Tryz.prog 29 #[.pointer (some ⟨B,0,none⟩),.string ⟨#[100]⟩,.string ⟨#[110,111,110,101,48]⟩] w fun e w' =>e= .returned (.int .i64 5)∧KS w0 H B st (c+1) w' :=by
 have e:=R.rf1 hl;try unfold R.none0 at e
 try unfold R.nowhere at e
 try unfold R.fresh at e
 refine(h.fork hc [100] [110,111,110,101,48] (by unfold maxLen;simp) (congrArg Prod.fst e)).mono fun x w' ⟨e1,e2⟩=>⟨e1,?_⟩
 rw[e]at e2;exact e2
theorem KS.c2 (h:KS w0 H B st c w)(hc:c≤300000)(hl:R.LivI st)(hp:R.PathI st):Calls Tryz.prog 29 #[.pointer (some ⟨B,0,none⟩),.string ⟨#[]⟩,.string ⟨#[97]⟩] w fun e w' =>e= .returned (.int .i64 1)∧KS w0 H B st (c+1) w' :=by
 have e:=R.rf2 (st:=st);try unfold R.none0 at e
 try unfold R.nowhere at e
 try unfold R.fresh at e
 refine(h.fork hc [] [97] (by unfold maxLen;simp) (congrArg Prod.fst e)).mono fun x w' ⟨e1,e2⟩=>⟨e1,?_⟩
 rw[e]at e2;exact e2
theorem KS.c3 (h:KS w0 H B st c w)(hc:c≤300000)(hl:R.LivI st)(hp:R.PathI st):Calls Tryz.prog 26 #[.pointer (some ⟨B,0,none⟩),.string ⟨#[97]⟩] w fun e w' =>e= .returned (.int .i64 9)∧KS w0 H B st (c+1) w' :=by
 have e:=R.rf3 hl;try unfold R.none0 at e
 try unfold R.nowhere at e
 try unfold R.fresh at e
 refine(h.branch hc [97] (by unfold maxLen;simp) (congrArg Prod.fst e)).mono fun x w' ⟨e1,e2⟩=>⟨e1,?_⟩
 rw[e]at e2;exact e2
theorem KS.c4 (h:KS w0 H B st c w)(hc:c≤300000)(hl:R.LivI st)(hp:R.PathI st):Calls Tryz.prog 26 #[.pointer (some ⟨B,0,none⟩),.string ⟨#[65]⟩] w fun e w' =>e= .returned (.int .i64 1)∧KS w0 H B st (c+1) w' :=by
 have e:=R.rf4 (st:=st);try unfold R.none0 at e
 try unfold R.nowhere at e
 try unfold R.fresh at e
 refine(h.branch hc [65] (by unfold maxLen;simp) (congrArg Prod.fst e)).mono fun x w' ⟨e1,e2⟩=>⟨e1,?_⟩
 rw[e]at e2;exact e2
theorem KS.c5 (h:KS w0 H B st c w)(hc:c≤300000)(hl:R.LivI st)(hp:R.PathI st):Calls Tryz.prog 37 #[.pointer (some ⟨B,0,none⟩),.string ⟨#[110,111,110,101,48]⟩] w fun e w' =>e= .returned (.int .i64 5)∧KS w0 H B st (c+1) w' :=by
 have e:=R.rf5 hl;try unfold R.none0 at e
 try unfold R.nowhere at e
 try unfold R.fresh at e
 refine(h.drop hc [110,111,110,101,48] (by simp) (congrArg Prod.fst e) (by rw[show R.dropped st [110,111,110,101,48]=_ from e];exact h.inv) (by rw[show R.dropped st [110,111,110,101,48]=_ from e];simp)).mono fun x w' ⟨e1,e2⟩=>⟨e1,?_⟩
 rw[e]at e2;exact e2
theorem KS.c6 (h:KS w0 H B st c w)(hc:c≤300000)(hl:R.LivI st)(hp:R.PathI st):Calls Tryz.prog 27 #[.pointer (some ⟨B,0,none⟩),.string ⟨#[110,111,110,101,48]⟩,.string ⟨#[110]⟩,.int .i64 1] w fun e w' =>e= .returned (.int .i64 5)∧KS w0 H B st (c+1) w' :=by
 have e:=R.rf6 hl;try unfold R.none0 at e
 try unfold R.nowhere at e
 try unfold R.fresh at e
 refine(h.add [110,111,110,101,48] [110] 1 (by unfold maxLen;simp) (by omega) (by omega) (congrArg Prod.fst e)).mono fun x w' ⟨e1,e2⟩=>⟨e1,?_⟩
 rw[e]at e2;exact e2
theorem KS.c7 (h:KS w0 H B st c w)(hc:c≤300000)(hl:R.LivI st)(hp:R.PathI st):Calls Tryz.prog 27 #[.pointer (some ⟨B,0,none⟩),.string ⟨#[97]⟩,.string ⟨#[]⟩,.int .i64 1] w fun e w' =>e= .returned (.int .i64 2)∧KS w0 H B st (c+1) w' :=by
 have e:=R.rf7 hl;try unfold R.none0 at e
 try unfold R.nowhere at e
 try unfold R.fresh at e
 refine(h.add [97] [] 1 (by unfold maxLen;simp) (by omega) (by omega) (congrArg Prod.fst e)).mono fun x w' ⟨e1,e2⟩=>⟨e1,?_⟩
 rw[e]at e2;exact e2
theorem KS.c8 (h:KS w0 H B st c w)(hc:c≤300000)(hl:R.LivI st)(hp:R.PathI st):Calls Tryz.prog 27 #[.pointer (some ⟨B,0,none⟩),.string ⟨#[97]⟩,.string ⟨#[110,47]⟩,.int .i64 1] w fun e w' =>e= .returned (.int .i64 2)∧KS w0 H B st (c+1) w' :=by
 have e:=R.rf8 hl;try unfold R.none0 at e
 try unfold R.nowhere at e
 try unfold R.fresh at e
 refine(h.add [97] [110,47] 1 (by unfold maxLen;simp) (by omega) (by omega) (congrArg Prod.fst e)).mono fun x w' ⟨e1,e2⟩=>⟨e1,?_⟩
 rw[e]at e2;exact e2
theorem KS.c9 (h:KS w0 H B st c w)(hc:c≤300000)(hl:R.LivI st)(hp:R.PathI st):Calls Tryz.prog 41 #[.pointer (some ⟨B,0,none⟩),.string ⟨#[97]⟩,.string ⟨#[107]⟩,.string ⟨#[10]⟩] w fun e w' =>e= .returned (.int .i64 3)∧KS w0 H B st (c+1) w' :=by
 have e:=R.rf9 hl;try unfold R.none0 at e
 try unfold R.nowhere at e
 try unfold R.fresh at e
 refine(h.note [97] [107] [10] (by unfold maxLen;simp) (by unfold maxLen;simp) (congrArg Prod.fst e)).mono fun x w' ⟨e1,e2⟩=>⟨e1,?_⟩
 rw[e]at e2;exact e2
theorem KS.c10 (h:KS w0 H B st c w)(hc:c≤300000)(hl:R.LivI st)(hp:R.PathI st):Calls Tryz.prog 31 #[.pointer (some ⟨B,0,none⟩),.string ⟨#[97]⟩,.string ⟨#[107]⟩,.string ⟨#[]⟩] w fun e w' =>e= .returned (.int .i64 3)∧KS w0 H B st (c+1) w' :=by
 have e:=R.rf10 hl;try unfold R.none0 at e
 try unfold R.nowhere at e
 try unfold R.fresh at e
 refine(h.put [97] [107] [] (by unfold maxLen;simp) (by unfold maxLen;simp) (congrArg Prod.fst e)).mono fun x w' ⟨e1,e2⟩=>⟨e1,?_⟩
 rw[e]at e2;exact e2
theorem KS.c11 (h:KS w0 H B st c w)(hc:c≤300000)(hl:R.LivI st)(hp:R.PathI st):Calls Tryz.prog 31 #[.pointer (some ⟨B,0,none⟩),.string ⟨#[97]⟩,.string ⟨#[107]⟩,.string ⟨#[97,59,98]⟩] w fun e w' =>e= .returned (.int .i64 3)∧KS w0 H B st (c+1) w' :=by
 have e:=R.rf11 hl;try unfold R.none0 at e
 try unfold R.nowhere at e
 try unfold R.fresh at e
 refine(h.put [97] [107] [97,59,98] (by unfold maxLen;simp) (by unfold maxLen;simp) (congrArg Prod.fst e)).mono fun x w' ⟨e1,e2⟩=>⟨e1,?_⟩
 rw[e]at e2;exact e2
theorem KS.c12 (h:KS w0 H B st c w)(hc:c≤300000)(hl:R.LivI st)(hp:R.PathI st):Calls Tryz.prog 32 #[.pointer (some ⟨B,0,none⟩),.string ⟨#[97]⟩,.string ⟨#[110,111,119,104,101,114,101]⟩,.string ⟨#[120]⟩] w fun e w' =>e= .returned (.int .i64 10)∧KS w0 H B st (c+1) w' :=by
 have e:=R.rf12 hl hp;try unfold R.none0 at e
 try unfold R.nowhere at e
 try unfold R.fresh at e
 refine(h.take [97] [110,111,119,104,101,114,101] [120] (by unfold maxLen;simp) (by unfold maxLen;simp) (congrArg Prod.fst e)).mono fun x w' ⟨e1,e2⟩=>⟨e1,?_⟩
 rw[e]at e2;exact e2
theorem KS.c13 (h:KS w0 H B st c w)(hc:c≤300000)(hl:R.LivI st)(hp:R.PathI st):Calls Tryz.prog 42 #[.pointer (some ⟨B,0,none⟩),.string ⟨#[97]⟩,.string ⟨#[110,111,119,104,101,114,101]⟩] w fun e w' =>e= .returned (.int .i64 10)∧KS w0 H B st (c+1) w' :=by
 have e:=R.rf13 hl hp;try unfold R.none0 at e
 try unfold R.nowhere at e
 try unfold R.fresh at e
 refine(h.delete [97] [110,111,119,104,101,114,101] (by unfold maxLen;simp) (congrArg Prod.fst e)).mono fun x w' ⟨e1,e2⟩=>⟨e1,?_⟩
 rw[e]at e2;exact e2
theorem KS.c14 (h:KS w0 H B st c w)(hc:c≤300000)(hl:R.LivI st)(hp:R.PathI st):Calls Tryz.prog 27 #[.pointer (some ⟨B,0,none⟩),.string ⟨#[97]⟩,.string ⟨#[102,114,101,115,104]⟩,.int .i64 1000000001] w fun e w' =>e= .returned (.int .i64 8)∧KS w0 H B st (c+1) w' :=by
 have e:=R.rf14 hl hp;try unfold R.none0 at e
 try unfold R.nowhere at e
 try unfold R.fresh at e
 refine(h.add [97] [102,114,101,115,104] 1000000001 (by unfold maxLen;simp) (by omega) (by omega) (congrArg Prod.fst e)).mono fun x w' ⟨e1,e2⟩=>⟨e1,?_⟩
 rw[e]at e2;exact e2
end
section
def x_:List Int:=[5,1,9,1,5,5,2,2,3,3,3,10,10,8]
structure Ff (K:World→Prop)(ge gw:Nat)(X:World):Prop where
 ks:K X
 e:∀i,i<14→X.cell? ⟨ge,i,none⟩=some (.int .i64 (x_.getD i 0))
 w:∀i,i<14→X.cell? ⟨gw,i,none⟩=some (.int .i64 (x_.getD i 0))
 le:ge<X.heap.size
 lw:gw<X.heap.size
theorem Ff.keptM {K:World→Prop}{ge gw:Nat}{X Y:World}(h:Ff K ge gw X)(hK:∀X Y,K X→ze X Y→K Y)(k:ze X Y):Ff K ge gw Y:=
 ⟨hK X Y h.ks k,fun i hi=>by rw[World.cell?_of_block (a:=⟨ge,i,none⟩) (k.block ge h.le)];exact h.e i hi,fun i hi=>by rw[World.cell?_of_block (a:=⟨gw,i,none⟩) (k.block gw h.lw)];exact h.w i hi,j0b h.le k.size,j0b h.lw k.size⟩
theorem f8 (X:World)(i:Nat)(hi:i<14):(X.alloc (.cells #[.int .i64 5,.int .i64 1,.int .i64 9,.int .i64 1,.int .i64 5,.int .i64 5,.int .i64 2,.int .i64 2,.int .i64 3,.int .i64 3,.int .i64 3,.int .i64 10,.int .i64 10,.int .i64 8] 31)).cell? ⟨X.heap.size,i,none⟩=some (.int .i64 (x_.getD i 0)):=by
 rcases(by omega:i=0∨i=1∨i=2∨i=3∨i=4∨i=5∨i=6∨i=7∨i=8∨i=9∨i=10∨i=11∨i=12∨i=13)with rfl|rfl|rfl|rfl|rfl|rfl|rfl|rfl|rfl|rfl|rfl|rfl|rfl|rfl<;>simp<;>rfl
theorem fb {w w' :World}{v:Value}{n:Nat}{xs:List Value}(h:Rd w (fun _=>False) v n xs)(k:ze w w'):Rd w' (fun _=>False) v n xs:=by
 obtain⟨a,cap,rfl,h1,h2,h3⟩:=h;refine⟨a,cap,rfl,h1,h2,fun h0=> ?_⟩;obtain⟨b,off,h4,h5,h6,h7⟩:=h3 h0;exact⟨b,off,h4,j0b h5 k.size,h6,fun j u hu=>by rw[World.cell?_of_block (a:=⟨b,off+j,none⟩) (k.block b h5)];exact h7 j u hu⟩
theorem Oz {w:World}(hG:ZL w)(h6:6≤w.heap.size){v:Value}{l:List R.Raw}(hA:Rd w (fun _=>False) v l.length (yn l))(g6:∀a∈l,okR a)(name p item:List UInt8)(hn:name.length≤maxLen)(hp:p.length≤maxLen)(hi:item.length≤maxLen):
  ∃N last o w' t',runNT Tryz.prog (N+1) (solo (G (Frame.enter Tryz.prog 12 #[v,.string ⟨name.toArray⟩,.string ⟨p.toArray⟩,.string ⟨item.toArray⟩] .normal) []) w) #[]=(.ended o w',t')∧runN Tryz.prog N (solo (G (Frame.enter Tryz.prog 12 #[v,.string ⟨name.toArray⟩,.string ⟨p.toArray⟩,.string ⟨item.toArray⟩] .normal) []) w)= .next last∧
   step Tryz.prog last= .ended o w' ∧Conc.Good Tryz.prog (AwR w) last o w' t' :=by
 have hP:=xK;have e8:=z6 hA;have e7:=z6 g6;obtain⟨sa,sc,rfl,i7,a4,_⟩:=hA;unfold maxLen at a4;clear g6;have hR:∀(v:Value) (w' :World) (T:Nat→Question→Nat) (d:Nat),AwR w v w' →AwR w v (re w' T d):=fun v w' T d ⟨h1,h2⟩=>⟨h1,h2.re T d⟩
 refine UO hR (Uv hP hR Tryz.func12 rfl (by kernel_rfl) ?_);have a1:ReC (ky Tryz.prog Tryz.f12 (AwR w)):=ReC.bodyE hR;simp only[Tryz.ntmps12,List.size_toArray,List.length_cons,List.length_nil,Nat.reduceAdd,Nat.reduceSub,Array.replicate_succ,Array.replicate_zero,List.push_toArray,List.append_toArray,List.nil_append,List.cons_append];refine z7 hP a1 fun T d=> ?_
 have HB:=z6 ((ze.refl w).re T d);generalize re w T d=W at*;go_wp2;refine z7 hP a1 fun T d=> ?_
 have HK:=z6 (HB.out.re T d);clear HB;generalize re W T d=W1 at*;go_wp2_with fail
 refine(G9 (hG.keptM HK.out) (j0f h6 HK.out.size)).mono ?_;rintro e W2 ⟨rfl,hk⟩;have HB:=z6 (HK.out.trans hk);clear HK hk;go_wp2;refine zx hP ?_;refine zV hP 1 a1.thenT rfl rfl rfl Tryz.func16 (by decide) rfl fun T d=> ?_
 have e6:Hid (zO Tryz.prog 16 #[.slice sa l.length sc] (re W2 T d) (GH (re W2 T d))):=F_ (hG.keptM (HB.out.re T d)) (j0f h6 (HB.out.re T d).size) (v:= .slice sa l.length sc) (l:=l) (fb e8.out (HB.out.re T d)) e7.out;have d7:=z6 (HB.out.re T d);clear HB;generalize re W2 T d=W3 at*;simp only[List.take_succ_cons,List.take_zero,List.drop_succ_cons,List.drop_zero];go_wp2;refine⟨_,_,by simp[Act.eval],e6.out,?_⟩;rintro v' V' ⟨B,st,rfl,g5,g7,hs⟩ T d;have HS:=z6 (hs.re T d);have a2:=z6 g5;have a3:=z6 g7;have h9:=hs.inv.few;obtain⟨ss,g9⟩:∃s,R.shown st [97]=s:=⟨_,rfl⟩
 have d4:=z6 g9;clear hs e6 e8 e7 g5 g7 g9;generalize re V' T d=V0 at*;clear V';go_wp2;refine z7 hP a1 fun T d=> ?_
 have a0 :=z6 (HS.out.re T d);clear HS;generalize re V0 T d=U0 at*;go_wp2;have HS:=z6 a0.out;clear a0;generalize hV:U0=V1 at*;clear hV;refine z7 hP a1 fun T d=> ?_
 have a0 :=z6 (HS.out.re T d);clear HS;generalize re V1 T d=U1 at*;go_wp2_with fail
 refine a0.out.pack.mono ?_;rintro e W' ⟨rfl,hw⟩;replace hw:=hw.symm;subst hw;go_wp2;have HS:=z6 a0.out;clear a0;generalize hV:U1=V2 at*;clear hV;refine z7 hP a1 fun T d=> ?_
 have a0 :=z6 (HS.out.re T d);clear HS;generalize re V2 T d=U2 at*;go_wp2_with fail
 refine(a0.out.show_ [97] d4.out).mono ?_;rintro e V3 ⟨rfl,hs⟩;have HS:=z6 hs;clear hs a0;go_wp2;refine z7 hP a1 fun T d=> ?_
 have a0 :=z6 (HS.out.re T d);clear HS;generalize re V3 T d=U3 at*;go_wp2;have HS:=z6 a0.out;clear a0;generalize hV:U3=V4 at*;clear hV;refine z7 hP a1 fun T d=> ?_
 have a0 :=z6 (HS.out.re T d);clear HS;generalize re V4 T d=U4 at*;go_wp2_with fail
 refine(a0.out.c1 (by omega) a2.out.liv a3.out).mono ?_;rintro e Y1 ⟨rfl,hs⟩;have f3:=z6 hs;clear hs a0;go_wp2_with fail
 refine(f3.out.c2 (by omega) a2.out.liv a3.out).mono ?_;rintro e Y2 ⟨rfl,hs⟩;have f4:=z6 hs;clear hs f3;go_wp2_with fail
 refine(f4.out.c3 (by omega) a2.out.liv a3.out).mono ?_;rintro e Y3 ⟨rfl,hs⟩;have f5:=z6 hs;clear hs f4;go_wp2_with fail
 refine(f5.out.c4 (by omega) a2.out.liv a3.out).mono ?_;rintro e Y4 ⟨rfl,hs⟩;have f6:=z6 hs;clear hs f5;go_wp2_with fail
 refine(f6.out.c5 (by omega) a2.out.liv a3.out).mono ?_;rintro e Y5 ⟨rfl,hs⟩;have f7:=z6 hs;clear hs f6;go_wp2_with fail
 refine(f7.out.c6 (by omega) a2.out.liv a3.out).mono ?_;rintro e Y6 ⟨rfl,hs⟩;have f9:=z6 hs;clear hs f7;go_wp2_with fail
 refine(f9.out.c7 (by omega) a2.out.liv a3.out).mono ?_;rintro e Y7 ⟨rfl,hs⟩;have g0:=z6 hs;clear hs f9;go_wp2_with fail
 refine(g0.out.c8 (by omega) a2.out.liv a3.out).mono ?_;rintro e Y8 ⟨rfl,hs⟩;have g1:=z6 hs;clear hs g0;go_wp2_with fail
 refine(g1.out.c9 (by omega) a2.out.liv a3.out).mono ?_;rintro e Y9 ⟨rfl,hs⟩;have g2:=z6 hs;clear hs g1;go_wp2_with fail
 refine(g2.out.c10 (by omega) a2.out.liv a3.out).mono ?_;rintro e i2 ⟨rfl,hs⟩;have a8:=z6 hs;clear hs g2;go_wp2_with fail
 refine(a8.out.c11 (by omega) a2.out.liv a3.out).mono ?_;rintro e i3 ⟨rfl,hs⟩;have a9:=z6 hs;clear hs a8;go_wp2_with fail
 refine(a9.out.c12 (by omega) a2.out.liv a3.out).mono ?_;rintro e i4 ⟨rfl,hs⟩;have b3:=z6 hs;clear hs a9;go_wp2_with fail
 refine(b3.out.c13 (by omega) a2.out.liv a3.out).mono ?_;rintro e i5 ⟨rfl,hs⟩;have b4:=z6 hs;clear hs b3;go_wp2_with fail
 refine(b4.out.c14 (by omega) a2.out.liv a3.out).mono ?_;rintro e a5 ⟨rfl,hs⟩;have b5:=z6 hs;clear hs b4;go_wp2;have HS:=z6 (b5.out.alloc (.cells #[.int .i64 5,.int .i64 1,.int .i64 9,.int .i64 1,.int .i64 5,.int .i64 5,.int .i64 2,.int .i64 2,.int .i64 3,.int .i64 3,.int .i64 3,.int .i64 10,.int .i64 10,.int .i64 8] 31));have d8:Hid (∀i,i<14→(a5.alloc (.cells #[.int .i64 5,.int .i64 1,.int .i64 9,.int .i64 1,.int .i64 5,.int .i64 5,.int .i64 2,.int .i64 2,.int .i64 3,.int .i64 3,.int .i64 3,.int .i64 10,.int .i64 10,.int .i64 8] 31)).cell? ⟨a5.heap.size,i,none⟩=some (.int .i64 (x_.getD i 0))):=fun i hi=>f8 a5 i hi
 have g3:a5.heap.size<(a5.alloc (.cells #[.int .i64 5,.int .i64 1,.int .i64 9,.int .i64 1,.int .i64 5,.int .i64 5,.int .i64 2,.int .i64 2,.int .i64 3,.int .i64 3,.int .i64 3,.int .i64 10,.int .i64 10,.int .i64 8] 31)).heap.size:=by simp
 clear b5;generalize a5.alloc (.cells #[.int .i64 5,.int .i64 1,.int .i64 9,.int .i64 1,.int .i64 5,.int .i64 5,.int .i64 2,.int .i64 2,.int .i64 3,.int .i64 3,.int .i64 3,.int .i64 10,.int .i64 10,.int .i64 8] 31)=A1 at*;generalize a5.heap.size=ge at*;refine z7 hP a1 fun T d=> ?_
 have a0 :=z6 (HS.out.re T d);have d9:Hid (∀i,i<14→(re A1 T d).cell? ⟨ge,i,none⟩=some (.int .i64 (x_.getD i 0))):=d8.out;have b7:ge<(re A1 T d).heap.size:=g3;clear HS d8 g3;generalize re A1 T d=A2 at*;go_wp2;have HS:=z6 (a0.out.alloc (.cells #[.int .i64 5,.int .i64 1,.int .i64 9,.int .i64 1,.int .i64 5,.int .i64 5,.int .i64 2,.int .i64 2,.int .i64 3,.int .i64 3,.int .i64 3,.int .i64 10,.int .i64 10,.int .i64 8] 31));have f0:Hid (∀i,i<14→(A2.alloc (.cells #[.int .i64 5,.int .i64 1,.int .i64 9,.int .i64 1,.int .i64 5,.int .i64 5,.int .i64 2,.int .i64 2,.int .i64 3,.int .i64 3,.int .i64 3,.int .i64 10,.int .i64 10,.int .i64 8] 31)).cell? ⟨A2.heap.size,i,none⟩=some (.int .i64 (x_.getD i 0))):=fun i hi=>f8 A2 i hi
 have e3:Hid (∀i,i<14→(A2.alloc (.cells #[.int .i64 5,.int .i64 1,.int .i64 9,.int .i64 1,.int .i64 5,.int .i64 5,.int .i64 2,.int .i64 2,.int .i64 3,.int .i64 3,.int .i64 3,.int .i64 10,.int .i64 10,.int .i64 8] 31)).cell? ⟨ge,i,none⟩=some (.int .i64 (x_.getD i 0))):=fun i hi=>by
  rw[World.cell?_of_block (a:=⟨ge,i,none⟩) (heap_alloc_old A2 _ b7)];exact d9.out i hi
 have e9:=z6 (show Ff (fun X=>KS W3 (fun b=>b<W3.heap.size) B st 90 X) ge A2.heap.size (A2.alloc (.cells #[.int .i64 5,.int .i64 1,.int .i64 9,.int .i64 1,.int .i64 5,.int .i64 5,.int .i64 2,.int .i64 2,.int .i64 3,.int .i64 3,.int .i64 3,.int .i64 10,.int .i64 10,.int .i64 8] 31))from⟨HS.out.mono (by decide),e3.out,f0.out,by simp;omega,by simp⟩);clear HS a0 f0 e3 d9 b7;generalize A2.alloc (.cells #[.int .i64 5,.int .i64 1,.int .i64 9,.int .i64 1,.int .i64 5,.int .i64 5,.int .i64 2,.int .i64 2,.int .i64 3,.int .i64 3,.int .i64 3,.int .i64 10,.int .i64 10,.int .i64 8] 31)=A3 at*;generalize A2.heap.size=gw at*;refine z7 hP a1 fun T d=> ?_
 have a7 :=z6 (e9.out.keptM (fun X Y h k=>h.keptM k) ((ze.refl A3).re T d));clear e9;generalize re A3 T d=A4 at*;go_wp2;go_loopw [17] (fun i wr=>∃j:Nat,j≤14∧i= .int .i64 (j:Int)∧Ff (fun X=>KS W3 (fun b=>b<W3.heap.size) B st 90 X) ge gw wr) (fun i _=>14-(intOf i).toNat)
 case atStart=>exact⟨0,Nat.zero_le _,rfl,a7.out⟩
 case round=>
  obtain⟨j,hj,rfl,hz⟩:=hrel;have HZ:=z6 hz;clear hz a7;by_cases g4:j<14
  ·have e1:=HZ.out.e j g4
   have e2:=HZ.out.w j g4;have b1:(0:Int)≤(j:Int):=by omega
   have b2:(j:Int)<14:=by omega
   generalize x_.getD j 0=cc at*;go_wp2;go_region_held3 (fun w' =>w'.cell? ⟨ge,j,none⟩=some (.int .i64 cc)∧w'.cell? ⟨gw,j,none⟩=some (.int .i64 cc)) (go_keep) (fail)
   all_goals
    rename_i b6;clear b6;go_wp2;go_roundw
    case rel=>exact⟨j+1,by omega,by simp,HZ.out.keptM (fun X Y h k=>h.keptM k) (ze.of_below (j0g wr.heap.size wr).drew)⟩
    case measure=>simp[intOf];omega
  ·go_wp2
   have HS:=z6 HZ.out.ks;clear HZ;refine zx hP ?_;refine zV hP 2 a1.thenT rfl rfl rfl Tryz.func19 (by decide) rfl fun T d=> ?_
   have a0 :=z6 (HS.out.re T d);clear HS;generalize re wr T d=U50 at*;have HJ:Hid (R.joinB st [97] [110,111,110,101,48]=((0,5),st)):=R.rfJ a2.out.liv;simp only[List.take_succ_cons,List.take_zero,List.drop_succ_cons,List.drop_zero];go_wp2;refine⟨_,_,by simp[Act.eval],a0.out.joinE (by omega) [97] [110,111,110,101,48] (by simp) (congrArg Prod.fst HJ.out),?_⟩;rintro v' V' ⟨rfl,hs⟩ T d;have a4:KS W3 (fun b=>b<W3.heap.size) B (R.joinB st [97] [110,111,110,101,48]).2 91 V' :=hs;rw[HJ.out]at a4;have HS:=z6 (a4.re T d);clear a0 hs a4 HJ;generalize re V' T d=V51 at*;clear V';go_wp2;refine z7 hP a1 fun T d=> ?_
   have a0 :=z6 (HS.out.re T d);clear HS;generalize re V51 T d=U51 at*;have HJ:Hid (R.commit st [110,111,110,101,48]=((0,5),st)):=R.rfC a2.out.liv;go_wp2_with fail
   refine(a0.out.commit (by omega) [110,111,110,101,48] (congrArg Prod.fst HJ.out)).mono ?_;rintro e h3 ⟨rfl,hs⟩;rw[HJ.out]at hs;have HS:=z6 hs;clear hs a0 HJ;go_wp2;refine z7 hP a1 fun T d=> ?_
   have a0 :=z6 (HS.out.re T d);clear HS;generalize re h3 T d=U52 at*;go_wp2_with fail
   refine(a0.out.tree 0 R.rfT).mono ?_;rintro e h4 ⟨rfl,hs,_⟩;have HS:=z6 hs;clear hs a0;go_wp2;refine zx hP ?_;refine zV hP 1 a1.thenT rfl rfl rfl Tryz.func35 (by decide) rfl fun T d=> ?_
   have a0 :=z6 (HS.out.re T d);clear HS;generalize re h4 T d=U53 at*;simp only[List.take_succ_cons,List.take_zero,List.drop_succ_cons,List.drop_zero];go_wp2;refine⟨_,_,by simp[Act.eval],a0.out.baseE 1 61 (R.rfB a0.out.inv),?_⟩;rintro v' V' ⟨rfl,hs⟩ T d;have HS:=z6 (hs.re T d);clear a0 hs;generalize re V' T d=V54 at*;clear V';go_wp2;refine z7 hP a1 fun T d=> ?_
   have a0 :=z6 (HS.out.re T d);clear HS;generalize re V54 T d=U54 at*;go_wp2_with fail
   refine a0.out.pack.mono ?_;rintro e W' ⟨rfl,hw⟩;replace hw:=hw.symm;subst hw;go_wp2;have HS:=z6 a0.out;clear a0;generalize hV:U54=V55 at*;clear hV;refine z7 hP a1 fun T d=> ?_
   have a0 :=z6 (HS.out.re T d);clear HS;generalize re V55 T d=U55 at*;go_wp2_with fail
   refine(a0.out.show_ [97] d4.out).mono ?_;rintro e h5 ⟨rfl,hs⟩;have HS:=z6 hs;clear hs a0;go_wp2;refine z7 hP a1 fun T d=> ?_
   have a0 :=z6 (HS.out.re T d);clear HS;generalize re h5 T d=U56 at*;go_wp2;have HS:=z6 a0.out;clear a0;generalize hV:U56=V57 at*;clear hV;have g8:=R.rfR (st:=st) name p item;rcases hr:R.change st 42 name p 0 item with⟨r,b9⟩
   rw[hr]at g8;obtain⟨b8,d5⟩:=g8;have b8:b9.packed=st.packed:=b8;have d5:r=0∨b9=st:=d5;have HR:=z6 hr;have h0:=z6 b8;clear hr b8;obtain⟨s2,a4⟩:∃s,R.shown b9 [97]=s:=⟨_,rfl⟩
   have a6:=z6 a4;clear a4;refine z7 hP a1 fun T d=> ?_
   have a0 :=z6 (HS.out.re T d);clear HS;generalize re V57 T d=U57 at*;go_wp2_with fail
   refine(a0.out.put name p item hp hi (congrArg Prod.fst HR.out)).mono ?_;rintro e h7 ⟨rfl,hs⟩;rw[HR.out]at hs;have HS:=z6 hs;clear hs a0;go_wp2;refine z7 hP a1 fun T d=> ?_
   have a0 :=z6 (HS.out.re T d);clear HS;generalize re h7 T d=U58 at*;go_wp2_with fail
   refine(a0.out.show_ [97] a6.out).mono ?_;rintro e h8 ⟨rfl,hs⟩;have HS:=z6 hs;clear hs a0;go_wp2;refine z7 hP a1 fun T d=> ?_
   have a0 :=z6 (HS.out.re T d);clear HS;generalize re h8 T d=U59 at*;have d3:=z6 a0.out.pack;rw[h0.out]at d3;go_wp2_with fail
   refine d3.out.mono ?_;rintro e W' ⟨rfl,hw⟩;replace hw:=hw.symm;subst hw;clear d3;go_wp2;have HS:=z6 a0.out;clear a0;generalize hV:U59=V60 at*;clear hV;refine z7 hP a1 fun T d=> ?_
   have a0 :=z6 (HS.out.re T d);clear HS;generalize re V60 T d=U60 at*;generalize st.packed=pkk at*;by_cases d6:r=0
   ·subst d6
    go_wp2;refine xX hP ?_;refine⟨rfl,_,fun W=>⟨by simp[results,Tryz.results12,go_sem],by simp[results,Tryz.results12,go_sem]⟩,⟨rfl,d7.out.trans a0.out.kept⟩⟩
   ·have i1:b9=st:=d5.resolve_left d6
    have i6:(r==0)=false:=by rw[beq_eq_false_iff_ne];exact d6
    have i0:s2=ss:=by rw[←a6.out,←d4.out,i1]
    subst i0;go_wp2;refine xX hP ?_;refine⟨rfl,_,fun W=>⟨by simp[results,Tryz.results12,go_sem],by simp[results,Tryz.results12,go_sem]⟩,⟨rfl,d7.out.trans a0.out.kept⟩⟩
end
