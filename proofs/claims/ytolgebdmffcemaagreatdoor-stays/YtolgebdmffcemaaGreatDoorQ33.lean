import Derived.Test.YtolgebdmffcemaaGreatDoorQ32
import Derived.Laws.BytesArg
set_option linter.all false
set_option maxHeartbeats 20000000
set_option maxRecDepth 1000000
namespace Go.Proofs.YtolgebdmffcemaaGreatDoor
open Go Go.Conc Go.RowKit
section
theorem KS.tree {w0 w:World}{H:Nat→Prop}{B c:Nat}{st:R.St}(h:KS w0 H B st c w)(n:Int){r:List UInt8×Int}(hr:R.treeAt st n=r):
  Calls Tryz.prog 22 #[.pointer (some ⟨B,0,none⟩),.int .i64 n] w fun e w' =>e= .returned (.tuple #[.string ⟨r.1.toArray⟩,.int .i64 r.2])∧KS w0 H B st c w' ∧ze w w' :=by
 subst hr;obtain⟨O,h1,h2,h3,h4,h5,h6⟩:=id h;exact(CD B st n w O O h1 h3 h5).mono fun e w' ⟨e1,e2⟩=>⟨e1,h.keptM (ze.of_below e2),ze.of_below e2⟩
def FX (l:List UInt8):Value:= .string ⟨l.toArray⟩
def trL (st:R.St):List Value:=st.cms.map fun c=>FX (R.Written c.tree)
theorem Qc (st:R.St):(trL st).length=st.cms.length:=by simp[trL]
theorem fh {st:R.St}{k:Nat}(h:k<st.cms.length):∃s,R.treeAt st ((k:Int)+1)=(s,0)∧(trL st).take (k+1)=(trL st).take k++ [FX s]:=by
 refine⟨R.Written (R.treeOf st (k+1)),?_,?_⟩
 ·have:=R.treeAt_in (st:=st) (k:=k+1) (by omega) (by omega)
  rw[←this];rfl
 ·rw[List.take_succ_eq_append_getElem (by rw[Qc];exact h)]
  congr 2
  simp[trL,R.treeOf,j0d h]
theorem Og (st:R.St):R.treeAt st ((st.cms.length:Int)+1)=([],10):=by
 unfold R.treeAt;rw[if_pos (by omega)]
def FE (w0:World)(H:Nat→Prop)(B c:Nat)(st:R.St)(w:World)(e:Ending)(w' :World):Prop:=∃la lc,e= .returned (.slice la st.cms.length lc)∧w'.ownsRow w.heap.size 9 1 (.slice la st.cms.length lc) st.cms.length (trL st)∧KS w0 H B st c w' ∧ze w w'
theorem gK {w0 w:World}{H:Nat→Prop}{B c:Nat}{st:R.St}(h:KS w0 H B st c w):Calls Tryz.prog 34 #[.pointer (some ⟨B,0,none⟩)] w (FE w0 H B c st w):=by
 have b7:=h.inv.few;have b5:=z6 h;clear h;go_enter Tryz.func34,Tryz.ntmps34;go_wp2;go_loopw [3,4] (fun lv nv wr=>∃(k:Nat) (la:Option Addr) (lc:Nat),k≤st.cms.length∧nv= .int .i64 ((k:Int)+1)∧lv= .slice la k lc∧wr.ownsRow w.heap.size 9 1 (.slice la k lc) k ((trL st).take k)∧ze w wr) (fun _ nv _=>70-(intOf nv).toNat)
 case atStart=>exact⟨0,none,0,Nat.zero_le _,rfl,rfl,World.ownsRow_nil _ _ _ _,ze.refl w⟩
 case round=>
  obtain⟨k,la,lc,hk,rfl,rfl,ho,a4⟩:=hrel;have HS:=z6 (b5.out.keptM a4);have HO:=z6 ho;have HK:=z6 a4;obtain⟨_,_,b9,c7,b6,_⟩:=zl ho;injection b9 with e1 e2 e3
  subst e1 e3;unfold maxLen at b6;clear ho a4;by_cases b8:k<st.cms.length
  ·obtain⟨s,a8,a9⟩:=fh b8
   have HT:=z6 a8;have HL:=z6 a9;clear a8 a9;go_wp2_with fail
   refine(HS.out.tree _ HT.out).mono ?_;rintro e X1 ⟨rfl,hs,a0⟩;have a3:=z6 hs;have a1:=z6 (yF HO.out a0);have a2:=z6 (HK.out.trans a0);have c8:=a2.out.size;clear hs a0 HS HO HK;go_wp2_with (at_builtin;go_loud (refine KC _ (by rfl) _ _ 45 (by rfl) w.heap.size 9 (.string ⟨#[]⟩) 1 16 Tryz.underlying45 GE (by rfl) (by decide) (a1.out.alloc _) ⟨X1.heap.size,0,none⟩ 1 1 [.string ⟨s.toArray⟩] (by rfl) (by exact yy X1 #[.string ⟨s.toArray⟩] 9) (by rfl) (by rfl) (by intro u hu;simp at hu;subst hu;rfl) (by unfold maxLen;omega) (by omega) (by simp;omega) ?_))
   intro v' X2 ho hc;have a5:Hid (∀b,(Value.slice la k lc).ownBlock=some b→w.heap.size≤b):=fun b hb=>(a1.out.lt b hb).1
   have a7:ze w X2:=by
    have a6:=a2.out.alloc (Obj.cells #[.string ⟨s.toArray⟩] 9);rcases hc with⟨h1,h2⟩|⟨h1,h2⟩
    ·exact a6.kept (O:=fun b=>(Value.slice la k lc).ownBlock=some b) ⟨h2.os,h2.tape,h2.output,h2.size,fun b hb hn=>h2.block b hb (fun e=>hn e.symm)⟩ (fun b hb=>a5.out b hb)
    ·exact a6.kept (O:=fun _=>False) ⟨h2.os,h2.tape,h2.output,h2.size,fun b hb _=>h2.block b hb (by simp)⟩ (fun b hb=>hb.elim)
   obtain⟨b1,b2,c6,_⟩:=zl ho;subst c6;have b4:Hid (X2.ownsRow w.heap.size 9 1 (.slice b1 (k+1) b2) (k+1) ((trL st).take (k+1))):=by
    show World.ownsRow _ _ _ _ _ _ _;rw[HL.out];exact ho
   have b3:=z6 a7;clear ho hc a7 a1 a2 a3 a5;go_wp2;go_roundw
   case rel=>exact⟨k+1,b1,b2,by omega,by simp,rfl,b4.out,b3.out⟩
   case measure=>simp[intOf];omega
  ·have:k=st.cms.length:=by omega
   subst this;have HT:=z6 (Og st);go_wp2_with fail
   refine(HS.out.tree _ HT.out).mono ?_;rintro e X1 ⟨rfl,hs,a0⟩;have a3:=z6 hs;have a1:=z6 (yF HO.out a0);have a2:=z6 (HK.out.trans a0);clear hs a0 HS HO HK;rw[←Qc st,List.take_length,Qc st]at a1;go_wp2;go_ret;exact⟨la,lc,rfl,a1.out,a3.out,a2.out⟩
end
section
structure b_ (st:R.St)(name:List UInt8)(L:List Nat)(tt:List UInt8)(h0:Nat):Prop where
 hist:Cy st name=(L,0)
 pos:0<L.length
 le:L.length≤60
 last:∀h:L.length-1<L.length,L[L.length-1]=1
 fall:∀i,1≤i→∀h:i<L.length,L[i]<L[i-1]
 first:∀h:0<L.length,L[0]=h0
 one:1≤h0
 t0:R.treeAt st (h0:Int)=(tt,0)
 b0:R.baseAt st (h0:Int) (h0:Int)=(tt,0)
 n0:h0≤st.cms.length
 sh:R.shown st name=(tt,0)
 each:∀k,∀h:k<L.length,∃s,R.baseAt st (L[k]:Int) (h0:Int)=(s,0)∧R.treeAt st (L[k]:Int)=(s,0)
theorem KS.baseM {w0 w:World}{H:Nat→Prop}{B c:Nat}{st:R.St}(h:KS w0 H B st c w)(a b:Int){r:List UInt8×Int}(hr:R.baseAt st a b=r):
  zL Tryz.prog 35 #[.pointer (some ⟨B,0,none⟩),.int .i64 a,.int .i64 b] w fun v w' =>v= .tuple #[.string ⟨r.1.toArray⟩,.int .i64 r.2]∧ze w w' :=by
 subst hr;obtain⟨O,h1,h2,h3,h4,h5,h6⟩:=id h;exact(fl h3 h1 (fun b hb=>(h2 b hb).2) h5 a b).mono fun v w' ⟨e1,e2⟩=>⟨e1,e2⟩
structure bZ (w:World)(B:Nat)(st:R.St)(L:List Nat)(g:Nat)(X:World):Prop where
 ks:KS w (fun b=>b<w.heap.size) B st 70 X
 lt:g<X.heap.size
 cell:∀j (h:j<L.length),X.cell? ⟨g,j,none⟩=some (.int .i64 (L[j]:Int))
end
theorem cW {w:World}{pv:Value}{pk:List UInt8}(h:w.ownsRow 0 5 1 pv pk.length (Lib.byteCells pk)):(convert 100 9 pv).run Tryz.prog w= .ok (.string ⟨pk.toArray⟩) w:=by
 obtain⟨a,cap,rfl,h1,h2,h3,h4⟩:=zl h
 cases a with
 |none=>
  have e:pk=[]:=List.length_eq_zero_iff.1 (h3 rfl).1;subst e;exact run_convert_bytes_nil w 100 5 Tryz.underlying100 Tryz.underlying5 _ _ 9 Tryz.underlying9
 |some ad=>
  obtain⟨g,rfl,_,_,_,h5⟩:=h4 ad rfl;refine run_convert_bytes_back _ 100 9 5 ⟨g,0,none⟩ cap pk Tryz.underlying100 Tryz.underlying5 Tryz.underlying9 ?_;intro j hj;rw[yt,Nat.zero_add];refine h5 j _ ?_;simp[Lib.byteCells,j0d hj]
theorem KS.pack {w0 w:World}{H:Nat→Prop}{B c:Nat}{st:R.St}(h:KS w0 H B st c w):
  Calls Tryz.prog 21 #[.pointer (some ⟨B,0,none⟩)] w fun e w' =>e= .returned (.string ⟨st.packed.toArray⟩)∧w' =w:=by
 obtain⟨O,⟨bv,cv,LB,LCm,hx⟩,_⟩:=h;obtain⟨pv,hp⟩:=hx.pk;have c2:=hp.c2;have a1:=cW hp.row;obtain⟨pa,pn,pc,a0⟩:∃a n k,pv= .slice a n k:=by obtain⟨a,k,e,_⟩:=zl hp.row;exact⟨a,_,k,e⟩
 subst a0;clear hp hx;generalize st.packed=pk at*;go_enter Tryz.func21,Tryz.ntmps21;go_wp2;go_ret;exact⟨YA rfl,rfl⟩
theorem FN:(R.made aw0 [97] [] false).2.packed=[66,0,2,0,97,166]:=by decide+kernel
theorem Gx {w:World}(hG:ZL w)(h6:6≤w.heap.size):
  Calls Tryz.prog 15 #[] w fun e w' =>e= .returned (.bool true)∧ze w w' :=by
 have HS:=z6 (KS.new (w0:=w) (w:=w) (H:=fun b=>b<w.heap.size) hG (Y3.refl _ _) (fun b hb=>by omega) (fun b hb=>hb));go_enter Tryz.func15,Tryz.ntmps15;go_wp2_with fail
 refine(Fg w).mono ?_;rintro e W4 ⟨rfl,rfl⟩;generalize hV:w.alloc (.cells #[.slice none 0 0,.slice none 0 0,.slice none 0 0] 102)=V0 at*;generalize hB:w.heap.size=B at*;go_wp2_with fail
 refine(HS.out.branch (by omega) [97] (by unfold maxLen;simp) b5).mono ?_;rintro e V1 ⟨rfl,hs⟩;have a1:=z6 hs;have a0:=z6 hs.pack;rw[FN]at a0;clear hs HS hV;go_wp2_with fail
 refine a0.out.mono ?_;rintro e V2 ⟨rfl,rfl⟩;go_wp2;go_ret;exact⟨rfl,a1.out.held.m fun b hb=>by omega⟩
section
variable {w0 w:World}{H:Nat→Prop}{B c:Nat}{st:R.St}
theorem KS.drop (h:KS w0 H B st c w)(hc:c≤300000)(name:List UInt8)(a2:name.length≤8){r:Int}(hr:(R.dropped st name).1=r)(a0 :Inv (R.dropped st name).2)(a1 :(R.dropped st name).2.packed.length≤st.packed.length+300000):
  Calls Tryz.prog 37 #[.pointer (some ⟨B,0,none⟩),.string ⟨name.toArray⟩] w fun e w' =>e= .returned (.int .i64 r)∧KS w0 H B (R.dropped st name).2 (c+1) w' :=by
 subst hr;exact h.call a0 a1 fun O h1 h2 h3 h4 h5 h6=>CJ B st name w O O h1 h4 (by omega)
end
section
def gy:List Int:=[5,1,9,1,5,5,2,2,3,3,3,10,10,8]
structure bY (K:World→Prop)(ge gw:Nat)(X:World):Prop where
 ks:K X
 e:∀i,i<14→X.cell? ⟨ge,i,none⟩=some (.int .i64 (gy.getD i 0))
 w:∀i,i<14→X.cell? ⟨gw,i,none⟩=some (.int .i64 (gy.getD i 0))
 le:ge<X.heap.size
 lw:gw<X.heap.size
theorem UB {w w' :World}{v:Value}{n:Nat}{xs:List Value}(h:Rd w (fun _=>False) v n xs)(k:ze w w'):Rd w' (fun _=>False) v n xs:=by
 obtain⟨a,cap,rfl,h1,h2,h3⟩:=h;refine⟨a,cap,rfl,h1,h2,fun h0=> ?_⟩;obtain⟨b,off,h4,h5,h6,h7⟩:=h3 h0;exact⟨b,off,h4,j0b h5 k.size,h6,fun j u hu=>by rw[World.cell?_of_block (a:=⟨b,off+j,none⟩) (k.block b h5)];exact h7 j u hu⟩
end
section
structure gm (Q:World→Prop)(g:Nat)(L:List Value)(X:World):Prop where
 ks:Q X
 lt:g<X.heap.size
 cell:∀j (h:j<L.length),X.cell? ⟨g,j,none⟩=some L[j]
theorem gm.keptM {Q:World→Prop}{g:Nat}{L:List Value}{X Y:World}(hQ:∀X Y,Q X→ze X Y→Q Y)(h:gm Q g L X)(k:ze X Y):gm Q g L Y:=
 ⟨hQ _ _ h.ks k,j0b h.lt k.size,fun j hj=>by rw[World.cell?_of_block (a:=⟨g,j,none⟩) (k.block g h.lt)];exact h.cell j hj⟩
theorem UD {a b:List UInt8}(h:b.take a.length=a):(ByteArray.mk b.toArray).extract 0 a.length=⟨a.toArray⟩:=by
 have h3:b=a++b.drop a.length:=by
  conv=>lhs;rw[←List.take_append_drop a.length b,h]
 generalize b.drop a.length=r at h3;subst h3;apply ByteArray.ext;simp[ByteArray.data_extract]
theorem JV (st:R.St)(j:Nat)(h:j<(trL st).length):(trL st)[j]=FX (R.Written (st.cms[j]'(by rw[Qc]at h;exact h)).tree):=by simp[trL]
theorem J5 {w0 w:World}{H:Nat→Prop}{B c:Nat}{st:R.St}{e:Ending}{w' :World}(h:FE w0 H B c st w e w')(a3:0<st.cms.length):
  ∃g lc,e= .returned (.slice (some ⟨g,0,none⟩) st.cms.length lc)∧st.cms.length≤lc∧lc≤9223372036854775807∧w.heap.size≤g∧g<w'.heap.size∧(∀j (h:j<(trL st).length),w'.cell? ⟨g,j,none⟩=some (trL st)[j])∧KS w0 H B st c w' ∧ze w w' :=by
 obtain⟨la,lc,rfl,ho,hs,hk⟩:=h;obtain⟨_,_,a4,a1,a2,hz,a0⟩:=zl ho;injection a4 with e1 e2 e3
 subst e1 e3;unfold maxLen at a2
 cases la with
 |none=>have:=(hz rfl).1;omega
 |some ad=>
  obtain⟨g,rfl,g1,g2,_,g3⟩:=a0 ad rfl;exact⟨g,lc,rfl,a1,by omega,g1,g2,fun j hj=>g3 j _ (by rw[j0d hj]),hs,hk⟩
theorem F8 {w:World}(hG:ZL w)(h6:6≤w.heap.size){v v2:Value}{l l2:List R.Raw}(hA:Rd w (fun _=>False) v l.length (Z_ l))(e9:Rd w (fun _=>False) v2 l2.length (Z_ l2))(f7:∀a∈l,okR a)(b8:∀a∈l2,okR a)(a b:Int)(ha:okN a)(hb:okN b):
  ∃N last o w' t',runNT Tryz.prog (N+1) (solo (G (Frame.enter Tryz.prog 9 #[v,v2,.int .i64 a,.int .i64 b] .normal) []) w) #[]=(.ended o w',t')∧runN Tryz.prog N (solo (G (Frame.enter Tryz.prog 9 #[v,v2,.int .i64 a,.int .i64 b] .normal) []) w)= .next last∧
   step Tryz.prog last= .ended o w' ∧Conc.Good Tryz.prog (AwR w) last o w' t' :=by
 have hP:=xE;have e7:=z6 hA;have b5:=z6 e9;have d9:=z6 f7;have a8:=z6 b8;have g3:=z6 ha;have g4:=z6 hb;obtain⟨sa,sc,rfl,j1,h8,_⟩:=hA;obtain⟨i1,i2,rfl,j2,h9,_⟩:=e9;unfold maxLen at h8 h9;clear f7 b8 ha hb;have hR:∀(v:Value) (w' :World) (T:Nat→Question→Nat) (d:Nat),AwR w v w' →AwR w v (re w' T d):=fun v w' T d ⟨h1,h2⟩=>⟨h1,h2.re T d⟩
 refine o6 hR (UG hP hR Tryz.func9 rfl (by kernel_rfl) ?_);have a1:ReC (kA Tryz.prog Tryz.f9 (AwR w)):=ReC.bodyE hR;simp only[Tryz.ntmps9,List.size_toArray,List.length_cons,List.length_nil,Nat.reduceAdd,Nat.reduceSub,Array.replicate_succ,Array.replicate_zero,List.push_toArray,List.append_toArray,List.nil_append,List.cons_append];refine z7 hP a1 fun T d=> ?_
 have HB:=z6 ((ze.refl w).re T d);generalize re w T d=W at*;go_wp2;refine z7 hP a1 fun T d=> ?_
 have HK:=z6 (HB.out.re T d);clear HB;generalize re W T d=W1 at*;go_wp2_with fail
 refine(Gx (hG.keptM HK.out) (j0f h6 HK.out.size)).mono ?_;rintro e W2 ⟨rfl,hk⟩;have HB:=z6 (HK.out.trans hk);clear HK hk;go_wp2;refine zx hP ?_;refine zS hP 1 a1.thenT rfl rfl rfl Tryz.func16 (by decide) rfl fun T d=> ?_
 have d8:Hid (zL Tryz.prog 16 #[.slice sa l.length sc] (re W2 T d) (f8 (re W2 T d))):=cG (hG.keptM (HB.out.re T d)) (j0f h6 (HB.out.re T d).size) (v:= .slice sa l.length sc) (l:=l) (UB e7.out (HB.out.re T d)) d9.out;have d5:=z6 (HB.out.re T d);clear HB;generalize re W2 T d=W3 at*;simp only[List.take_succ_cons,List.take_zero,List.drop_succ_cons,List.drop_zero];go_wp2;refine⟨_,_,by simp[Act.eval],d8.out,?_⟩;rintro v' V' ⟨B,st,rfl,f5,_,hs⟩ T d;have HS:=z6 (hs.re T d);have h4:=hs.inv.few;have h7:=f5.liv.one;have g1:=z6 hs.inv;clear hs d8 e7 d9 f5;generalize re V' T d=V0 at*;clear V';go_wp2;refine z7 hP a1 fun T d=> ?_
 have a0 :=z6 (HS.out.re T d);clear HS;generalize re V0 T d=U0 at*;go_wp2;have HS:=z6 a0.out;clear a0;generalize hV:U0=V1 at*;clear hV;refine z7 hP a1 fun T d=> ?_
 have a0 :=z6 (HS.out.re T d);clear HS;generalize re V1 T d=U1 at*;have b6:=z6 (gK a0.out);go_wp2_with fail
 refine b6.out.mono ?_;intro e V2 hT;obtain⟨g,lc,rfl,c9,d3,i3,i4,a2,hs,hk⟩:=J5 hT (by omega);have i0:=hs.held.size;have HM:=z6 (a0.out.held.trans (hk.h (H:=fun b=>b<W3.heap.size) (fun b hb=>j0b hb a0.out.held.size)));have HS:=z6 (a0.out.anchor (H2:=fun b=>b<W3.heap.size∨b=g) hk (fun b hb=>hb.imp id (fun e=>by omega)) (fun b hb=> .inl hb) (fun b hb=>by rcases hb with hb|hb<;>omega));have HC:Hid (∀(g0:R.St) (c2:Nat) (X:World),KS V2 (fun b=>b<W3.heap.size∨b=g) B g0 c2 X→∀j (h:j<(trL st).length),X.cell? ⟨g,j,none⟩=some (trL st)[j]):=fun g0 c2 X hX j hj=>by
  rw[hX.held.cell (p:=⟨g,j,none⟩) (.inr rfl)];exact a2 j hj
 have d4:Hid (gp V2 (fun b=>b<W3.heap.size∨b=g) (.slice i1 l2.length i2) l2):=by
  obtain⟨a',c8,e',q1,q2,q3⟩:=JP (UB b5.out d5.out);refine⟨a',c8,e',q1,q2,fun h0=> ?_⟩;obtain⟨b',c6,r1,r2,r3⟩:=q3 h0;refine⟨b',c6,r1,.inl r2,fun j u hu=> ?_⟩;rw[HM.out.cell (p:=⟨b',c6 +j,none⟩) r2];exact r3 j u hu
 clear hT a2 hs hk a0 b6 b5 i0;go_wp2;refine z7 hP a1 fun T d=> ?_
 have a0 :=z6 (HS.out.re T d);clear HS;generalize re V2 T d=U2 at*;go_wp2_with fail
 refine a0.out.pack.mono ?_;rintro e W' ⟨rfl,hw⟩;replace hw:=hw.symm;subst hw;go_wp2;have HS:=z6 a0.out;clear a0;generalize hV:U2=V3 at*;clear hV;refine z7 hP a1 fun T d=> ?_
 have a0 :=z6 (HS.out.re T d);clear HS;generalize re V3 T d=U3 at*;have j3:((st.cms.length:Int)==0)=false:=by rw[beq_eq_false_iff_ne];omega
 go_wp2;have HS:=z6 a0.out;clear a0;generalize hV:U3=V4 at*;clear hV;refine z7 hP a1 fun T d=> ?_
 have a0 :=z6 (HS.out.re T d);clear HS;generalize re V4 T d=U4 at*;obtain⟨qa,i9,a3⟩:=UE a g3.out (st.cms.length:Int) (by omega) (by omega);have PA:=z6 a3;clear a3;go_wp2_with fail
 refine(PA.out _).mono ?_;rintro e W' ⟨rfl,hw⟩;replace hw:=hw.symm;subst hw;clear PA;go_wp2;have HS:=z6 a0.out;clear a0;generalize hV:U4=V5 at*;clear hV;refine z7 hP a1 fun T d=> ?_
 have a0 :=z6 (HS.out.re T d);clear HS;generalize re V5 T d=U5 at*;obtain⟨qb,j0,a3⟩:=UE b g4.out (st.cms.length:Int) (by omega) (by omega);have PB:=z6 a3;clear a3;go_wp2_with fail
 refine(PB.out _).mono ?_;rintro e W' ⟨rfl,hw⟩;replace hw:=hw.symm;subst hw;clear PB;go_wp2;have HS:=z6 a0.out;clear a0;generalize hV:U5=V6 at*;clear hV;rcases hr:R.baseAt st (1+(qa:Int)) (1+(qb:Int))with⟨rs,rc⟩
 have e3:=z6 hr;have a7:Hid (R.Grows st (R.dropped (R.actsP st l2) [99]).2 50):=R.grows_later st l2;have e6:Hid (R.baseAt (R.dropped (R.actsP st l2) [99]).2 (1+(qa:Int)) (1+(qb:Int))=(rs,rc)):=(a7.out.base g1.out (by omega) (by omega) (by omega) (by omega)).trans hr;clear hr;refine zx hP ?_;refine zS hP 3 a1.thenT rfl rfl rfl Tryz.func35 (by decide) rfl fun T d=> ?_
 have a0 :=z6 (HS.out.re T d);clear HS;generalize re V6 T d=U6 at*;simp only[List.take_succ_cons,List.take_zero,List.drop_succ_cons,List.drop_zero];go_wp2;refine⟨_,_,by simp[Act.eval],a0.out.baseM _ _ e3.out,?_⟩;rintro v' V' ⟨rfl,hk⟩ T d;have HS:=z6 ((a0.out.keptM hk).re T d);clear a0 hk;generalize re V' T d=V7 at*;clear V';go_wp2;refine zx hP ?_;refine zS hP 2 a1.thenT rfl rfl rfl Tryz.func36 (by decide) rfl fun T d=> ?_
 have a0 :=z6 (HS.out.re T d);clear HS;generalize re V7 T d=U7 at*;simp only[List.take_succ_cons,List.take_zero,List.drop_succ_cons,List.drop_zero];go_wp2;refine⟨_,_,by simp[Act.eval],fZ a0.out (by omega) d4.out a8.out,?_⟩;rintro v' V' ⟨rfl,hs⟩ T d;have HS:=z6 (hs.re T d);clear a0 hs d4 a8;generalize re V' T d=V8 at*;clear V';go_wp2;refine z7 hP a1 fun T d=> ?_
 have a0 :=z6 (HS.out.re T d);clear HS;generalize re V8 T d=U8 at*;have f0:=oJ a0.out.inv [99];have h3:=jv (R.actsP st l2) a0.out.inv [99];have d6:=z6 f0;have d7:Hid ((R.dropped (R.actsP st l2) [99]).2.packed.length≤(R.actsP st l2).packed.length+300000):=by show _≤_;omega
 obtain⟨r,hr⟩:∃r,(R.dropped (R.actsP st l2) [99]).1=r:=⟨_,rfl⟩
 have HR:=z6 hr;clear f0 h3 hr;go_wp2_with fail
 refine(a0.out.drop (by omega) [99] (by simp) HR.out d6.out d7.out).mono ?_;rintro e V9 ⟨rfl,hs⟩;have HS:=z6 hs;clear hs a0 d6 d7 HR;have f6:=a7.out.more;obtain⟨a5,b9⟩:=a7.out.pk;have c7:Hid (∀j (h:j<(trL st).length) (h2:j<(trL (R.dropped (R.actsP st l2) [99]).2).length),(trL (R.dropped (R.actsP st l2) [99]).2)[j]=(trL st)[j]):=fun j h h2=>by
  rw[JV,JV,a7.out.tree]
 clear a7;generalize(R.dropped (R.actsP st l2) [99]).2=st3 at*;have f3:=HS.out.inv.few;have a9:=z6 a5;have b4:=z6 b9;clear a5 b9;go_wp2;refine z7 hP a1 fun T d=> ?_
 have a0 :=z6 (HS.out.re T d);clear HS;generalize re V9 T d=U9 at*;have b6:=z6 (gK a0.out);go_wp2_with fail
 refine b6.out.mono ?_;intro e e8 hT;obtain⟨g2,j4,rfl,i6,i7,i5,h5,a2,hs,hk⟩:=J5 hT (by omega);have HZ:=z6 (show gm (fun X=>KS V2 (fun b=>b<W3.heap.size∨b=g) B st3 121 X) g2 (trL st3) e8 from⟨hs,h5,a2⟩);clear hT a2 hs hk a0 b6;have a6:Hid (∀(X Y:World),gm (fun X=>KS V2 (fun b=>b<W3.heap.size∨b=g) B st3 121 X) g2 (trL st3) X→ze X Y→gm (fun X=>KS V2 (fun b=>b<W3.heap.size∨b=g) B st3 121 X) g2 (trL st3) Y):=fun X Y h k=>h.keptM (fun _ _ h k=>h.keptM k) k
 go_wp2;refine zx hP ?_;refine zS hP 3 a1.thenT rfl rfl rfl Tryz.func35 (by decide) rfl fun T d=> ?_
 have a4 :=z6 (a6.out _ _ HZ.out ((ze.refl _).re T d));clear HZ;generalize re e8 T d=U10 at*;simp only[List.take_succ_cons,List.take_zero,List.drop_succ_cons,List.drop_zero];go_wp2;refine⟨_,_,by simp[Act.eval],a4.out.ks.baseM _ _ e6.out,?_⟩;rintro v' V' ⟨rfl,hk⟩ T d;have HZ:=z6 (a6.out _ _ a4.out (hk.re T d));clear a4 hk;generalize re V' T d=V11 at*;clear V';go_wp2;refine z7 hP a1 fun T d=> ?_
 have a4 :=z6 (a6.out _ _ HZ.out ((ze.refl _).re T d));clear HZ;generalize re V11 T d=U11 at*;go_wp2_with fail
 refine a4.out.ks.pack.mono ?_;rintro e W' ⟨rfl,hw⟩;replace hw:=hw.symm;subst hw;go_wp2;have HZ:=z6 a4.out;clear a4;generalize hV:U11=V12 at*;clear hV;refine z7 hP a1 fun T d=> ?_
 have a4 :=z6 (a6.out _ _ HZ.out ((ze.refl _).re T d));clear HZ;generalize re V12 T d=U12 at*;have a5:=a9.out;have i8:st3.packed.length≤9223372036854775807:=by
  obtain⟨O,_,_,_,hh,_⟩:=a4.out.ks;omega
 have g6:¬(st3.cms.length:Int)<(st.cms.length:Int):=by omega
 have g7:¬(st3.packed.length:Int)<(st.packed.length:Int):=by omega
 have g8:decide ((st3.cms.length:Int)<(st.cms.length:Int))=false:=by simp;omega
 have g9:decide ((st3.packed.length:Int)<(st.packed.length:Int))=false:=by simp;omega
 have hx:=UD b4.out;have g5:=z6 hx;go_wp2;have HZ:=z6 a4.out;clear a4;generalize hV:U12=V13 at*;clear hV;clear hx g5 a9 b4 a5 g6 g7 g8 g9 e3 e6;refine z7 hP a1 fun T d=> ?_
 have a4 :=z6 (a6.out _ _ HZ.out ((ze.refl _).re T d));clear HZ;generalize re V13 T d=U13 at*;go_wp2;go_loopw [21] (fun i wr=>∃j:Nat,j≤st.cms.length∧i= .int .i64 (j:Int)∧gm (fun X=>KS V2 (fun b=>b<W3.heap.size∨b=g) B st3 121 X) g2 (trL st3) wr) (fun i _=>60-(intOf i).toNat)
 case atStart=>exact⟨0,Nat.zero_le _,rfl,a4.out⟩
 case round=>
  obtain⟨j,hj,rfl,hz⟩:=hrel;have HZ:=z6 hz;clear hz a4;by_cases f4:j<st.cms.length
  ·have c9:j<(trL st).length:=by rw[Qc];exact f4
   have d3:j<(trL st3).length:=by rw[Qc];omega
   have e1:=HC.out _ _ _ HZ.out.ks j c9;have e2:=HZ.out.cell j d3;rw[c7.out j c9 d3]at e2;rw[JV]at e1 e2;unfold FX at e1 e2;have b1:(0:Int)≤(j:Int):=by omega
   have b2:(j:Int)<(st.cms.length:Int):=by omega
   have b3:(j:Int)<(st3.cms.length:Int):=by omega
   generalize R.Written (st.cms[j]'f4).tree=tx at*;go_wp2;go_region_held3 (fun w' =>w'.cell? ⟨g,j,none⟩=some (.string ⟨tx.toArray⟩)∧w'.cell? ⟨g2,j,none⟩=some (.string ⟨tx.toArray⟩)) (go_keep) (fail)
   all_goals
    rename_i b7;clear b7;go_wp2;go_roundw
    case rel=>exact⟨j+1,by omega,by simp,a6.out _ _ HZ.out (ze.of_below (j0g wr.heap.size wr).drew)⟩
    case measure=>simp[intOf];omega
  ·go_wp2
   refine z7 hP a1 fun T d=> ?_
   have a4 :=z6 (a6.out _ _ HZ.out ((ze.refl _).re T d));clear HZ;generalize re wr T d=U50 at*;go_wp2;refine XO hP ?_;refine⟨rfl,_,fun W=>⟨by simp[results,Tryz.results9,go_sem],by simp[results,Tryz.results9,go_sem]⟩,⟨rfl,d5.out.trans ((HM.out.trans (a4.out.ks.held.smaller fun b hb=> .inl hb)).m fun b hb=>hb)⟩⟩
end
