import Derived.Test.YtolgebdmffcemaaGreatDoorQ23
set_option linter.all false
set_option maxHeartbeats 20000000
set_option maxRecDepth 1000000
open Go renaming World→eX,Question→iC,Value→eB,Calls→wH
open Go.Proofs.YtolgebdmffcemaaGreatDoor renaming re→mG
open Go.Proofs.Tryz renaming prog→sU,func38→MA,func36→N1,results11→NZ
open List renaming length→rJ,length_append→nL,take_succ_cons→aX,take_zero→ME,drop_succ_cons→MF,drop_zero→MG
open ByteArray renaming mk→tD,size→DQ
open Go.Frame renaming enter→iM
open Nat renaming zero_le→wB
namespace Go.Proofs.YtolgebdmffcemaaGreatDoor
open Go Go.Conc Go.RowKit
def K2 (w0:eX)(H:Nat→Prop)(B B2:Nat)(st st2:R.St)(c:Nat)(w:eX):Prop:=∃O O2:Nat→Prop,(PS w (fun b=>O b∨O2 b) O B st∧PS w (fun b=>O b∨O2 b) O2 B2 st2)∧(∀b,O b→¬O2 b)∧(∀b,O b∨O2 b→¬H b∧b<w.heap.size)∧(Inv st∧Inv st2)∧(st.packed.length≤300000*c∧st2.packed.length≤300000*c)∧Zp w∧ZV H w0 w∧(∀b,b<6→H b)∧(∀b,H b→b<w.heap.size)
section
variable {w0 w w' :eX}{H:Nat→Prop}{B B2 c:Nat}{st st2 st' :R.St}
theorem K2.swap (h:K2 w0 H B B2 st st2 c w):K2 w0 H B2 B st2 st c w:=by
 obtain⟨O,O2,h1,h2,h3,h4,h5,h6⟩:=h;exact⟨O2,O,⟨h1.2.smaller (fun b hb=>hb.symm) (fun b hb=> .inl hb),h1.1.smaller (fun b hb=>hb.symm) (fun b hb=> .inr hb)⟩,fun b hb a0=>h2 b a0 hb,fun b hb=>h3 b hb.symm,h4.symm,h5.symm,h6⟩
theorem K2.ks (h:K2 w0 H B B2 st st2 c w):KS w0 H B st c w:=by
 obtain⟨O,O2,h1,h2,h3,h4,h5,h6,h7,h8,h9⟩:=h;exact⟨O,h1.1.smaller (fun b hb=> .inl hb) (fun b hb=>hb),fun b hb=>h3 b (.inl hb),h4.1,h5.1,h6,h7,h8,h9⟩
theorem K2.keptM (h:K2 w0 H B B2 st st2 c w)(k:ze w w'):K2 w0 H B B2 st st2 c w' :=by
 obtain⟨O,O2,⟨⟨bv,cv,LB,LCm,h1⟩,⟨a2,a3,a1,a0,a4⟩⟩,h2,h3,h4,h5,h6,h7,h8,h9⟩:=h;exact⟨O,O2,⟨⟨bv,cv,LB,LCm,h1.keptM k⟩,⟨a2,a3,a1,a0,a4.keptM k⟩⟩,h2,fun b hb=>⟨(h3 b hb).1,j0b (h3 b hb).2 k.size⟩,h4,h5,h6.keptM k,h7.trans (k.h h9),h8,fun b hb=>j0b (h9 b hb) k.size⟩
theorem K2.re (h:K2 w0 H B B2 st st2 c w)(T:Nat→iC→Nat)(d:Nat):K2 w0 H B B2 st st2 c (mG w T d):=h.keptM ((ze.refl w).re T d)
def Db (w0:eX)(H:Nat→Prop)(B B2 c:Nat)(st2:R.St)(r:(Int×Int)×R.St)(v:eB)(w' :eX):Prop:=v= .tuple #[.int .i64 r.1.1,.int .i64 r.1.2]∧K2 w0 H B B2 r.2 st2 c w'
def CD (w0:eX)(H:Nat→Prop)(B c:Nat)(st:R.St)(w:eX)(e:Ending)(w' :eX):Prop:=∃B2,e= .returned (.pointer (some ⟨B2,0,none⟩))∧K2 w0 H B B2 st st c w' ∧Below w.heap.size w w' ∧w.heap.size≤B2
theorem bC (h:KS w0 H B st c w)(hc:c≤1000)(hl:R.Lived st):wH sU 17 #[.pointer (some ⟨B,0,none⟩)] w (CD w0 H B c st w):=by
 have hi:=h.inv;obtain⟨rs,r1,r2,r3⟩:=hl.open_ hi;have a2:=z4 h.pack;obtain⟨O,h1,h2,h3,h4,h5,h6,h7,h8⟩:=id h;have a0:=z4 (Gl r1 [] (.inl R.whole_nil) w O (fun b hb=>(h2 b hb).2) h5 (by rw[←r3];omega) (by simp));rw[r2,←r3,List.append_nil]at a0;have HK:Hid (∀(e:Ending) (w' :eX),gz w O st e w' →CD w0 H B c st w e w'):=fun e w' ⟨B2,O2,e1,e2,e3,e4⟩=>by
  have a3:O2 B2:=by obtain⟨bv,cv,LB,LCm,hx⟩:=e2;exact hx.own
  refine⟨B2,e1,⟨O,O2,⟨?_,e2⟩,fun b hb a4=> ?_,fun b hb=> ?_,⟨hi,hi⟩,⟨h4,h4⟩,h5.below e3,h6.trans ((ze.of_below e3).h h8),h7,fun b hb=>j0b (h8 b hb) e3.size⟩,e3,e4 B2 a3⟩
  ·exact h1.kept (zf.of_below (M:=fun _=>False) e3) (fun _ e=>e.elim) (fun b hb=>hb.imp id (fun h=>e4 b h)) (fun b hb=> .inl hb)
  ·have:=(h2 b hb).2;have:=e4 b a4;omega
  ·rcases hb with hb|hb
   ·exact⟨(h2 b hb).1,j0b (h2 b hb).2 e3.size⟩
   ·refine⟨fun e=> ?_,?_⟩
    ·have:=h8 b e;have:=e4 b hb;omega
    ·obtain⟨bv,cv,LB,LCm,hx⟩:=e2;exact hx.lt b hb
 clear h1 h2 h3 h4 h5 h6 h7 h8 r1 r2 r3 h hl;generalize a6:st.packed=pk at*;go_enter Tryz.func17,Tryz.ntmps17;go_wp2_with fail
 refine a2.out.mono ?_;rintro e W1 ⟨rfl,hw⟩;replace hw:=hw.symm;subst hw;go_wp2_with fail
 refine a0.out.mono ?_;intro e W2 ho;obtain⟨B2,rfl,h2,hb,a5⟩:=HK.out e W2 ho;have a1:=z4 h2.swap.ks.pack;rw[a6]at a1;have H2:=z4 h2;have HB:=z4 hb;clear h2 hb ho a0 HK a2;go_wp2_with fail
 refine a1.out.mono ?_;rintro e W3 ⟨rfl,hw⟩;replace hw:=hw.symm;subst hw;go_wp2;go_ret;exact⟨B2,rfl,H2.out,HB.out,a5⟩
end
section
end
def ZO (X:eX)(g:Nat)(xs:List eB):Prop:=g<X.heap.size∧∀j u,xs[j]? =some u→X.cell? ⟨g,j,none⟩=some u
theorem ZO.keptM {X Y:eX}{g:Nat}{xs:List eB}(h:ZO X g xs)(k:ze X Y):ZO Y g xs:=
 ⟨j0b h.1 k.size,fun j u hu=>by rw[World.cell?_of_block (a:=⟨g,j,none⟩) (k.block g h.1)];exact h.2 j u hu⟩
theorem ZO.re {X:eX}{g:Nat}{xs:List eB}(h:ZO X g xs)(T:Nat→iC→Nat)(d:Nat):ZO (mG X T d) g xs:=h.keptM ((ze.refl X).re T d)
theorem Un {w:eX}{base:Nat}{e:TypeId}{v:eB}{n:Nat}{xs:List eB}(h:w.ownsRow base e 1 v n xs)(hn:0<n):∃g cap,v= .slice (some ⟨g,0,none⟩) n cap∧n≤cap∧cap≤9223372036854775807∧ZO w g xs:=by
 obtain⟨a,cap,hv,h1,h2,hz,hs⟩:=zh h;unfold maxLen at h2
 cases a with
 |none=>have:=(hz rfl).1;omega
 |some ad=>
  obtain⟨g,rfl,_,g2,_,g3⟩:=hs ad rfl;exact⟨g,cap,hv,h1,by omega,g2,g3⟩
section
variable {w0 w w' :eX}{H:Nat→Prop}{B B2 c:Nat}{st st2:R.St}
theorem Cn (hl:R.Lived st):st.brs.length=3∧(st.brs.map fun b=>S b.name)=[S [97],S [98],S [99]]:=by
 have h:=hl.liv.names;refine⟨by have:=congrArg rJ h;simpa using this,?_⟩;have:=congrArg (List.map S) h;simpa[List.map_map,Function.comp_def]using this
theorem KS.branches (h:KS w0 H B st c w)(hl:R.Lived st):wH sU 39 #[.pointer (some ⟨B,0,none⟩)] w fun e w' =>∃g cap,e= .returned (.slice (some ⟨g,0,none⟩) 3 cap)∧3≤cap∧cap≤9223372036854775807∧ZO w' g [S [97],S [98],S [99]]∧ze w w' :=by
 obtain⟨O,h1,h2,h3,_⟩:=h;obtain⟨e1,e2⟩:=Cn hl;refine(Gm B st w O O h1 h3).mono fun e w' ⟨va,vc,r1,r2,r3⟩=> ?_
 rw[e1,e2]at r2;rw[e1]at r1;obtain⟨g,cap,q1,q2,q3,q4⟩:=Un r2 (by decide);injection q1 with a1 a2 a3
 subst a1 a3;exact⟨g,vc,r1,q2,q3,q4,ze.of_below r3⟩
theorem KS.historyG (h:KS w0 H B st c w)(name:List UInt8){L:List Nat}(hL:xj st name=(L,0))(hp:0<L.length):
  zF sU 38 #[.pointer (some ⟨B,0,none⟩),.string ⟨name.toArray⟩] w fun v w' =>∃g cap,v= .tuple #[.slice (some ⟨g,0,none⟩) L.length cap,.int .i64 0]∧L.length≤cap∧cap≤9223372036854775807∧ZO w' g (Ym L)∧ze w w' :=by
 refine(h.history name hL).mono fun v w' ⟨hv,e1,e2,e3⟩=> ?_
 obtain⟨g,cap,rfl,q2,q3,q4⟩:=Un e2 hp;exact⟨g,cap,e1,q2,q3,q4,e3⟩
theorem GW (hG:Zp w){sx:R.St}{e:Ending}(h:gz w (fun _=>False) sx e w')(hi:Inv sx)(hp:sx.packed.length≤300000*c):∃Bx,e= .returned (.pointer (some ⟨Bx,0,none⟩))∧KS w' (fun b=>b<w.heap.size) Bx sx c w' ∧ze w w' :=by
 obtain⟨Bx,O,e1,e2,e3,e4⟩:=h;have a0:∀b,O b→b<w'.heap.size:=by obtain⟨bv,cv,LB,LCm,hx⟩:=e2;exact hx.lt
 have h6:=hG.size;exact⟨Bx,e1,⟨O,e2.smaller (fun b hb=> .inr hb) (fun b hb=>hb),fun b hb=>⟨fun e=>by have:=e4 b hb;omega,a0 b hb⟩,hi,hp,hG.below e3,ZV.refl _ _,fun b hb=>by omega,fun b hb=>j0b hb e3.size⟩,ze.of_below e3⟩
def PkO (w:eX)(N:Nat→Prop)(B:Nat)(pk:List UInt8):Prop:=∃pv,N B∧(∀g,pv.ownBlock=some g→N g)∧(∀b,N b→b<w.heap.size)∧w.cell? ⟨B,2,none⟩=some pv∧w.ownsRow 0 5 1 pv pk.length (Lib.byteCells pk)
theorem PkO.kept {N Z:Nat→Prop}{pk:List UInt8}(h:PkO w N B pk)(hk:zf Z w w')(hZ:∀b,N b→¬Z b):PkO w' N B pk:=by
 obtain⟨pv,h1,h2,h3,h4,h5⟩:=h;exact⟨pv,h1,h2,fun b hb=>j0b (h3 b hb) hk.size,by rw[hk.cell (p:=⟨B,2,none⟩) (h3 B h1) (hZ B h1)];exact h4,zr h5 hk (fun g hg=>hZ g (h2 g hg))⟩
theorem PkO.re {N:Nat→Prop}{pk:List UInt8}(h:PkO w N B pk)(T:Nat→iC→Nat)(d:Nat):PkO (mG w T d) N B pk:=by
 obtain⟨pv,h1,h2,h3,h4,h5⟩:=h;exact⟨pv,h1,h2,h3,h4,h5⟩
theorem BI {M O:Nat→Prop}(h:PS w M O B st):PkO w O B st.packed:=by
 obtain⟨bv,cv,LB,LCm,hx⟩:=h;obtain⟨pv,hp⟩:=hx.pk;exact⟨pv,hx.own,fun g hg=>(hp.rowO g hg).1,hx.lt,hp.c2,hp.row⟩
theorem PkO.pack {N:Nat→Prop}{pk:List UInt8}(h:PkO w N B pk):
  wH sU 21 #[.pointer (some ⟨B,0,none⟩)] w fun e w' =>e= .returned (.string ⟨pk.toArray⟩)∧w' =w:=by
 obtain⟨pv,_,_,_,c2,hr⟩:=h;have a1:=fg hr;obtain⟨pa,pn,pc,a0⟩:∃a n k,pv= .slice a n k:=by obtain⟨a,k,e,_⟩:=zh hr;exact⟨a,_,k,e⟩
 subst a0;clear hr;go_enter Tryz.func21,Tryz.ntmps21;go_wp2;go_ret;exact⟨Yj rfl,rfl⟩
theorem Qv.at {v:eB}{l:List R.Raw}(h:Qv w0 H v l)(hk:ZV H w0 w){H2:Nat→Prop}(h2:∀b,H b→H2 b):Qv w H2 v l:=by
 obtain⟨a,cap,h1,q2,q3,q4⟩:=h;refine⟨a,cap,h1,q2,q3,fun h0=> ?_⟩;obtain⟨b,off,r1,r2,r3⟩:=q4 h0;exact⟨b,off,r1,h2 b r2,fun j u hu=>by rw[hk.cell (p:=⟨b,off+j,none⟩) r2];exact r3 j u hu⟩
theorem ZV.kept {O:Nat→Prop}(h:ZV (fun b=>b<w.heap.size∧¬O b) w w'):zf O w (mG w' w.tape w'.drawn):=⟨h.os,rfl,h.output,h.size,fun k hk hn=>h.block k ⟨hk,hn⟩⟩
def FE (w0:eX)(H:Nat→Prop)(B B2:Nat)(st:R.St)(pk:List UInt8)(c:Nat)(w:eX):Prop:=∃O N:Nat→Prop,PS w O O B st∧(∀b,O b→¬H b∧b<w.heap.size)∧PkO w N B2 pk∧(∀b,N b→¬O b)∧Inv st∧st.packed.length≤300000*c∧Zp w∧ZV H w0 w∧(∀b,b<6→H b)∧(∀b,H b→b<w.heap.size)
theorem FE.re {pk:List UInt8}(h:FE w0 H B B2 st pk c w)(T:Nat→iC→Nat)(d:Nat):FE w0 H B B2 st pk c (mG w T d):=by
 obtain⟨O,N,⟨bv,cv,LB,LCm,h1⟩,h2,h3,h4,h5,h6,h7,h8,h9,a0⟩:=h;exact⟨O,N,⟨bv,cv,LB,LCm,h1.keptM ((ze.refl w).re T d)⟩,h2,h3.re T d,h4,h5,h6,h7.re T d,h8.trans (((ze.refl w).re T d).h a0),h9,a0⟩
theorem K2.acts2 (h:K2 w0 H B B2 st st2 c w)(hc:c≤200000){v:eB}{l:List R.Raw}(hA:Qv w0 H v l)(a2:∀a∈l,okR a):
  zF sU 36 #[.pointer (some ⟨B2,0,none⟩),v] w fun r w' =>r= .tuple #[]∧FE w0 H B B2 st (R.actsP st2 l).packed c w' :=by
 obtain⟨O,O2,⟨p1,p2⟩,hd,hb,⟨i1,i2⟩,⟨k1,k2⟩,hG,hH,h6,h8⟩:=h;have hs:∀b,H b→b<w.heap.size∧¬O2 b:=fun b e=>⟨h8 b e,fun e2=>(hb b (.inr e2)).1 e⟩
 have a1:KS w (fun b=>b<w.heap.size∧¬O2 b) B2 st2 c w:=⟨O2,p2.smaller (fun b hb=> .inr hb) (fun b hb=>hb),fun b e=>⟨fun e2=>e2.2 e,(hb b (.inr e)).2⟩,i2,k2,hG,ZV.refl _ _,fun b e=>hs b (h6 b e),fun b e=>e.1⟩
 refine(Ge a1 hc (hA.at hH hs) a2).mono fun r w' ⟨e,q⟩=>⟨e,?_⟩
 obtain⟨a0,q1,q2,q3,q4,q5,q6,q7,q8⟩:=q;have hp:PS w' O O B st:=by
  have:=p1.kept q6.kept (fun b e=>⟨.inr e,fun e2=>hd b e2 e⟩) (M' :=O) (fun b e=> .inl (.inl e)) (fun b e=>e);obtain⟨bv,cv,LB,LCm,hx⟩:=this;exact⟨bv,cv,LB,LCm,hx.keptM ((ze.refl _).re w'.tape w'.drawn)⟩
 exact⟨O,a0,hp,fun b e=>⟨(hb b (.inl e)).1,j0b (hb b (.inl e)).2 q6.size⟩,BI q1,fun b e e2=>(q2 b e).1 ⟨(hb b (.inl e2)).2,hd b e2⟩,i1,k1,q5,hH.trans (q6.smaller hs),h6,fun b e=>j0b (h8 b e) q6.size⟩
theorem FE.acts {pk:List UInt8}(h:FE w0 H B B2 st pk c w)(hc:c≤200000){v:eB}{l:List R.Raw}(hA:Qv w0 H v l)(a2:∀a∈l,okR a):
  zF sU 36 #[.pointer (some ⟨B,0,none⟩),v] w fun r w' =>r= .tuple #[]∧KS w0 H B (R.actsP st l) (c+50) w' ∧∃N,PkO w' N B2 pk:=by
 obtain⟨O,N,h1,h2,h3,h4,h5,h6,h7,h8,h9,a0⟩:=h;have hs:∀b,H b→b<w.heap.size∧¬O b:=fun b e=>⟨a0 b e,fun e2=>(h2 b e2).1 e⟩
 have a1:KS w (fun b=>b<w.heap.size∧¬O b) B st c w:=⟨O,h1,fun b e=>⟨fun e2=>e2.2 e,(h2 b e).2⟩,h5,h6,h7,ZV.refl _ _,fun b e=>hs b (h9 b e),fun b e=>e.1⟩
 refine(Ge a1 hc (hA.at h8 hs) a2).mono fun r w' ⟨e,q⟩=>⟨e,?_⟩
 obtain⟨O',q1,q2,q3,q4,q5,q6,q7,q8⟩:=q;exact⟨⟨O',q1,fun b e=>⟨fun e2=>(q2 b e).1 (hs b e2),(q2 b e).2⟩,q3,q4,q5,h8.trans (q6.smaller hs),h9,fun b e=>j0b (a0 b e) q6.size⟩,N,(h3.kept q6.kept (fun b e=>h4 b e)).re w'.tape w'.drawn⟩
structure D8 (st:R.St)(c:Nat)(sx:R.St):Prop where
 inv:Inv sx
 le:sx.packed.length≤c
 pre:sx.packed=st.packed.take sx.packed.length
 few:sx.cms.length≤st.cms.length
 same:∀j (h:j<(trL sx).length),(trL st)[j]? =some (trL sx)[j]
 opn:∀w,Zp w→wH sU 40 #[.string ⟨(st.packed.take c).toArray⟩] w (gz w (fun _=>False) sx)
 opn2:∀w,Zp w→∀junk:List UInt8,junk.length≤1152921504606846976→wH sU 40 #[.string ⟨(sx.packed++120::junk).toArray⟩] w (gz w (fun _=>False) sx)
theorem d5 (hl:R.Lived st)(hi:Inv st)(hp:st.packed.length≤30000000){k:Nat}(hk:k≤st.packed.length):∃sx,D8 st k sx:=by
 obtain⟨rs,r1,r2,r3⟩:=hl.open_ hi;obtain⟨m,q,m1,m2,m3,m4⟩:=R.cut_facts R.inv0 r1 k (by rw[←r3];exact hk);have o1:=r1.take m;have a1:(R.runs R.bg0 (rs.take m)).packed=R.bytesRs (rs.take m):=by
  rw[qY o1];rfl
 have a3:q.length≤k:=by
  have:=congrArg rJ m2;rw[nL,List.length_take]at this;omega
 obtain⟨tl,ht⟩:=R.runs_cms (rs.drop m) (R.runs R.bg0 (rs.take m));rw[←R.runs_part,r2]at ht;have a2:R.bytesRs (rs.take m)=(R.bytesRs rs).take (R.bytesRs (rs.take m)).length:=by
  have h1:((R.bytesRs rs).take k).take (R.bytesRs (rs.take m)).length=R.bytesRs (rs.take m):=by
   rw[m2,List.take_left]
  rw[List.take_take,Nat.min_eq_left m4]at h1;exact h1.symm
 refine⟨R.runs R.bg0 (rs.take m),R.OkRs.inv R.inv0 o1,by rw[a1];exact m4,by rw[a1,r3];exact a2,by rw[ht,nL];omega,fun j hj=> ?_,fun w hG=> ?_,fun w hG a0 hj=> ?_⟩
 ·have e:trL st=trL (R.runs R.bg0 (rs.take m))++tl.map fun c=>FQ (R.Written c.tree):=by
   unfold trL;rw[ht,List.map_append]
  rw[e,List.getElem?_append_left hj,j0d hj]
 ·rw[r3,m2]
  exact Gl o1 q m3 w (fun _=>False) (fun _ e=>e.elim) hG (by omega) (by omega)
 ·rw[a1]
  exact Gl o1 (120::a0) (R.noRec_x a0) w (fun _=>False) (fun _ e=>e.elim) hG (by omega) (by simp;omega)
end
section
theorem gr {a:Act}(hd:a.defers=[])(hs:a.tmps.size=229):∃f:Nat→eB,(∀i v,a.tmps[i]? =some v→f i=v)∧a=⟨#[f 0,f 1,f 2,f 3,f 4,f 5,f 6,f 7,f 8,f 9,f 10,f 11,f 12,f 13,f 14,f 15,f 16,f 17,f 18,f 19,f 20,f 21,f 22,f 23,f 24,f 25,f 26,f 27,f 28,f 29,f 30,f 31,f 32,f 33,f 34,f 35,f 36,f 37,f 38,f 39,f 40,f 41,f 42,f 43,f 44,f 45,f 46,f 47,f 48,f 49,f 50,f 51,f 52,f 53,f 54,f 55,f 56,f 57,f 58,f 59,f 60,f 61,f 62,f 63,f 64,f 65,f 66,f 67,f 68,f 69,f 70,f 71,f 72,f 73,f 74,f 75,f 76,f 77,f 78,f 79,f 80,f 81,f 82,f 83,f 84,f 85,f 86,f 87,f 88,f 89,f 90,f 91,f 92,f 93,f 94,f 95,f 96,f 97,f 98,f 99,f 100,f 101,f 102,f 103,f 104,f 105,f 106,f 107,f 108,f 109,f 110,f 111,f 112,f 113,f 114,f 115,f 116,f 117,f 118,f 119,f 120,f 121,f 122,f 123,f 124,f 125,f 126,f 127,f 128,f 129,f 130,f 131,f 132,f 133,f 134,f 135,f 136,f 137,f 138,f 139,f 140,f 141,f 142,f 143,f 144,f 145,f 146,f 147,f 148,f 149,f 150,f 151,f 152,f 153,f 154,f 155,f 156,f 157,f 158,f 159,f 160,f 161,f 162,f 163,f 164,f 165,f 166,f 167,f 168,f 169,f 170,f 171,f 172,f 173,f 174,f 175,f 176,f 177,f 178,f 179,f 180,f 181,f 182,f 183,f 184,f 185,f 186,f 187,f 188,f 189,f 190,f 191,f 192,f 193,f 194,f 195,f 196,f 197,f 198,f 199,f 200,f 201,f 202,f 203,f 204,f 205,f 206,f 207,f 208,f 209,f 210,f 211,f 212,f 213,f 214,f 215,f 216,f 217,f 218,f 219,f 220,f 221,f 222,f 223,f 224,f 225,f 226,f 227,f 228],[]⟩:=by
 obtain⟨⟨l⟩,ds⟩:=a;simp only at hd;subst hd;have hl:l.length=229:=hs;refine⟨fun i=>l.getD i undef,fun i v hv=> ?_,?_⟩
 ·have:l[i]? =some v:=by simpa using hv
  simp[List.getD_eq_getElem?_getD,this]
 ·have:=vO l
  rw[hl]at this;exact congrArg (fun x:List eB=>(⟨⟨x⟩,[]⟩:Act)) this
structure oe (w:eX)(B B2:Nat)(st:R.St)(ga gb:Nat)(X:eX):Prop where
 k2:K2 w (fun b=>b<w.heap.size) B B2 st st 70 X
 ra:ZO X ga [S [97],S [98],S [99]]
 rb:ZO X gb [S [97],S [98],S [99]]
theorem oe.keptM {w:eX}{B B2:Nat}{st:R.St}{ga gb:Nat}{X Y:eX}(h:oe w B B2 st ga gb X)(k:ze X Y):oe w B B2 st ga gb Y:=⟨h.k2.keptM k,h.ra.keptM k,h.rb.keptM k⟩
theorem oe.re {w:eX}{B B2:Nat}{st:R.St}{ga gb:Nat}{X:eX}(h:oe w B B2 st ga gb X)(T:Nat→iC→Nat)(d:Nat):oe w B B2 st ga gb (mG X T d):=h.keptM ((ze.refl X).re T d)
structure gy (w:eX)(B B2:Nat)(st:R.St)(ga gb:Nat)(L:List Nat)(gh gk:Nat)(X:eX):Prop where
 s:oe w B B2 st ga gb X
 rh:ZO X gh (Ym L)
 rk:ZO X gk (Ym L)
theorem gy.keptM {w:eX}{B B2:Nat}{st:R.St}{ga gb:Nat}{L:List Nat}{gh gk:Nat}{X Y:eX}(h:gy w B B2 st ga gb L gh gk X)(k:ze X Y):gy w B B2 st ga gb L gh gk Y:=⟨h.s.keptM k,h.rh.keptM k,h.rk.keptM k⟩
theorem gy.re {w:eX}{B B2:Nat}{st:R.St}{ga gb:Nat}{L:List Nat}{gh gk:Nat}{X:eX}(h:gy w B B2 st ga gb L gh gk X)(T:Nat→iC→Nat)(d:Nat):gy w B B2 st ga gb L gh gk (mG X T d):=h.keptM ((ze.refl X).re T d)
structure NmF (st:R.St)(i:Nat)(nm:List UInt8)(L:List Nat)(tt:List UInt8):Prop where
 at_: [S [97],S [98],S [99]][i]? =some (.string ⟨nm.toArray⟩)
 hist:xj st nm=(L,0)
 pos:0<L.length
 le:L.length≤60
 sh:R.shown st nm=(tt,0)
theorem cF {st:R.St}(hl:R.Lived st)(hi:Inv st){i:Nat}(h:i<3):∃nm L tt,NmF st i nm L tt:=by
 rcases(by omega:i=0∨i=1∨i=2)with rfl|rfl|rfl
 ·obtain⟨L,tt,h0,hF⟩:=kT hl hi (name:=[97]) (.inl rfl)
  exact⟨[97],L,tt,rfl,hF.hist,hF.pos,hF.le,hF.sh⟩
 ·obtain⟨L,tt,h0,hF⟩:=kT hl hi (name:=[98]) (.inr (.inl rfl))
  exact⟨[98],L,tt,rfl,hF.hist,hF.pos,hF.le,hF.sh⟩
 ·obtain⟨L,tt,h0,hF⟩:=kT hl hi (name:=[99]) (.inr (.inr rfl))
  exact⟨[99],L,tt,rfl,hF.hist,hF.pos,hF.le,hF.sh⟩
def bZ (w:eX)(B B2:Nat)(st:R.St)(ga gb ca cb:Nat)(cut:Int)(jb:ByteArray)(mv:eB)(a:Act)(X:eX):Prop:=
 (a.defers=[]∧a.tmps.size=229∧a.tmps[1]? =some (.int .i64 cut)∧a.tmps[2]? =some (.string jb)∧a.tmps[3]? =some mv∧a.tmps[10]? =some (.pointer (some ⟨B,0,none⟩))∧a.tmps[11]? =some (.pointer (some ⟨B2,0,none⟩))∧a.tmps[12]? =some (.slice (some ⟨ga,0,none⟩) 3 ca)∧a.tmps[13]? =some (.slice (some ⟨gb,0,none⟩) 3 cb))∧
 ∃i:Nat,i≤3∧a.tmps[14]? =some (.int .i64 (i:Int))∧oe w B B2 st ga gb X
theorem bZ.re {w:eX}{B B2:Nat}{st:R.St}{ga gb ca cb:Nat}{a0:Int}{jb:ByteArray}{mv:eB}{a:Act}{X:eX}(h:bZ w B B2 st ga gb ca cb a0 jb mv a X)(T:Nat→iC→Nat)(d:Nat):bZ w B B2 st ga gb ca cb a0 jb mv a (mG X T d):=by
 obtain⟨h0,i,h1,h2,h3⟩:=h;exact⟨h0,i,h1,h2,h3.re T d⟩
def bX (a:Act):Nat:=(intOf (a.tmps.getD 14 undef)).toNat
theorem dI (p a0:List UInt8):(tD p.toArray++tD #[120])++tD a0.toArray=⟨(p++120::a0).toArray⟩:=by
 apply ByteArray.ext;simp[ByteArray.data_append]
theorem Oh {L:List Nat}{j:Nat}(h:j<L.length):(Ym L)[j]? =some (.int .i64 (L[j]:Int)):=by
 simp[Ym,j0d h]
structure JN (w:eX)(B B2:Nat)(st:R.St)(w1:eX)(h1 Bx:Nat)(sx:R.St)(X:eX):Prop where
 k2:K2 w (fun b=>b<w.heap.size) B B2 st st 70 X
 x:KS w1 (fun b=>b<h1) Bx sx 70 X
theorem JN.keptM {w:eX}{B B2:Nat}{st:R.St}{w1:eX}{h1 Bx:Nat}{sx:R.St}{X Y:eX}(h:JN w B B2 st w1 h1 Bx sx X)(k:ze X Y):JN w B B2 st w1 h1 Bx sx Y:=⟨h.k2.keptM k,h.x.keptM k⟩
theorem JN.re {w:eX}{B B2:Nat}{st:R.St}{w1:eX}{h1 Bx:Nat}{sx:R.St}{X:eX}(h:JN w B B2 st w1 h1 Bx sx X)(T:Nat→iC→Nat)(d:Nat):JN w B B2 st w1 h1 Bx sx (mG X T d):=h.keptM ((ze.refl X).re T d)
structure gv (w:eX)(B B2:Nat)(st:R.St)(g:Nat)(sx:R.St)(gx:Nat)(X:eX):Prop where
 k2:K2 w (fun b=>b<w.heap.size) B B2 st st 70 X
 rs:ZO X g (trL st)
 rx:0<sx.cms.length→ZO X gx (trL sx)
theorem gv.keptM {w:eX}{B B2:Nat}{st:R.St}{g:Nat}{sx:R.St}{gx:Nat}{X Y:eX}(h:gv w B B2 st g sx gx X)(k:ze X Y):gv w B B2 st g sx gx Y:=⟨h.k2.keptM k,h.rs.keptM k,fun e=>(h.rx e).keptM k⟩
theorem gv.re {w:eX}{B B2:Nat}{st:R.St}{g:Nat}{sx:R.St}{gx:Nat}{X:eX}(h:gv w B B2 st g sx gx X)(T:Nat→iC→Nat)(d:Nat):gv w B B2 st g sx gx (mG X T d):=h.keptM ((ze.refl X).re T d)
theorem JQ {w0 w:eX}{H:Nat→Prop}{B c:Nat}{st:R.St}{e:Ending}{w' :eX}(h:Ct w0 H B c st w e w'):
  ∃la g lc,e= .returned (.slice la st.cms.length lc)∧st.cms.length≤lc∧lc≤9223372036854775807∧(0<st.cms.length→la=some ⟨g,0,none⟩∧ZO w' g (trL st))∧ze w w' :=by
 obtain⟨la,lc,rfl,ho,hs,hk⟩:=h;by_cases hn:0<st.cms.length
 ·obtain⟨g,cap,q1,q2,q3,q4⟩:=Un ho hn
  injection q1 with a1 a2 a3
  subst a1 a3;exact⟨_,g,_,rfl,q2,q3,fun _=>⟨rfl,q4⟩,hk⟩
 ·obtain⟨a,cap,q1,q2,q3,_⟩:=zh ho
  injection q1 with a1 a2 a3
  subst a1 a3;unfold maxLen at q3;exact⟨_,0,_,rfl,q2,by omega,fun e=>absurd e hn,hk⟩
theorem Fa {w:eX}(hG:Zp w)(h6:6≤w.heap.size){v v2:eB}{l l2:List R.Raw}(hA:Rd w (fun _=>False) v l.length (yk l))(i1:∀a∈l,okR a)(d9:Int)(e3:okN d9)(a5:List UInt8)(hj:a5.length≤1073741824)(g5:Rd w (fun _=>False) v2 l2.length (yk l2))(e6:∀a∈l2,okR a):
  ∃N last o w' t',runNT sU (N+1) (solo (G (iM sU 11 #[v,.int .i64 d9,.string ⟨a5.toArray⟩,v2] .normal) []) w) #[]=(.ended o w',t')∧runN sU N (solo (G (iM sU 11 #[v,.int .i64 d9,.string ⟨a5.toArray⟩,v2] .normal) []) w)= .next last∧
   step sU last= .ended o w' ∧Conc.Good sU (AwR w) last o w' t' :=by
 have hP:=xx;have g0:=z4 hA;have f7:=z4 i1;have c8:=z4 g5;have c7:=z4 e6;have j5:=z4 e3;have j6:=z4 (fun p=>dI p a5);have m7:(tD a5.toArray).size=a5.length:=by simp[DQ]
 obtain⟨sa,sc,rfl,n6,m1,_⟩:=hA;obtain⟨i8,i9,rfl,n7,m2,_⟩:=g5;unfold maxLen at m1 m2;clear i1 e6 e3;generalize tD a5.toArray=jb at*;have hR:∀(v:eB) (w' :eX) (T:Nat→iC→Nat) (d:Nat),AwR w v w' →AwR w v (re w' T d):=fun v w' T d ⟨h1,h2⟩=>⟨h1,h2.re T d⟩
 refine On hR (o_ hP hR Tryz.func11 rfl (by kernel_rfl) ?_);have a2:ReC (K6 sU Tryz.f11 (AwR w)):=ReC.bodyE hR;simp only[Tryz.ntmps11,List.size_toArray,List.length_cons,List.length_nil,Nat.reduceAdd,Nat.reduceSub,Array.replicate_succ,Array.replicate_zero,List.push_toArray,List.append_toArray,List.nil_append,List.cons_append];refine z7 hP a2 fun T d=> ?_
 have HB:=z4 ((ze.refl w).re T d);generalize re w T d=W at*;go_wp2;refine z7 hP a2 fun T d=> ?_
 have HK:=z4 (HB.out.re T d);clear HB;generalize re W T d=W1 at*;go_wp2_with fail
 refine(F0 (hG.keptM HK.out) (j0f h6 HK.out.size)).mono ?_;rintro e W2 ⟨rfl,hk⟩;have HB:=z4 (HK.out.trans hk);clear HK hk;go_wp2;refine zn hP ?_;refine zP hP 1 a2.thenT rfl rfl rfl Tryz.func16 (by decide) rfl fun T d=> ?_
 have f5:Hid (zF sU 16 #[.slice sa l.length sc] (re W2 T d) (FD (re W2 T d))):=bA (hG.keptM (HB.out.re T d)) (j0f h6 (HB.out.re T d).size) (v:= .slice sa l.length sc) (l:=l) (oW g0.out (HB.out.re T d)) f7.out;have f3:Hid (Qv (re W2 T d) (fun b=>b<(re W2 T d).heap.size) (.slice i8 l2.length i9) l2):=uU (oW c8.out (HB.out.re T d));have j4:=z4 (HB.out.re T d);clear HB c8;generalize re W2 T d=W3 at*;simp only[aX,ME,MF,MG];go_wp2;refine⟨_,_,by simp[Act.eval],f5.out,?_⟩;rintro v' V' ⟨B,st,rfl,h0,_,hs⟩ T d;have HS:=z4 (hs.re T d);have b9:=z4 h0;have HI:=z4 hs.inv;have l9:st.packed.length≤21000000:=by
  obtain⟨O,_,_,_,hh,_⟩:=hs;omega
 clear hs f5 g0 f7 h0;generalize re V' T d=V0 at*;clear V';go_wp2;refine z7 hP a2 fun T d=> ?_
 have a0 :=z4 (HS.out.re T d);clear HS;generalize re V0 T d=U0 at*;go_wp2;have HS:=z4 a0.out;clear a0;generalize hV:U0=V1 at*;clear hV;refine z7 hP a2 fun T d=> ?_
 have a0 :=z4 (HS.out.re T d);clear HS;generalize re V1 T d=U1 at*;have f4:=z4 (bC a0.out (by omega) b9.out);go_wp2_with fail
 refine f4.out.mono ?_;rintro e V2 ⟨B2,rfl,h2,_,_⟩;have HS:=z4 h2;clear h2 f4 a0;go_wp2;refine z7 hP a2 fun T d=> ?_
 have a0 :=z4 (HS.out.re T d);clear HS;generalize re V2 T d=U2 at*;go_wp2;have HS:=z4 a0.out;clear a0;generalize hV:U2=V3 at*;clear hV;refine z7 hP a2 fun T d=> ?_
 have a0 :=z4 (HS.out.re T d);clear HS;generalize re V3 T d=U3 at*;go_wp2_with fail
 refine(a0.out.ks.branches b9.out).mono ?_;rintro e V4 ⟨ga,ca,rfl,k6,k7,i2,hk⟩;have HS:=z4 (a0.out.keptM hk);have g3:=z4 i2;clear a0 hk i2;go_wp2;refine z7 hP a2 fun T d=> ?_
 have a0 :=z4 (HS.out.re T d);have d4 :=z4 (g3.out.re T d);clear HS g3;generalize re V4 T d=U4 at*;go_wp2_with fail
 refine(a0.out.swap.ks.branches b9.out).mono ?_;rintro e V5 ⟨gb,cb,rfl,k8,k9,i3,hk⟩;have HO:Hid (oe W3 B B2 st ga gb V5):=⟨a0.out.keptM hk,d4.out.keptM hk,i3⟩
 clear a0 d4 hk i3;go_wp2;refine z7 hP a2 fun T d=> ?_
 have a3 :=z4 (HO.out.re T d);clear HO;generalize re V5 T d=U5 at*;go_wp2;have HO:=z4 a3.out;clear a3;generalize hV:U5=V6 at*;clear hV;refine zn hP ?_;refine z7 hP a2.thenT fun T d=> ?_
 have a3 :=z4 (HO.out.re T d);clear HO;generalize re V6 T d=U6 at*;go_wp2;refine ZK hP ?_;refine Vg hP (bZ W3 B B2 st ga gb ca cb d9 jb (.slice i8 l2.length i9)) (fun a _=>3-bX a) ⟨⟨rfl,rfl,rfl,rfl,rfl,rfl,rfl,rfl,rfl⟩,0,by omega,rfl,a3.out⟩ ?_;clear a3;rintro a wo ⟨⟨hd,i5,t1,t2,t3,j0,j1,j2,j3⟩,i,m6,f0,ho⟩;have i0:3-bX a=3-i:=by
  unfold bX;simp only[Array.getD_eq_getD_getElem?,f0];simp[intOf]
 rw[i0];obtain⟨f,a8,g7⟩:=gr hd i5;rw[a8 1 _ t1,a8 2 _ t2,a8 3 _ t3,a8 10 _ j0,a8 11 _ j1,a8 12 _ j2,a8 13 _ j3,a8 14 _ f0]at g7;clear i0 a8 hd i5 t1 t2 t3 j0 j1 j2 j3 f0;subst g7;have HO:=z4 ho;clear ho;by_cases e7:i<3
 ·obtain⟨nm,L,tt,hF⟩:=cF b9.out HI.out e7
  have HF:=z4 hF;have g6:=hF.pos;have m3:=hF.le;clear hF;have b1:(0:Int)≤(i:Int):=by omega
  have b2:(i:Int)<3:=by omega
  refine z7 hP (a2.thenT.inBlock.thenM fun _ _ T d h=>⟨h.1.re T d,h.2⟩) fun T d=> ?_
  have a3 :=z4 (HO.out.re T d);clear HO;generalize re wo T d=X0 at*;go_wp2;refine zn hP ?_;refine ZK hP ?_;refine z7 hP (a2.thenT.inBlock.thenM fun _ _ T d h=>⟨h.1.re T d,h.2⟩).thenT.inBlock fun T d=> ?_
  have HO:=z4 (a3.out.re T d);clear a3;generalize re X0 T d=X1 at*;have e1:=HO.out.ra.2 i _ HF.out.at_;go_wp2_with fail
  refine(HO.out.k2.ks.showK nm HF.out.sh).mono ?_;rintro e X2 ⟨rfl,hk⟩;have a3 :=z4 (HO.out.keptM hk);clear HO hk e1;go_wp2;refine z7 hP (a2.thenT.inBlock.thenM fun _ _ T d h=>⟨h.1.re T d,h.2⟩).thenT.inBlock fun T d=> ?_
  have HO:=z4 (a3.out.re T d);clear a3;generalize re X2 T d=X3 at*;have e1:=HO.out.rb.2 i _ HF.out.at_;go_wp2_with fail
  refine(HO.out.k2.swap.ks.showK nm HF.out.sh).mono ?_;rintro e X4 ⟨rfl,hk⟩;have a3 :=z4 (HO.out.keptM hk);clear HO hk e1;go_wp2;refine zn hP ?_;refine zP hP 5 (a2.thenT.inBlock.thenM fun _ _ T d h=>⟨h.1.re T d,h.2⟩).thenT.inBlock.thenT rfl rfl rfl MA (by decide) rfl fun T d=> ?_
  have HO:=z4 (a3.out.re T d);clear a3;generalize re X4 T d=X5 at*;have e1:=HO.out.ra.2 i _ HF.out.at_;simp only[aX,ME,MF,MG];go_wp2;refine⟨_,_,by simp[Act.eval],HO.out.k2.ks.historyG nm HF.out.hist g6,?_⟩;rintro v' V' ⟨gh,ch,rfl,l0,l3,hr,hk⟩ T d;have a3 :=z4 ((HO.out.keptM hk).re T d);have g1:=z4 (hr.re T d);clear HO hr hk e1;generalize re V' T d=X6 at*;clear V';go_wp2;refine zn hP ?_;refine zP hP 5 (a2.thenT.inBlock.thenM fun _ _ T d h=>⟨h.1.re T d,h.2⟩).thenT.inBlock.thenT rfl rfl rfl MA (by decide) rfl fun T d=> ?_
  have HO:=z4 (a3.out.re T d);have c9 :=z4 (g1.out.re T d);clear g1;clear a3;generalize re X6 T d=X7 at*;have e1:=HO.out.rb.2 i _ HF.out.at_;simp only[aX,ME,MF,MG];go_wp2;refine⟨_,_,by simp[Act.eval],HO.out.k2.swap.ks.historyG nm HF.out.hist g6,?_⟩;rintro v' V' ⟨gk,ck,rfl,l4,l5,hr,hk⟩ T d;have a3 :=z4 ((HO.out.keptM hk).re T d);have HP:Hid (gy W3 B B2 st ga gb L gh gk (re V' T d)):=⟨a3.out,(c9.out.keptM hk).re T d,hr.re T d⟩
  clear a3 c9;clear HO hr hk e1;generalize re V' T d=X8 at*;clear V';go_wp2;refine z7 hP (a2.thenT.inBlock.thenM fun _ _ T d h=>⟨h.1.re T d,h.2⟩).thenT.inBlock fun T d=> ?_
  have b8 :=z4 (HP.out.re T d);clear HP;generalize re X8 T d=X9 at*;have e1:=b8.out.s.ra.2 i _ HF.out.at_;have e2:=b8.out.s.rb.2 i _ HF.out.at_;go_wp2;go_region_held3 (fun w' =>w'.cell? ⟨ga,i,none⟩=some (.string ⟨nm.toArray⟩)∧w'.cell? ⟨gb,i,none⟩=some (.string ⟨nm.toArray⟩)) (go_keep) (fail)
  rename_i a4;clear a4 e1 e2;have HP:=z4 (b8.out.keptM (ze.of_below (j0g X9.heap.size X9).drew));clear b8;generalize X9.drew=X10 at*;go_wp2;refine z7 hP (a2.thenT.inBlock.thenM fun _ _ T d h=>⟨h.1.re T d,h.2⟩).thenT.inBlock fun T d=> ?_
  have b8 :=z4 (HP.out.re T d);clear HP;generalize re X10 T d=X11 at*;go_wp2;refine zg hP (a2.thenT.inBlock.thenM fun _ _ T d h=>⟨h.1.re T d,h.2⟩).thenT.inBlock fun T d=> ?_
  have HP:=z4 (b8.out.re T d);clear b8;generalize re X11 T d=X12 at*;go_wp2;go_loopw [23] (fun nv wr=>∃j:Nat,j≤L.length∧nv= .int .i64 (j:Int)∧gy W3 B B2 st ga gb L gh gk wr) (fun nv _=>61-(intOf nv).toNat)
  case atStart=>exact⟨0,wB _,rfl,HP.out⟩
  case round=>
   obtain⟨j,hj,rfl,hz⟩:=hrel;have HZ:=z4 hz;clear hz HP;by_cases g8:j<L.length
   ·have e1:=HZ.out.rh.2 j _ (Oh g8)
    have e2:=HZ.out.rk.2 j _ (Oh g8);have b3:(0:Int)≤(j:Int):=by omega
    have b4:(j:Int)<(L.length:Int):=by omega
    generalize L[j]=a1 at*;go_wp2;go_region_held3 (fun w' =>w'.cell? ⟨gh,j,none⟩=some (.int .i64 (a1:Int))∧w'.cell? ⟨gk,j,none⟩=some (.int .i64 (a1:Int))) (go_keep) (fail)
    all_goals
     rename_i a4;clear a4;go_wp2;go_roundw
     case rel=>exact⟨j+1,by omega,by simp,HZ.out.keptM (ze.of_below (j0g wr.heap.size wr).drew)⟩
     case measure=>simp[intOf];omega
   ·go_wp2
    refine zg hP (a2.thenT.inBlock.thenM fun _ _ T d h=>⟨h.1.re T d,h.2⟩) fun T d=> ?_
    have HO:=z4 (HZ.out.s.re T d);clear HZ;generalize re wr T d=Y0 at*;go_wp2;exact⟨⟨⟨rfl,rfl,rfl,rfl,rfl,rfl,rfl,rfl,rfl⟩,i+1,by omega,by simp,HO.out⟩,by simp[bX,intOf];omega⟩
 ·have hi:i=3:=by omega
  subst hi;obtain⟨c,m4,k5,b7⟩:=QA d9 j5.out ((st.packed.length:Int)+1) (by omega) (by omega);have f9:=z4 b7;obtain⟨sx,hX⟩:=d5 b9.out HI.out (by omega) (k:=c) (by omega);have HX:=z4 hX;have e9:=b9.out.liv.one;have l7:=HI.out.few;clear b7 hX k5;refine z7 hP (a2.thenT.inBlock.thenM fun _ _ T d h=>⟨h.1.re T d,h.2⟩) fun T d=> ?_
  have HS:=z4 (HO.out.re T d).k2;clear HO;generalize re wo T d=V20 at*;go_wp2;refine z7 hP a2 fun T d=> ?_
  have a0 :=z4 (HS.out.re T d);clear HS;generalize re V20 T d=U20 at*;have a6:=z4 (a0.out.ks.pack);go_wp2_with fail
  refine a6.out.mono ?_;rintro e W' ⟨rfl,hw⟩;replace hw:=hw.symm;subst hw;clear a6;go_wp2;have HS:=z4 a0.out;clear a0;generalize hV:U20=V21 at*;clear hV;refine z7 hP a2 fun T d=> ?_
  have a0 :=z4 (HS.out.re T d);clear HS;generalize re V21 T d=U21 at*;go_wp2_with fail
  refine(f9.out _).mono ?_;rintro e W' ⟨rfl,hw⟩;replace hw:=hw.symm;subst hw;clear f9;go_wp2;have HS:=z4 a0.out;clear a0;generalize hV:U21=V22 at*;clear hV;refine z7 hP a2 fun T d=> ?_
  have a0 :=z4 (HS.out.re T d);clear HS;generalize re V22 T d=U22 at*;have e8:=OK st.packed c (by omega);have b5:(0:Int)≤(c:Int):=by omega
  have b6:(c:Int)≤(st.packed.length:Int):=by omega
  go_wp2_with fail
  refine(HX.out.opn _ a0.out.ks.glob).mono ?_;intro e d7 hO;obtain⟨Bx,rfl,hx,hk⟩:=GW (c:=70) a0.out.ks.glob hO HX.out.inv (by have:=HX.out.le;omega);have HS:Hid (JN W3 B B2 st d7 U22.heap.size Bx sx d7):=⟨a0.out.keptM hk,hx⟩
  clear a0 hk hx hO e8 b5 b6;generalize U22.heap.size=h1 at HS;go_wp2;obtain⟨w1,i6⟩:∃w1,w1=d7:=⟨_,rfl⟩
  have a9:Hid (JN W3 B B2 st w1 h1 Bx sx d7):=by rw[i6];exact HS.out
  clear HS i6;have HS:=z4 a9.out;clear a9;refine z7 hP a2 fun T d=> ?_
  have a0 :=z4 (HS.out.re T d);clear HS;generalize re d7 T d=U23 at*;go_wp2;have HS:=z4 a0.out;clear a0;generalize hV:U23=V24 at*;clear hV;refine z7 hP a2 fun T d=> ?_
  have a0 :=z4 (HS.out.re T d);clear HS;generalize re V24 T d=U24 at*;have a6:=z4 (a0.out.x.pack);go_wp2_with fail
  refine a6.out.mono ?_;rintro e W' ⟨rfl,hw⟩;replace hw:=hw.symm;subst hw;clear a6;go_wp2;have HS:=z4 a0.out;clear a0;generalize hV:U24=V25 at*;clear hV;refine z7 hP a2 fun T d=> ?_
  have a0 :=z4 (HS.out.re T d);clear HS;generalize re V25 T d=U25 at*;have d6:=z4 (GX a0.out.k2.ks);go_wp2_with fail
  refine d6.out.mono ?_;intro e j7 hT;obtain⟨la,g,lc,rfl,m8,m9,a7,hk⟩:=JQ hT;obtain⟨rfl,i4⟩:=a7 e9;have HS:=z4 (a0.out.keptM hk);have g2:=z4 i4;clear a0 hk hT a7 i4 d6;go_wp2;refine z7 hP a2 fun T d=> ?_
  have a0 :=z4 (HS.out.re T d);have d3 :=z4 (g2.out.re T d);clear HS g2;generalize re j7 T d=U26 at*;have d6:=z4 (GX a0.out.x);go_wp2_with fail
  refine d6.out.mono ?_;intro e g4 hT;obtain⟨la,gx,n8,rfl,n3,n4,a7,hk⟩:=JQ hT;have f6:=z4 (fun e=>(a7 e).1);have HS:Hid (gv W3 B B2 st g sx gx g4):=⟨a0.out.k2.keptM hk,d3.out.keptM hk,fun e=>(a7 e).2⟩
  clear a0 d3 hk hT a7 d6;go_wp2;refine z7 hP a2 fun T d=> ?_
  have a0 :=z4 (HS.out.re T d);clear HS;generalize re g4 T d=U27 at*;have n5:=HX.out.le;have m5:=HX.out.few;have j8:¬(c:Int)<(sx.packed.length:Int):=by omega
  have j9:¬(st.cms.length:Int)<(sx.cms.length:Int):=by omega
  have k1:decide ((c:Int)<(sx.packed.length:Int))=false:=by simp;omega
  have k3:decide ((st.cms.length:Int)<(sx.cms.length:Int))=false:=by simp;omega
  have k4:(sx.packed.length:Int)≤(st.packed.length:Int):=by omega
  have hx:=oY HX.out.pre.symm;go_wp2;have HS:=z4 a0.out;clear a0;generalize hV:U27=V28 at*;clear hV;clear hx j8 j9 k1 k3 k4;refine z7 hP a2 fun T d=> ?_
  have a0 :=z4 (HS.out.re T d);clear HS;generalize re V28 T d=U28 at*;go_wp2;go_loopw [30] (fun nv wr=>∃j:Nat,j≤sx.cms.length∧nv= .int .i64 (j:Int)∧gv W3 B B2 st g sx gx wr) (fun nv _=>61-(intOf nv).toNat)
  case atStart=>exact⟨0,wB _,rfl,a0.out⟩
  case round=>
   obtain⟨j,hj,rfl,hz⟩:=hrel;have HZ:=z4 hz;clear hz a0;by_cases e7:j<sx.cms.length
   ·have g9:j<(trL sx).length:=by rw[Vn];exact e7
    have e1:=(HZ.out.rx (by omega)).2 j _ (j0d g9);have e2:=HZ.out.rs.2 j _ (HX.out.same j g9);rw[CH]at e1 e2;unfold FQ at e1 e2;have b1:(0:Int)≤(j:Int):=by omega
    have b2:(j:Int)<(st.cms.length:Int):=by omega
    have b3:(j:Int)<(sx.cms.length:Int):=by omega
    generalize R.Written (sx.cms[j]'e7).tree=tx at*;have l8:=f6.out (by omega);subst l8;go_wp2;go_region_held3 (fun w' =>w'.cell? ⟨gx,j,none⟩=some (.string ⟨tx.toArray⟩)∧w'.cell? ⟨g,j,none⟩=some (.string ⟨tx.toArray⟩)) (go_keep) (fail)
    all_goals
     rename_i a4;clear a4;go_wp2;go_roundw
     case rel=>exact⟨j+1,by omega,by simp,HZ.out.keptM (ze.of_below (j0g wr.heap.size wr).drew)⟩
     case measure=>simp[intOf];omega
   ·go_wp2
    have HS:=z4 HZ.out.k2;clear HZ f6;generalize hV:wr=V29 at*;clear hV;refine z7 hP a2 fun T d=> ?_
    have a0 :=z4 (HS.out.re T d);clear HS;generalize re V29 T d=U29 at*;have l6:=j6.out sx.packed;have m0:(tD sx.packed.toArray).size=sx.packed.length:=by simp[DQ]
    have f8:=z4 (HX.out.opn2 _ a0.out.ks.glob a5 (by omega));go_wp2_with fail
    refine f8.out.mono ?_;intro e d8 hO;obtain⟨By,rfl,hy,hk⟩:=GW (c:=70) a0.out.ks.glob hO HX.out.inv (by have:=HX.out.le;omega);have HS:Hid (JN W3 B B2 st d8 U29.heap.size By sx d8):=⟨a0.out.keptM hk,hy⟩
    clear a0 hk hy hO l6 m0 f8;generalize U29.heap.size=h2 at HS;go_wp2;obtain⟨w2,i7⟩:∃w2,w2=d8:=⟨_,rfl⟩
    have a9:Hid (JN W3 B B2 st w2 h2 By sx d8):=by rw[i7];exact HS.out
    clear HS i7;have HS:=z4 a9.out;clear a9;refine z7 hP a2 fun T d=> ?_
    have a0 :=z4 (HS.out.re T d);clear HS;generalize re d8 T d=U30 at*;have a6:=z4 (a0.out.x.pack);go_wp2_with fail
    refine a6.out.mono ?_;rintro e W' ⟨rfl,hw⟩;replace hw:=hw.symm;subst hw;clear a6;go_wp2;have HS:=z4 a0.out;clear a0;generalize hV:U30=V31 at*;clear hV;have a9:=z4 HS.out.k2;clear HS;have HS:=z4 a9.out;clear a9;refine zn hP ?_;refine zP hP 2 a2.thenT rfl rfl rfl N1 (by decide) rfl fun T d=> ?_
    have a0 :=z4 (HS.out.re T d);clear HS;generalize re V31 T d=U31 at*;simp only[aX,ME,MF,MG];go_wp2;refine⟨_,_,by simp[Act.eval],a0.out.acts2 (by omega) f3.out c7.out,?_⟩;rintro v' V' ⟨rfl,hs⟩ T d;have HS:=z4 (hs.re T d);clear a0 hs;generalize re V' T d=V32 at*;clear V';go_wp2;refine zn hP ?_;refine zP hP 2 a2.thenT rfl rfl rfl N1 (by decide) rfl fun T d=> ?_
    have a0 :=z4 (HS.out.re T d);clear HS;generalize re V32 T d=U32 at*;simp only[aX,ME,MF,MG];go_wp2;refine⟨_,_,by simp[Act.eval],a0.out.acts (by omega) f3.out c7.out,?_⟩;rintro v' V' ⟨rfl,hs,Nn,hn⟩ T d;have HS:=z4 (hs.re T d);have HN:=z4 (hn.re T d);clear a0 hs hn;generalize re V' T d=V33 at*;clear V';go_wp2;refine z7 hP a2 fun T d=> ?_
    have a0 :=z4 (HS.out.re T d);have c6 :=z4 (HN.out.re T d);clear HS HN;generalize re V33 T d=U33 at*;have a6:=z4 (a0.out.pack);go_wp2_with fail
    refine a6.out.mono ?_;rintro e W' ⟨rfl,hw⟩;replace hw:=hw.symm;subst hw;clear a6;go_wp2;have HS:=z4 a0.out;have HN:=z4 c6.out;clear a0 c6;generalize hV:U33=V34 at*;clear hV;refine z7 hP a2 fun T d=> ?_
    have a0 :=z4 (HS.out.re T d);have c6 :=z4 (HN.out.re T d);clear HS HN;generalize re V34 T d=U34 at*;have a6:=z4 (c6.out.pack);go_wp2_with fail
    refine a6.out.mono ?_;rintro e W' ⟨rfl,hw⟩;replace hw:=hw.symm;subst hw;clear a6;go_wp2;have HS:=z4 a0.out;have HN:=z4 c6.out;clear a0 c6;generalize hV:U34=V35 at*;clear hV;refine z7 hP a2 fun T d=> ?_
    have a0 :=z4 (HS.out.re T d);clear HS;generalize re V35 T d=U35 at*;go_wp2;refine Xj hP ?_;refine⟨rfl,_,fun W=>⟨by simp[results,NZ,go_sem],by simp[results,NZ,go_sem]⟩,⟨rfl,j4.out.trans a0.out.kept⟩⟩
end
