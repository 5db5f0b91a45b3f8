import Derived.Test.YtolgebdmffcemaaGreatDoorQ33
set_option linter.all false
set_option maxHeartbeats 20000000
set_option maxRecDepth 1000000
namespace Go.Proofs.YtolgebdmffcemaaGreatDoor
open Go Go.Conc Go.RowKit
section
theorem KS.tree {w0 w:World}{H:Nat→Prop}{B c:Nat}{st:R.St}(h:KS w0 H B st c w)(n:Int){r:List UInt8×Int}(hr:R.treeAt st n=r):
  Calls Tryz.prog 22 #[.pointer (some ⟨B,0,none⟩),.int .i64 n] w fun e w' =>e= .returned (.tuple #[.string ⟨r.1.toArray⟩,.int .i64 r.2])∧KS w0 H B st c w' ∧zf w w' :=by
 subst hr;obtain⟨O,h1,h2,h3,h4,h5,h6⟩:=id h;exact(cU B st n w O O h1 h3 h5).mono fun e w' ⟨e1,e2⟩=>⟨e1,h.keptM (zf.of_below e2),zf.of_below e2⟩
def Cg (l:List UInt8):Value:= .string ⟨l.toArray⟩
def trL (st:R.St):List Value:=st.cms.map fun c=>Cg (R.Written c.tree)
theorem JD (st:R.St):(trL st).length=st.cms.length:=by simp[trL]
theorem Gx {st:R.St}{k:Nat}(h:k<st.cms.length):∃s,R.treeAt st ((k:Int)+1)=(s,0)∧(trL st).take (k+1)=(trL st).take k++ [Cg s]:=by
 refine⟨R.Written (R.treeOf st (k+1)),?_,?_⟩
 ·have:=R.treeAt_in (st:=st) (k:=k+1) (by omega) (by omega)
  rw[←this];rfl
 ·rw[List.take_succ_eq_append_getElem (by rw[JD];exact h)]
  congr 2
  simp[trL,R.treeOf,j0d h]
theorem oN (st:R.St):R.treeAt st ((st.cms.length:Int)+1)=([],10):=by
 unfold R.treeAt;rw[if_pos (by omega)]
def C7 (w0:World)(H:Nat→Prop)(B c:Nat)(st:R.St)(w:World)(e:Ending)(w' :World):Prop:=∃la lc,e= .returned (.slice la st.cms.length lc)∧w'.ownsRow w.heap.size 9 1 (.slice la st.cms.length lc) st.cms.length (trL st)∧KS w0 H B st c w' ∧zf w w'
theorem Fz {w0 w:World}{H:Nat→Prop}{B c:Nat}{st:R.St}(h:KS w0 H B st c w):Calls Tryz.prog 34 #[.pointer (some ⟨B,0,none⟩)] w (C7 w0 H B c st w):=by
 have b7:=h.inv.few;have b5:=z6 h;clear h;go_enter Tryz.func34,Tryz.ntmps34;go_wp2;go_loopw [3,4] (fun lv nv wr=>∃(k:Nat) (la:Option Addr) (lc:Nat),k≤st.cms.length∧nv= .int .i64 ((k:Int)+1)∧lv= .slice la k lc∧wr.ownsRow w.heap.size 9 1 (.slice la k lc) k ((trL st).take k)∧zf w wr) (fun _ nv _=>70-(intOf nv).toNat)
 case atStart=>exact⟨0,none,0,Nat.zero_le _,rfl,rfl,World.ownsRow_nil _ _ _ _,zf.refl w⟩
 case round=>
  obtain⟨k,la,lc,hk,rfl,rfl,ho,a4⟩:=hrel;have HS:=z6 (b5.out.keptM a4);have HO:=z6 ho;have HK:=z6 a4;obtain⟨_,_,b9,c7,b6,_⟩:=zl ho;injection b9 with e1 e2 e3
  subst e1 e3;unfold maxLen at b6;clear ho a4;by_cases b8:k<st.cms.length
  ·obtain⟨s,a8,a9⟩:=Gx b8
   have HT:=z6 a8;have HL:=z6 a9;clear a8 a9;go_wp2_with fail
   refine(HS.out.tree _ HT.out).mono ?_;rintro e X1 ⟨rfl,hs,a0⟩;have a3:=z6 hs;have a1:=z6 (yH HO.out a0);have a2:=z6 (HK.out.trans a0);have c8:=a2.out.size;clear hs a0 HS HO HK;go_wp2_with (at_builtin;go_loud (refine Kj _ (by rfl) _ _ 45 (by rfl) w.heap.size 9 (.string ⟨#[]⟩) 1 16 Tryz.underlying45 G3 (by rfl) (by decide) (a1.out.alloc _) ⟨X1.heap.size,0,none⟩ 1 1 [.string ⟨s.toArray⟩] (by rfl) (by exact yy X1 #[.string ⟨s.toArray⟩] 9) (by rfl) (by rfl) (by intro u hu;simp at hu;subst hu;rfl) (by unfold maxLen;omega) (by omega) (by simp;omega) ?_))
   intro v' X2 ho hc;have a5:Hid (∀b,(Value.slice la k lc).ownBlock=some b→w.heap.size≤b):=fun b hb=>(a1.out.lt b hb).1
   have a7:zf w X2:=by
    have a6:=a2.out.alloc (Obj.cells #[.string ⟨s.toArray⟩] 9);rcases hc with⟨h1,h2⟩|⟨h1,h2⟩
    ·exact a6.kept (O:=fun b=>(Value.slice la k lc).ownBlock=some b) ⟨h2.os,h2.tape,h2.output,h2.size,fun b hb hn=>h2.block b hb (fun e=>hn e.symm)⟩ (fun b hb=>a5.out b hb)
    ·exact a6.kept (O:=fun _=>False) ⟨h2.os,h2.tape,h2.output,h2.size,fun b hb _=>h2.block b hb (by simp)⟩ (fun b hb=>hb.elim)
   obtain⟨b1,b2,c6,_⟩:=zl ho;subst c6;have b4:Hid (X2.ownsRow w.heap.size 9 1 (.slice b1 (k+1) b2) (k+1) ((trL st).take (k+1))):=by
    show World.ownsRow _ _ _ _ _ _ _;rw[HL.out];exact ho
   have b3:=z6 a7;clear ho hc a7 a1 a2 a3 a5;go_wp2;go_roundw
   case rel=>exact⟨k+1,b1,b2,by omega,by simp,rfl,b4.out,b3.out⟩
   case measure=>simp[intOf];omega
  ·have:k=st.cms.length:=by omega
   subst this;have HT:=z6 (oN st);go_wp2_with fail
   refine(HS.out.tree _ HT.out).mono ?_;rintro e X1 ⟨rfl,hs,a0⟩;have a3:=z6 hs;have a1:=z6 (yH HO.out a0);have a2:=z6 (HK.out.trans a0);clear hs a0 HS HO HK;rw[←JD st,List.take_length,JD st]at a1;go_wp2;go_ret;exact⟨la,lc,rfl,a1.out,a3.out,a2.out⟩
end
section
structure CQ (st:R.St)(name:List UInt8)(L:List Nat)(tt:List UInt8)(h0:Nat):Prop where
 hist:Xe st name=(L,0)
 pos:0<L.length
 le:L.length≤60
 last:∀h:L.length-1<L.length,L[L.length-1]=1
 fall:∀i,1≤i→∀h:i<L.length,L[i]<L[i-1]
 first:∀h:0<L.length,L[0]=h0
 one:1≤h0
 t0:R.treeAt st (h0:Int)=(tt,0)
 b0:R.baseAt st (h0:Int) (h0:Int)=(tt,0)
 n0:h0≤st.cms.length
 sh:R.shown st name=(tt,0)
 each:∀k,∀h:k<L.length,∃s,R.baseAt st (L[k]:Int) (h0:Int)=(s,0)∧R.treeAt st (L[k]:Int)=(s,0)
theorem gQ {st:R.St}(hl:R.Lived st)(hi:Inv st){name:List UInt8}(hn:name=[97]∨name=[98]∨name=[99]):∃L tt h0,CQ st name L tt h0:=by
 obtain⟨f1,f2⟩:=hl.liv.fnd hn;have h1:=hl.liv.headOf f1;have h2:=ZL hi name;have H:=hl.liv.hist hi.wf h1 h2;have a2:=xl st.cms (R.headOf st name);have a0:0<(zq st.cms (R.headOf st name)).length:=(List.getElem?_eq_some_iff.1 H.first).1;have e0:(zq st.cms (R.headOf st name))[0]=R.headOf st name:=(List.getElem?_eq_some_iff.1 H.first).2;have a3:=R.mark_self_of hi.wf h1;have a1:=hl.com name hn;have a4:=hi.few;refine⟨zq st.cms (R.headOf st name),R.Written (R.treeOf st (R.headOf st name)),R.headOf st name,⟨?_,a0,by omega,fun h=> ?_,fun i a5 h=>R.fall_get H.fall h (by omega),fun h=>e0,h1,R.treeAt_in h1 h2,R.baseAt_in hi h1 h2 a3,h2,?_,fun k hk=> ?_⟩⟩
 ·unfold Xe
  rw[if_neg f2];exact congrArg (fun x=>(x,(0:Int))) (Jb hi.wf _)
 ·exact(List.getElem?_eq_some_iff.1 H.last).2
 ·unfold R.shown
  rw[if_neg f2,a1]
 ·obtain⟨m1,m2,m3⟩:=H.mem _ (j0c hk)
  refine⟨R.Written (R.treeOf st ((zq st.cms (R.headOf st name))[k])),?_,R.treeAt_in m2 (by omega)⟩;exact R.baseAt_in hi m2 h2 m1
theorem KS.unre {w0 w:World}{H:Nat→Prop}{B c:Nat}{st:R.St}{T:Nat→Question→Nat}{d:Nat}(h:KS (Go.Proofs.YtolgebdmffcemaaGreatDoor.re w0 T d) H B st c w):KS w0 H B st c w:=by
 obtain⟨O,h1,h2,h3,h4,h5,h6,h7⟩:=h;exact⟨O,h1,h2,h3,h4,h5,⟨h6.os,h6.output,h6.size,h6.block⟩,h7⟩
theorem KS.history {w0 w:World}{H:Nat→Prop}{B c:Nat}{st:R.St}(h:KS w0 H B st c w)(name:List UInt8){L:List Nat}(hL:Xe st name=(L,0)):
  zF Tryz.prog 38 #[.pointer (some ⟨B,0,none⟩),.string ⟨name.toArray⟩] w fun v w' =>∃hv,v= .tuple #[hv,.int .i64 0]∧w'.ownsRow 0 3 1 hv L.length (vg L)∧zf w w' :=by
 obtain⟨O,h1,h2,h3,h4,h5,h6⟩:=id h;refine(gu B st name w O O h1 h3).mono fun v w' ⟨hv,e1,e2,e3,e4⟩=> ?_
 rw[hL]at e1 e2;exact⟨hv,e1,e2,e4⟩
theorem KS.showK {w0 w:World}{H:Nat→Prop}{B c:Nat}{st:R.St}(h:KS w0 H B st c w)(name:List UInt8){r:List UInt8×Int}(hr:R.shown st name=r):
  Calls Tryz.prog 20 #[.pointer (some ⟨B,0,none⟩),.string ⟨name.toArray⟩] w fun e w' =>e= .returned (.tuple #[.string ⟨r.1.toArray⟩,.int .i64 r.2])∧zf w w' :=by
 subst hr;obtain⟨O,h1,h2,h3,h4,h5,h6⟩:=id h;exact(fC B st name w O O h1 h3 h5).mono fun e w' ⟨e1,e2⟩=>⟨e1,zf.of_below e2⟩
theorem KS.baseM {w0 w:World}{H:Nat→Prop}{B c:Nat}{st:R.St}(h:KS w0 H B st c w)(a b:Int){r:List UInt8×Int}(hr:R.baseAt st a b=r):
  zF Tryz.prog 35 #[.pointer (some ⟨B,0,none⟩),.int .i64 a,.int .i64 b] w fun v w' =>v= .tuple #[.string ⟨r.1.toArray⟩,.int .i64 r.2]∧zf w w' :=by
 subst hr;obtain⟨O,h1,h2,h3,h4,h5,h6⟩:=id h;exact(GB h3 h1 (fun b hb=>(h2 b hb).2) h5 a b).mono fun v w' ⟨e1,e2⟩=>⟨e1,e2⟩
structure Vt (w:World)(B:Nat)(st:R.St)(L:List Nat)(g:Nat)(X:World):Prop where
 ks:KS w (fun b=>b<w.heap.size) B st 70 X
 lt:g<X.heap.size
 cell:∀j (h:j<L.length),X.cell? ⟨g,j,none⟩=some (.int .i64 (L[j]:Int))
theorem Vt.keptM {w:World}{B:Nat}{st:R.St}{L:List Nat}{g:Nat}{X Y:World}(h:Vt w B st L g X)(k:zf X Y):Vt w B st L g Y:=
 ⟨h.ks.keptM k,j0b h.lt k.size,fun j hj=>by rw[World.cell?_of_block (a:=⟨g,j,none⟩) (k.block g h.lt)];exact h.cell j hj⟩
theorem Vt.re {w:World}{B:Nat}{st:R.St}{L:List Nat}{g:Nat}{X:World}(h:Vt w B st L g X)(T:Nat→Question→Nat)(d:Nat):Vt w B st L g (Go.Proofs.YtolgebdmffcemaaGreatDoor.re X T d):=h.keptM ((zf.refl X).re T d)
theorem fs {w:World}(hG:ZM w)(h6:6≤w.heap.size){v:Value}{l:List R.Raw}(hA:Rd w (fun _=>False) v l.length (yn l))(e7:∀a∈l,okR a)(x a b:Int)(hx:okN x)(ha:okN a)(hb:okN b):
  ∃N last o w' t',runNT Tryz.prog (N+1) (solo (G (Frame.enter Tryz.prog 10 #[v,.int .i64 x,.int .i64 a,.int .i64 b] .normal) []) w) #[]=(.ended o w',t')∧runN Tryz.prog N (solo (G (Frame.enter Tryz.prog 10 #[v,.int .i64 x,.int .i64 a,.int .i64 b] .normal) []) w)= .next last∧
   step Tryz.prog last= .ended o w' ∧Conc.Good Tryz.prog (AwR w) last o w' t' :=by
 have hP:=x8;have d4:=z6 hA;have c9:=z6 e7;have c7:=z6 (fun W=>Ve x W hx.1 hx.2);have d3:=z6 ha;have f3:=z6 hb;obtain⟨sa,sc,rfl,i9,g8,_⟩:=hA;unfold maxLen at g8;clear e7 hx ha hb;have hR:∀(v:Value) (w' :World) (T:Nat→Question→Nat) (d:Nat),AwR w v w' →AwR w v (re w' T d):=fun v w' T d ⟨h1,h2⟩=>⟨h1,h2.re T d⟩
 refine UD hR (Ui hP hR Tryz.func10 rfl (by kernel_rfl) ?_);have a3:ReC (ki Tryz.prog Tryz.f10 (AwR w)):=ReC.bodyE hR;simp only[Tryz.ntmps10,List.size_toArray,List.length_cons,List.length_nil,Nat.reduceAdd,Nat.reduceSub,Array.replicate_succ,Array.replicate_zero,List.push_toArray,List.append_toArray,List.nil_append,List.cons_append];refine z7 hP a3 fun T d=> ?_
 go_wp2;refine Gu ?_ T d;refine zm hP ?_;refine zM hP 1 a3.thenT rfl rfl rfl Tryz.func16 (by decide) rfl fun T d=> ?_
 have c8:Hid (zF Tryz.prog 16 #[.slice sa l.length sc] (re w T d) (Gr w)):=by
  exact(FA (w:=re w T d) (ZM.re T d hG) h6 (v:= .slice sa l.length sc) (l:=l) d4.out c9.out).mono fun v w' ⟨B,st,e1,e2,e3⟩=>⟨B,st,e1,e2,e3.unre⟩
 generalize re w T d=W1 at*;simp only[List.take_succ_cons,List.take_zero,List.drop_succ_cons,List.drop_zero];go_wp2;refine⟨_,_,by simp[Act.eval],c8.out,?_⟩;rintro v' V' ⟨B,st,rfl,e6,hs⟩ T d;have HS:=z6 (hs.re T d);obtain⟨L,tt,h0,hF⟩:=gQ e6 hs.inv (R.brN_abc x);have HF:=z6 hF;have a8:=hF.pos;have i4:=hF.le;have i5:=hF.n0;have g6:=hF.one;have g1:=hs.inv.few;have h9:=ga x;clear hs c8 d4 c9 e6 hF;generalize re V' T d=V0 at*;clear V';go_wp2;refine z7 hP a3 fun T d=> ?_
 have a7 :=z6 (HS.out.re T d);clear HS;generalize re V0 T d=U0 at*;go_wp2;have HS:=z6 a7.out;clear a7;generalize hV:U0=V1 at*;clear hV;refine z7 hP a3 fun T d=> ?_
 have a7 :=z6 (HS.out.re T d);clear HS;generalize re V1 T d=U1 at*;go_wp2_with fail
 refine(c7.out _).mono ?_;rintro e V2 ⟨rfl,hw⟩;have HS:Hid (KS w (fun b=>b<w.heap.size) B st 70 V2):=by subst hw;exact a7.out.alloc _
 clear a7 hw c7;go_wp2;generalize R.brN x=name at*;refine zm hP ?_;refine zM hP 2 a3.thenT rfl rfl rfl Tryz.func38 (by decide) rfl fun T d=> ?_
 have a7 :=z6 (HS.out.re T d);clear HS;generalize re V2 T d=U2 at*;simp only[List.take_succ_cons,List.take_zero,List.drop_succ_cons,List.drop_zero];go_wp2;refine⟨_,_,by simp[Act.eval],a7.out.history name HF.out.hist,?_⟩;rintro v' V' ⟨hv,rfl,ho,hk⟩ T d;obtain⟨d7,i0,g9,i1,g0,hz,b7⟩:=zl ho;subst g9;unfold maxLen at g0;obtain⟨g,rfl,b9⟩:∃g,d7 =some ⟨g,0,none⟩∧Vt w B st L g (re V' T d):=by
  cases d7 with
  |none=>have:=(hz rfl).1;omega
  |some ad=>
   obtain⟨g,rfl,_,g2,_,g3⟩:=b7 ad rfl;refine⟨g,rfl,Vt.re ⟨a7.out.keptM hk,g2,fun j hj=>g3 j _ ?_⟩ T d⟩;simp[vg,j0d hj]
 have HZ:=z6 b9;clear a7 ho hk hz b7 b9;generalize re V' T d=V3 at*;clear V';go_wp2;refine z7 hP a3 fun T d=> ?_
 have a0 :=z6 (HZ.out.re T d);clear HZ;generalize re V3 T d=U3 at*;have j1:((L.length:Int)==0)=false:=by rw[beq_eq_false_iff_ne];omega
 have e0:=a0.out.cell (L.length-1) (by omega);rw[HF.out.last (by omega)]at e0;go_wp2;clear e0;have HZ:=z6 a0.out;clear a0;generalize hV:U3=V4 at*;clear hV;refine z7 hP a3 fun T d=> ?_
 have a0 :=z6 (HZ.out.re T d);clear HZ;generalize re V4 T d=U4 at*;go_wp2;go_loopw [13] (fun i wr=>∃j:Nat,1≤j∧j≤L.length∧i= .int .i64 (j:Int)∧Vt w B st L g wr) (fun i _=>60-(intOf i).toNat)
 case atStart=>exact⟨1,j0a _,by omega,rfl,a0.out⟩
 case round=>
  obtain⟨j,g4,hj,rfl,hz⟩:=hrel;have HZ:=z6 hz;clear hz a0;by_cases d9:j<L.length
  ·obtain⟨q,hq⟩:∃q,q=j-1:=⟨_,rfl⟩
   have g7:q<L.length:=by omega
   have e1:=HZ.out.cell j d9;have e2:=HZ.out.cell q g7;have i2:L[j]<L[q]:=by
    subst hq;exact HF.out.fall j g4 d9
   have j0:IntKind.i64.wrap ((j:Int)-1)=(q:Int):=by
    rw[show(j:Int)-1=(q:Int)by omega];rw[IntKind.wrap_i64];omega
   have b1:(0:Int)≤(j:Int):=by omega
   have b2:(j:Int)<(L.length:Int):=by omega
   have b3:(0:Int)≤(q:Int):=by omega
   have b4:(q:Int)<(L.length:Int):=by omega
   clear hq;generalize L[j]=a1 at*;generalize L[q]=a2 at*;have b5:((a1:Int)≥(a2:Int))=False:=by simp;omega
   have b6:decide ((a2:Int)≤(a1:Int))=false:=by simp;omega
   go_wp2;go_region_held3 (fun w' =>w'.cell? ⟨g,j,none⟩=some (.int .i64 (a1:Int))∧w'.cell? ⟨g,q,none⟩=some (.int .i64 (a2:Int))) (go_keep) (fail)
   all_goals
    rename_i b8;clear b8;go_wp2;go_roundw
    case rel=>exact⟨j+1,by omega,by omega,by simp,HZ.out.keptM (zf.of_below (j0g wr.heap.size wr).drew)⟩
    case measure=>simp[intOf];omega
  ·go_wp2
   refine z7 hP a3 fun T d=> ?_
   have a0 :=z6 (HZ.out.re T d);clear HZ;generalize re wr T d=U30 at*;have e0:=a0.out.cell 0 a8;rw[HF.out.first a8]at e0;go_wp2_with fail
   refine(a0.out.ks.tree (h0:Int) HF.out.t0).mono ?_;rintro e f7 ⟨rfl,_,hk⟩;have HZ:=z6 (a0.out.keptM hk);clear a0 hk e0;go_wp2;refine z7 hP a3 fun T d=> ?_
   have a0 :=z6 (HZ.out.re T d);clear HZ;generalize re f7 T d=U31 at*;go_wp2_with fail
   refine(a0.out.ks.showK name HF.out.sh).mono ?_;rintro e h4 ⟨rfl,hk⟩;have HZ:=z6 (a0.out.keptM hk);clear a0 hk;go_wp2;have a6:∀(X:World) T d,Vt w B st L g X→Vt w B st L g (re X T d):=fun X T d h=>h.re T d
   have a5:Hid (∀X:World,Vt w B st L g X→X.cell? ⟨g,0,none⟩=some (.int .i64 (h0:Int))):=fun X hX=>by
    have:=hX.cell 0 a8;rw[HF.out.first a8]at this;exact this
   have c6:Hid (∀X:World,Vt w B st L g X→zF Tryz.prog 35 #[.pointer (some ⟨B,0,none⟩),.int .i64 (h0:Int),.int .i64 (h0:Int)] X fun v w' =>v= .tuple #[.string ⟨tt.toArray⟩,.int .i64 0]∧zf X w'):=fun X hX=>hX.ks.baseM _ _ HF.out.b0
   have h5:(0:Int)<(L.length:Int):=by omega
   refine zm hP ?_;refine Qa hP (by kernel_rfl) a3.thenT (Vt w B st L g) a6 ?_;simp only[List.size_toArray,List.length_cons,List.length_nil,Nat.reduceAdd,Nat.zero_add];co_applyP ze (i:=0) a3.thenT a6 rfl (by kernel_rfl) (by kernel_rfl) (by kernel_rfl) (by rfl)
   case hv=>
    intro W' hS K hK;have s0:=a5.out W' hS;clear hS;go_simp
    exact hK
   case hS=>exact HZ.out
   try walk_nrm
   co_applyP ze (i:=1) a3.thenT a6 rfl (by kernel_rfl) (by kernel_rfl) (by kernel_rfl) (by rfl)
   case hv=>
    intro W' hS K hK;have s0:=a5.out W' hS;clear hS;go_simp
    exact hK
   case hS=>exact HZ.out
   try walk_nrm
   co_applyP ze (i:=2) a3.thenT a6 rfl (by kernel_rfl) (by kernel_rfl) (by kernel_rfl) (by rfl)
   case hv=>
    intro W' hS K hK;have s0:=a5.out W' hS;clear hS;go_simp
    exact hK
   case hS=>exact HZ.out
   try walk_nrm
   co_applyP ze (i:=3) a3.thenT a6 rfl (by kernel_rfl) (by kernel_rfl) (by kernel_rfl) (by rfl)
   case hv=>
    intro W' hS K hK;have s0:=a5.out W' hS;clear hS;go_simp
    exact hK
   case hS=>exact HZ.out
   try walk_nrm
   co_applyP ze (i:=4) a3.thenT a6 rfl (by kernel_rfl) (by kernel_rfl) (by kernel_rfl) (by rfl)
   case hv=>
    intro W' hS K hK;have s0:=a5.out W' hS;clear hS;go_simp
    exact hK
   case hS=>exact HZ.out
   try walk_nrm
   co_applyP ze (i:=5) a3.thenT a6 rfl (by kernel_rfl) (by kernel_rfl) (by kernel_rfl) (by rfl)
   case hv=>
    intro W' hS K hK;have s0:=a5.out W' hS;clear hS;go_simp
    exact hK
   case hS=>exact HZ.out
   try walk_nrm
   co_applyP ze (i:=6) a3.thenT a6 rfl (by kernel_rfl) (by kernel_rfl) (by kernel_rfl) (by rfl)
   case hv=>
    intro W' hS K hK;have s0:=a5.out W' hS;clear hS;go_simp
    exact hK
   case hS=>exact HZ.out
   try walk_nrm
   refine yz (i:=7) (by kernel_rfl) rfl (by rfl) rfl (by simp[Act.eval]) Tryz.func35 (by decide) rfl (c6.out _ HZ.out) ?_;rintro v7 W7 ⟨rfl,hk⟩;have a9:=z6 (HZ.out.keptM hk);clear HZ hk c6;refine⟨a9.out,?_⟩;try walk_nrm
   co_applyP ze (i:=8) a3.thenT a6 rfl (by kernel_rfl) (by kernel_rfl) (by kernel_rfl) (by rfl)
   case hv=>
    intro W' hS K hK;have s0:=a5.out W' hS;clear hS;go_simp
    exact hK
   case hS=>exact a9.out
   try walk_nrm
   co_applyP ze (i:=9) a3.thenT a6 rfl (by kernel_rfl) (by kernel_rfl) (by kernel_rfl) (by rfl)
   case hv=>
    intro W' hS K hK;have s0:=a5.out W' hS;clear hS;go_simp
    exact hK
   case hS=>exact a9.out
   try walk_nrm
   co_applyP ze (i:=10) a3.thenT a6 rfl (by kernel_rfl) (by kernel_rfl) (by kernel_rfl) (by rfl)
   case hv=>
    intro W' hS K hK;have s0:=a5.out W' hS;clear hS;go_simp
    exact hK
   case hS=>exact a9.out
   try walk_nrm
   co_applyP ze (i:=11) a3.thenT a6 rfl (by kernel_rfl) (by kernel_rfl) (by kernel_rfl) (by rfl)
   case hv=>
    intro W' hS K hK;have s0:=a5.out W' hS;clear hS;go_simp
    exact hK
   case hS=>exact a9.out
   try walk_nrm
   co_applyP ze (i:=12) a3.thenT a6 rfl (by kernel_rfl) (by kernel_rfl) (by kernel_rfl) (by rfl)
   case hv=>
    intro W' hS K hK;have s0:=a5.out W' hS;clear hS;go_simp
    exact hK
   case hS=>exact a9.out
   try walk_nrm
   refine Y4 (by kernel_rfl) ?_ _;simp only[Exit.then];have HZ:=z6 a9.out;clear a9;refine z7 hP a3 fun T d=> ?_
   have a0 :=z6 (HZ.out.re T d);clear HZ;generalize re W7 T d=U32 at*;have d6:=Fz a0.out.ks;have d5:=z6 d6;clear d6;go_wp2_with fail
   refine d5.out.mono ?_;rintro e f8 ⟨la,lc,rfl,ho,_,hk⟩;have HZ:=z6 (a0.out.keptM hk);obtain⟨_,_,h3,i3,g5,_⟩:=zl ho;injection h3 with e1 e2 e3
   subst e1 e3;unfold maxLen at g5;clear a0 hk d5 ho;go_wp2;refine z7 hP a3 fun T d=> ?_
   have a0 :=z6 (HZ.out.re T d);clear HZ;generalize re f8 T d=U33 at*;have e0:=a5.out _ a0.out;have h7:decide ((st.cms.length:Int)<(h0:Int))=false:=by simp;omega
   have h8:¬(st.cms.length:Int)<(h0:Int):=by omega
   go_wp2;clear e0;have HZ:=z6 a0.out;clear a0;generalize hV:U33=V34 at*;clear hV;refine z7 hP a3 fun T d=> ?_
   have a0 :=z6 (HZ.out.re T d);clear HZ;generalize re V34 T d=U34 at*;obtain⟨pa,i6,a4⟩:=KD a d3.out (L.length:Int) (by omega) (by omega);have P1:=z6 a4;have e8:pa<L.length:=by omega
   obtain⟨s1,d8,e9⟩:=HF.out.each pa e8;have f0:=z6 d8;have f6:=z6 e9;have e1:=a0.out.cell pa e8;clear a4 d8 e9;generalize L[pa]=kk at*;go_wp2_with fail
   refine(P1.out _).mono ?_;rintro e W' ⟨rfl,hw⟩;replace hw:=hw.symm;subst hw;go_wp2;clear e1 P1;have HZ:=z6 a0.out;clear a0;generalize hV:U34=V35 at*;clear hV;refine zm hP ?_;refine zM hP 5 a3.thenT rfl rfl rfl Tryz.func35 (by decide) rfl fun T d=> ?_
   have a0 :=z6 (HZ.out.re T d);clear HZ;generalize re V35 T d=U35 at*;have e0:=a5.out _ a0.out;simp only[List.take_succ_cons,List.take_zero,List.drop_succ_cons,List.drop_zero];go_wp2;refine⟨_,_,by simp[Act.eval],a0.out.ks.baseM _ _ f0.out,?_⟩;rintro v' V' ⟨rfl,hk⟩ T d;have HZ:=z6 ((a0.out.keptM hk).re T d);clear a0 hk e0;generalize re V' T d=V36 at*;clear V';go_wp2;refine z7 hP a3 fun T d=> ?_
   have a0 :=z6 (HZ.out.re T d);clear HZ;generalize re V36 T d=U36 at*;go_wp2_with fail
   refine(a0.out.ks.tree _ f6.out).mono ?_;rintro e f9 ⟨rfl,_,hk⟩;have HZ:=z6 (a0.out.keptM hk);clear a0 hk;go_wp2;obtain⟨qa,i7,a4⟩:=KD a d3.out (st.cms.length:Int) (by omega) (by omega);have PA:=z6 a4;clear a4;obtain⟨qb,i8,a4⟩:=KD b f3.out (st.cms.length:Int) (by omega) (by omega);have PB:=z6 a4;clear a4;rcases hr:R.baseAt st (1+(qa:Int)) (1+(qb:Int))with⟨rs,rc⟩
   have f4:=z6 hr;have f5:Hid (R.baseAt st (1+(qb:Int)) (1+(qa:Int))=(rs,rc)):=(R.baseAt_comm HZ.out.ks.inv _ _).trans hr;clear hr;refine zm hP ?_;refine zM hP 9 a3.thenT rfl rfl rfl Tryz.func35 (by decide) rfl fun T d=> ?_
   have a0 :=z6 (HZ.out.re T d);clear HZ;generalize re f9 T d=U37 at*;simp only[List.take_succ_cons,List.take_zero,List.drop_succ_cons,List.drop_zero];go_wp2_with fail
   refine(PA.out _).mono ?_;rintro e W' ⟨rfl,hw⟩;replace hw:=hw.symm;subst hw;go_wp2_with fail
   refine(PB.out _).mono ?_;rintro e W' ⟨rfl,hw⟩;replace hw:=hw.symm;subst hw;go_wp2;refine⟨_,_,by simp[Act.eval],a0.out.ks.baseM _ _ f4.out,?_⟩;rintro v' V' ⟨rfl,hk⟩ T d;have HZ:=z6 ((a0.out.keptM hk).re T d);clear a0 hk;generalize re V' T d=V38 at*;clear V';go_wp2;refine zm hP ?_;refine zM hP 9 a3.thenT rfl rfl rfl Tryz.func35 (by decide) rfl fun T d=> ?_
   have a0 :=z6 (HZ.out.re T d);clear HZ;generalize re V38 T d=U38 at*;simp only[List.take_succ_cons,List.take_zero,List.drop_succ_cons,List.drop_zero];go_wp2_with fail
   refine(PB.out _).mono ?_;rintro e W' ⟨rfl,hw⟩;replace hw:=hw.symm;subst hw;go_wp2_with fail
   refine(PA.out _).mono ?_;rintro e W' ⟨rfl,hw⟩;replace hw:=hw.symm;subst hw;go_wp2;refine⟨_,_,by simp[Act.eval],a0.out.ks.baseM _ _ f5.out,?_⟩;rintro v' V' ⟨rfl,hk⟩ T d;have HZ:=z6 ((a0.out.keptM hk).re T d);clear a0 hk;generalize re V' T d=V39 at*;clear V';go_wp2;refine z7 hP a3 fun T d=> ?_
   have a0 :=z6 (HZ.out.re T d);clear HZ;generalize re V39 T d=U39 at*;go_wp2;refine xQ hP ?_;refine⟨rfl,_,fun W=>⟨by simp[results,Tryz.results10,go_sem],by simp[results,Tryz.results10,go_sem]⟩,⟨rfl,a0.out.ks.held.m fun _ hb=>hb⟩⟩
end
