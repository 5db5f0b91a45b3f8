import Derived.Test.YtolgebdmffcemaaGreatDoorQ19
import Derived.Test.YtolgebdmffcemaaGreatDoorQ13
import Derived.Test.YtolgebdmffcemaaGreatDoorQ26
set_option linter.all false
set_option maxHeartbeats 20000000
set_option maxRecDepth 1000000
open Go.World renaming cell?→pV,ownsRow_nil→H3
namespace Go.Proofs.YtolgebdmffcemaaGreatDoor
open Go.RowKit Go Go.Conc
structure SP where
 bx:Nat
 by_:Nat
 ox:Nat→Prop
 oy:Nat→Prop
 sx:R.St
 sy:R.St
def MM (O:Nat→Prop)(L:List SP)(b:Nat):Prop:=O b∨∃(j:Nat) (h:j<L.length),L[j].ox b∨L[j].oy b
structure LW (w:World)(h0 Wb:Nat)(O:Nat→Prop)(L:List SP)(names:List (Value×List UInt8))(nums:List (Value×Int))(last:Nat):Prop where
 lw:∃av nv tv uv kv,LWx w (MM O L) O Wb av (L.map fun p=>(p.bx,p.by_)) nv tv uv kv names nums last
 px:∀(j:Nat) (h:j<L.length),PS w (MM O L) L[j].ox L[j].bx L[j].sx∧Inv L[j].sx
 py:∀(j:Nat) (h:j<L.length),RS w (MM O L) L[j].oy L[j].by_ L[j].sy∧Inv L[j].sy
 d0:∀(j:Nat) (h:j<L.length) (b:Nat),O b→¬L[j].ox b∧¬L[j].oy b
 d1:∀(j:Nat) (h:j<L.length) (b:Nat),L[j].ox b→¬L[j].oy b
 d2:∀(i j:Nat) (hi:i<L.length) (hj:j<L.length),i≠j→∀b,(L[i].ox b∨L[i].oy b)→¬(L[j].ox b∨L[j].oy b)
 lo:∀b,MM O L b→h0≤b
 lt:∀b,MM O L b→b<w.heap.size
 g:Zy w
 h6:6≤h0
 hs:h0≤w.heap.size
 nb:nums.length≤9*last
theorem PS.smaller {w:World}{M M' O:Nat→Prop}{B:Nat}{st:R.St}(h:PS w M O B st)(hM:∀b,M' b→M b)(hO:∀b,O b→M' b):PS w M' O B st:=h.kept (ze.refl (fun _=>False) w) (fun _ e=>e.elim) (fun b e=> .inl (hM b e)) hO
def jB:R.St:={cms:=[],brs:=[],packed:=[]}
theorem Inv.no:Inv jB:=⟨by simp[jB],by simp[jB],by simp[jB,zW],by simp[jB],by simp[jB],by simp[jB],by simp[jB],by simp[jB],by simp[jB]⟩
theorem bL {w:World}{M:Nat→Prop}{B:Nat}(hb:w.heap[B]? =some (.cells #[.slice none 0 0,.slice none 0 0,.slice none 0 0] 102 (0,0)))(hM:M B):PS w M (fun b=>b=B) B jB:=by
 have hl:B<w.heap.size:=(Array.getElem?_eq_some_iff.1 hb).1;refine⟨.slice none 0 0,.slice none 0 0,[],[],fun b e=>e▸hM,fun b e=>e▸hl,rfl,by simp[pV,hb],by simp[pV,hb],fun o=>by simp[World.frozen?,hb],rfl,H3 _ _ _ _,fun g e=>by simp[Value.ownBlock]at e,by simp,by simp,by simp,rfl,H3 _ _ _ _,fun g e=>by simp[Value.ownBlock]at e,by simp,by simp,.slice none 0 0,by simp[pV,hb],H3 _ _ _ _,fun g e=>by simp[Value.ownBlock]at e⟩
theorem Ji:∀(L:List (R.Cm×Value×Value)) (i:Nat) (h:i<L.length),(YC L)[i*2]? =some (L[i]'h).2.1
 |p::r,0,_=>by simp[YC]
 |p::r,i+1,h=>by
  have ih:=Ji r i (by simpa using h);unfold YC at ih⊢;rw[List.flatMap_cons,List.getElem?_append_right (by simp;omega)];rw[show(i+1)*2- [p.2.1,p.2.2].length=i*2 from by simp;omega];simpa using ih
theorem PSx.tc {w:World}{M O:Nat→Prop}{B:Nat}{st:R.St}{bv cv:Value}{LB:List BrP}{LCm:List (R.Cm×Value×Value)}(hP:PSx w M O B st bv cv LB LCm):∃g cap,0<st.cms.length→TC (fun b=>b<w.heap.size) B g cap st.cms.length (R.parents st) w:=by
 obtain⟨a,c,hv,h1,h2,h3,h4⟩:=zl hP.crow;have hl:LCm.length=st.cms.length:=by rw[←hP.cms,List.length_map]
 cases a with
 |none=>exact⟨0,0,fun h=>by have:=(h3 rfl).1;omega⟩
 |some ad=>
  obtain⟨g,rfl,_,hg,_,hc⟩:=h4 ad rfl;refine⟨g,c,fun _=>⟨hP.lt B hP.own,hg,by rw[←hl,←hv];exact hP.c1,fun m hm=> ?_⟩⟩;have a0:m<LCm.length:=by omega
  have a1:R.parents st (m+1)=(LCm[m]'a0).1.parents:=by
   have e:(LCm[m]'a0).1=st.cms[m]:=by simp[←hP.cms]
   rw[R.parents,Nat.add_sub_cancel,j0d hm,e];rfl
  have a2:=hP.cpar _ (j0c a0);rw[←a1]at a2;obtain⟨pa,pc,a5,a6,a7,a4⟩:=a2;refine⟨pa,pc,by rw[←a5];exact hc _ _ (Ji LCm m a0),fun j hj=> ?_⟩;obtain⟨b,off,e,hb,_,a3⟩:=a4 (by omega);exact⟨b,off,e,hb,a3 j _ (by simp[hj,List.getD_eq_getElem?_getD])⟩
section
end
