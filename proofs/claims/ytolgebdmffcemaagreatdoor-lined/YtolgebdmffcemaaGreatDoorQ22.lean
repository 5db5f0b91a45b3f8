import Derived.Test.YtolgebdmffcemaaGreatDoorQ21
set_option linter.all false
set_option maxHeartbeats 20000000
set_option maxRecDepth 1000000
namespace Go.Proofs.YtolgebdmffcemaaGreatDoor
namespace R
def SumA (v0 sum:Int)(na nd nl:Nat)(st:St):Prop:=∃l hd κ w pk,st=Cs l hd w pk∧Cy l hd κ v0 (fun j=>j<5)∧(∀j,j<nd→w j=val l (hd j))∧sum=w 0+(w 1-v0)+(w 2-v0)+(w 3-v0)+(w 4-v0)∧(∀j,j<5→ -(1000*(na:Int))-2000≤w j∧w j≤2000+1000*(na:Int))∧l.length≤nl
def CF (w:Nat→Int)(v0:Int)(L:List Nat):Int:=(L.map fun j=>w j-v0).sum
def SumB (v0 sum:Int)(L:List Nat)(nl:Nat)(st:St):Prop:=∃l hd κ w pk,st=Cs l hd w pk∧Cy l hd κ v0 (fun j=>j=0∨j∈L)∧CR l hd w (fun j=>j=0∨j∈L)∧sum=w 0+CF w v0 L∧(∀j,j<5→j≠0→ -30000≤w j∧w j≤30000)∧(-30000-40000*(4-(L.length:Int))≤w 0∧w 0≤30000+40000*(4-(L.length:Int)))∧(-2000≤v0∧v0≤2000)∧l.length≤nl
end R
namespace R
def lvA (st:St)(k:Nat):St:=if k=0 then st else if k=1 then(commit st [97]).2 else if k=2 then(commit (commit st [97]).2 [98]).2 else CI st
structure Lived (st:St):Prop where
 liv:Zx st
 com:∀n,(n=[97]∨n=[98]∨n=[99])→Com st n
 len:st.cms.length≤54
theorem Q2 {st:St}(h:Zx st)(hi:Inv st){n:List UInt8}(hn:n=[97]∨n=[98]∨n=[99])(hl:st.cms.length<60):Zx (commit st n).2∧Inv (commit st n).2∧(commit st n).2.cms.length≤st.cms.length+1:=⟨h.commit n,je hi n,(q8 st n).len⟩
theorem lived_of {st:St}(h:Zx st)(hi:Inv st)(hl:st.cms.length≤51):
  (∀k,k<3→((commit (lvA st k) (([[97],[98],[99]]:List (List UInt8)).getD k [])).1.2=0∨(commit (lvA st k) (([[97],[98],[99]]:List (List UInt8)).getD k [])).1.2=9)∧(commit (lvA st k) (([[97],[98],[99]]:List (List UInt8)).getD k [])).2=lvA st (k+1))∧Lived (lvA st 3):=by
 have ha:([97]:List UInt8)=[97]∨([97]:List UInt8)=[98]∨([97]:List UInt8)=[99]:= .inl rfl;have hb:([98]:List UInt8)=[97]∨([98]:List UInt8)=[98]∨([98]:List UInt8)=[99]:= .inr (.inl rfl);have hc:([99]:List UInt8)=[97]∨([99]:List UInt8)=[98]∨([99]:List UInt8)=[99]:= .inr (.inr rfl);obtain⟨l1,i1,n1⟩:=Q2 h hi ha (by omega);obtain⟨l2,i2,n2⟩:=Q2 l1 i1 hb (by omega);obtain⟨l3,i3,n3⟩:=Q2 l2 i2 hc (by omega);obtain⟨c1,r1⟩:=vt h ha (by omega);obtain⟨c2,r2⟩:=vt l1 hb (by omega);obtain⟨c3,r3⟩:=vt l2 hc (by omega);have a0:=qd l1 i1 hb ha (by decide) c1;have a1:=qd l2 i2 hc ha (by decide) a0;have a2:=qd l2 i2 hc hb (by decide) c2;refine⟨fun k hk=> ?_,⟨l3,fun n hn=> ?_,by show(commit _ _).2.cms.length≤54;omega⟩⟩
 ·rcases(by omega:k=0∨k=1∨k=2)with rfl|rfl|rfl
  ·exact⟨r1,rfl⟩
  ·exact⟨r2,rfl⟩
  ·exact⟨r3,rfl⟩
 ·rcases hn with rfl|rfl|rfl
  ·exact a1
  ·exact a2
  ·exact c3
theorem brN_small (k:Nat)(hk:k<3):brN (k:Int)=([[97],[98],[99]]:List (List UInt8)).getD k []:=by
 rcases(by omega:k=0∨k=1∨k=2)with rfl|rfl|rfl<;>rfl
theorem brN_abc (c:Int):brN c=[97]∨brN c=[98]∨brN c=[99]:=by
 unfold brN;have h1:0≤pk_ c 3:=Int.emod_nonneg _ (by decide);have h2:pk_ c 3<3:=Int.emod_lt_of_pos _ (by decide);rcases(by omega:(pk_ c 3).toNat=0∨(pk_ c 3).toNat=1∨(pk_ c 3).toNat=2)with e|e|e<;>rw[e]
 ·exact .inl rfl
 ·exact .inr (.inl rfl)
 ·exact .inr (.inr rfl)
end R
