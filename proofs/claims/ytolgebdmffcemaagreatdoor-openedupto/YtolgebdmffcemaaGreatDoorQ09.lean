import Derived.Test.YtolgebdmffcemaaGreatDoorQ08
set_option linter.all false
set_option maxHeartbeats 20000000
set_option maxRecDepth 1000000
open List renaming drop_eq_getElem_cons→nP
namespace Go.Proofs.YtolgebdmffcemaaGreatDoor
open Go.RowKit
theorem z4 {p:Prop}(h:p):Hid p:=h
theorem J8 (c:UInt8)(l:List UInt8):(ByteArray.mk (c::l).toArray).extract 1 (l.length+1)=⟨l.toArray⟩:=by
 apply ByteArray.ext;simp
theorem F5 (l:List (List UInt8))(m:Nat)(h:m<l.length):R.joinI (l.drop m)=l[m]++(if m+1=l.length then []else 59::R.joinI (l.drop (m+1))):=by
 rw[nP h];by_cases e:m+1=l.length
 ·rw[if_pos e,List.drop_of_length_le (by omega),R.joinI,List.append_nil]
 ·rw[if_neg e,nP (by omega:m+1<l.length),R.joinI]
structure Bag (s:List UInt8)(l:List (List UInt8))(k q m:Nat):Prop where
 lt:m<l.length
 q1:1≤q
 le:q≤k
 ge:k≤q+(l[m]'lt).length
 at_:s.drop q=R.joinI (l.drop m)
section
variable {s:List UInt8}{l:List (List UInt8)}{k q m:Nat}
end
structure Ln (s p u r:List UInt8):Prop where
 eq:s=p++32::(u++10::r)
 np:∀c∈p,c≠32∧c≠10
 nu:∀c∈u,c≠10
section
variable {s p u r:List UInt8}
end
def zFS:Value→Nat
 | .string b=>b.size
 |_=>0
theorem Fr (c:R.Cm):(R.bodyC c).length=1+c.parents.length+(R.Written c.tree).length:=by simp[R.bodyC];omega
