import Derived.Test.YtolgebdmffcemaaGreatDoorQ14
import Derived.Test.YtolgebdmffcemaaGreatDoorQ11
set_option linter.all false
set_option maxHeartbeats 20000000
set_option maxRecDepth 1000000
namespace Go.Proofs.YtolgebdmffcemaaGreatDoor
open Go.RowKit
theorem z6 {p:Prop}(h:p):Hid p:=h

structure Bag (s:List UInt8)(l:List (List UInt8))(k q m:Nat):Prop where
 lt:m<l.length
 q1:1≤q
 le:q≤k
 ge:k≤q+(l[m]'lt).length
 at_:s.drop q=R.joinI (l.drop m)
section
variable {s:List UInt8}{l:List (List UInt8)}{k q m:Nat}
end
structure Ln (s p u r:List UInt8):Prop where
 eq:s=p++32::(u++10::r)
 np:∀c∈p,c≠32∧c≠10
 nu:∀c∈u,c≠10
section
variable {s p u r:List UInt8}
end
def bF:Value→Nat
 | .string b=>b.size
 |_=>0
theorem GU (c:R.Cm):(R.bodyC c).length=1+c.parents.length+(R.Written c.tree).length:=by simp[R.bodyC];omega
