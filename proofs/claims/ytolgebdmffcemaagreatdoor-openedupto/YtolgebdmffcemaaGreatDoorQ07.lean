import Derived.Test.YtolgebdmffcemaaGreatDoorQ06
import Derived.Test.YtolgebdmffcemaaGreatDoorRows
import Derived.WalkKit
import Derived.WalkSpells
import Derived.WalkLawsBesides
import Derived.Deep.AppendSrc
import Derived.Laws.CopyRow
import Derived.Laws.AppendOwn
import Derived.Lib.AppendZerosOnto
import Derived.Lib.Overlaps
import Derived.Laws.Externs
import Derived.Deep.RegionLaw
import Derived.Deep.AppendLies
import Derived.DeepKeys3
set_option linter.all false
set_option maxHeartbeats 20000000
set_option maxRecDepth 1000000
open List renaming length_append→nL,length_cons→nM,length_nil→pC,getElem?_take→nH,flatMap_cons→rL,take_take→sL,length_take→pZ,length_drop→rA,append_assoc→sM,take_append_of_le_length→sN,take_of_length_le→nR,ext_getElem?→sR,mem_map_of_mem→sY,mem_map→rR,getElem?_map→sZ,map_append→tB,mem_append→iZ,mem_singleton→iV,mem_or_eq_of_mem_set→rE
open Nat renaming le_add_right→sC,zero_add→lQ,add_zero→iE,min_def→sG,add_mul→sH,one_mul→sI,mul_le_mul_right→sJ
open Go renaming Value→eB,World→eX,Program→eA,Operand→mM
open Go.World renaming cell?_of_block→sD,cell?→sE
open Array renaming getElem?_eq_some_iff→lE,getElem?_toList→sS,getElem?_setIfInBounds→tA
open Go.Builtin renaming append→sF,copy_→eQ,lenOf→eD,firstCells→eK,append_→eP,clear_→eL,zeroCells→sQ
open Go.Lib renaming wpList_append_run→sP
open Go.Proofs.Tryz renaming prog→sU
open Go.Program renaming keyLits→sV
open Go.IntKind renaming i64→sW
namespace Go.Proofs.YtolgebdmffcemaaGreatDoor
open Go.RowKit
def j0g:=@Below.refl
namespace R
def joinC (cms:List Cm)(a b:Nat):List Leaf×Int:=
 if(baseC cms a b).2≠0 then([],(baseC cms a b).2)else joinT (baseC cms a b).1 (treeC cms a) (treeC cms b)
def joinN (st:St)(into:List UInt8)(a b:Nat):(Int×Int)×St:=
 if(joinC st.cms a b).2≠0 then((0,(joinC st.cms a b).2),st)
 else if 60≤st.cms.length then((0,4),st)
 else((((st.cms.length+1:Nat):Int),0),down st into {tree:=(joinC st.cms a b).1,parents:=[a,b]})
def joinH (st:St)(into:List UInt8)(a b:Nat):(Int×Int)×St:=
 if b=0∨mark st.cms a b=true then(((a:Int),0),st)
 else if a=0∨mark st.cms b a=true then(((b:Int),0),setHead st into b)
 else joinN st into a b
def joinB (st:St)(into fr:List UInt8):(Int×Int)×St:=
 if fndI st.brs into<0∨fndI st.brs fr<0 then((0,5),st)
 else if Written (workOf st into)≠Written (treeOf st (headOf st into))then((0,9),st)
 else joinH st into (headOf st into) (headOf st fr)
end R
theorem jY {st:R.St}(h:Inv st)(a b:Nat):OkT (R.joinC st.cms a b).1:=by
 unfold R.joinC;split
 ·exact OkT.nil
 ·exact kb (ko h.trees a b) (ye h.trees a) (ye h.trees b)
theorem F3 {st:R.St}(h:Inv st)(a0:List UInt8)(a b:Nat)(ha:1≤a∧a≤st.cms.length)(hb:1≤b∧b≤st.cms.length)(hf:R.fnd st.brs a0<st.brs.length):Inv (R.joinN st a0 a b).2:=by
 unfold R.joinN;split
 ·exact h
 ·split
  ·exact h
  ·refine OQ h a0 _ (by omega) (jY h a b) (fun p hp=> ?_) (by simp) hf
   simp only[List.mem_cons,List.not_mem_nil,or_false]at hp;rcases hp with rfl|rfl
   ·exact ha
   ·exact hb
theorem F6 {st:R.St}(h:Inv st)(a0:List UInt8)(a b:Nat)(ha:a≤st.cms.length)(hb:b≤st.cms.length)(hf:R.fnd st.brs a0<st.brs.length):Inv (R.joinH st a0 a b).2:=by
 unfold R.joinH;split
 ·exact h
 ·rename_i h1
  split
  ·exact setHead_inv h a0 b hb hf
  ·rename_i h2
   exact F3 h a0 a b ⟨by omega,ha⟩ ⟨by omega,hb⟩ hf
theorem kX {st:R.St}{n:List UInt8}(h:¬R.fndI st.brs n<0):R.fnd st.brs n<st.brs.length:=by
 rcases R.fndI_cases st.brs n with⟨e,_⟩|⟨_,e⟩
 ·omega
 ·exact e
theorem ur {st:R.St}(h:Inv st)(a0 fr:List UInt8):Inv (R.joinB st a0 fr).2:=by
 unfold R.joinB;split
 ·exact h
 ·rename_i h1
  split
  ·exact h
  ·exact F6 h a0 _ _ (Zr h a0) (Zr h fr) (kX fun e=>h1 (.inl e))
theorem OP {st:R.St}(_h:Inv st)(name:List UInt8)(hn:name.length≤8)(c:R.Cm)(ht:OkT c.tree)(h2:c.parents.length≤2):(R.down st name c).packed.length≤st.packed.length+300000:=by
 have:=ht.len;unfold R.down R.setHead R.keepC;simp only[nL,R.record,R.recHead,R.bodyC,nM,pC,List.length_map];omega
theorem jv (st:R.St)(name:List UInt8)(hn:name.length≤8)(n:Nat):(R.setHead st name n).packed.length≤st.packed.length+300000:=by
 unfold R.setHead;simp only[nL,R.record,R.recHead,nM,pC];omega
theorem UF {st:R.St}(h:Inv st)(a0 fr:List UInt8):(R.joinB st a0 fr).2.packed.length≤st.packed.length+300000:=by
 unfold R.joinB;split
 ·exact sC _ _
 ·rename_i h1
  have hf:=kX (st:=st) (n:=a0) fun e=>h1 (.inl e)
  have hn:a0.length≤8:=by
   have:=ZN _ (h.names _ (j0c hf));rwa[R.fnd_name]at this
  split
  ·exact sC _ _
  ·unfold R.joinH
   split
   ·exact sC _ _
   ·split
    ·exact jv st a0 hn _
    ·unfold R.joinN
     split
     ·exact sC _ _
     ·split
      ·exact sC _ _
      ·exact OP h a0 hn _ (jY h _ _) (by simp)
theorem bu {cms:List R.Cm}{a b:Nat}(ha:a≠0)(h:¬R.mark cms a b=true):a≠b:=by
 intro e;subst e;exact h (yj a (by omega))
def S (l:List UInt8):eB:= .string ⟨l.toArray⟩
def Rd (w:eX)(M:Nat→Prop)(v:eB)(n:Nat)(xs:List eB):Prop:=
 ∃a cap,v= .slice a n cap∧n≤cap∧cap≤maxLen∧(0<n→∃b off,a=some ⟨b,off,none⟩∧b<w.heap.size∧¬M b∧∀j u,xs[j]? =some u→w.cell? ⟨b,off+j,none⟩=some u)
structure zf (M:Nat→Prop)(w w' :eX):Prop where
 os:w'.os=w.os
 tape:w'.tape=w.tape
 output:w'.output=w.output
 size:w.heap.size≤w'.heap.size
 block:∀k,k<w.heap.size→¬M k→w'.heap[k]? =w.heap[k]?
theorem zf.refl (M:Nat→Prop)(w:eX):zf M w w:=⟨rfl,rfl,rfl,j0a _,fun _ _ _=>rfl⟩
theorem zf.of_below {M:Nat→Prop}{w w' :eX}(h:Below w.heap.size w w'):zf M w w' :=⟨h.os,h.tape,h.output,h.size,fun k hk _=>h.block k hk⟩
theorem zf.trans {M:Nat→Prop}{a b c:eX}(h:zf M a b)(k:zf M b c):zf M a c:=
 ⟨k.os.trans h.os,k.tape.trans h.tape,k.output.trans h.output,j0f h.size k.size,fun i hi hM=>(k.block i (j0b hi h.size) hM).trans (h.block i hi hM)⟩
theorem zf.mono {M M' :Nat→Prop}{w w' :eX}(h:zf M w w')(hm:∀b,M b→M' b):zf M' w w' :=⟨h.os,h.tape,h.output,h.size,fun k hk hn=>h.block k hk fun e=>hn (hm k e)⟩
theorem zf.setCell {M:Nat→Prop}{a w:eX}(h:zf M a w){p:Addr}(hp:M p.block∨a.heap.size≤p.block)(u:eB):zf M a (w.setCell p u):=
 ⟨h.os,h.tape,h.output,by simpa[World.setCell]using h.size,fun k hk hn=>by
  rw[Below.heap_setCell _ _ _ _ (by rintro rfl;rcases hp with hp|hp;exact hn hp;omega)];exact h.block k hk hn⟩
theorem zf.drewN {M:Nat→Prop}{a w:eX}(h:zf M a w)(q:Nat):zf M a (w.drewN q):=⟨h.os,h.tape,h.output,h.size,h.block⟩
theorem zf.cell {M:Nat→Prop}{w w' :eX}(h:zf M w w'){p:Addr}(hp:p.block<w.heap.size)(hM:¬M p.block):w'.cell? p=w.cell? p:=sD (w:=w) (h.block _ hp hM)
theorem zf.frozen {M:Nat→Prop}{w w' :eX}(h:zf M w w'){p:Addr}(hp:p.block<w.heap.size)(hM:¬M p.block):w'.frozen? p=w.frozen? p:=World.frozen?_of_block (w:=w) (h.block _ hp hM)
theorem Rd.step {w w' :eX}{M M' O:Nat→Prop}{v:eB}{n:Nat}{xs:List eB}(h:Rd w M v n xs)(hk:zf O w w')(hO:∀b,O b→M b)(hM:∀b,M' b→M b∨w.heap.size≤b):Rd w' M' v n xs:=by
 obtain⟨a,cap,rfl,h1,h2,h3⟩:=h;refine⟨a,cap,rfl,h1,h2,fun h0=> ?_⟩;obtain⟨b,off,rfl,hb,a0,hc⟩:=h3 h0;refine⟨b,off,rfl,j0b hb hk.size,fun e=>by rcases hM b e with e|e;exact a0 e;omega,fun j u hu=> ?_⟩;rw[sD (w:=w) (hk.block b hb fun e=>a0 (hO b e))];exact hc j u hu
theorem Rd.kept {w w' :eX}{M:Nat→Prop}{v:eB}{n:Nat}{xs:List eB}(h:Rd w M v n xs)(hk:zf M w w'):Rd w' M v n xs:=by
 obtain⟨a,cap,rfl,h1,h2,h3⟩:=h;refine⟨a,cap,rfl,h1,h2,fun h0=> ?_⟩;obtain⟨b,off,rfl,hb,hM,hc⟩:=h3 h0;refine⟨b,off,rfl,j0b hb hk.size,hM,fun j u hu=> ?_⟩;rw[sD (w:=w) (hk.block b hb hM)];exact hc j u hu
theorem Rd.below {w w' :eX}{M:Nat→Prop}{v:eB}{n:Nat}{xs:List eB}(h:Rd w M v n xs)(hb:Below w.heap.size w w'):Rd w' M v n xs:=h.kept (zf.of_below hb)
theorem Rd.of_owns {w:eX}{base:Nat}{M:Nat→Prop}{e:TypeId}{sz:Nat}{v:eB}{n:Nat}{xs:List eB}(h:w.ownsRow base e sz v n xs)(hM:∀b,M b→b<base):Rd w M v n xs:=by
 obtain⟨h1,h2⟩:=h;rcases h2 with⟨rfl,rfl⟩|⟨g,cap,a1,rfl,hg,hh,hn,a0,hs,ht⟩
 ·exact⟨none,0,rfl,j0a _,by unfold maxLen;omega,fun h=>absurd h (Nat.lt_irrefl _)⟩
 ·refine⟨_,cap,rfl,hn,a0,fun _=>⟨g,0,rfl,(lE.1 hh).1,fun hm=>by have:=hM g hm;omega,fun j u hu=> ?_⟩⟩
  simp only[sE,hh];rw[←ht,nH]at hu;split at hu
  ·simpa using hu
  ·cases hu
theorem Tryz.info9:(Tryz.prog.info? 9).map (fun i=>(i.zero,i.size,i.bytes))=some (some (.string ⟨#[]⟩),1,16):=by kernel_rfl
theorem y6 (w:eX)(C:Array eB)(t:TypeId):∀(j:Nat) (x:eB),C.toList[j]? =some x→(w.alloc (.cells C t)).cell? ((⟨w.heap.size,0,none⟩:Addr).add j)=some x:=by
 intro j x hj;have a0:(⟨w.heap.size,0,none⟩:Addr).add j=⟨w.heap.size,j,none⟩:=by unfold Addr.add;split<;>simp_all
 rw[a0,World.cell?_alloc_at _ _ _ _ rfl];simpa using hj
theorem u_ {P:eA}(w:eX){ops:Array Oper}{rest:List Oper}{o:Oper}{a:Act}{Q:Exit→Act→eX→Prop}
  (hg:o.guard=none)(s x:mM)(t:TypeId)(a5:o.op=Op.call {callee:=Callee.builtin sF,args:= #[s,x],argTypes:= #[t,t]})
  (base:Nat)(e:TypeId)(z:eB)(size a0:Nat)(h1:P.underlying t=some (.slice e))(h2:(P.info? e).map (fun i=>(i.zero,i.size,i.bytes))=some (some z,size,a0))(h6:z.cells.size=size)(h7:0<size)
  {v:eB}{n:Nat}{xs:List eB}(a2:w.ownsRow base e size v n xs)(C:Array eB)(hC:C.size=size)(hs:a.eval s=v)
  (hx:a.eval x= .slice (some ⟨w.heap.size,0,none⟩) 1 1)(a3:∀u∈C.toList,u.oneCell' =true)(b1:n+1≤maxLen)(b2:(n+1)*a0≤140737488355328)(hB:base≤w.heap.size)
  (hK:∀v' w',w'.ownsRow base e size v' (n+1) (xs++C.toList)→w.grownBy w' v.ownBlock→wpList P ops Q rest (a.put o.dst v') w'):
  wpList P ops Q (o::rest) a (w.alloc (.cells C e)):=by
 obtain⟨i0,hi,a6,a7,a8⟩:=info_parts h2;refine wpList_append_own _ hg s x t a5 base e i0 z size a0 h1 hi a6 a7 a8 h6 h7 v n xs hs (a2.alloc _) ⟨w.heap.size,0,none⟩ 1 1 C.toList hx (by simp[hC]) (y6 w C e) a3 b1 b2 (by simp;omega) ?_;intro v' w' ho a1 _;refine hK v' w' ho ⟨a1.os,a1.tape,a1.output,by have:=a1.size;simp at this;omega,fun k hk a4=> ?_⟩;rw[a1.block k (by simp;omega) a4];exact Below.heap_alloc _ _ _ hk
def LC (x:R.Leaf)(iv:eB):List eB:=[.string ⟨x.path.toArray⟩,.int .u8 x.kind,.int .i64 x.n,.string ⟨x.text.toArray⟩,iv]
def d6 (L:List (R.Leaf×eB)):List eB:=L.flatMap fun p=>LC p.1 p.2
def It (w:eX)(M:Nat→Prop)(p:R.Leaf×eB):Prop:=Rd w M p.2 p.1.items.length (p.1.items.map S)
def Tr (w:eX)(M:Nat→Prop)(v:eB)(t:List R.Leaf):Prop:=∃L:List (R.Leaf×eB),L.map (·.1)=t∧Rd w M v L.length (d6 L)∧∀p∈L,It w M p
theorem Zl {w w' :eX}{base:Nat}{e:TypeId}{size:Nat}{v:eB}{n:Nat}{xs:List eB}(h:w.ownsRow base e size v n xs)(hb:Below w.heap.size w w'):w'.ownsRow base e size v n xs:=
 h.kept (row:=none) ⟨hb.os,hb.tape,hb.output,hb.size,fun k hk _=>hb.block k hk⟩ (by cases v.ownBlock<;>simp)
theorem zA {a b:Bool}(h:b=a):Ending.returned (.bool a)= .returned (.bool b):=by rw[h]
theorem YP {k:IntKind}{a b:Int}(h:b=a):Ending.returned (.int k a)= .returned (.int k b):=by rw[h]
theorem Yj {a b:ByteArray}(h:b=a):Ending.returned (.string a)= .returned (.string b):=by rw[h]
def d8 (L:List (R.Br×eB)):List eB:=L.flatMap fun p=> [.string ⟨p.1.name.toArray⟩,.int .i64 (p.1.head:Int),p.2]
def d7 (L:List (R.Cm×eB×eB)):List eB:=L.flatMap fun p=> [p.2.1,p.2.2]
def dl (w:eX)(M:Nat→Prop)(B:Nat)(cms:List R.Cm)(a b:Nat):Prop:=
 ∃(kn:Int) (tv:eB) (e:Int),w.cell? ⟨B,3+(a*61+b),none⟩=some (.int .i64 kn)∧w.cell? ⟨B,3724+(a*61+b),none⟩=some tv∧w.cell? ⟨B,7445+(a*61+b),none⟩=some (.int .i64 e)∧
  (kn=0∨(kn=1∧∃t,Tr w M tv t∧∀ext,R.baseC (cms++ext) a b=(t,e)))
def D5 (w:eX)(M:Nat→Prop)(B:Nat)(cms:List R.Cm):Prop:=∀a b,a≤60→b≤60→dl w M B cms a b
structure ZC (C:Array eB):Prop where
 c0:C[0]? =some (.slice none 0 0)
 c1:C[1]? =some (.slice none 0 0)
 c2:C[2]? =some (.string ⟨#[]⟩)
 kn:∀k,k<3721→C[3+k]? =some (.int .i64 0)
 bs:∀k,k<3721→C[3724+k]? =some (.slice none 0 0)
 er:∀k,k<3721→C[7445+k]? =some (.int .i64 0)
structure RSx (w:eX)(M O:Nat→Prop)(B:Nat)(st:R.St)(cv bv:eB)(LB:List (R.Br×eB))(LCm:List (R.Cm×eB×eB)):Prop where
 sub:∀b,O b→M b
 lt:∀b,O b→b<w.heap.size
 own:O B
 c0:w.cell? ⟨B,0,none⟩=some cv
 c1:w.cell? ⟨B,1,none⟩=some bv
 c2:w.cell? ⟨B,2,none⟩=some (.string ⟨st.packed.toArray⟩)
 fr:∀o,w.frozen? ⟨B,o,none⟩=false
 brs:LB.map (·.1)=st.brs
 row:w.ownsRow 0 87 3 bv LB.length (d8 LB)
 rowO:∀g,bv.ownBlock=some g→O g∧g≠B
 work:∀p∈LB,Tr w M p.2 p.1.work
 cms:LCm.map (·.1)=st.cms
 crow:w.ownsRow 0 210 2 cv LCm.length (d7 LCm)
 crowO:∀g,cv.ownBlock=some g→O g∧g≠B∧bv.ownBlock≠some g
 ctree:∀p∈LCm,Tr w M p.2.1 p.1.tree
 cpar:∀p∈LCm,Rd w M p.2.2 p.1.parents.length (p.1.parents.map fun(n:Nat)=>Value.int .i64 (n:Int))
 memo:D5 w M B st.cms
def RS (w:eX)(M O:Nat→Prop)(B:Nat)(st:R.St):Prop:=∃cv bv LB LCm,RSx w M O B st cv bv LB LCm
theorem zh {w:eX}{base:Nat}{e:TypeId}{size:Nat}{v:eB}{n:Nat}{xs:List eB}(h:w.ownsRow base e size v n xs):
  ∃a cap,v= .slice a n cap∧n≤cap∧cap≤maxLen∧(a=none→n=0∧cap=0)∧∀ad,a=some ad→∃g,ad=⟨g,0,none⟩∧base≤g∧g<w.heap.size∧(∀o,w.frozen? ⟨g,o,none⟩=false)∧(∀j u,xs[j]? =some u→w.cell? ⟨g,j,none⟩=some u):=by
 obtain⟨h1,h2⟩:=h;rcases h2 with⟨rfl,rfl⟩|⟨g,cap,a1,rfl,hg,hh,hn,a0,hs,ht⟩
 ·exact⟨none,0,rfl,j0a _,by unfold maxLen;omega,fun _=>⟨rfl,rfl⟩,fun ad e=>by cases e⟩
 ·refine⟨_,cap,rfl,hn,a0,fun e=>by(cases e),fun ad e=> ?_⟩
  simp only[Option.some.injEq]at e;subst e;refine⟨g,rfl,hg,(lE.1 hh).1,fun o=> ?_,fun j u hu=> ?_⟩
  ·simp[World.frozen?,hh]
  ·simp only[sE,hh]
   rw[←ht,nH]at hu;split at hu
   ·simpa using hu
   ·cases hu
theorem jg {P:eA}(w:eX){ops:Array Oper}{rest:List Oper}{o:Oper}{a:Act}{Q:Exit→Act→eX→Prop}
  (hg:o.guard=none)(s x:mM)(t:TypeId)(a6:o.op=Op.call {callee:=Callee.builtin sF,args:= #[s,x],argTypes:= #[t,t]})
  (base:Nat)(e:TypeId)(z:eB)(size a1:Nat)(h1:P.underlying t=some (.slice e))(h2:(P.info? e).map (fun i=>(i.zero,i.size,i.bytes))=some (some z,size,a1))(h6:z.cells.size=size)(h7:0<size)
  {v:eB}{n:Nat}{xs:List eB}(a2:w.ownsRow base e size v n xs)(ao:Option Addr)(m c:Nat)(a0:List eB)(hn:a0.length=m*size)(a4:ao=none→m=0∧c=0)
  (hc:∀ad,ao=some ad→∀j u,a0[j]? =some u→w.cell? (ad.add j)=some u)(hs:a.eval s=v)
  (hx:a.eval x= .slice ao m c)(a7:∀u∈a0,u.oneCell' =true)(b1:n+m≤maxLen)(b2:(n+m)*a1≤140737488355328)(hB:base≤w.heap.size)
  (hK:∀v' w',w'.ownsRow base e size v' (n+m) (xs++a0)→w.grownBy w' v.ownBlock→wpList P ops Q rest (a.put o.dst v') w'):
  wpList P ops Q (o::rest) a w:=by
 obtain⟨i0,hi,b3,b4,b5⟩:=info_parts h2
 cases ao with
 |some ad=>
  refine wpList_append_own _ hg s x t a6 base e i0 z size a1 h1 hi b3 b4 b5 h6 h7 v n xs hs a2 ad m c a0 hx hn (hc ad rfl) a7 b1 b2 hB ?_;intro v' w' ho a9 _;exact hK v' w' ho a9
 |none=>
  obtain⟨rfl,rfl⟩:=a4 rfl;have a3:a0=[]:=List.eq_nil_of_length_eq_zero (by simpa using hn);subst a3;refine wpList_plain hg fun K a8 => ?_
  have a5:=run_append_owned_none (P:=P) w base t o.type e i0 size h1 hi _ n xs a2;unfold Oper.wp;simp[execOp,a6,resolve,invoke,builtin,hs,hx,a5,Result.andThen];refine a8 _ _ (hK _ w (by simpa using a2) (World.grownBy.refl _ _))
def pk (x:R.Leaf):Int:=if x.kind=35 then 1 else if x.kind=61 then 2 else if x.kind=42 then 3 else 0
def PC (x:R.Leaf)(iv:eB):List eB:=[.string ⟨x.path.toArray⟩,.int .i64 (pk x),.int .i64 x.n,.string ⟨x.text.toArray⟩,iv]
def zI (L:List (R.Leaf×eB)):List eB:=L.flatMap fun p=>PC p.1 p.2
def PT (w:eX)(M:Nat→Prop)(v:eB)(t:List R.Leaf):Prop:=∃L:List (R.Leaf×eB),L.map (·.1)=t∧Rd w M v L.length (zI L)∧∀p∈L,It w M p
theorem PT.kept {w w' :eX}{M:Nat→Prop}{v:eB}{t:List R.Leaf}(h:PT w M v t)(hk:zf M w w'):PT w' M v t:=by
 obtain⟨L,h1,h2,h3⟩:=h;exact⟨L,h1,h2.kept hk,fun p hp=>Rd.kept (h3 p hp) hk⟩
theorem PT.step {w w' :eX}{M M' O:Nat→Prop}{v:eB}{t:List R.Leaf}(h:PT w M v t)(hk:zf O w w')(hO:∀b,O b→M b)(hM:∀b,M' b→M b∨w.heap.size≤b):PT w' M' v t:=by
 obtain⟨L,h1,h2,h3⟩:=h;exact⟨L,h1,h2.step hk hO hM,fun p hp=>Rd.step (h3 p hp) hk hO hM⟩
theorem PT.below {w w' :eX}{M:Nat→Prop}{v:eB}{t:List R.Leaf}(h:PT w M v t)(hb:Below w.heap.size w w'):PT w' M v t:=h.kept (zf.of_below hb)
theorem vi (L:List (R.Leaf×eB)):(zI L).length=L.length*5:=by
 unfold zI;induction L with
 |nil=>rfl
 |cons p r ih=>rw[rL,nL,ih];simp[PC];omega
theorem uJ:∀(L:List (R.Leaf×eB)) (i j:Nat) (h:i<L.length) (_:j<5),(zI L)[i*5+j]? =(PC (L[i]'h).1 (L[i]'h).2)[j]?
 |p::r,0,j,_,hj=>by
  unfold zI;rw[rL,Nat.zero_mul,lQ,List.getElem?_append_left (by simp[PC];omega)];rfl
 |p::r,i+1,j,h,hj=>by
  have ih:=uJ r i j (by simpa using h) hj;unfold zI at ih⊢;rw[rL,List.getElem?_append_right (by simp[PC];omega)];rw[show(i+1)*5+j-(PC p.1 p.2).length=i*5+j from by simp[PC];omega];simpa using ih
theorem B8 {w:eX}{b off:Nat}{L:List (R.Leaf×eB)}(hc:∀j u,(zI L)[j]? =some u→w.cell? ⟨b,off+j,none⟩=some u)(i:Nat)(h:i<L.length):
  w.cell? ⟨b,off+i*5,none⟩=some (.string ⟨(L[i]'h).1.path.toArray⟩)∧w.cell? ⟨b,off+i*5+1,none⟩=some (.int .i64 (pk (L[i]'h).1))∧w.cell? ⟨b,off+i*5+2,none⟩=some (.int .i64 (L[i]'h).1.n)∧
  w.cell? ⟨b,off+i*5+3,none⟩=some (.string ⟨(L[i]'h).1.text.toArray⟩)∧w.cell? ⟨b,off+i*5+4,none⟩=some (L[i]'h).2:=by
 have g:∀j u,j<5→(PC (L[i]'h).1 (L[i]'h).2)[j]? =some u→w.cell? ⟨b,off+i*5+j,none⟩=some u:=by
  intro j u hj hu;rw[Nat.add_assoc];exact hc _ _ (by rw[uJ L i j h hj];exact hu)
 exact⟨g 0 _ (by omega) rfl,g 1 _ (by omega) rfl,g 2 _ (by omega) rfl,g 3 _ (by omega) rfl,g 4 _ (by omega) rfl⟩
theorem qs {w:eX}{M:Nat→Prop}{b off:Nat}{L:List (R.Leaf×eB)}(hI:∀p∈L,It w M p)(hc:∀j u,(zI L)[j]? =some u→w.cell? ⟨b,off+j,none⟩=some u)(i:Nat)(h:i<L.length):
  ∃(x:R.Leaf) (ia:Option Addr) (ic:Nat),Hid (L[i]'h=(x,.slice ia x.items.length ic))∧It w M (x,.slice ia x.items.length ic)∧w.cell? ⟨b,off+i*5,none⟩=some (.string ⟨x.path.toArray⟩)∧w.cell? ⟨b,off+i*5+1,none⟩=some (.int .i64 (pk x))∧w.cell? ⟨b,off+i*5+2,none⟩=some (.int .i64 x.n)∧
  w.cell? ⟨b,off+i*5+3,none⟩=some (.string ⟨x.text.toArray⟩)∧w.cell? ⟨b,off+i*5+4,none⟩=some (.slice ia x.items.length ic):=by
 obtain⟨c0,c1,c2,c3,c4⟩:=B8 hc i h;have hi:=hI _ (j0c h);obtain⟨ia,ic,hv,h1,h2,h3⟩:=hi;refine⟨(L[i]'h).1,ia,ic,?_,⟨ia,ic,rfl,h1,h2,h3⟩,c0,c1,c2,c3,by rw[c4,hv]⟩;show L[i]'h=_;rw[←hv]
theorem g9 (L:List (R.Leaf×eB))(x:R.Leaf)(iv:eB):zI (L++ [(x,iv)])=zI L++ [.string ⟨x.path.toArray⟩,.int .i64 (pk x),.int .i64 x.n,.string ⟨x.text.toArray⟩,iv]:=by
 simp[zI,PC]
theorem Qz {P:eA}(w:eX)(dT sT ty a1:TypeId)(g o a0 a4 size:Nat)(a:Addr)(a2 a7:Nat)(a3:Array eB)(t:TypeId)(cs:List eB)
  (hu:P.underlying dT=some (.slice a1))(hs:(P.info? a1).map (·.size)=some size)
  (hg:w.heap[g]? =some (.cells a3 t (0,0)))(hn:cs.length=Nat.min a2 a0*size)
  (a6:∀j v,cs[j]? =some v→w.cell? (a.add j)=some v)(a5:o+cs.length≤a3.size)(h1:∀v∈cs,v.oneCell' =true):
  (eQ #[dT,sT] ty #[.slice (some ⟨g,o,none⟩) a0 a4,.slice (some a) a2 a7]).run P w=
   .ok (goInt (Nat.min a2 a0)) (w.setRow g (a3.toList.take o++cs++a3.toList.drop (o+cs.length)).toArray):=by
 have hl:=run_loadCells_list (P:=P) w a cs a6;have a8:=run_storeCells_at P g o t cs 0 a3 w hg (by simpa using a5) h1
 cases hq:P.info? a1 with
 |none=>simp[hq]at hs
 |some i=>
  have hi:i.size=size:=by simpa[hq]using hs
  rw[hn]at hl;simp only[iE]at a8;simp only[sG]at hl hn⊢;simp[eQ,run_underlying hu,eD,eK,sizeOf,typeInfo,hq,hi,sG,hl,a8]
theorem CX (a0:List eB)(xs C:List eB)(n i size:Nat)(hi:i≤n)(hx:xs.length=n*size)(hC:C.length=size)(hc:(n+1)*size≤a0.length)(ht:a0.take (n*size)=xs):
  let c1:=a0.take ((i+1)*size)++xs.drop (i*size)++a0.drop ((i+1)*size+(xs.drop (i*size)).length)
  let c2:=c1.take (i*size)++C++c1.drop (i*size+C.length)
  c1.length=a0.length∧c2.length=a0.length∧c2.take ((n+1)*size)=xs.take (i*size)++(C++xs.drop (i*size)):=by
 have e1:(i+1)*size=i*size+size:=by rw[sH,sI]
 have e2:(n+1)*size=n*size+size:=by rw[sH,sI]
 have a4:i*size≤n*size:=sJ _ hi;rw[e2]at hc;rw[e1,e2];generalize i*size=p at*;generalize n*size=q at*;have a3:xs.take p=a0.take p:=by rw[←ht,sL];congr 1;omega
 intro c1 c2;have l1:c1.length=a0.length:=by
  show(a0.take (p+size)++xs.drop p++a0.drop (p+size+(xs.drop p).length)).length=_;simp only[nL,pZ,rA];omega
 have a2:c1.take p=a0.take p:=by
  show(a0.take (p+size)++xs.drop p++a0.drop (p+size+(xs.drop p).length)).take p=_;rw[sM,sN (by rw[pZ];omega),sL];congr 1;omega
 have a1:c1.drop (p+C.length)=xs.drop p++a0.drop (q+size):=by
  show(a0.take (p+size)++xs.drop p++a0.drop (p+size+(xs.drop p).length)).drop (p+C.length)=_;have hl:(a0.take (p+size)).length=p+C.length:=by rw[pZ];omega
  rw[sM,←hl,List.drop_left];congr 2
  rw[rA];omega
 refine⟨l1,?_,?_⟩
 ·show(c1.take p++C++c1.drop (p+C.length)).length=_
  simp only[nL,pZ,rA];omega
 ·show(c1.take p++C++c1.drop (p+C.length)).take (q+size)=_
  rw[a2,a1,a3,sM,←sM C,←sM (a0.take p),sN (by simp only[nL,pZ,rA];omega),nR (by simp only[nL,pZ,rA];omega)]
theorem CW (row:List eB)(xs C:List eB)(n i size:Nat)(hi:i≤n)(hx:xs.length=n*size)(hC:C.length=size)(hc:(n+1)*size≤row.length)(ht:row.take (i*size)=xs.take (i*size)):
  let c1:=row.take (i*size)++C++row.drop (i*size+C.length)
  let c2:=c1.take ((i+1)*size)++xs.drop (i*size)++c1.drop ((i+1)*size+(xs.drop (i*size)).length)
  c1.length=row.length∧c2.length=row.length∧c2.take ((n+1)*size)=xs.take (i*size)++(C++xs.drop (i*size)):=by
 have e1:(i+1)*size=i*size+size:=by rw[sH,sI]
 have e2:(n+1)*size=n*size+size:=by rw[sH,sI]
 have a0:i*size≤n*size:=sJ _ hi;rw[e2]at hc;rw[e1,e2];generalize i*size=p at*;generalize n*size=q at*;intro c1 c2;have l1:c1.length=row.length:=by
  show(row.take p++C++row.drop (p+C.length)).length=_;simp only[nL,pZ,rA];omega
 have h1:c1.take (p+size)=xs.take p++C:=by
  show(row.take p++C++row.drop (p+C.length)).take (p+size)=_;rw[sN (by simp only[nL,pZ];omega),nR (by simp only[nL,pZ];omega),ht]
 refine⟨l1,?_,?_⟩
 ·show(c1.take (p+size)++xs.drop p++c1.drop (p+size+(xs.drop p).length)).length=_
  simp only[nL,pZ,rA];omega
 ·show(c1.take (p+size)++xs.drop p++c1.drop (p+size+(xs.drop p).length)).take (q+size)=_
  rw[h1,sN (by simp only[nL,pZ,rA];omega),nR (by simp only[nL,pZ,rA];omega),sM]
theorem yF (g o j:Nat):(⟨g,o,none⟩:Addr).add j=⟨g,o+j,none⟩:=by unfold Addr.add;split<;>simp_all
theorem GB {P:eA}{t t' e e' ty:TypeId}{i:TypeInfo}{v x:eB}{w:eX}(ht:P.underlying t=some (.slice e))(a0 :P.underlying t' =some (.slice e'))(hi:P.info? e=some i):
  (eP #[t,t'] ty #[v,x]).run P w=(eP #[t,t] ty #[v,x]).run P w:=by
 cases v<;>simp[eP,run_underlying ht,run_underlying a0,sizeOf,typeInfo,hi]
theorem oo {P:eA}(w:eX){ops:Array Oper}{rest:List Oper}{o:Oper}{a:Act}{Q:Exit→Act→eX→Prop}
  (hg:o.guard=none)(s x:mM)(t t' e' :TypeId)(a5:o.op=Op.call {callee:=Callee.builtin sF,args:= #[s,x],argTypes:= #[t,t']})
  (base:Nat)(e:TypeId)(z:eB)(size a0:Nat)(h1:P.underlying t=some (.slice e))(a3 :P.underlying t' =some (.slice e'))(h2:(P.info? e).map (fun i=>(i.zero,i.size,i.bytes))=some (some z,size,a0))(h6:z.cells.size=size)(h7:0<size)
  {v:eB}{n:Nat}{xs:List eB}(a2:w.ownsRow base e size v n xs)(ad:Addr)(m c:Nat)(a1:List eB)(hn:a1.length=m*size)
  (hc:∀j u,a1[j]? =some u→w.cell? (ad.add j)=some u)(hs:a.eval s=v)
  (hx:a.eval x= .slice (some ad) m c)(a4:∀u∈a1,u.oneCell' =true)(b1:n+m≤maxLen)(b2:(n+m)*a0≤140737488355328)(hB:base≤w.heap.size)
  (hK:∀v' w',w'.ownsRow base e size v' (n+m) (xs++a1)→w.grownBy w' v.ownBlock→(∀g,v'.ownBlock=some g→v.ownBlock=some g∨w.heap.size≤g)→wpList P ops Q rest (a.put o.dst v') w'):
  wpList P ops Q (o::rest) a w:=by
 obtain⟨i0,hi,a6,a7,a8⟩:=info_parts h2;obtain⟨v',w',hr,h3,h4,_,h5⟩:=run_append_own_at (P:=P) w base t o.type e i0 z size a0 h1 hi a6 a7 a8 h6 h7 v n xs a2 ad m c a1 hn hc a4 b1 b2 hB;exact sP w hg s x t t' a5 v (.slice (some ad) m c) hs hx v' w' (by rw[GB h1 a3 hi];exact hr) (hK v' w' h3 h4 (fun g hg=>by
  rcases h5 with h5|h5
  ·exact .inl (by rw[←h5];exact hg)
  ·right;rw[h5]at hg;injection hg with hg;omega))
theorem oV {P:eA}(w:eX)(t ty e:TypeId)(i:TypeInfo)(size g a0 a2:Nat)(a:Addr)(m c:Nat)(a3:Array eB)(t0:TypeId)(a1:List eB)(ht:P.underlying t=some (.slice e))(hi:P.info? e=some i)(hs:i.size=size)
  (hg:w.heap[g]? =some (.cells a3 t0 (0,0)))(hn:a1.length=m*size)(a6:∀j v,a1[j]? =some v→w.cell? (a.add j)=some v)(h1:∀v∈a1,v.oneCell' =true)(a4:a0+m≤a2)(a5:a0*size+a1.length≤a3.size):
  (eP #[t,t] ty #[.slice (some ⟨g,0,none⟩) a0 a2,.slice (some a) m c]).run P w= .ok (.slice (some ⟨g,0,none⟩) (a0+m) a2) (w.setRow g (a3.toList.take (a0*size)++a1++a3.toList.drop (a0*size+a1.length)).toArray):=by
 have hl:=run_loadCells_list (P:=P) w a a1 a6;have a7:=run_storeCells_at P g (a0*size) t0 a1 0 a3 w hg (by simpa using a5) h1;rw[hn]at hl;simp only[iE]at a7;have ha:(⟨g,0,none⟩:Addr).add (a0*size)=⟨g,a0*size,none⟩:=by rw[yF,lQ]
 simp[eP,run_underlying ht,sizeOf,typeInfo,hi,hs,eD,a4,eK,hl,ha,a7]
theorem gW {P:eA}(w:eX)(t ty e:TypeId)(i:TypeInfo)(z:eB)(size g o k c:Nat)(a0:Array eB)(t0:TypeId)(ht:P.underlying t=some (.slice e))(hi:P.info? e=some i)(hz:i.zero=some z)(a5:z.cells.size=size)(a3:∀v∈z.cells.toList,v.oneCell' =true)
  (hg:w.heap[g]? =some (.cells a0 t0 (0,0)))(a2:o+size≤a0.size)(_hsz:0<size)(hk:k=1):
  (eL #[t] ty #[.slice (some ⟨g,o,none⟩) k c]).run P w= .ok (.tuple #[]) (w.setRow g (a0.toList.take o++z.cells.toList++a0.toList.drop (o+z.cells.toList.length)).toArray):=by
 subst hk;have a4:(sQ z.cells 1).toList=z.cells.toList:=by
  apply sR;intro j;simp only[sQ,sS,Array.getElem?_map,sI];by_cases hj:j<z.cells.size
  ·simp[hj,Nat.mod_eq_of_lt hj]
  ·simp[hj]
 have a1:=run_storeCells_at P g o t0 z.cells.toList 0 a0 w hg (by simp only[Array.length_toList,iE];omega) a3;simp only[iE]at a1;simp[eL,run_underlying ht,zeroValue,typeInfo,hi,hz,a4,a1]
theorem vr {P:eA}{ops:Array Oper}{o:Oper}{a:Act}{w:eX}{K:Act→eX→Prop}{Q:Exit→Act→eX→Prop}{E:Prop}
  (hg:o.guard=none)(d x:mM)(dT sT:TypeId)(a0:o.op=Op.call {callee:=Callee.builtin sF,args:= #[d,x],argTypes:= #[dT,sT]})
  (v u:eB)(hd:a.eval d=v)(hx:a.eval x=u){v' :eB}{w' :eX}(hr:(eP #[dT,sT] o.type #[v,u]).run P w= .ok v' w')(hK:K (a.put o.dst v') w'):
  if Region.wanted o (yielded ops a.tmps)=true then Oper.wp P o a w K Q else E:=by
 have hw:Region.wanted o (yielded ops a.tmps)=true:=by simp[Region.wanted,hg]
 rw[if_pos hw];unfold Oper.wp;simp[execOp,a0,resolve,invoke,builtin,hd,hx,hr,Result.andThen];exact hK
theorem CY (a0 xs Z:List eB)(m i size:Nat)(hi:i≤m)(hx:xs.length=(m+1)*size)(hZ:Z.length=size)(hc:(m+1)*size≤a0.length)(ht:a0.take ((m+1)*size)=xs):
  let c1:=a0.take (i*size)++xs.drop ((i+1)*size)++a0.drop (i*size+(xs.drop ((i+1)*size)).length)
  let c2:=c1.take (m*size)++Z++c1.drop (m*size+Z.length)
  c1.length=a0.length∧c2.length=a0.length∧c2.take (m*size)=xs.take (i*size)++xs.drop ((i+1)*size):=by
 have e1:(i+1)*size=i*size+size:=by rw[sH,sI]
 have e2:(m+1)*size=m*size+size:=by rw[sH,sI]
 have a3:i*size≤m*size:=sJ _ hi;rw[e2]at hc hx ht;rw[e1];generalize i*size=p at*;generalize m*size=q at*;have a2:xs.take p=a0.take p:=by rw[←ht,sL];congr 1;omega
 intro c1 c2;have l1:c1.length=a0.length:=by
  show(a0.take p++xs.drop (p+size)++a0.drop (p+(xs.drop (p+size)).length)).length=_;simp only[nL,pZ,rA];omega
 have a1:c1.take q=a0.take p++xs.drop (p+size):=by
  show(a0.take p++xs.drop (p+size)++a0.drop (p+(xs.drop (p+size)).length)).take q=_;rw[sN (by simp only[nL,pZ,rA];omega),nR (by simp only[nL,pZ,rA];omega)]
 refine⟨l1,?_,?_⟩
 ·show(c1.take q++Z++c1.drop (q+Z.length)).length=_
  simp only[nL,pZ,rA];omega
 ·show(c1.take q++Z++c1.drop (q+Z.length)).take q=_
  rw[sM,sN (by simp only[pZ];omega),sL,Nat.min_self,a1,a2]
theorem KG {P:eA}(w:eX)(base:Nat)(t ty e:TypeId)(i:TypeInfo)(z:eB)(size a2:Nat)(ht:P.underlying t=some (.slice e))(hi:P.info? e=some i)(hz:i.zero=some z)(a1:i.size=size)(b3:i.bytes=a2)(b9:z.cells.size=size)(b6:0<size)
  (v:eB)(n:Nat)(xs:List eB)(a7:w.ownsRow base e size v n xs)(a:Addr)(m c:Nat)(a0:List eB)(hl:a0.length=m*size)(a4:∀j u,a0[j]? =some u→w.cell? (a.add j)=some u)(h1:∀u∈a0,u.oneCell' =true)
  (b2:n+m≤maxLen)(a3:(n+m)*a2≤140737488355328)(a8:base≤w.heap.size):
  ∃v' w',(eP #[t,t] ty #[v,.slice (some a) m c]).run P w= .ok v' w' ∧w'.ownsRow base e size v' (n+m) (xs++a0)∧((v'.ownBlock=v.ownBlock∧w.grownBy w' v.ownBlock)∨(v'.ownBlock=some w.heap.size∧w.grownBy w' none)):=by
 obtain⟨v',w',hr,h2,h3,_,h5⟩:=run_append_own_at (P:=P) w base t ty e i z size a2 ht hi hz a1 b3 b9 b6 v n xs a7 a m c a0 hl a4 h1 b2 a3 a8;refine⟨v',w',hr,h2,?_⟩;have b4 :=a7;obtain⟨b8,ho⟩:=a7;rcases ho with⟨rfl,rfl⟩|⟨g,cap,b5,rfl,hg,hh,hn,c6,hs,b7⟩
 ·have e0:(Value.slice none 0 0).ownBlock=none:=rfl
  rw[e0]at h3 h5⊢;rcases h5 with h5|h5
  ·exact .inl ⟨h5,h3⟩
  ·exact .inr ⟨h5,h3⟩
 ·by_cases a6:n+m≤cap
  ·have a5:=oV (P:=P) w t ty e i size g n cap a m c b5 e a0 ht hi a1 hh hl a4 h1 a6 (by
    rw[hl,hs,←sH];exact sJ _ a6)
   rw[hr]at a5;injection a5 with e1 e2
   subst e1;exact .inl ⟨rfl,h3⟩
  ·unfold maxLen at b2
   have a9:(eK i.size n (.slice (some ⟨g,0,none⟩) n cap)).run P w.drew= .ok xs.toArray w.drew:=by
    rw[a1];refine run_firstCells_some w.drew size n ⟨g,0,none⟩ n cap xs b8 (fun j u hj=> ?_);rw[yF,lQ];rw[←b7,nH]at hj;split at hj
    ·show w.cell? _=_
     simp only[sE,hh];simpa using hj
    ·cases hj
   have b1:Src P i.size t (.slice (some a) m c) m a0 w:=by
    rw[a1];exact Src.ofSlice w ht a m c a0 hl a4 h1
   have a5:=run_append_grow_src (P:=P) w t t ty e i z ht hi hz (some ⟨g,0,none⟩) n cap xs a9 (.slice (some a) m c) m a0 b1 (by omega) (by omega) (by rw[b3];exact growslice_fits (by omega) a3);rw[hr]at a5;injection a5 with e1 e2
   subst e1 e2;refine .inr ⟨rfl,⟨rfl,rfl,rfl,by simp,fun k hk _=> ?_⟩⟩;exact heap_alloc_old w.drew _ hk
theorem jf {P:eA}(w:eX){ops:Array Oper}{rest:List Oper}{o:Oper}{a:Act}{Q:Exit→Act→eX→Prop}
  (hg:o.guard=none)(s x:mM)(t:TypeId)(a4:o.op=Op.call {callee:=Callee.builtin sF,args:= #[s,x],argTypes:= #[t,t]})
  (base:Nat)(e:TypeId)(z:eB)(size a0:Nat)(h1:P.underlying t=some (.slice e))(h2:(P.info? e).map (fun i=>(i.zero,i.size,i.bytes))=some (some z,size,a0))(h6:z.cells.size=size)(h7:0<size)
  {v:eB}{n:Nat}{xs:List eB}(a2:w.ownsRow base e size v n xs)(ad:Addr)(m c:Nat)(a1:List eB)(hn:a1.length=m*size)
  (hc:∀j u,a1[j]? =some u→w.cell? (ad.add j)=some u)(hs:a.eval s=v)
  (hx:a.eval x= .slice (some ad) m c)(a3:∀u∈a1,u.oneCell' =true)(b1:n+m≤maxLen)(b2:(n+m)*a0≤140737488355328)(hB:base≤w.heap.size)
  (hK:∀v' w',w'.ownsRow base e size v' (n+m) (xs++a1)→((v'.ownBlock=v.ownBlock∧w.grownBy w' v.ownBlock)∨(v'.ownBlock=some w.heap.size∧w.grownBy w' none))→wpList P ops Q rest (a.put o.dst v') w'):
  wpList P ops Q (o::rest) a w:=by
 obtain⟨i0,hi,a5,a6,a7⟩:=info_parts h2;obtain⟨v',w',hr,h3,h4⟩:=KG (P:=P) w base t o.type e i0 z size a0 h1 hi a5 a6 a7 h6 h7 v n xs a2 ad m c a1 hn hc a3 b1 b2 hB;exact sP w hg s x t t a4 v (.slice (some ad) m c) hs hx v' w' hr (hK v' w' h3 h4)
def YH (p:Nat×Nat):eB:= .agg #[.int .i64 (p.1:Int),.int .i64 (p.2:Int)]
theorem cL:Tryz.prog.keyTypeAt 2 198=true:=by kernel_rfl
theorem f_:Tryz.prog.tiled 2 198=true:=by kernel_rfl
theorem QD:Tryz.prog.underlying 198=some (.array 2 3):=by kernel_rfl
theorem j5:WideMaps.KeyLaw sU 198:=deep_law (m:=2) (by decide) cL f_ (by rw[QD])
theorem Oi (d:Nat)(n:Int)(h1: -9223372036854775808≤n)(h2:n≤9223372036854775807):Tryz.prog.keyLits (d+1) 3 [.int .i64 n]=some [.int .i64 n]:=by
 unfold sV;rw[show Tryz.prog.underlying 3=some (.int .i64)from by kernel_rfl];have a0:(Lit.int .i64 n).wf=true:=by
  show(decide ((sW).min≤n)&&decide (n≤(sW).max))=true;rw[show(sW).min= -9223372036854775808 from by decide,show(sW).max=9223372036854775807 from by decide];simp[h1,h2]
 simp[a0]
theorem UC (p:Nat×Nat)(h1:p.1≤100)(h2:p.2≤100):∃l,keyOf sU 198 (YH p)=some l:=by
 obtain⟨a,b⟩:=p;simp only at h1 h2;obtain⟨d,hd⟩:∃d,Tryz.prog.types.size=d+1:=⟨Tryz.prog.types.size-1,by
  have:decide (0<Tryz.prog.types.size)=true:=by kernel_rfl
  have:=of_decide_eq_true this;omega⟩
 unfold keyOf;rw[QD];simp only;rw[show Tryz.prog.keyType 198=true from by kernel_rfl,hd];have hf:Value.formed sU 198 (YH (a,b))=true:=by
  unfold YH Value.formed;rw[QD];show(2==Tryz.prog.cellsOf 198)=true;kernel_rfl
 rw[hf];have hl:Tryz.prog.keyLits (d+1+1) 198 (YH (a,b)).cells.toList=some [.int .i64 (a:Int),.int .i64 (b:Int)]:=by
  unfold sV;rw[QD];show(if([Value.int .i64 (a:Int),.int .i64 (b:Int)]).length=Tryz.prog.cellsOf 198 then _ else _)=_;rw[show Tryz.prog.cellsOf 198=2 from by kernel_rfl,show Tryz.prog.cellsOf 3=1 from by kernel_rfl];simp only[nM,pC,if_true];have e1:=Oi d (a:Int) (by omega) (by omega);have e2:=Oi d (b:Int) (by omega) (by omega);have c0:(YH (a,b)).cells.toList=[Value.int .i64 (a:Int),.int .i64 (b:Int)]:=rfl;rw[c0];simp[List.range,List.range.loop,List.mapM_cons,e1,e2]
 rw[hl];exact⟨_,rfl⟩
def KE (w:eX)(mb:Nat)(E:List ((Nat×Nat)×eB)):Prop:=∃es clock,w.heap[mb]? =some (.map es clock)∧es.toList.map (fun e=>(e.key,e.val))=E.map (fun p=>(YH p.1,p.2))∧∀p∈E,p.1.1≤100∧p.1.2≤100
theorem Cc {p q:Nat×Nat}(h:YH p=YH q):p=q:=by
 unfold YH at h;injection h with h
 have h1:=congrArg Array.toList h;simp only[List.cons.injEq,Value.int.injEq,true_and,and_true]at h1;obtain⟨h1,h2⟩:=h1;exact Prod.ext (by exact_mod_cast h1) (by exact_mod_cast h2)
theorem Ob {w:eX}{E:List ((Nat×Nat)×eB)}{es:List MapEntry}(he:es.map (fun e=>(e.key,e.val))=E.map (fun p=>(YH p.1,p.2)))(hE:∀p∈E,p.1.1≤100∧p.1.2≤100)(k:Nat×Nat)(h1:k.1≤100)(h2:k.2≤100):
  ((Instr.findKey 198 (YH k) es).run sU w= .ok none w∧∀p∈E,p.1≠k)∨∃j v,(Instr.findKey 198 (YH k) es).run sU w= .ok (some (j,v)) w∧E[j]? =some (k,v):=by
 obtain⟨l,hl⟩:=UC k h1 h2;have a1:∀e∈es,∃l,keyOf sU 198 e.key=some l:=fun e hm=>by
  have:(e.key,e.val)∈es.map (fun e=>(e.key,e.val)):=sY hm;rw[he]at this;obtain⟨p,hp,a0⟩:=rR.1 this;have hk:YH p.1=e.key:=(Prod.mk.inj a0).1;rw[←hk];exact UC p.1 (hE p hp).1 (hE p hp).2
 rcases j5.find w hl es a1 with⟨e1,e2⟩|⟨j,e,e1,e2,e3⟩
 ·refine .inl ⟨e1,fun p hp a3=> ?_⟩
  have:(YH p.1,p.2)∈E.map (fun p=>(YH p.1,p.2)):=sY hp;rw[←he]at this;obtain⟨e,hm,a0⟩:=rR.1 this;exact e2 e hm (by rw[←a3];exact(Prod.mk.inj a0).1)
 ·refine .inr ⟨j,e.val,e1,?_⟩
  have hg:(es.map (fun e=>(e.key,e.val)))[j]? =some (e.key,e.val):=by rw[sZ,e2];rfl
  rw[he,sZ]at hg
  cases a2:E[j]? with
  |none=>rw[a2]at hg;cases hg
  |some p=>
   rw[a2]at hg;have a0:=Option.some.inj hg;have hk:YH p.1=YH k:=(Prod.mk.inj a0).1.trans e3;have hv:p.2=e.val:=(Prod.mk.inj a0).2;rw[←hv,←Cc hk]
theorem oU {w:eX}{mb:Nat}{E:List ((Nat×Nat)×eB)}(h:KE w mb E)(k:Nat×Nat)(h1:k.1≤100)(h2:k.2≤100):
  ((Instr.lookup 150 (.map (some mb)) (YH k) true).run sU w= .ok (.tuple #[.slice none 0 0,.bool false]) w∧∀p∈E,p.1≠k)∨∃v,(Instr.lookup 150 (.map (some mb)) (YH k) true).run sU w= .ok (.tuple #[v,.bool true]) w∧(k,v)∈E:=by
 obtain⟨es,a0,hb,he,hE⟩:=h;obtain⟨l,hl⟩:=UC k h1 h2;have hu:Tryz.prog.underlying 150=some (.map 198 93):=by kernel_rfl
 have a2:=fun em=>j5.check w em hl
 have a1:(getObj mb).run sU w= .ok (.map es a0) w:=by simp[getObj,Sem.run,hb]
 have hz:(zeroValue 93).run sU w= .ok (.slice none 0 0) w:=by kernel_rfl
 rcases Ob (w:=w) he hE k h1 h2 with⟨e1,e2⟩|⟨j,v,e1,e2⟩
 ·refine .inl ⟨?_,e2⟩
  unfold Instr.lookup;simp[go_sem,hu,a1,a2,e1,hz]
 ·refine .inr ⟨v,?_,List.mem_of_getElem? e2⟩
  unfold Instr.lookup;simp[go_sem,hu,a1,a2,e1]
theorem oS {w:eX}{mb:Nat}{E:List ((Nat×Nat)×eB)}(h:KE w mb E)(k:Nat×Nat)(h1:k.1≤100)(h2:k.2≤100)(v:eB):
  ∃w' E',(Instr.mapUpdate 150 (.map (some mb)) (YH k) v).run sU w= .ok () w' ∧KE w' mb E' ∧(∀p∈E',p=(k,v)∨p∈E)∧zf (fun b=>b=mb) w w' :=by
 obtain⟨es,a0,hb,he,hE⟩:=h;obtain⟨l,hl⟩:=UC k h1 h2;have hu:Tryz.prog.underlying 150=some (.map 198 93):=by kernel_rfl
 have a6:=fun em=>j5.check w em hl
 have b1:=j5.stays w hl;have a2:(getObj mb).run sU w= .ok (.map es a0) w:=by simp[getObj,Sem.run,hb]
 have a8:mb<w.heap.size:=(lE.1 hb).1;have a3:∀o,(setObj mb o).run sU w= .ok () {w with heap:=w.heap.setIfInBounds mb o}:=fun o=>by simp[setObj,Sem.run,hb]
 have a1:∀o,zf (fun b=>b=mb) w {w with heap:=w.heap.setIfInBounds mb o}:=fun o=>⟨rfl,rfl,rfl,by simp,fun b hb hn=>by
  show(w.heap.setIfInBounds mb o)[b]? =_;rw[Array.getElem?_setIfInBounds_ne (fun e=>hn e.symm)]⟩
 rcases Ob (w:=w) he hE k h1 h2 with⟨e1,e2⟩|⟨j,u,e1,e2⟩
 ·refine⟨{w with heap:=w.heap.setIfInBounds mb (.map (es.push {key:=YH k,val:=v,born:=a0}) (a0+1))},E++ [(k,v)],?_,⟨es.push {key:=YH k,val:=v,born:=a0},a0+1,?_,?_,?_⟩,?_,a1 _⟩
  ·unfold Instr.mapUpdate
   simp[go_sem,hu,a2,a6,e1,a3]
  ·show(w.heap.setIfInBounds mb _)[mb]? =_
   simp[tA,a8]
  ·rw[Array.toList_push,tB,he,tB];rfl
  ·intro p hp
   rcases iZ.1 hp with hp|hp
   ·exact hE p hp
   ·rw[iV]at hp;rw[hp];exact⟨h1,h2⟩
  ·intro p hp
   rcases iZ.1 hp with hp|hp
   ·exact .inr hp
   ·rw[iV]at hp;exact .inl hp
 ·have hj:j<E.length:=(List.getElem?_eq_some_iff.1 e2).1
  have a9:es.size=E.length:=by
   have:=congrArg List.length he;simpa using this
  have a4:j<es.size:=by omega
  have a5:es[j].key=YH k:=by
   have h3:(es.toList.map (fun e=>(e.key,e.val)))[j]? =(E.map (fun p=>(YH p.1,p.2)))[j]? :=by rw[he]
   rw[sZ,sZ,e2]at h3;simp[a4]at h3;exact h3.1
  refine⟨{w with heap:=w.heap.setIfInBounds mb (.map (es.modify j fun e=>{e with key:=YH k,val:=v}) a0)},E.set j (k,v),?_,⟨es.modify j fun e=>{e with key:=YH k,val:=v},a0,?_,?_,?_⟩,?_,a1 _⟩
  ·unfold Instr.mapUpdate
   simp[go_sem,hu,a2,a6,e1,a4,a5,b1,a3]
  ·show(w.heap.setIfInBounds mb _)[mb]? =_
   simp[tA,a8]
  ·apply sR
   intro i;have h3:(es.toList.map (fun e=>(e.key,e.val)))[i]? =(E.map (fun p=>(YH p.1,p.2)))[i]? :=by rw[he]
   rw[sZ,sZ]at h3⊢;rw[List.getElem?_set,sS,Array.getElem?_modify];rw[sS]at h3;by_cases a7:j=i
   ·subst a7
    simp[a4,hj]
   ·simp only[a7,if_false]
    exact h3
  ·intro p hp
   rcases rE hp with hp|hp
   ·exact hE p hp
   ·rw[hp];exact⟨h1,h2⟩
  ·intro p hp
   rcases rE hp with hp|hp
   ·exact .inr hp
   ·exact .inl hp
