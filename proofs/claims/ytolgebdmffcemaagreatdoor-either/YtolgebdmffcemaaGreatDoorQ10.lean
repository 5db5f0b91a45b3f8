import Derived.Laws.Strings
import Derived.Laws.Concat
import Derived.Lib.ItoaNum
set_option linter.all false
set_option maxHeartbeats 20000000
set_option maxRecDepth 1000000
open UInt8 renaming ofNat→mA,le_antisymm→mW,not_lt→mX,lt_or_le→mZ
open List renaming mem_cons_self→eY,mem_cons_of_mem→hU,length_append→mB,length_cons→mC,take_succ_eq_append_getElem→mD,drop_eq_getElem_cons→mE,all_append→mF,take_of_length_le→mG,take_append_drop→mH,nil_append→mJ,cons_append→lN,mem_cons→iC,any_eq_true→mL,all_eq_true→mO,length_nil→mS,range'→lS,filter_cons→nA,any_eq_false→nB,rel_of_pairwise_cons→nC,any_cons→nD,findIdx_le_length→nG,mem_append→nJ,filter_sublist→nK,singleton_append→nL,mem_filter→nM,length_filter_le→nN,length_take→nP,length_drop→nQ,mem_of_getElem?→iK
open Bool renaming true_and→mI,eq_false_iff→mM,not_true→eN,false_and→mP,false_eq_true→eL,true_or→mQ,and_eq_true→mR,or_eq_true→mT,or_eq_false_iff→mV,false_or→nE,or_false→nF,or_self→nH,or_true→nI,not_false→eM
open Nat renaming lt_or_eq_of_le→mU,lt_or_ge→nR
namespace Go.Proofs.YtolgebdmffcemaaGreatDoor
def j0a:=@Nat.le_refl
def j0b:=@Nat.lt_of_lt_of_le
def j0c:=@List.getElem_mem
def j0d:=@List.getElem?_eq_getElem
def j0e:=@Array.getElem?_eq_some_iff
def j0f:=@Nat.le_trans
namespace R
def nb (c:UInt8):Bool:=(decide (97≤c.toNat)&&decide (c.toNat≤122))||(decide (48≤c.toNat)&&decide (c.toNat≤57))
def isName (l:List UInt8):Bool:=l.all nb&&(decide (1≤l.length)&&decide (l.length≤8))
def spl:List UInt8→List (List UInt8)
 |[]=> [[]]
 |c::r=>if c=47 then []::spl r else match spl r with
  |[]=> [[c]]
  |h::t=>(c::h)::t
def isPath (l:List UInt8):Bool:=decide (l.length≤100)&&((spl l).all isName&&decide ((spl l).length≤4))
def tb (c:UInt8):Bool:=decide (32≤c.toNat)&&(decide (c.toNat≤126)&& !decide (c.toNat=59))
def isText (l:List UInt8):Bool:=decide (l.length≤20)&&l.all tb
def leads (a b:List UInt8):Bool:=decide (a.length<b.length)&&(b.take a.length==a&&b[a.length]? ==some 47)
def aheadL:List (List UInt8)→List (List UInt8)→Bool
 |x::xs,y::ys=>if x=y then aheadL xs ys else Op.bytesLess x y
 |x,y=>decide (x.length<y.length)
def ahead (a b:List UInt8):Bool:=aheadL (spl a) (spl b)
structure Leaf where
 path:List UInt8
 kind:Int
 n:Int
 text:List UInt8
 items:List (List UInt8)
def none (p:List UInt8):Leaf:={path:=p,kind:=0,n:=0,text:=[],items:=[]}
def at_ (t:List Leaf)(p:List UInt8):Leaf:=(t.find? fun x=>x.path==p).getD (none p)
def setL (x:Leaf):Bool→List Leaf→List Leaf
 |done,[]=>if done then []else [x]
 |done,y::ys=>
  (if !done&&(ahead x.path y.path||x.path==y.path)then [x]else [])++((if y.path==x.path then []else [y])++setL x (done||(ahead x.path y.path||x.path==y.path)) ys)
def set (t:List Leaf)(x:Leaf):List Leaf:=setL x (decide (x.kind=0)) t
def blocked (t:List Leaf)(p:List UInt8):Bool:=t.any fun x=>leads x.path p||leads p x.path
def itemL (s:List UInt8):Bool→List (List UInt8)→List (List UInt8)
 |done,[]=>if done then []else [s]
 |done,y::ys=>
  (if !done&&(Op.bytesLess s y||s==y)then [s]else [])++((if y==s then []else [y])++itemL s (done||(Op.bytesLess s y||s==y)) ys)
def item (l:List (List UInt8))(s:List UInt8):List (List UInt8):=itemL s false l
def joinI:List (List UInt8)→List UInt8
 |[]=> []
 |[x]=>x
 |x::y::r=>x++(59::joinI (y::r))
def written (x:Leaf):List UInt8:=if x.kind=35 then 35::Lib.itoa x.n else if x.kind=61 then 61::x.text else 42::joinI x.items
def line (x:Leaf):List UInt8:=x.path++(32::(written x++ [10]))
def Written (t:List Leaf):List UInt8:=t.flatMap line
def sumB:List UInt8→Nat
 |[]=>0
 |c::r=>c.toNat+sumB r
def recHead (letter:UInt8)(body:List UInt8):List UInt8:=letter::mA (body.length/256)::mA (body.length % 256)::body
def record (letter:UInt8)(body:List UInt8):List UInt8:=recHead letter body++ [mA ((1+sumB (recHead letter body)) % 251)]
structure Br where
 name:List UInt8
 head:Nat
 work:List Leaf
structure Cm where
 tree:List Leaf
 parents:List Nat
structure St where
 cms:List Cm
 brs:List Br
 packed:List UInt8
def fnd (l:List Br)(n:List UInt8):Nat:=l.findIdx fun b=>b.name==n
def fndI (l:List Br)(n:List UInt8):Int:=if fnd l n<l.length then(fnd l n:Int)else-1
structure Good (x:Leaf):Prop where
 path:x.path.length≤1000
 hi:x.n≤1000000000000
 lo: -1000000000000≤x.n
 text:x.text.length≤1000
 many:x.items.length≤100
 item:∀i∈x.items,i.length≤1000
def joinF:List (List UInt8)→List UInt8
 |[]=> []
 |x::r=>(59::x)++joinF r
theorem joinI_eq:∀(x:List UInt8) (r:List (List UInt8)),joinI (x::r)=x++joinF r
 |x,[]=>by simp[joinI,joinF]
 |x,y::r=>by rw[joinI,joinI_eq y r];simp[joinF]
theorem VS:∀(l:List (List UInt8)),(∀i∈l,i.length≤1000)→(joinF l).length≤l.length*1001
 |[],_=>by simp[joinF]
 |y::r,h=>by
  have h1:=h y (eY ..);have h2:=VS r fun i hi=>h i (hU _ hi)
  simp only[joinF,mB,mC];omega
theorem joinI_length (l:List (List UInt8))(h:∀i∈l,i.length≤1000):(joinI l).length≤l.length*1001:=by
 match l with
 |[]=>simp[joinI]
 |y::r=>
  have h1:=h y (eY ..);have h2:=VS r fun i hi=>h i (hU _ hi)
  rw[joinI_eq];simp only[mB,mC];omega
theorem size_list (s:ByteArray):s.data.toList.length=s.size:=by rw[Array.length_toList];rfl
theorem GY (s:ByteArray)(k:Nat)(h:k<s.size):s.data.toList.take (k+1)=s.data.toList.take k++ [s[k]]:=by
 rw[mD (by rw[size_list];exact h)];rfl
theorem fZ (s:ByteArray)(k:Nat)(h:k<s.size):s.data.toList.drop k=s[k]::s.data.toList.drop (k+1):=by
 rw[mE (by rw[size_list];exact h)];rfl
theorem take_all (s:ByteArray)(p:UInt8→Bool)(k:Nat)(h:k<s.size)(ha:(s.data.toList.take k).all p=true)(hp:p s[k]=true):(s.data.toList.take (k+1)).all p=true:=by
 rw[GY s k h,mF,ha];simp[hp]
theorem Kw (s:ByteArray)(p:UInt8→Bool)(k:Nat)(h:¬k<s.size)(ha:(s.data.toList.take k).all p=true):s.data.toList.all p=true:=by
 rwa[mG (by rw[size_list];omega)]at ha
theorem Gw (s:ByteArray)(p:UInt8→Bool)(k:Nat)(h:k<s.size)(hp:p s[k]=false):s.data.toList.all p=false:=by
 rw[←mH k s.data.toList,fZ s k h,mF,List.all_cons,hp];simp
theorem isName_bad (s:ByteArray)(k:Nat)(h:k<s.size)(hp:nb s[k]=false):isName s.data.toList=false:=by
 unfold isName;rw[Gw s nb k h hp];rfl
theorem isName_end (s:ByteArray)(k:Nat)(h:¬k<s.size)(ha:(s.data.toList.take k).all nb=true):isName s.data.toList=(decide (1≤(s.size:Int))&&decide ((s.size:Int)≤8)):=by
 unfold isName;rw[Kw s nb k h ha,size_list,mI];congr 1<;>exact decide_eq_decide.2 (by omega)
theorem isText_long (s:ByteArray)(h:20<(s.size:Int)):isText s.data.toList=false:=by
 unfold isText;rw[size_list,decide_eq_false (by omega)];rfl
theorem isText_bad (s:ByteArray)(k:Nat)(h:k<s.size)(hp:tb s[k]=false):isText s.data.toList=false:=by
 unfold isText;rw[Gw s tb k h hp,Bool.and_false]
theorem isText_end (s:ByteArray)(k:Nat)(h:¬k<s.size)(hs:¬20<(s.size:Int))(ha:(s.data.toList.take k).all tb=true):isText s.data.toList=true:=by
 unfold isText;rw[Kw s tb k h ha,size_list,Bool.and_true];exact decide_eq_true (by omega)
theorem spl_plain:∀(l:List UInt8),(∀c∈l,c≠47)→spl l=[l]
 |[],_=>rfl
 |c::r,h=>by
  have hr:=spl_plain r fun x hx=>h x (hU _ hx)
  rw[spl,if_neg (h c (eY ..)),hr]
theorem spl_cut:∀(l r:List UInt8),(∀c∈l,c≠47)→spl (l++47::r)=l::spl r
 |[],r,_=>by rw[mJ,spl,if_pos rfl]
 |c::l,r,h=>by
  have hr:=spl_cut l r fun x hx=>h x (hU _ hx)
  rw[lN,spl,if_neg (h c (eY ..)),hr]
theorem spl_length:∀(l:List UInt8),(spl l).length≤l.length+1∧1≤(spl l).length
 |[]=>⟨j0a _,j0a _⟩
 |c::r=>by
  have hr:=spl_length r;rw[spl];split
  ·simp only[mC];omega
  ·split
   ·simp
   ·rename_i h t e;rw[e]at hr;simp only[mC]at hr⊢;omega
theorem spl_mem:∀(l:List UInt8),∀p∈spl l,p.length≤l.length
 |[],p,h=>by simp[spl]at h;subst h;simp
 |c::r,p,h=>by
  have hr:=spl_mem r;rw[spl]at h;split at h
  ·rcases iC.1 h with rfl|h
   ·simp
   ·have:=hr p h;simp only[mC];omega
  ·split at h
   ·simp at h;subst h;simp
   ·rename_i a t e
    rcases iC.1 h with rfl|h
    ·have:=hr a (by rw[e];exact eY ..);simp only[mC];omega
    ·have:=hr p (by rw[e];exact hU _ h);simp only[mC];omega
theorem any_snoc {α:Type}(l:List α)(p:α→Bool)(k:Nat)(h:k<l.length)(ha:(l.take k).any p=false)(hp:p l[k]=false):(l.take (k+1)).any p=false:=by
 rw[mD h,List.any_append,ha];simp[hp]
theorem any_end {α:Type}(l:List α)(p:α→Bool)(k:Nat)(h:¬k<l.length)(ha:(l.take k).any p=false):l.any p=false:=by
 rwa[mG (by omega)]at ha
theorem any_hit {α:Type}(l:List α)(p:α→Bool)(k:Nat)(h:k<l.length)(hp:p l[k]=true):l.any p=true:=
 mL.2 ⟨l[k],j0c h,hp⟩
theorem all_snoc {α:Type}(l:List α)(p:α→Bool)(k:Nat)(h:k<l.length)(ha:(l.take k).all p=true)(hp:p l[k]=true):(l.take (k+1)).all p=true:=by
 rw[mD h,mF,ha];simp[hp]
theorem all_end {α:Type}(l:List α)(p:α→Bool)(k:Nat)(h:¬k<l.length)(ha:(l.take k).all p=true):l.all p=true:=by
 rwa[mG (by omega)]at ha
theorem all_bad {α:Type}(l:List α)(p:α→Bool)(k:Nat)(h:k<l.length)(hp:p l[k]=false):l.all p=false:=by
 rw[mM];intro ha;have:=mO.1 ha l[k] (j0c h);rw[hp]at this;cases this
theorem item_length (s:List UInt8):∀(l:List (List UInt8)) (d:Bool),(itemL s d l).length≤l.length+1
 |[],d=>by cases d<;>simp[itemL]
 |y::ys,d=>by
  have h1:=item_length s ys (d||(Op.bytesLess s y||s==y));have h2:d=true→∀l,(itemL s d l).length≤l.length:=by
   intro hd;subst hd;intro l;induction l with
   |nil=>simp[itemL]
   |cons a t ih=>rw[itemL];simp only[eN,mP,eL,if_false,mJ,mB,mQ,mC];split<;>simp<;>omega
  have h3:∀l,(itemL s true l).length≤l.length:=by
   intro l;induction l with
   |nil=>simp[itemL]
   |cons a t ih=>rw[itemL];simp only[eN,mP,eL,if_false,mJ,mB,mQ,mC];split<;>simp<;>omega
  rw[itemL];by_cases hc:(!d&&(Op.bytesLess s y||s==y))=true
  ·have hd:(d||(Op.bytesLess s y||s==y))=true:=by
    simp only[mR]at hc;rw[hc.2];simp
   rw[if_pos hc,hd];have:=h3 ys;simp only[mB,mC,mS];split<;>simp<;>omega
  ·rw[if_neg hc]
   simp only[mB,mC,mS];split<;>simp<;>omega
theorem line_length (x:Leaf)(hw:(written x).length≤200000)(hp:x.path.length≤1000):(line x).length≤1000000:=by
 simp only[line,mB,mC,mS];omega
theorem Written_snoc (t:List Leaf)(k:Nat)(h:k<t.length):Written (t.take (k+1))=Written (t.take k)++line t[k]:=by
 unfold Written;rw[mD h,List.flatMap_append];simp
theorem K6:∀(a b:List UInt8),sumB (a++b)=sumB a+sumB b
 |[],b=>by simp[sumB]
 |c::a,b=>by rw[lN,sumB,K6 a b,sumB];omega
theorem sumB_le:∀(a:List UInt8),sumB a≤a.length*255
 |[]=>by simp[sumB]
 |c::a=>by have:=sumB_le a;have hc:c.toNat<256:=c.toNat_lt;simp only[sumB,mC];omega
theorem sumB_take (s:List UInt8)(k:Nat)(h:k<s.length):sumB (s.take (k+1))=sumB (s.take k)+s[k].toNat:=by
 rw[mD h,K6];simp[sumB]
end R
namespace R
def less (n:List UInt8)(b:Br):Bool:=Op.bytesLess b.name n
def pos (l:List Br)(n:List UInt8):Nat:=l.findIdx fun b=> !less n b
def insB (l:List Br)(b:Br):List Br:=l.take (pos l b.name)++(b::l.drop (pos l b.name))
def headNew (st:St)(b:Br):St:={st with brs:=insB st.brs b,packed:=st.packed++record 66 (mA b.head::b.name)}
end R
namespace R
def treeOf (st:St)(n:Nat):List Leaf:=if n=0 then []else((st.cms[n-1]?).map (·.tree)).getD []
def headOf (st:St)(n:List UInt8):Nat:=((st.brs[fnd st.brs n]?).map (·.head)).getD 0
def made (st:St)(name fr:List UInt8)(fork:Bool):Int×St:=
 if isName name=false then(1,st)
 else if fork=true∧fndI st.brs fr<0 then(5,st)
 else if 0≤fndI st.brs name then(9,st)
 else if 6≤st.brs.length then(4,st)
 else(0,headNew st {name:=name,head:=if fork then headOf st fr else 0,work:=treeOf st (if fork then headOf st fr else 0)})
theorem fndI_cases (l:List Br)(n:List UInt8):(fndI l n= -1∧¬fnd l n<l.length)∨(fndI l n=(fnd l n:Int)∧fnd l n<l.length):=by
 unfold fndI;split
 ·exact .inr ⟨rfl,by assumption⟩
 ·exact .inl ⟨rfl,by assumption⟩
structure dp (st:St):Prop where
 few:st.cms.length≤255
 head:∀b∈st.brs,b.head≤st.cms.length
end R
namespace R
def same (a b:Leaf):Bool:=if a.kind=0∨b.kind=0 then decide (a.kind=b.kind)else written a==written b
def inL (l:List (List UInt8))(s:List UInt8):Bool:=l.any fun y=>y==s
def bagA (b t:List (List UInt8))(o:List (List UInt8)):List (List UInt8):=o.foldl (fun acc s=>if inL t s|| !inL b s then item acc s else acc) []
def bagB (b:List (List UInt8))(acc t:List (List UInt8)):List (List UInt8):=t.foldl (fun acc s=>if inL b s then acc else item acc s) acc
def bagJ (b o t:List (List UInt8)):List (List UInt8):=bagB b (bagA b t o) t
def baseN (base:Leaf)(k:Int):Int:=if base.kind=k then base.n else 0
def baseI (base:Leaf)(k:Int):List (List UInt8):=if base.kind=k then base.items else []
def bad (e:Int):Leaf×Int:=(none [],e)
def counterJ (p:List UInt8)(n:Int):Leaf×Int:=if 1000000000<n∨n< -1000000000 then bad 8 else({path:=p,kind:=35,n:=n,text:=[],items:=[]},0)
def bagV (p:List UInt8)(l:List (List UInt8)):Leaf×Int:=if 8<l.length then bad 4 else({path:=p,kind:=if l=[]then 0 else 42,n:=0,text:=[],items:=l},0)
def later (a b:List UInt8):List UInt8:=if Op.bytesLess a b then b else a
def joinedV (base ours theirs:Leaf):Leaf×Int:=
 if same ours base=true then(theirs,0)
 else if same theirs base=true then(ours,0)
 else if ours.kind=0 then(theirs,0)
 else if theirs.kind=0 then(ours,0)
 else if ours.kind≠theirs.kind then bad 6
 else if ours.kind=35 then counterJ ours.path (ours.n+theirs.n-baseN base 35)
 else if ours.kind=61 then({path:=ours.path,kind:=61,n:=0,text:=later ours.text theirs.text,items:=[]},0)
 else bagV ours.path (bagJ (baseI base ours.kind) ours.items theirs.items)
def allP (base ours theirs:List Leaf):List (List UInt8):=((base++(ours++theirs)).foldl set []).map (·.path)
def valJ (base ours theirs:List Leaf)(p:List UInt8):Leaf×Int:=joinedV (at_ base p) (at_ ours p) (at_ theirs p)
def leafJ (base ours theirs:List Leaf)(p:List UInt8):List Leaf:=if(valJ base ours theirs p).1.kind=0 then []else [{(valJ base ours theirs p).1 with path:=p}]
def outJ (base ours theirs:List Leaf)(ps:List (List UInt8)):List Leaf:=ps.flatMap (leafJ base ours theirs)
def errJ (base ours theirs:List Leaf)(ps:List (List UInt8)):Int:=((ps.find? fun p=> !decide ((valJ base ours theirs p).2=0)).map fun p=>(valJ base ours theirs p).2).getD 0
def tangled (t:List Leaf):Bool:=t.any fun x=>blocked t x.path
def endJ (t:List Leaf):List Leaf×Int:=if tangled t=true then([],7)else if 24<t.length then([],4)else(t,0)
def joinP (base ours theirs:List Leaf)(ps:List (List UInt8)):List Leaf×Int:=
 if errJ base ours theirs ps≠0 then([],errJ base ours theirs ps)else endJ (outJ base ours theirs ps)
def joinT (base ours theirs:List Leaf):List Leaf×Int:=joinP base ours theirs (allP base ours theirs)
def parsC (cms:List Cm)(m:Nat):List Nat:=((cms[m-1]?).map (·.parents)).getD []
def treeC (cms:List Cm)(n:Nat):List Leaf:=if n=0 then []else((cms[n-1]?).map (·.tree)).getD []
end R
def mk (ps:Nat→List Nat):Nat→(Nat→Bool)→Nat→Bool
 |0,f=>f
 |i+1,f=>mk ps i (if f (i+1)=true then fun j=>f j||decide (j∈ps (i+1))else f)
namespace R
def mark (cms:List Cm)(n:Nat):Nat→Bool:=mk (parsC cms) cms.length (fun j=>decide (j=n∧0<n))
def comm (cms:List Cm)(a b i:Nat):Bool:=mark cms a i&&mark cms b i
def lastIn (cms:List Cm)(a b i k:Nat):Bool:=(lS k (cms.length+1-k)).all fun k=> !(comm cms a b k&&mark cms k i)
def isLast (cms:List Cm)(a b i:Nat):Bool:=comm cms a b i&&lastIn cms a b i (i+1)
def latC (cms:List Cm)(a b:Nat):List Nat:=(lS 1 cms.length).filter (isLast cms a b)
def togF (base:Nat→Nat→List Leaf×Int)(cms:List Cm):Nat→List Leaf→List Nat→List Leaf×Int
 |_,t,[]=>(t,0)
 |p,t,n::r=>
  if(base p n).2≠0 then([],(base p n).2)
  else if(joinT (base p n).1 t (treeC cms n)).2≠0 then([],(joinT (base p n).1 t (treeC cms n)).2)
  else togF base cms n (joinT (base p n).1 t (treeC cms n)).1 r
def togL (base:Nat→Nat→List Leaf×Int)(cms:List Cm):List Nat→List Leaf×Int
 |[]=>([],0)
 |n::r=>togF base cms n (treeC cms n) r
def baseF (cms:List Cm):Nat→Nat→Nat→List Leaf×Int
 |0,_,_=>([],0)
 |f+1,a,b=>togL (baseF cms f) cms (latC cms a b)
def baseC (cms:List Cm)(a b:Nat):List Leaf×Int:=baseF cms (a+1) a b
def baseAt (st:St)(a b:Int):List UInt8×Int:=
 if a<1∨b<1∨(st.cms.length:Int)<a∨(st.cms.length:Int)<b then([],10)
 else if(baseC st.cms a.toNat b.toNat).2≠0 then([],(baseC st.cms a.toNat b.toNat).2)
 else(Written (baseC st.cms a.toNat b.toNat).1,0)
end R
namespace R
structure Fine (st:St):Prop where
 many:st.brs.length≤6
 heads:dp st
 name:∀b∈st.brs,b.name.length≤8
 few:∀b∈st.brs,b.work.length≤24
 good:∀b∈st.brs,∀x∈b.work,Good x
def workOf (st:St)(n:List UInt8):List Leaf:=((st.brs[fnd st.brs n]?).map (·.work)).getD []
def shown (st:St)(n:List UInt8):List UInt8×Int:=if fndI st.brs n<0 then([],5)else(Written (workOf st n),0)
def dropped (st:St)(n:List UInt8):Int×St:=
 if fndI st.brs n<0 then(5,st)else(0,{st with brs:=st.brs.take (fnd st.brs n)++st.brs.drop (fnd st.brs n+1),packed:=st.packed++record 68 n})
theorem fnd_name (l:List Br)(n:List UInt8)(h:fnd l n<l.length):(l[fnd l n]'h).name=n:=by
 have h2:=List.findIdx_getElem (p:=fun b:Br=>b.name==n) (w:=h);exact beq_iff_eq.1 h2
end R
namespace R
def setWork (st:St)(i:Nat)(t:List Leaf):St:={st with brs:=match st.brs[i]? with|some b=>st.brs.set i {b with work:=t}|Option.none=>st.brs}
def without (l:List (List UInt8))(s:List UInt8):List (List UInt8):=l.filter fun x=> !(x==s)
def takeV (x:Leaf)(path text:List UInt8):Int×Leaf:=
 if(!isText text||text==[])=true then(3,x)
 else if x.kind≠0∧x.kind≠42 then(6,x)
 else if(x.items.any fun y=>y==text)=false then(10,x)
 else(0,{path:=path,kind:=if without x.items text=[]then 0 else 42,n:=0,text:=[],items:=without x.items text})
def delV (x:Leaf)(path:List UInt8):Int×Leaf:=if x.kind=0 then(10,x)else(0,none path)
def addV (t:List Leaf)(x:Leaf)(path:List UInt8)(n:Int):Int×Leaf:=
 if x.kind≠0∧x.kind≠35 then(6,x)
 else if blocked t path=true then(7,x)
 else if 1000000000-x.n<n∨n< -1000000000-x.n then(8,x)
 else if x.kind=0∧24≤t.length then(4,x)
 else(0,{path:=path,kind:=35,n:=x.n+n,text:=[],items:=[]})
def noteV (t:List Leaf)(x:Leaf)(path text:List UInt8):Int×Leaf:=
 if isText text=false then(3,x)
 else if x.kind≠0∧x.kind≠61 then(6,x)
 else if blocked t path=true then(7,x)
 else if x.kind=0∧24≤t.length then(4,x)
 else(0,{path:=path,kind:=61,n:=0,text:=text,items:=[]})
def putV (t:List Leaf)(x:Leaf)(path text:List UInt8):Int×Leaf:=
 if(!isText text||text==[])=true then(3,x)
 else if x.kind≠0∧x.kind≠42 then(6,x)
 else if blocked t path=true then(7,x)
 else if 8<(item x.items text).length then(4,x)
 else if x.kind=0∧24≤t.length then(4,x)
 else(0,{path:=path,kind:=42,n:=0,text:=[],items:=item x.items text})
def valV (kind:Int)(t:List Leaf)(x:Leaf)(path:List UInt8)(n:Int)(text:List UInt8):Int×Leaf:=
 if kind=0 then delV x path else if kind=45 then takeV x path text else if kind=35 then addV t x path n else if kind=61 then noteV t x path text else putV t x path text
def change (st:St)(kind:Int)(branch path:List UInt8)(n:Int)(text:List UInt8):Int×St:=
 if fndI st.brs branch<0 then(5,st)
 else if isPath path=false then(2,st)
 else if(valV kind (workOf st branch) (at_ (workOf st branch) path) path n text).1=0 then
  (0,setWork st (fnd st.brs branch) (set (workOf st branch) (valV kind (workOf st branch) (at_ (workOf st branch) path) path n text).2))
 else((valV kind (workOf st branch) (at_ (workOf st branch) path) path n text).1,st)
end R
theorem zm:∀s:List UInt8,Op.bytesLess s s=false
 |[]=>rfl
 |c::r=>by rw[Op.bytesLess,zm r];simp
def zF (s y:List UInt8):Bool:=Op.bytesLess y s
def xq (l:List (List UInt8))(s:List UInt8):Nat:=l.findIdx fun y=> !zF s y
def Yj (t:List R.Leaf):Prop:=∀(i j:Nat) (hi:i<t.length) (hj:j<t.length),i<j→Op.bytesLess t[i].path t[j].path=true
def y8 (t:List R.Leaf)(s:List UInt8):Nat:=t.findIdx fun x=> !zF s x.path
theorem Zj:∀a b c:List UInt8,Op.bytesLess a b=true→Op.bytesLess b c=true→Op.bytesLess a c=true
 |_,_,[],_,h=>by cases ‹List UInt8› <;>cases h
 |[],_,_::_,_,_=>rfl
 |_::_,[],_::_,h,_=>by cases h
 |a::x,b::y,c::z,h1,h2=>by
  have ih:=Zj x y z;rw[Op.bytesLess]at h1 h2⊢;simp only[mT,decide_eq_true_eq,mR,beq_iff_eq]at h1 h2⊢;rcases h1 with h1|⟨rfl,h1⟩
  ·rcases h2 with h2|⟨rfl,_⟩
   ·exact .inl (UInt8.lt_trans h1 h2)
   ·exact .inl h1
  ·rcases h2 with h2|⟨rfl,h2⟩
   ·exact .inl h2
   ·exact .inr ⟨rfl,ih h1 h2⟩
theorem Yj.mono {t:List R.Leaf}(h:Yj t)(s:List UInt8)(i j:Nat)(hi:i<t.length)(hj:j<t.length)(a0:i≤j)(hl:zF s t[j].path=true):zF s t[i].path=true:=by
 rcases mU a0 with a1|rfl
 ·exact Zj _ _ _ (h i j hi hj a1) hl
 ·exact hl
def Zb (l:List (List UInt8)):Prop:=∀(i j:Nat) (hi:i<l.length) (hj:j<l.length),i<j→Op.bytesLess l[i] l[j]=true
theorem Zb.mono {l:List (List UInt8)}(h:Zb l)(s:List UInt8)(i j:Nat)(hi:i<l.length)(hj:j<l.length)(a0:i≤j)(hl:zF s l[j]=true):zF s l[i]=true:=by
 rcases mU a0 with a1|rfl
 ·exact Zj _ _ _ (h i j hi hj a1) hl
 ·exact hl
theorem yR:∀a b:List UInt8,Op.bytesLess a b=false→Op.bytesLess b a=false→a=b
 |[],[],_,_=>rfl
 |[],_::_,h,_=>by cases h
 |_::_,[],_,h=>by cases h
 |a::x,b::y,h1,h2=>by
  have ih:=yR x y;rw[Op.bytesLess]at h1 h2;simp only[mV,decide_eq_false_iff_not,Bool.and_eq_false_iff]at h1 h2;have e:a=b:=mW (mX.1 h2.1) (mX.1 h1.1);subst e;rw[ih (by simpa using h1.2) (by simpa using h2.2)]
theorem xb (a b:List UInt8)(h:Op.bytesLess a b=true):Op.bytesLess b a=false:=by
 rw[mM];intro h2;have:=Zj _ _ _ h h2;rw[zm]at this;cases this
theorem Yh (a b:List UInt8)(h:Op.bytesLess a b=true):(a==b)=false:=by
 rw[mM];intro h2;rw[beq_iff_eq.1 h2,zm]at h;cases h
theorem Gg (y:List (List UInt8)):R.aheadL [] y=decide (0<y.length):=by cases y<;>rfl
theorem OY (y:List (List UInt8)):R.aheadL y []=false:=by cases y<;>rfl
theorem Jm:∀a b:List UInt8,(∀c∈a,47≤c)→(∀c∈b,47≤c)→R.ahead a b=Op.bytesLess a b
 |[],[],_,_=>rfl
 |[],c::r,_,_=>by
  unfold R.ahead;rw[R.spl,R.spl];split
  ·rw[R.aheadL,if_pos rfl,Gg]
   exact decide_eq_true (by have:=(R.spl_length r).2;omega)
  ·split
   all_goals
    rw[R.aheadL,if_neg (by simp)];rfl
 |c::r,[],_,_=>by
  unfold R.ahead;rw[R.spl,R.spl];split
  ·rw[R.aheadL,if_pos rfl,OY];rfl
  ·split
   all_goals
    rw[R.aheadL,if_neg (by simp)];rfl
 |c::r,d::q,ha,hb=>by
  have ih:=Jm r q (fun x hx=>ha x (hU _ hx)) (fun x hx=>hb x (hU _ hx));have hc:=ha c (eY ..);have hd:=hb d (eY ..);unfold R.ahead at ih⊢;rw[Op.bytesLess,R.spl,R.spl];by_cases h1:c=47
  ·subst h1
   rw[if_pos rfl];by_cases h2:d=47
   ·subst h2
    rw[if_pos rfl,R.aheadL,if_pos rfl,ih];simp
   ·rw[if_neg h2]
    have a1:(47:UInt8)<d:=by
     rcases mZ 47 d with h|h
     ·exact h
     ·exact absurd (mW h hd) h2
    split
    all_goals
     rw[R.aheadL,if_neg (by simp)];simp[a1,Op.bytesLess]
  ·rw[if_neg h1]
   have a1:(47:UInt8)<c:=by
    rcases mZ 47 c with h|h
    ·exact h
    ·exact absurd (mW h hc) h1
   by_cases h2:d=47
   ·subst h2
    rw[if_pos rfl];have hn:¬c<47:=mX.2 (UInt8.le_of_lt a1);split
    all_goals
     rw[R.aheadL,if_neg (by simp)];simp[hn,h1,Op.bytesLess]
   ·rw[if_neg h2]
    have l1:=(R.spl_length r).2;have l2:=(R.spl_length q).2;generalize R.spl r=x at*;generalize R.spl q=y at*
    cases x with
    |nil=>simp at l1
    |cons h t=>
     cases y with
     |nil=>simp at l2
     |cons h' t' =>
      simp only;rw[R.aheadL]at ih⊢;by_cases a0:c=d
      ·subst a0
       by_cases hh:h=h'
       ·subst hh
        rw[if_pos rfl]at ih⊢;rw[ih];simp
       ·rw[if_neg hh]at ih
        rw[if_neg (by simp[hh]),Op.bytesLess,ih]
      ·rw[if_neg (by simp[a0]),Op.bytesLess]
       have:(c==d)=false:=by simpa using a0
       simp[this]
theorem JR:∀(l:List UInt8),∀c∈l,c=47∨∃p∈R.spl l,c∈p
 |[],c,h=>by simp at h
 |d::r,c,h=>by
  have ih:=JR r;rw[R.spl];by_cases hd:d=47
  ·subst hd
   rw[if_pos rfl];rcases iC.1 h with rfl|h
   ·exact .inl rfl
   ·rcases ih c h with e|⟨p,hp,hc⟩
    ·exact .inl e
    ·exact .inr ⟨p,hU _ hp,hc⟩
  ·rw[if_neg hd]
   have l1:=(R.spl_length r).2;generalize R.spl r=x at*
   cases x with
   |nil=>simp at l1
   |cons a t=>
    rcases iC.1 h with rfl|h
    ·exact .inr ⟨_,eY ..,eY ..⟩
    ·rcases ih c h with e|⟨p,hp,hc⟩
     ·exact .inl e
     ·rcases iC.1 hp with rfl|hp
      ·exact .inr ⟨_,eY ..,hU _ hc⟩
      ·exact .inr ⟨p,hU _ hp,hc⟩
theorem yE (l:List UInt8)(h:R.isPath l=true):∀c∈l,47≤c:=by
 intro c hc;simp only[R.isPath,mR,decide_eq_true_eq,mO]at h;rcases JR l c hc with rfl|⟨p,hp,a0⟩
 ·exact UInt8.le_refl _
 ·have:=h.2.1 p hp
  simp only[R.isName,mR,mO]at this;have:=this.1 c a0;simp only[R.nb,mT,mR,decide_eq_true_eq]at this;rw[UInt8.le_iff_toNat_le];show(47:UInt8).toNat≤_;simp;omega
def zW {α:Type}(k:α→List UInt8)(l:List α):Prop:=l.Pairwise fun a b=>Op.bytesLess (k a) (k b)=true
def yC {α:Type}(k:α→List UInt8)(l:List α)(s:List UInt8):Nat:=l.findIdx fun x=> !zF s (k x)
theorem Zx {α:Type}(k:α→List UInt8)(l:List α):zW k l↔∀(i j:Nat) (hi:i<l.length) (hj:j<l.length),i<j→Op.bytesLess (k l[i]) (k l[j])=true:=List.pairwise_iff_getElem
theorem Yj.k {t:List R.Leaf}(h:Yj t):zW R.Leaf.path t:=(Zx _ _).2 h
theorem zW.t {t:List R.Leaf}(h:zW R.Leaf.path t):Yj t:=(Zx _ _).1 h
theorem Zb.k {t:List (List UInt8)}(h:Zb t):zW id t:=(Zx _ _).2 h
theorem zW.i {t:List (List UInt8)}(h:zW id t):Zb t:=(Zx _ _).1 h
theorem zW.mono {α:Type}{k:α→List UInt8}{l:List α}(h:zW k l)(s:List UInt8)(i j:Nat)(hi:i<l.length)(hj:j<l.length)(a0:i≤j)(hl:zF s (k l[j])=true):zF s (k l[i])=true:=by
 rcases mU a0 with a1|rfl
 ·exact Zj _ _ _ ((Zx _ _).1 h i j hi hj a1) hl
 ·exact hl
def xx {α:Type}(k:α→List UInt8)(x:α)(s:List UInt8):Bool→List α→List α
 |d,[]=>if d then []else [x]
 |d,y::ys=>
  (if !d&&(Op.bytesLess s (k y)||s==k y)then [x]else [])++((if k y==s then []else [y])++xx k x s (d||(Op.bytesLess s (k y)||s==k y)) ys)
theorem xU (s:List UInt8):∀(l:List (List UInt8)) (d:Bool),R.itemL s d l=xx id s s d l
 |[],d=>rfl
 |y::ys,d=>by rw[R.itemL,xx,xU s ys];rfl
theorem Qs (x:R.Leaf)(hx:∀c∈x.path,47≤c):∀(l:List R.Leaf) (d:Bool),(∀y∈l,∀c∈y.path,47≤c)→R.setL x d l=xx R.Leaf.path x x.path d l
 |[],d,_=>rfl
 |y::ys,d,h=>by
  rw[R.setL,xx,Jm x.path y.path hx (h y (eY ..)),Qs x hx ys _ fun z hz=>h z (hU _ hz)]
theorem XU {α:Type}(k:α→List UInt8)(x:α)(s:List UInt8):∀l:List α,xx k x s true l=l.filter fun y=> !(k y==s)
 |[]=>rfl
 |y::ys=>by
  rw[xx,mQ,XU k x s ys,nA]
  cases k y==s<;>simp
theorem QF {α:Type}(k:α→List UInt8)(s:List UInt8)(l:List α)(h:(l.any fun y=>k y==s)=false):(l.filter fun y=> !(k y==s))=l:=by
 rw[List.filter_eq_self];intro y hy;have:=nB.1 h y hy;simpa using this
theorem Y3 {α:Type}(k:α→List UInt8)(s:List UInt8)(y:α)(ys:List α):yC k (y::ys) s=if zF s (k y)=true then yC k ys s+1 else 0:=by
 unfold yC;rw[List.findIdx_cons]
 cases zF s (k y)<;>simp
theorem kt {α:Type}{k:α→List UInt8}{y:α}{ys:List α}(h:zW k (y::ys))(s:List UInt8)(hl:zF s (k y)=false):(ys.any fun z=>k z==s)=false:=by
 rw[mM];intro ha;obtain⟨z,hz,a0⟩:=mL.1 ha;have:=nC h hz;rw[beq_iff_eq.1 a0]at this;rw[zF,this]at hl;cases hl
theorem YQ {α:Type}{k:α→List UInt8}{s:List UInt8}:∀{l:List α},zW k l→(l.any fun y=>k y==s)=true→∃hp:yC k l s<l.length,k (l[yC k l s]'hp)=s
 |[],_,h=>by simp at h
 |y::ys,hs,h=>by
  by_cases hl:zF s (k y)=true
  ·have a1:=Yh _ _ hl
   rw[nD,a1,nE]at h;obtain⟨hp,he⟩:=YQ (List.Pairwise.of_cons hs) h;have e:yC k (y::ys) s=yC k ys s+1:=by rw[Y3,if_pos hl]
   refine⟨by rw[e];simpa using hp,?_⟩;simp only[e,List.getElem_cons_succ];exact he
  ·have a0 :zF s (k y)=false:=by simpa using hl
   rw[nD,kt hs s a0,nF]at h;have e:yC k (y::ys) s=0:=by rw[Y3,if_neg hl]
   refine⟨by rw[e];simp,?_⟩;simp only[e,List.getElem_cons_zero];exact beq_iff_eq.1 h
theorem CI {α:Type}(k:α→List UInt8)(l:List α)(s:List UInt8):yC k l s≤l.length:=nG
theorem J7 {α:Type}{k:α→List UInt8}{s:List UInt8}:∀{l:List α},zW k l→(l.any fun y=>k y==s)=true→(l.filter fun y=> !(k y==s))=l.take (yC k l s)++l.drop (yC k l s+1)
 |[],_,h=>by simp at h
 |y::ys,hs,h=>by
  by_cases hl:zF s (k y)=true
  ·have a0:=Yh _ _ hl
   rw[nD,a0,nE]at h;rw[Y3,if_pos hl,nA,a0,J7 (List.Pairwise.of_cons hs) h];simp
  ·have a1 :zF s (k y)=false:=by simpa using hl
   have hr:=kt hs s a1;rw[nD,hr,nF]at h;rw[Y3,if_neg hl,nA,h,QF k s ys hr];simp
theorem VW {α:Type}{k:α→List UInt8}{s:List UInt8}(x:α):∀{l:List α},zW k l→(l.any fun y=>k y==s)=true→xx k x s false l=l.take (yC k l s)++x::l.drop (yC k l s+1)
 |[],_,h=>by simp at h
 |y::ys,hs,h=>by
  by_cases hl:zF s (k y)=true
  ·have a0:=Yh _ _ hl
   have h2:=xb _ _ hl;have a1 :(s==k y)=false:=by rw[mM]at a0⊢;intro e;exact a0 (by rw[beq_iff_eq]at e⊢;exact e.symm)
   rw[nD,a0,nE]at h;rw[Y3,if_pos hl,xx,a0,h2,a1,nH,nH,VW x (List.Pairwise.of_cons hs) h];simp
  ·have a2 :zF s (k y)=false:=by simpa using hl
   have hr:=kt hs s a2;rw[nD,hr,nF]at h;have h3:(s==k y)=true:=by rw[beq_iff_eq]at h⊢;exact h.symm
   rw[Y3,if_neg hl,xx,h,h3,nI,nI,XU,QF k s ys hr];simp
theorem XV {α:Type}{k:α→List UInt8}{s:List UInt8}(x:α):∀{l:List α},zW k l→(l.any fun y=>k y==s)=false→xx k x s false l=l.take (yC k l s)++x::l.drop (yC k l s)
 |[],_,_=>by simp[xx,yC]
 |y::ys,hs,h=>by
  rw[nD,mV]at h;have a0 :(s==k y)=false:=by have:=h.1;rw[mM]at this⊢;intro e;exact this (by rw[beq_iff_eq]at e⊢;exact e.symm)
  by_cases hl:zF s (k y)=true
  ·have h2:=xb _ _ hl
   rw[Y3,if_pos hl,xx,h.1,h2,a0,nH,nH,XV x (List.Pairwise.of_cons hs) h.2];simp
  ·have a1 :zF s (k y)=false:=by simpa using hl
   have h3:Op.bytesLess s (k y)=true:=by
    cases hc:Op.bytesLess s (k y)
    ·rw[yR _ _ hc a1]at a0;simp at a0
    ·rfl
   rw[Y3,if_neg hl,xx,h.1,h3,mQ,nI,XU,QF k s ys h.2];simp
theorem yN {α:Type}{k:α→List UInt8}{s:List UInt8}{x:α}:∀{l:List α} {d:Bool} {z:α},z∈xx k x s d l→z=x∨z∈l
 |[],d,z,h=>by cases d<;>simp_all [xx]
 |y::ys,d,z,h=>by
  rw[xx,nJ,nJ]at h;rcases h with h|h|h
  ·split at h
   ·exact .inl (by simpa using h)
   ·simp at h
  ·split at h
   ·simp at h
   ·exact .inr (by rw[List.mem_singleton.1 h];exact eY ..)
  ·rcases yN h with e|e
   ·exact .inl e
   ·exact .inr (hU _ e)
theorem xF {α:Type}{k:α→List UInt8}{s:List UInt8}{x:α}(hx:k x=s):∀{l:List α},zW k l→zW k (xx k x s false l)
 |[],_=>by simp[xx,zW]
 |y::ys,hs=>by
  have a3:=List.Pairwise.of_cons hs;have a0:∀z∈ys,Op.bytesLess (k y) (k z)=true:=fun z hz=>nC hs hz
  have hf:zW k (ys.filter fun y=> !(k y==s)):=List.Pairwise.sublist nK a3;rw[xx]
  cases hc:(Op.bytesLess s (k y)||s==k y)
  ·rw[mV]at hc
   have a1:(k y==s)=false:=by have:=hc.2;rw[mM]at this⊢;intro e;exact this (by rw[beq_iff_eq]at e⊢;exact e.symm)
   have a2:Op.bytesLess (k y) s=true:=by
    cases h:Op.bytesLess (k y) s
    ·rw[yR _ _ h hc.1]at a1;simp at a1
    ·rfl
   rw[a1];simp only[eM,mI,eL,if_false,mJ,nH,nL];refine List.Pairwise.cons (fun z hz=> ?_) (xF hx a3);rcases yN hz with rfl|hz
   ·rw[hx];exact a2
   ·exact a0 z hz
  ·simp only[eM,mI,if_true,nI]
   rw[XU];by_cases he:k y=s
   ·have:(k y==s)=true:=by simpa using he
    rw[this];simp only[if_true,mJ,nL];refine List.Pairwise.cons (fun z hz=> ?_) hf;rw[hx,←he];exact a0 z (nM.1 hz).1
   ·have a1:(k y==s)=false:=by simpa using he
    have a2:Op.bytesLess s (k y)=true:=by
     cases h:Op.bytesLess s (k y)
     ·rw[h,nE]at hc;exact absurd (beq_iff_eq.1 hc).symm he
     ·rfl
    rw[a1];simp only[eL,if_false,nL];refine List.Pairwise.cons (fun z hz=> ?_) (List.Pairwise.cons (fun z hz=>a0 z (nM.1 hz).1) hf);rcases iC.1 hz with rfl|hz
    ·rw[hx];exact a2
    ·rw[hx];exact Zj _ _ _ a2 (a0 z (nM.1 hz).1)
structure OkL (x:R.Leaf):Prop where
 path:R.isPath x.path=true
 kind:(x.kind=35∧x.text=[]∧x.items=[])∨(x.kind=61∧x.n=0∧x.items=[])∨(x.kind=42∧x.n=0∧x.text=[]∧x.items≠ [])
 hi:x.n≤1000000000
 lo: -1000000000≤x.n
 text:R.isText x.text=true
 many:x.items.length≤8
 item:∀i∈x.items,R.isText i=true∧i≠ []
 sort:Zb x.items
structure OkT (t:List R.Leaf):Prop where
 sort:Yj t
 few:t.length≤24
 ok:∀x∈t,OkL x
 free:∀x∈t,∀y∈t,R.leads x.path y.path=false
structure Inv (st:R.St):Prop where
 many:st.brs.length≤6
 names:∀b∈st.brs,R.isName b.name=true
 sort:zW R.Br.name st.brs
 work:∀b∈st.brs,OkT b.work
 heads:∀b∈st.brs,b.head≤st.cms.length
 few:st.cms.length≤60
 trees:∀c∈st.cms,OkT c.tree
 pars:∀(i:Nat) (h:i<st.cms.length),∀p∈st.cms[i].parents,1≤p∧p≤i
 two:∀c∈st.cms,c.parents.length≤2
theorem Zr (l:List UInt8)(h:R.isText l=true):l.length≤20:=by
 simp only[R.isText,mR,decide_eq_true_eq]at h;exact h.1
theorem ZK (l:List UInt8)(h:R.isName l=true):l.length≤8:=by
 simp only[R.isName,mR,decide_eq_true_eq]at h;exact h.2.2
theorem yZ (l:List UInt8)(h:R.isPath l=true):l.length≤100:=by
 simp only[R.isPath,mR,decide_eq_true_eq]at h;exact h.1
theorem OkL.good {x:R.Leaf}(h:OkL x):R.Good x:=
 ⟨by have:=yZ _ h.path;omega,by have:=h.hi;omega,by have:=h.lo;omega,by have:=Zr _ h.text;omega,by have:=h.many;omega,fun i hi=>by have:=Zr _ (h.item i hi).1;omega⟩
theorem OkL.nz {x:R.Leaf}(h:OkL x):x.kind≠0:=by
 rcases h.kind with h|h|h<;>(rw[h.1];decide)
theorem OkT.nil:OkT []:=⟨fun i j hi=>by simp at hi,by simp,by simp,by simp⟩
theorem vM (p:List UInt8):R.leads p p=false:=by simp[R.leads]
theorem vX {t:List R.Leaf}{p:List UInt8}(h:R.blocked t p=false):∀y∈t,R.leads y.path p=false∧R.leads p y.path=false:=fun y hy=>by
 have:=nB.1 h y hy;simpa using this
theorem vY (t:List R.Leaf)(p:List UInt8):((t.any fun x=>x.path==p)=false∧R.at_ t p=R.none p)∨((t.any fun x=>x.path==p)=true∧R.at_ t p∈t∧(R.at_ t p).path=p):=by
 unfold R.at_
 cases h:t.find? fun x=>x.path==p with
 |none=>
  refine .inl ⟨?_,rfl⟩;rw[mM];intro ha;obtain⟨y,hy,a0⟩:=mL.1 ha;exact absurd a0 (by have:=List.find?_eq_none.1 h y hy;simpa using this)
 |some y=>
  have h1:=List.find?_some h;have h2:=List.mem_of_find?_eq_some h;exact .inr ⟨mL.2 ⟨y,h2,h1⟩,h2,beq_iff_eq.1 h1⟩
theorem OkT.bytes {t:List R.Leaf}(h:OkT t):∀y∈t,∀c∈y.path,47≤c:=fun y hy=>yE _ (h.ok y hy).path
theorem qQ {t:List R.Leaf}(h:OkT t)(x:R.Leaf)(hp:R.isPath x.path=true)(hk:x.kind=0):R.set t x=t.filter fun y=> !(y.path==x.path):=by
 rw[R.set,decide_eq_true hk,Qs x (yE _ hp) t true h.bytes,XU]
theorem qP {t:List R.Leaf}(h:OkT t)(x:R.Leaf)(hp:R.isPath x.path=true)(hk:x.kind≠0):R.set t x=xx R.Leaf.path x x.path false t:=by
 rw[R.set,decide_eq_false hk,Qs x (yE _ hp) t false h.bytes]
theorem uU {t:List R.Leaf}(h:OkT t)(x:R.Leaf)(hp:R.isPath x.path=true)(hk:x.kind≠0)(ha:(t.any fun y=>y.path==x.path)=true):R.set t x=t.take (y8 t x.path)++x::t.drop (y8 t x.path+1):=by
 rw[qP h x hp hk];exact VW x h.sort.k ha
theorem jr {t:List R.Leaf}(h:OkT t)(x:R.Leaf)(hp:R.isPath x.path=true)(hk:x.kind≠0)(ha:(t.any fun y=>y.path==x.path)=false):R.set t x=t.take (y8 t x.path)++x::t.drop (y8 t x.path):=by
 rw[qP h x hp hk];exact XV x h.sort.k ha
theorem Cq {t:List R.Leaf}(h:OkT t)(x:R.Leaf)(hp:R.isPath x.path=true)(hk:x.kind=0)(ha:(t.any fun y=>y.path==x.path)=true):R.set t x=t.take (y8 t x.path)++t.drop (y8 t x.path+1):=by
 rw[qQ h x hp hk];exact J7 h.sort.k ha
theorem set_same {t:List R.Leaf}(h:OkT t)(x:R.Leaf)(hp:R.isPath x.path=true)(hk:x.kind=0)(ha:(t.any fun y=>y.path==x.path)=false):R.set t x=t:=by
 rw[qQ h x hp hk];exact QF R.Leaf.path x.path t ha
theorem XT {l:List (List UInt8)}(h:Zb l)(s:List UInt8)(ha:(l.any fun y=>y==s)=true):R.item l s=l:=by
 rw[R.item,xU,VW s h.k ha];obtain⟨hp,he⟩:=YQ (k:=id) (s:=s) h.k ha;have e:s::l.drop (yC id l s+1)=l.drop (yC id l s):=by
  rw[mE hp];congr 1;exact he.symm
 rw[e,mH]
theorem xE {l:List (List UInt8)}(h:Zb l)(s:List UInt8)(ha:(l.any fun y=>y==s)=false):R.item l s=l.take (xq l s)++s::l.drop (xq l s):=by
 rw[R.item,xU];exact XV s h.k ha
theorem o7 {l:List (List UInt8)}(h:Zb l)(s:List UInt8)(ha:(l.any fun y=>y==s)=true):R.without l s=l.take (xq l s)++l.drop (xq l s+1):=J7 (k:=id) h.k ha
theorem kQ {l:List (List UInt8)}(h:Zb l)(s:List UInt8):Zb (R.item l s):=by
 rw[R.item,xU];exact zW.i (xF rfl h.k)
theorem VU {l:List (List UInt8)}{s z:List UInt8}(h:z∈R.item l s):z=s∨z∈l:=by
 rw[R.item,xU]at h;exact yN h
theorem GC (l:List (List UInt8))(h:Zb l)(s:List UInt8):R.item l s≠ []:=by
 cases ha:l.any fun y=>y==s
 ·rw[xE h s ha];simp
 ·rw[XT h s ha];intro e;rw[e]at ha;simp at ha
theorem bY {t:List R.Leaf}(h:OkT t)(x:R.Leaf)(hp:R.isPath x.path=true)(hx:x.kind≠0→OkL x)(hm:x.kind≠0→(R.at_ t x.path).kind=0→t.length<24)(a0:x.kind≠0→R.blocked t x.path=false∨∃z∈t,z.path=x.path):OkT (R.set t x):=by
 by_cases hk:x.kind=0
 ·rw[qQ h x hp hk]
  refine⟨zW.t (List.Pairwise.sublist nK h.sort.k),?_,fun y hy=>h.ok y (nM.1 hy).1,fun y hy z hz=>h.free y (nM.1 hy).1 z (nM.1 hz).1⟩;have:=nN (fun y:R.Leaf=> !(y.path==x.path)) t;have:=h.few;omega
 ·have hs:Yj (R.set t x):=by rw[qP h x hp hk];exact zW.t (xF rfl h.sort.k)
  refine⟨hs,?_,fun y hy=> ?_,fun y hy z hz=> ?_⟩
  ·rcases vY t x.path with⟨ha,he⟩|⟨ha,h1,h2⟩
   ·rw[jr h x hp hk ha]
    have:=hm hk (by rw[he];rfl);simp only[mB,mC,nP,nQ];omega
   ·rw[uU h x hp hk ha]
    obtain⟨a1,_⟩:=YQ (k:=R.Leaf.path) h.sort.k ha;have e:y8 t x.path=yC R.Leaf.path t x.path:=rfl;have:=h.few;simp only[mB,mC,nP,nQ];omega
  ·rw[qP h x hp hk]at hy
   rcases yN hy with rfl|hy
   ·exact hx hk
   ·exact h.ok y hy
  ·rw[qP h x hp hk]at hy hz
   have hd:∀y∈t,R.leads y.path x.path=false∧R.leads x.path y.path=false:=by
    rcases a0 hk with hb|⟨q,hq,e⟩
    ·exact vX hb
    ·intro y hy
     rw[←e];exact⟨h.free y hy q hq,h.free q hq y hy⟩
   rcases yN hy with e1|e1
   ·rcases yN hz with e2|e2
    ·rw[e1,e2];exact vM _
    ·rw[e1];exact(hd z e2).2
   ·rcases yN hz with e2|e2
    ·rw[e2];exact(hd y e1).1
    ·exact h.free y e1 z e2
theorem bJ {t:List R.Leaf}(h:OkT t)(p:List UInt8):R.at_ t p=R.none p∨OkL (R.at_ t p):=by
 rcases vY t p with⟨_,he⟩|⟨_,h1,_⟩
 ·exact .inl he
 ·exact .inr (h.ok _ h1)
theorem Cj {t:List R.Leaf}(h:OkT t)(kind:Int)(path:List UInt8)(n:Int)(text:List UInt8)(hp:R.isPath path=true)(hk:kind=0∨kind=45∨kind=35∨kind=61∨kind=42)
  (h0:(R.valV kind t (R.at_ t path) path n text).1=0):OkT (R.set t (R.valV kind t (R.at_ t path) path n text).2):=by
 generalize hx:R.at_ t path=x at*;have a1:x=R.none path∨OkL x:=by rw[←hx];exact bJ h path
 have a3:x.path=path:=by
  rcases vY t path with⟨_,he⟩|⟨_,_,h2⟩
  ·rw[←hx,he];rfl
  ·rw[←hx];exact h2
 have a5:Zb x.items:=by
  rcases a1 with rfl|a1
  ·intro i j hi;simp[R.none]at hi
  ·exact a1.sort
 have a0:∀y:R.Leaf,y.path=path→(y.kind≠0→OkL y)→(y.kind≠0→x.kind=0→t.length<24)→(y.kind≠0→R.blocked t path=false∨∃z∈t,z.path=path)→OkT (R.set t y):=fun y hy h1 h2 h5=>
  bY h y (by rw[hy];exact hp) h1 (fun h3 h4=>h2 h3 (by rw[hy,hx]at h4;exact h4)) (by rw[hy];exact h5)
 rcases hk with rfl|rfl|rfl|rfl|rfl
 ·simp only[R.valV,if_true,R.delV]at h0⊢
  split at h0
  ·cases h0
  ·rw[if_neg (by assumption)]
   exact a0 _ rfl (fun h=>absurd rfl h) (fun h=>absurd rfl h) (fun h=>absurd rfl h)
 ·simp only[R.valV,show¬(45:Int)=0 by decide,if_false,if_true,R.takeV]at h0⊢
  split at h0
  ·cases h0
  ·rename_i c1
   split at h0
   ·cases h0
   ·rename_i c2
    split at h0
    ·cases h0
    ·rename_i c3
     rw[if_neg c1,if_neg c2,if_neg c3];have a7 :(x.items.any fun y=>y==text)=true:=by simpa using c3
     have a2:OkL x∧x.kind=42:=by
      rcases a1 with rfl|a1
      ·simp[R.none]at a7
      ·refine⟨a1,?_⟩
       have:=a1.nz;by_cases e:x.kind=42
       ·exact e
       ·exact absurd ⟨this,e⟩ c2
     refine a0 _ rfl (fun a4=> ?_) (fun a4 hz=>absurd hz a2.1.nz) (fun _=> .inr ⟨x,?_,a3⟩);rotate_left
     ·rcases vY t path with⟨_,he⟩|⟨_,h1,_⟩
      ·rw[hx]at he;rw[he]at a2;exact absurd a2.2 (by simp[R.none])
      ·rw[hx]at h1;exact h1
     have hw:R.without x.items text≠ []:=by
      intro e;simp[e]at a4
     refine⟨hp,.inr (.inr ⟨by simp[hw],rfl,rfl,hw⟩),by simp,by simp,rfl,?_,fun i hi=>a2.1.item i (nM.1 hi).1,zW.i (List.Pairwise.sublist nK a2.1.sort.k)⟩;have:=nN (fun y:List UInt8=> !(y==text)) x.items;have:=a2.1.many;simp only[R.without];omega
 ·simp only[R.valV,show¬(35:Int)=0 by decide,show¬(35:Int)=45 by decide,if_false,if_true,R.addV]at h0⊢
  split at h0
  ·cases h0
  ·rename_i c1
   split at h0
   ·cases h0
   ·rename_i c2
    split at h0
    ·cases h0
    ·rename_i c3
     split at h0
     ·cases h0
     ·rename_i c4
      rw[if_neg c1,if_neg c2,if_neg c3,if_neg c4];refine a0 _ rfl (fun _=> ?_) (fun _ hz=>by
       rcases nR t.length 24 with h|h
       ·exact h
       ·exact absurd ⟨hz,h⟩ c4) (fun _=> .inl (by simpa using c2))
      exact⟨hp,.inl ⟨rfl,rfl,rfl⟩,by simp only;omega,by simp only;omega,rfl,by simp,by simp,fun i j hi=>by simp at hi⟩
 ·simp only[R.valV,show¬(61:Int)=0 by decide,show¬(61:Int)=45 by decide,show¬(61:Int)=35 by decide,if_false,if_true,R.noteV]at h0⊢
  split at h0
  ·cases h0
  ·rename_i c1
   split at h0
   ·cases h0
   ·rename_i c2
    split at h0
    ·cases h0
    ·rename_i c3
     split at h0
     ·cases h0
     ·rename_i c4
      rw[if_neg c1,if_neg c2,if_neg c3,if_neg c4];refine a0 _ rfl (fun _=> ?_) (fun _ hz=>by
       rcases nR t.length 24 with h|h
       ·exact h
       ·exact absurd ⟨hz,h⟩ c4) (fun _=> .inl (by simpa using c3))
      exact⟨hp,.inr (.inl ⟨rfl,rfl,rfl⟩),by simp,by simp,by simpa using c1,by simp,by simp,fun i j hi=>by simp at hi⟩
 ·simp only[R.valV,show¬(42:Int)=0 by decide,show¬(42:Int)=45 by decide,show¬(42:Int)=35 by decide,show¬(42:Int)=61 by decide,if_false,R.putV]at h0⊢
  split at h0
  ·cases h0
  ·rename_i c1
   split at h0
   ·cases h0
   ·rename_i c2
    split at h0
    ·cases h0
    ·rename_i c3
     split at h0
     ·cases h0
     ·rename_i c4
      split at h0
      ·cases h0
      ·rename_i c5
       rw[if_neg c1,if_neg c2,if_neg c3,if_neg c4,if_neg c5];refine a0 _ rfl (fun _=> ?_) (fun _ hz=>by
        rcases nR t.length 24 with h|h
        ·exact h
        ·exact absurd ⟨hz,h⟩ c5) (fun _=> .inl (by simpa using c3))
       have a6 :R.isText text=true∧text≠ []:=by simpa using c1
       refine⟨hp,.inr (.inr ⟨rfl,rfl,rfl,GC _ a5 _⟩),by simp,by simp,rfl,by simp only;omega,fun i hi=> ?_,kQ a5 text⟩;rcases VU hi with rfl|hi
       ·exact a6
       ·rcases a1 with rfl|a1
        ·simp[R.none]at hi
        ·exact a1.item i hi
theorem QE (l:List R.Br)(n:List UInt8):(l.any fun b=>b.name==n)=decide (R.fnd l n<l.length):=by
 rw[Bool.eq_iff_iff,decide_eq_true_eq,mL];unfold R.fnd;rw[List.findIdx_lt_length]
theorem j5 {l:List R.Br}(h:zW R.Br.name l)(n:List UInt8)(hl:R.fnd l n<l.length):R.fnd l n=yC R.Br.name l n:=by
 obtain⟨hp,he⟩:=YQ (k:=R.Br.name) (s:=n) h (by rw[QE];exact decide_eq_true hl);have hf:=R.fnd_name l n hl;have hs:=(Zx _ _).1 h;rcases Nat.lt_trichotomy (R.fnd l n) (yC R.Br.name l n)with a1|e|a0
 ·have:=hs _ _ hl hp a1;rw[hf,he,zm]at this;cases this
 ·exact e
 ·have:=hs _ _ hp hl a0;rw[hf,he,zm]at this;cases this
theorem uk {l:List R.Br}(h:zW R.Br.name l)(b:R.Br)(hn:¬R.fnd l b.name<l.length):R.insB l b=xx R.Br.name b b.name false l:=by
 rw[XV b h (by rw[QE];exact decide_eq_false hn)];rfl
theorem Ys {st:R.St}(h:Inv st)(n:Nat):OkT (R.treeOf st n):=by
 unfold R.treeOf;split
 ·exact OkT.nil
 ·cases e:st.cms[n-1]? with
  |none=>exact OkT.nil
  |some c=>exact h.trees c (iK e)
theorem Q4 {st:R.St}(h:Inv st)(name fr:List UInt8)(a0:Bool):Inv (R.made st name fr a0).2:=by
 unfold R.made;split
 ·exact h
 ·rename_i hn
  split
  ·exact h
  ·split
   ·exact h
   ·rename_i hf
    split
    ·exact h
    ·rename_i hm
     have a6:¬R.fnd st.brs name<st.brs.length:=by
      intro e;exact hf (by rw[R.fndI,if_pos e];omega)
     have a2:(if a0 then R.headOf st fr else 0)≤st.cms.length:=by
      split
      ·unfold R.headOf
       cases e:st.brs[R.fnd st.brs fr]? with
       |none=>simp
       |some b=>exact h.heads b (iK e)
      ·omega
     generalize hb:({name:=name,head:=if a0 then R.headOf st fr else 0,work:=R.treeOf st (if a0 then R.headOf st fr else 0)}:R.Br)=b;have a4:b.name=name:=by rw[←hb]
     have a3:=uk h.sort b (by rw[a4];exact a6);have a1:∀z∈R.insB st.brs b,z=b∨z∈st.brs:=fun z hz=>by rw[a3]at hz;exact yN hz
     have a5:(R.insB st.brs b).length=st.brs.length+1:=by
      have a7:R.pos st.brs b.name≤st.brs.length:=nG;simp only[R.insB,mB,nP,mC,nQ];omega
     refine⟨?_,?_,?_,?_,?_,h.few,h.trees,h.pars,h.two⟩
     ·show(R.insB st.brs b).length≤6
      omega
     ·intro z hz
      rcases a1 z hz with rfl|hz
      ·rw[a4];simpa using hn
      ·exact h.names z hz
     ·show zW R.Br.name (R.insB st.brs b)
      rw[a3];exact xF rfl h.sort
     ·intro z hz
      rcases a1 z hz with rfl|hz
      ·rw[←hb];exact Ys h _
      ·exact h.work z hz
     ·intro z hz
      rcases a1 z hz with rfl|hz
      ·rw[←hb];exact a2
      ·exact h.heads z hz
theorem Oy {st:R.St}(h:Inv st)(n:List UInt8):Inv (R.dropped st n).2:=by
 unfold R.dropped;split
 ·exact h
 ·have a0:(st.brs.take (R.fnd st.brs n)++st.brs.drop (R.fnd st.brs n+1)).Sublist st.brs:=by
   have h1:(st.brs.drop (R.fnd st.brs n+1)).Sublist (st.brs.drop (R.fnd st.brs n)):=by
    rw[←List.drop_drop];exact List.drop_sublist _ _
   have:=List.Sublist.append (List.Sublist.refl (st.brs.take (R.fnd st.brs n))) h1;rwa[mH]at this
  refine⟨j0f a0.length_le h.many,fun b hb=>h.names b (a0.subset hb),List.Pairwise.sublist a0 h.sort,fun b hb=>h.work b (a0.subset hb),fun b hb=>h.heads b (a0.subset hb),h.few,h.trees,h.pars,h.two⟩
theorem oq {st:R.St}(h:Inv st)(i:Nat)(t:List R.Leaf)(ht:OkT t):Inv (R.setWork st i t):=by
 unfold R.setWork
 cases e:st.brs[i]? with
 |none=>exact h
 |some b=>
  obtain⟨hi,hb⟩:=List.getElem?_eq_some_iff.1 e;have a1:b∈st.brs:=iK e;have a0:∀z∈st.brs.set i {b with work:=t},z={b with work:=t}∨z∈st.brs:=fun z hz=>(List.mem_or_eq_of_mem_set hz).symm
  refine⟨by simpa using h.many,fun z hz=> ?_,?_,fun z hz=> ?_,fun z hz=> ?_,h.few,h.trees,h.pars,h.two⟩
  ·rcases a0 z hz with rfl|hz
   ·exact h.names b a1
   ·exact h.names z hz
  ·show zW R.Br.name (st.brs.set i {b with work:=t})
   rw[Zx];have hs:=(Zx _ _).1 h.sort;intro p q hp hq a2;have g:∀(p:Nat) (hp:p<(st.brs.set i {b with work:=t}).length),(st.brs.set i {b with work:=t})[p].name=(st.brs[p]'(by simpa using hp)).name:=by
    intro p hp;rw[List.getElem_set];split
    ·rename_i e;subst e;simp only;rw[hb]
    ·rfl
   rw[g,g];exact hs p q _ _ a2
  ·rcases a0 z hz with rfl|hz
   ·exact ht
   ·exact h.work z hz
  ·rcases a0 z hz with rfl|hz
   ·exact h.heads b a1
   ·exact h.heads z hz
theorem ZG {st:R.St}(h:Inv st)(n:List UInt8):OkT (R.workOf st n):=by
 unfold R.workOf
 cases e:st.brs[R.fnd st.brs n]? with
 |none=>exact OkT.nil
 |some b=>exact h.work b (iK e)
theorem Y2 {st:R.St}(h:Inv st)(kind:Int)(a0 path:List UInt8)(n:Int)(text:List UInt8)(hk:kind=0∨kind=45∨kind=35∨kind=61∨kind=42):Inv (R.change st kind a0 path n text).2:=by
 unfold R.change;split
 ·exact h
 ·split
  ·exact h
  ·rename_i hp
   split
   ·rename_i h0
    exact oq h _ _ (Cj (ZG h a0) kind path n text (by simpa using hp) hk h0)
   ·exact h
