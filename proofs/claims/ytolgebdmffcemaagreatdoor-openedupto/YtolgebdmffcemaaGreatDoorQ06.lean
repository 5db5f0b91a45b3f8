import Derived.Laws.Strings
import Derived.Laws.Concat
import Derived.Lib.ItoaNum
import Derived.Lib.ItoaLen
import Derived.Lib.SlicesCompact
import Derived.Sort.Walk0
set_option linter.all false
set_option maxHeartbeats 20000000
set_option maxRecDepth 1000000
open Go.Lib renaming itoa→nJ,decDigits→rG,decDigits_one→rI,compact→rW,compactUpTo→rX,keeps→rY
open UInt8 renaming ofNat→nK,le_antisymm→pH,not_lt→pI,lt_or_le→pJ,toNat_ofNat'→rH
open List renaming mem_cons_self→iO,mem_cons_of_mem→iQ,length_append→nL,length_cons→nM,take_succ_eq_append_getElem→nN,drop_eq_getElem_cons→nP,all_append→nQ,take_of_length_le→nR,take_append_drop→nS,all_cons→nT,nil_append→nV,cons_append→mJ,mem_cons→iT,any_eq_true→nX,all_eq_true→nZ,length_nil→pC,flatMap_append→pD,range'→nC,pairwise_iff_getElem→pK,filter_cons→pL,any_eq_false→pM,rel_of_pairwise_cons→pN,any_cons→pO,findIdx_le_length→pR,mem_append→iZ,mem_singleton→iV,filter_sublist→pU,singleton_append→mS,mem_filter→pV,find?_eq_none→pW,find?_some→pX,length_filter_le→pY,length_take→pZ,length_drop→rA,mem_of_getElem?→lC,getElem?_eq_some_iff→rD,mem_or_eq_of_mem_set→rE,getElem_set→rF,append_nil→nB,length→rJ,length_singleton→rK,flatMap_cons→rL,foldl_append→rM,mem_append_left→mT,mem_append_right→rN,mem_of_mem_take→rO,mem_of_mem_drop→rP,pairwise_map→rQ,mem_map→rR,mem_flatMap→rT,mem_range'_1→rU,filter_congr→rV,getElem!_toArray→rZ,getElem!_eq_getElem?_getD→sA
open Bool renaming true_and→nU,eq_false_iff→nY,not_true→eW,false_and→pA,false_eq_true→eU,true_or→mP,and_eq_true→pB,or_eq_true→pE,or_eq_false_iff→pG,false_or→pP,or_false→pQ,or_self→pS,or_true→pT,not_false→eV,eq_iff_iff→rC
open Nat renaming lt_or_eq_of_le→pF,lt_or_ge→mX,strongRecOn→mN
open Option renaming getD_some→rS
namespace Go.Proofs.YtolgebdmffcemaaGreatDoor
def j0a:=@Nat.le_refl
def j0b:=@Nat.lt_of_lt_of_le
def j0c:=@List.getElem_mem
def j0d:=@List.getElem?_eq_getElem
def j0e:=@Array.getElem?_eq_some_iff
def j0f:=@Nat.le_trans
namespace R
def nb (c:UInt8):Bool:=(decide (97≤c.toNat)&&decide (c.toNat≤122))||(decide (48≤c.toNat)&&decide (c.toNat≤57))
def isName (l:List UInt8):Bool:=l.all nb&&(decide (1≤l.length)&&decide (l.length≤8))
def spl:List UInt8→List (List UInt8)
 |[]=> [[]]
 |c::r=>if c=47 then []::spl r else match spl r with
  |[]=> [[c]]
  |h::t=>(c::h)::t
def isPath (l:List UInt8):Bool:=decide (l.length≤100)&&((spl l).all isName&&decide ((spl l).length≤4))
def tb (c:UInt8):Bool:=decide (32≤c.toNat)&&(decide (c.toNat≤126)&& !decide (c.toNat=59))
def isText (l:List UInt8):Bool:=decide (l.length≤20)&&l.all tb
def leads (a b:List UInt8):Bool:=decide (a.length<b.length)&&(b.take a.length==a&&b[a.length]? ==some 47)
def aheadL:List (List UInt8)→List (List UInt8)→Bool
 |x::xs,y::ys=>if x=y then aheadL xs ys else Op.bytesLess x y
 |x,y=>decide (x.length<y.length)
def ahead (a b:List UInt8):Bool:=aheadL (spl a) (spl b)
structure Leaf where
 path:List UInt8
 kind:Int
 n:Int
 text:List UInt8
 items:List (List UInt8)
def none (p:List UInt8):Leaf:={path:=p,kind:=0,n:=0,text:=[],items:=[]}
def at_ (t:List Leaf)(p:List UInt8):Leaf:=(t.find? fun x=>x.path==p).getD (none p)
def setL (x:Leaf):Bool→List Leaf→List Leaf
 |done,[]=>if done then []else [x]
 |done,y::ys=>
  (if !done&&(ahead x.path y.path||x.path==y.path)then [x]else [])++((if y.path==x.path then []else [y])++setL x (done||(ahead x.path y.path||x.path==y.path)) ys)
def set (t:List Leaf)(x:Leaf):List Leaf:=setL x (decide (x.kind=0)) t
def blocked (t:List Leaf)(p:List UInt8):Bool:=t.any fun x=>leads x.path p||leads p x.path
def itemL (s:List UInt8):Bool→List (List UInt8)→List (List UInt8)
 |done,[]=>if done then []else [s]
 |done,y::ys=>
  (if !done&&(Op.bytesLess s y||s==y)then [s]else [])++((if y==s then []else [y])++itemL s (done||(Op.bytesLess s y||s==y)) ys)
def item (l:List (List UInt8))(s:List UInt8):List (List UInt8):=itemL s false l
def joinI:List (List UInt8)→List UInt8
 |[]=> []
 |[x]=>x
 |x::y::r=>x++(59::joinI (y::r))
def written (x:Leaf):List UInt8:=if x.kind=35 then 35::nJ x.n else if x.kind=61 then 61::x.text else 42::joinI x.items
def line (x:Leaf):List UInt8:=x.path++(32::(written x++ [10]))
def Written (t:List Leaf):List UInt8:=t.flatMap line
def sumB:List UInt8→Nat
 |[]=>0
 |c::r=>c.toNat+sumB r
def recHead (letter:UInt8)(body:List UInt8):List UInt8:=letter::nK (body.length/256)::nK (body.length % 256)::body
def record (letter:UInt8)(body:List UInt8):List UInt8:=recHead letter body++ [nK ((1+sumB (recHead letter body)) % 251)]
structure Br where
 name:List UInt8
 head:Nat
 work:List Leaf
structure Cm where
 tree:List Leaf
 parents:List Nat
structure St where
 cms:List Cm
 brs:List Br
 packed:List UInt8
def fnd (l:List Br)(n:List UInt8):Nat:=l.findIdx fun b=>b.name==n
def fndI (l:List Br)(n:List UInt8):Int:=if fnd l n<l.length then(fnd l n:Int)else-1
structure Good (x:Leaf):Prop where
 path:x.path.length≤1000
 hi:x.n≤1000000000000
 lo: -1000000000000≤x.n
 text:x.text.length≤1000
 many:x.items.length≤100
 item:∀i∈x.items,i.length≤1000
def joinF:List (List UInt8)→List UInt8
 |[]=> []
 |x::r=>(59::x)++joinF r
theorem joinI_eq:∀(x:List UInt8) (r:List (List UInt8)),joinI (x::r)=x++joinF r
 |x,[]=>by simp[joinI,joinF]
 |x,y::r=>by rw[joinI,joinI_eq y r];simp[joinF]
theorem kc:∀(l:List (List UInt8)),(∀i∈l,i.length≤1000)→(joinF l).length≤l.length*1001
 |[],_=>by simp[joinF]
 |y::r,h=>by
  have h1:=h y (iO ..);have h2:=kc r fun i hi=>h i (iQ _ hi)
  simp only[joinF,nL,nM];omega
theorem joinI_length (l:List (List UInt8))(h:∀i∈l,i.length≤1000):(joinI l).length≤l.length*1001:=by
 match l with
 |[]=>simp[joinI]
 |y::r=>
  have h1:=h y (iO ..);have h2:=kc r fun i hi=>h i (iQ _ hi)
  rw[joinI_eq];simp only[nL,nM];omega
theorem size_list (s:ByteArray):s.data.toList.length=s.size:=by rw[Array.length_toList];rfl
theorem fw (s:ByteArray)(k:Nat)(h:k<s.size):s.data.toList.take (k+1)=s.data.toList.take k++ [s[k]]:=by
 rw[nN (by rw[size_list];exact h)];rfl
theorem Fi (s:ByteArray)(k:Nat)(h:k<s.size):s.data.toList.drop k=s[k]::s.data.toList.drop (k+1):=by
 rw[nP (by rw[size_list];exact h)];rfl
theorem take_all (s:ByteArray)(p:UInt8→Bool)(k:Nat)(h:k<s.size)(ha:(s.data.toList.take k).all p=true)(hp:p s[k]=true):(s.data.toList.take (k+1)).all p=true:=by
 rw[fw s k h,nQ,ha];simp[hp]
theorem KA (s:ByteArray)(p:UInt8→Bool)(k:Nat)(h:¬k<s.size)(ha:(s.data.toList.take k).all p=true):s.data.toList.all p=true:=by
 rwa[nR (by rw[size_list];omega)]at ha
theorem GS (s:ByteArray)(p:UInt8→Bool)(k:Nat)(h:k<s.size)(hp:p s[k]=false):s.data.toList.all p=false:=by
 rw[←nS k s.data.toList,Fi s k h,nQ,nT,hp];simp
theorem isName_bad (s:ByteArray)(k:Nat)(h:k<s.size)(hp:nb s[k]=false):isName s.data.toList=false:=by
 unfold isName;rw[GS s nb k h hp];rfl
theorem isName_end (s:ByteArray)(k:Nat)(h:¬k<s.size)(ha:(s.data.toList.take k).all nb=true):isName s.data.toList=(decide (1≤(s.size:Int))&&decide ((s.size:Int)≤8)):=by
 unfold isName;rw[KA s nb k h ha,size_list,nU];congr 1<;>exact decide_eq_decide.2 (by omega)
theorem isText_long (s:ByteArray)(h:20<(s.size:Int)):isText s.data.toList=false:=by
 unfold isText;rw[size_list,decide_eq_false (by omega)];rfl
theorem isText_bad (s:ByteArray)(k:Nat)(h:k<s.size)(hp:tb s[k]=false):isText s.data.toList=false:=by
 unfold isText;rw[GS s tb k h hp,Bool.and_false]
theorem isText_end (s:ByteArray)(k:Nat)(h:¬k<s.size)(hs:¬20<(s.size:Int))(ha:(s.data.toList.take k).all tb=true):isText s.data.toList=true:=by
 unfold isText;rw[KA s tb k h ha,size_list,Bool.and_true];exact decide_eq_true (by omega)
theorem spl_plain:∀(l:List UInt8),(∀c∈l,c≠47)→spl l=[l]
 |[],_=>rfl
 |c::r,h=>by
  have hr:=spl_plain r fun x hx=>h x (iQ _ hx)
  rw[spl,if_neg (h c (iO ..)),hr]
theorem spl_cut:∀(l r:List UInt8),(∀c∈l,c≠47)→spl (l++47::r)=l::spl r
 |[],r,_=>by rw[nV,spl,if_pos rfl]
 |c::l,r,h=>by
  have hr:=spl_cut l r fun x hx=>h x (iQ _ hx)
  rw[mJ,spl,if_neg (h c (iO ..)),hr]
theorem spl_length:∀(l:List UInt8),(spl l).length≤l.length+1∧1≤(spl l).length
 |[]=>⟨j0a _,j0a _⟩
 |c::r=>by
  have hr:=spl_length r;rw[spl];split
  ·simp only[nM];omega
  ·split
   ·simp
   ·rename_i h t e;rw[e]at hr;simp only[nM]at hr⊢;omega
theorem spl_mem:∀(l:List UInt8),∀p∈spl l,p.length≤l.length
 |[],p,h=>by simp[spl]at h;subst h;simp
 |c::r,p,h=>by
  have hr:=spl_mem r;rw[spl]at h;split at h
  ·rcases iT.1 h with rfl|h
   ·simp
   ·have:=hr p h;simp only[nM];omega
  ·split at h
   ·simp at h;subst h;simp
   ·rename_i a t e
    rcases iT.1 h with rfl|h
    ·have:=hr a (by rw[e];exact iO ..);simp only[nM];omega
    ·have:=hr p (by rw[e];exact iQ _ h);simp only[nM];omega
theorem any_snoc {α:Type}(l:List α)(p:α→Bool)(k:Nat)(h:k<l.length)(ha:(l.take k).any p=false)(hp:p l[k]=false):(l.take (k+1)).any p=false:=by
 rw[nN h,List.any_append,ha];simp[hp]
theorem any_end {α:Type}(l:List α)(p:α→Bool)(k:Nat)(h:¬k<l.length)(ha:(l.take k).any p=false):l.any p=false:=by
 rwa[nR (by omega)]at ha
theorem any_hit {α:Type}(l:List α)(p:α→Bool)(k:Nat)(h:k<l.length)(hp:p l[k]=true):l.any p=true:=
 nX.2 ⟨l[k],j0c h,hp⟩
theorem all_snoc {α:Type}(l:List α)(p:α→Bool)(k:Nat)(h:k<l.length)(ha:(l.take k).all p=true)(hp:p l[k]=true):(l.take (k+1)).all p=true:=by
 rw[nN h,nQ,ha];simp[hp]
theorem all_end {α:Type}(l:List α)(p:α→Bool)(k:Nat)(h:¬k<l.length)(ha:(l.take k).all p=true):l.all p=true:=by
 rwa[nR (by omega)]at ha
theorem all_bad {α:Type}(l:List α)(p:α→Bool)(k:Nat)(h:k<l.length)(hp:p l[k]=false):l.all p=false:=by
 rw[nY];intro ha;have:=nZ.1 ha l[k] (j0c h);rw[hp]at this;cases this
theorem item_length (s:List UInt8):∀(l:List (List UInt8)) (d:Bool),(itemL s d l).length≤l.length+1
 |[],d=>by cases d<;>simp[itemL]
 |y::ys,d=>by
  have h1:=item_length s ys (d||(Op.bytesLess s y||s==y));have h2:d=true→∀l,(itemL s d l).length≤l.length:=by
   intro hd;subst hd;intro l;induction l with
   |nil=>simp[itemL]
   |cons a t ih=>rw[itemL];simp only[eW,pA,eU,if_false,nV,nL,mP,nM];split<;>simp<;>omega
  have h3:∀l,(itemL s true l).length≤l.length:=by
   intro l;induction l with
   |nil=>simp[itemL]
   |cons a t ih=>rw[itemL];simp only[eW,pA,eU,if_false,nV,nL,mP,nM];split<;>simp<;>omega
  rw[itemL];by_cases hc:(!d&&(Op.bytesLess s y||s==y))=true
  ·have hd:(d||(Op.bytesLess s y||s==y))=true:=by
    simp only[pB]at hc;rw[hc.2];simp
   rw[if_pos hc,hd];have:=h3 ys;simp only[nL,nM,pC];split<;>simp<;>omega
  ·rw[if_neg hc]
   simp only[nL,nM,pC];split<;>simp<;>omega
theorem line_length (x:Leaf)(hw:(written x).length≤200000)(hp:x.path.length≤1000):(line x).length≤1000000:=by
 simp only[line,nL,nM,pC];omega
theorem Written_snoc (t:List Leaf)(k:Nat)(h:k<t.length):Written (t.take (k+1))=Written (t.take k)++line t[k]:=by
 unfold Written;rw[nN h,pD];simp
theorem Kb:∀(a b:List UInt8),sumB (a++b)=sumB a+sumB b
 |[],b=>by simp[sumB]
 |c::a,b=>by rw[mJ,sumB,Kb a b,sumB];omega
theorem sumB_le:∀(a:List UInt8),sumB a≤a.length*255
 |[]=>by simp[sumB]
 |c::a=>by have:=sumB_le a;have hc:c.toNat<256:=c.toNat_lt;simp only[sumB,nM];omega
theorem sumB_take (s:List UInt8)(k:Nat)(h:k<s.length):sumB (s.take (k+1))=sumB (s.take k)+s[k].toNat:=by
 rw[nN h,Kb];simp[sumB]
end R
namespace R
def less (n:List UInt8)(b:Br):Bool:=Op.bytesLess b.name n
def pos (l:List Br)(n:List UInt8):Nat:=l.findIdx fun b=> !less n b
def insB (l:List Br)(b:Br):List Br:=l.take (pos l b.name)++(b::l.drop (pos l b.name))
def headNew (st:St)(b:Br):St:={st with brs:=insB st.brs b,packed:=st.packed++record 66 (nK b.head::b.name)}
end R
namespace R
def treeOf (st:St)(n:Nat):List Leaf:=if n=0 then []else((st.cms[n-1]?).map (·.tree)).getD []
def headOf (st:St)(n:List UInt8):Nat:=((st.brs[fnd st.brs n]?).map (·.head)).getD 0
def made (st:St)(name fr:List UInt8)(fork:Bool):Int×St:=
 if isName name=false then(1,st)
 else if fork=true∧fndI st.brs fr<0 then(5,st)
 else if 0≤fndI st.brs name then(9,st)
 else if 6≤st.brs.length then(4,st)
 else(0,headNew st {name:=name,head:=if fork then headOf st fr else 0,work:=treeOf st (if fork then headOf st fr else 0)})
theorem fndI_cases (l:List Br)(n:List UInt8):(fndI l n= -1∧¬fnd l n<l.length)∨(fndI l n=(fnd l n:Int)∧fnd l n<l.length):=by
 unfold fndI;split
 ·exact .inr ⟨rfl,by assumption⟩
 ·exact .inl ⟨rfl,by assumption⟩
structure dU (st:St):Prop where
 few:st.cms.length≤255
 head:∀b∈st.brs,b.head≤st.cms.length
end R
namespace R
def same (a b:Leaf):Bool:=if a.kind=0∨b.kind=0 then decide (a.kind=b.kind)else written a==written b
def inL (l:List (List UInt8))(s:List UInt8):Bool:=l.any fun y=>y==s
def bagA (b t:List (List UInt8))(o:List (List UInt8)):List (List UInt8):=o.foldl (fun acc s=>if inL t s|| !inL b s then item acc s else acc) []
def bagB (b:List (List UInt8))(acc t:List (List UInt8)):List (List UInt8):=t.foldl (fun acc s=>if inL b s then acc else item acc s) acc
def bagJ (b o t:List (List UInt8)):List (List UInt8):=bagB b (bagA b t o) t
def baseN (base:Leaf)(k:Int):Int:=if base.kind=k then base.n else 0
def baseI (base:Leaf)(k:Int):List (List UInt8):=if base.kind=k then base.items else []
def bad (e:Int):Leaf×Int:=(none [],e)
def counterJ (p:List UInt8)(n:Int):Leaf×Int:=if 1000000000<n∨n< -1000000000 then bad 8 else({path:=p,kind:=35,n:=n,text:=[],items:=[]},0)
def bagV (p:List UInt8)(l:List (List UInt8)):Leaf×Int:=if 8<l.length then bad 4 else({path:=p,kind:=if l=[]then 0 else 42,n:=0,text:=[],items:=l},0)
def later (a b:List UInt8):List UInt8:=if Op.bytesLess a b then b else a
def joinedV (base ours theirs:Leaf):Leaf×Int:=
 if same ours base=true then(theirs,0)
 else if same theirs base=true then(ours,0)
 else if ours.kind=0 then(theirs,0)
 else if theirs.kind=0 then(ours,0)
 else if ours.kind≠theirs.kind then bad 6
 else if ours.kind=35 then counterJ ours.path (ours.n+theirs.n-baseN base 35)
 else if ours.kind=61 then({path:=ours.path,kind:=61,n:=0,text:=later ours.text theirs.text,items:=[]},0)
 else bagV ours.path (bagJ (baseI base ours.kind) ours.items theirs.items)
def allP (base ours theirs:List Leaf):List (List UInt8):=((base++(ours++theirs)).foldl set []).map (·.path)
def valJ (base ours theirs:List Leaf)(p:List UInt8):Leaf×Int:=joinedV (at_ base p) (at_ ours p) (at_ theirs p)
def leafJ (base ours theirs:List Leaf)(p:List UInt8):List Leaf:=if(valJ base ours theirs p).1.kind=0 then []else [{(valJ base ours theirs p).1 with path:=p}]
def outJ (base ours theirs:List Leaf)(ps:List (List UInt8)):List Leaf:=ps.flatMap (leafJ base ours theirs)
def errJ (base ours theirs:List Leaf)(ps:List (List UInt8)):Int:=((ps.find? fun p=> !decide ((valJ base ours theirs p).2=0)).map fun p=>(valJ base ours theirs p).2).getD 0
def tangled (t:List Leaf):Bool:=t.any fun x=>blocked t x.path
def endJ (t:List Leaf):List Leaf×Int:=if tangled t=true then([],7)else if 24<t.length then([],4)else(t,0)
def joinP (base ours theirs:List Leaf)(ps:List (List UInt8)):List Leaf×Int:=
 if errJ base ours theirs ps≠0 then([],errJ base ours theirs ps)else endJ (outJ base ours theirs ps)
def joinT (base ours theirs:List Leaf):List Leaf×Int:=joinP base ours theirs (allP base ours theirs)
def parsC (cms:List Cm)(m:Nat):List Nat:=((cms[m-1]?).map (·.parents)).getD []
def treeC (cms:List Cm)(n:Nat):List Leaf:=if n=0 then []else((cms[n-1]?).map (·.tree)).getD []
end R
def mk (ps:Nat→List Nat):Nat→(Nat→Bool)→Nat→Bool
 |0,f=>f
 |i+1,f=>mk ps i (if f (i+1)=true then fun j=>f j||decide (j∈ps (i+1))else f)
namespace R
def mark (cms:List Cm)(n:Nat):Nat→Bool:=mk (parsC cms) cms.length (fun j=>decide (j=n∧0<n))
def comm (cms:List Cm)(a b i:Nat):Bool:=mark cms a i&&mark cms b i
def lastIn (cms:List Cm)(a b i k:Nat):Bool:=(nC k (cms.length+1-k)).all fun k=> !(comm cms a b k&&mark cms k i)
def isLast (cms:List Cm)(a b i:Nat):Bool:=comm cms a b i&&lastIn cms a b i (i+1)
def latC (cms:List Cm)(a b:Nat):List Nat:=(nC 1 cms.length).filter (isLast cms a b)
def togF (base:Nat→Nat→List Leaf×Int)(cms:List Cm):Nat→List Leaf→List Nat→List Leaf×Int
 |_,t,[]=>(t,0)
 |p,t,n::r=>
  if(base p n).2≠0 then([],(base p n).2)
  else if(joinT (base p n).1 t (treeC cms n)).2≠0 then([],(joinT (base p n).1 t (treeC cms n)).2)
  else togF base cms n (joinT (base p n).1 t (treeC cms n)).1 r
def togL (base:Nat→Nat→List Leaf×Int)(cms:List Cm):List Nat→List Leaf×Int
 |[]=>([],0)
 |n::r=>togF base cms n (treeC cms n) r
def baseF (cms:List Cm):Nat→Nat→Nat→List Leaf×Int
 |0,_,_=>([],0)
 |f+1,a,b=>togL (baseF cms f) cms (latC cms a b)
def baseC (cms:List Cm)(a b:Nat):List Leaf×Int:=baseF cms (a+1) a b
def baseAt (st:St)(a b:Int):List UInt8×Int:=
 if a<1∨b<1∨(st.cms.length:Int)<a∨(st.cms.length:Int)<b then([],10)
 else if(baseC st.cms a.toNat b.toNat).2≠0 then([],(baseC st.cms a.toNat b.toNat).2)
 else(Written (baseC st.cms a.toNat b.toNat).1,0)
end R
namespace R
structure Fine (st:St):Prop where
 many:st.brs.length≤6
 heads:dU st
 name:∀b∈st.brs,b.name.length≤8
 few:∀b∈st.brs,b.work.length≤24
 good:∀b∈st.brs,∀x∈b.work,Good x
def workOf (st:St)(n:List UInt8):List Leaf:=((st.brs[fnd st.brs n]?).map (·.work)).getD []
def shown (st:St)(n:List UInt8):List UInt8×Int:=if fndI st.brs n<0 then([],5)else(Written (workOf st n),0)
def dropped (st:St)(n:List UInt8):Int×St:=
 if fndI st.brs n<0 then(5,st)else(0,{st with brs:=st.brs.take (fnd st.brs n)++st.brs.drop (fnd st.brs n+1),packed:=st.packed++record 68 n})
theorem fnd_name (l:List Br)(n:List UInt8)(h:fnd l n<l.length):(l[fnd l n]'h).name=n:=by
 have h2:=List.findIdx_getElem (p:=fun b:Br=>b.name==n) (w:=h);exact beq_iff_eq.1 h2
end R
namespace R
def setWork (st:St)(i:Nat)(t:List Leaf):St:={st with brs:=match st.brs[i]? with|some b=>st.brs.set i {b with work:=t}|Option.none=>st.brs}
def without (l:List (List UInt8))(s:List UInt8):List (List UInt8):=l.filter fun x=> !(x==s)
def takeV (x:Leaf)(path text:List UInt8):Int×Leaf:=
 if(!isText text||text==[])=true then(3,x)
 else if x.kind≠0∧x.kind≠42 then(6,x)
 else if(x.items.any fun y=>y==text)=false then(10,x)
 else(0,{path:=path,kind:=if without x.items text=[]then 0 else 42,n:=0,text:=[],items:=without x.items text})
def delV (x:Leaf)(path:List UInt8):Int×Leaf:=if x.kind=0 then(10,x)else(0,none path)
def addV (t:List Leaf)(x:Leaf)(path:List UInt8)(n:Int):Int×Leaf:=
 if x.kind≠0∧x.kind≠35 then(6,x)
 else if blocked t path=true then(7,x)
 else if 1000000000-x.n<n∨n< -1000000000-x.n then(8,x)
 else if x.kind=0∧24≤t.length then(4,x)
 else(0,{path:=path,kind:=35,n:=x.n+n,text:=[],items:=[]})
def noteV (t:List Leaf)(x:Leaf)(path text:List UInt8):Int×Leaf:=
 if isText text=false then(3,x)
 else if x.kind≠0∧x.kind≠61 then(6,x)
 else if blocked t path=true then(7,x)
 else if x.kind=0∧24≤t.length then(4,x)
 else(0,{path:=path,kind:=61,n:=0,text:=text,items:=[]})
def putV (t:List Leaf)(x:Leaf)(path text:List UInt8):Int×Leaf:=
 if(!isText text||text==[])=true then(3,x)
 else if x.kind≠0∧x.kind≠42 then(6,x)
 else if blocked t path=true then(7,x)
 else if 8<(item x.items text).length then(4,x)
 else if x.kind=0∧24≤t.length then(4,x)
 else(0,{path:=path,kind:=42,n:=0,text:=[],items:=item x.items text})
def valV (kind:Int)(t:List Leaf)(x:Leaf)(path:List UInt8)(n:Int)(text:List UInt8):Int×Leaf:=
 if kind=0 then delV x path else if kind=45 then takeV x path text else if kind=35 then addV t x path n else if kind=61 then noteV t x path text else putV t x path text
def change (st:St)(kind:Int)(branch path:List UInt8)(n:Int)(text:List UInt8):Int×St:=
 if fndI st.brs branch<0 then(5,st)
 else if isPath path=false then(2,st)
 else if(valV kind (workOf st branch) (at_ (workOf st branch) path) path n text).1=0 then
  (0,setWork st (fnd st.brs branch) (set (workOf st branch) (valV kind (workOf st branch) (at_ (workOf st branch) path) path n text).2))
 else((valV kind (workOf st branch) (at_ (workOf st branch) path) path n text).1,st)
end R
theorem zm:∀s:List UInt8,Op.bytesLess s s=false
 |[]=>rfl
 |c::r=>by rw[Op.bytesLess,zm r];simp
def zG (s y:List UInt8):Bool:=Op.bytesLess y s
def xB (l:List (List UInt8))(s:List UInt8):Nat:=l.findIdx fun y=> !zG s y
def Ys (t:List R.Leaf):Prop:=∀(i j:Nat) (hi:i<t.length) (hj:j<t.length),i<j→Op.bytesLess t[i].path t[j].path=true
def yg (t:List R.Leaf)(s:List UInt8):Nat:=t.findIdx fun x=> !zG s x.path
theorem Zj:∀a b c:List UInt8,Op.bytesLess a b=true→Op.bytesLess b c=true→Op.bytesLess a c=true
 |_,_,[],_,h=>by cases ‹List UInt8› <;>cases h
 |[],_,_::_,_,_=>rfl
 |_::_,[],_::_,h,_=>by cases h
 |a::x,b::y,c::z,h1,h2=>by
  have ih:=Zj x y z;rw[Op.bytesLess]at h1 h2⊢;simp only[pE,decide_eq_true_eq,pB,beq_iff_eq]at h1 h2⊢;rcases h1 with h1|⟨rfl,h1⟩
  ·rcases h2 with h2|⟨rfl,_⟩
   ·exact .inl (UInt8.lt_trans h1 h2)
   ·exact .inl h1
  ·rcases h2 with h2|⟨rfl,h2⟩
   ·exact .inl h2
   ·exact .inr ⟨rfl,ih h1 h2⟩
theorem Ys.mono {t:List R.Leaf}(h:Ys t)(s:List UInt8)(i j:Nat)(hi:i<t.length)(hj:j<t.length)(a0:i≤j)(hl:zG s t[j].path=true):zG s t[i].path=true:=by
 rcases pF a0 with a1|rfl
 ·exact Zj _ _ _ (h i j hi hj a1) hl
 ·exact hl
def Zb (l:List (List UInt8)):Prop:=∀(i j:Nat) (hi:i<l.length) (hj:j<l.length),i<j→Op.bytesLess l[i] l[j]=true
theorem Zb.mono {l:List (List UInt8)}(h:Zb l)(s:List UInt8)(i j:Nat)(hi:i<l.length)(hj:j<l.length)(a0:i≤j)(hl:zG s l[j]=true):zG s l[i]=true:=by
 rcases pF a0 with a1|rfl
 ·exact Zj _ _ _ (h i j hi hj a1) hl
 ·exact hl
theorem YS:∀a b:List UInt8,Op.bytesLess a b=false→Op.bytesLess b a=false→a=b
 |[],[],_,_=>rfl
 |[],_::_,h,_=>by cases h
 |_::_,[],_,h=>by cases h
 |a::x,b::y,h1,h2=>by
  have ih:=YS x y;rw[Op.bytesLess]at h1 h2;simp only[pG,decide_eq_false_iff_not,Bool.and_eq_false_iff]at h1 h2;have e:a=b:=pH (pI.1 h2.1) (pI.1 h1.1);subst e;rw[ih (by simpa using h1.2) (by simpa using h2.2)]
theorem qG (a b:List UInt8)(h:Op.bytesLess a b=true):Op.bytesLess b a=false:=by
 rw[nY];intro h2;have:=Zj _ _ _ h h2;rw[zm]at this;cases this
theorem Yq (a b:List UInt8)(h:Op.bytesLess a b=true):(a==b)=false:=by
 rw[nY];intro h2;rw[beq_iff_eq.1 h2,zm]at h;cases h
theorem GC (y:List (List UInt8)):R.aheadL [] y=decide (0<y.length):=by cases y<;>rfl
theorem gq (y:List (List UInt8)):R.aheadL y []=false:=by cases y<;>rfl
theorem Jl:∀a b:List UInt8,(∀c∈a,47≤c)→(∀c∈b,47≤c)→R.ahead a b=Op.bytesLess a b
 |[],[],_,_=>rfl
 |[],c::r,_,_=>by
  unfold R.ahead;rw[R.spl,R.spl];split
  ·rw[R.aheadL,if_pos rfl,GC]
   exact decide_eq_true (by have:=(R.spl_length r).2;omega)
  ·split
   all_goals
    rw[R.aheadL,if_neg (by simp)];rfl
 |c::r,[],_,_=>by
  unfold R.ahead;rw[R.spl,R.spl];split
  ·rw[R.aheadL,if_pos rfl,gq];rfl
  ·split
   all_goals
    rw[R.aheadL,if_neg (by simp)];rfl
 |c::r,d::q,ha,hb=>by
  have ih:=Jl r q (fun x hx=>ha x (iQ _ hx)) (fun x hx=>hb x (iQ _ hx));have hc:=ha c (iO ..);have hd:=hb d (iO ..);unfold R.ahead at ih⊢;rw[Op.bytesLess,R.spl,R.spl];by_cases h1:c=47
  ·subst h1
   rw[if_pos rfl];by_cases h2:d=47
   ·subst h2
    rw[if_pos rfl,R.aheadL,if_pos rfl,ih];simp
   ·rw[if_neg h2]
    have a1:(47:UInt8)<d:=by
     rcases pJ 47 d with h|h
     ·exact h
     ·exact absurd (pH h hd) h2
    split
    all_goals
     rw[R.aheadL,if_neg (by simp)];simp[a1,Op.bytesLess]
  ·rw[if_neg h1]
   have a1:(47:UInt8)<c:=by
    rcases pJ 47 c with h|h
    ·exact h
    ·exact absurd (pH h hc) h1
   by_cases h2:d=47
   ·subst h2
    rw[if_pos rfl];have hn:¬c<47:=pI.2 (UInt8.le_of_lt a1);split
    all_goals
     rw[R.aheadL,if_neg (by simp)];simp[hn,h1,Op.bytesLess]
   ·rw[if_neg h2]
    have l1:=(R.spl_length r).2;have l2:=(R.spl_length q).2;generalize R.spl r=x at*;generalize R.spl q=y at*
    cases x with
    |nil=>simp at l1
    |cons h t=>
     cases y with
     |nil=>simp at l2
     |cons h' t' =>
      simp only;rw[R.aheadL]at ih⊢;by_cases a0:c=d
      ·subst a0
       by_cases hh:h=h'
       ·subst hh
        rw[if_pos rfl]at ih⊢;rw[ih];simp
       ·rw[if_neg hh]at ih
        rw[if_neg (by simp[hh]),Op.bytesLess,ih]
      ·rw[if_neg (by simp[a0]),Op.bytesLess]
       have:(c==d)=false:=by simpa using a0
       simp[this]
theorem JT:∀(l:List UInt8),∀c∈l,c=47∨∃p∈R.spl l,c∈p
 |[],c,h=>by simp at h
 |d::r,c,h=>by
  have ih:=JT r;rw[R.spl];by_cases hd:d=47
  ·subst hd
   rw[if_pos rfl];rcases iT.1 h with rfl|h
   ·exact .inl rfl
   ·rcases ih c h with e|⟨p,hp,hc⟩
    ·exact .inl e
    ·exact .inr ⟨p,iQ _ hp,hc⟩
  ·rw[if_neg hd]
   have l1:=(R.spl_length r).2;generalize R.spl r=x at*
   cases x with
   |nil=>simp at l1
   |cons a t=>
    rcases iT.1 h with rfl|h
    ·exact .inr ⟨_,iO ..,iO ..⟩
    ·rcases ih c h with e|⟨p,hp,hc⟩
     ·exact .inl e
     ·rcases iT.1 hp with rfl|hp
      ·exact .inr ⟨_,iO ..,iQ _ hc⟩
      ·exact .inr ⟨p,iQ _ hp,hc⟩
theorem yL (l:List UInt8)(h:R.isPath l=true):∀c∈l,47≤c:=by
 intro c hc;simp only[R.isPath,pB,decide_eq_true_eq,nZ]at h;rcases JT l c hc with rfl|⟨p,hp,a0⟩
 ·exact UInt8.le_refl _
 ·have:=h.2.1 p hp
  simp only[R.isName,pB,nZ]at this;have:=this.1 c a0;simp only[R.nb,pE,pB,decide_eq_true_eq]at this;rw[UInt8.le_iff_toNat_le];show(47:UInt8).toNat≤_;simp;omega
def zW {α:Type}(k:α→List UInt8)(l:List α):Prop:=l.Pairwise fun a b=>Op.bytesLess (k a) (k b)=true
def yI {α:Type}(k:α→List UInt8)(l:List α)(s:List UInt8):Nat:=l.findIdx fun x=> !zG s (k x)
theorem Zz {α:Type}(k:α→List UInt8)(l:List α):zW k l↔∀(i j:Nat) (hi:i<l.length) (hj:j<l.length),i<j→Op.bytesLess (k l[i]) (k l[j])=true:=pK
theorem Ys.k {t:List R.Leaf}(h:Ys t):zW R.Leaf.path t:=(Zz _ _).2 h
theorem zW.t {t:List R.Leaf}(h:zW R.Leaf.path t):Ys t:=(Zz _ _).1 h
theorem Zb.k {t:List (List UInt8)}(h:Zb t):zW id t:=(Zz _ _).2 h
theorem zW.i {t:List (List UInt8)}(h:zW id t):Zb t:=(Zz _ _).1 h
theorem zW.mono {α:Type}{k:α→List UInt8}{l:List α}(h:zW k l)(s:List UInt8)(i j:Nat)(hi:i<l.length)(hj:j<l.length)(a0:i≤j)(hl:zG s (k l[j])=true):zG s (k l[i])=true:=by
 rcases pF a0 with a1|rfl
 ·exact Zj _ _ _ ((Zz _ _).1 h i j hi hj a1) hl
 ·exact hl
def xE {α:Type}(k:α→List UInt8)(x:α)(s:List UInt8):Bool→List α→List α
 |d,[]=>if d then []else [x]
 |d,y::ys=>
  (if !d&&(Op.bytesLess s (k y)||s==k y)then [x]else [])++((if k y==s then []else [y])++xE k x s (d||(Op.bytesLess s (k y)||s==k y)) ys)
theorem xZ (s:List UInt8):∀(l:List (List UInt8)) (d:Bool),R.itemL s d l=xE id s s d l
 |[],d=>rfl
 |y::ys,d=>by rw[R.itemL,xE,xZ s ys];rfl
theorem Qx (x:R.Leaf)(hx:∀c∈x.path,47≤c):∀(l:List R.Leaf) (d:Bool),(∀y∈l,∀c∈y.path,47≤c)→R.setL x d l=xE R.Leaf.path x x.path d l
 |[],d,_=>rfl
 |y::ys,d,h=>by
  rw[R.setL,xE,Jl x.path y.path hx (h y (iO ..)),Qx x hx ys _ fun z hz=>h z (iQ _ hz)]
theorem X_ {α:Type}(k:α→List UInt8)(x:α)(s:List UInt8):∀l:List α,xE k x s true l=l.filter fun y=> !(k y==s)
 |[]=>rfl
 |y::ys=>by
  rw[xE,mP,X_ k x s ys,pL]
  cases k y==s<;>simp
theorem QI {α:Type}(k:α→List UInt8)(s:List UInt8)(l:List α)(h:(l.any fun y=>k y==s)=false):(l.filter fun y=> !(k y==s))=l:=by
 rw[List.filter_eq_self];intro y hy;have:=pM.1 h y hy;simpa using this
theorem Yb {α:Type}(k:α→List UInt8)(s:List UInt8)(y:α)(ys:List α):yI k (y::ys) s=if zG s (k y)=true then yI k ys s+1 else 0:=by
 unfold yI;rw[List.findIdx_cons]
 cases zG s (k y)<;>simp
theorem kA {α:Type}{k:α→List UInt8}{y:α}{ys:List α}(h:zW k (y::ys))(s:List UInt8)(hl:zG s (k y)=false):(ys.any fun z=>k z==s)=false:=by
 rw[nY];intro ha;obtain⟨z,hz,a0⟩:=nX.1 ha;have:=pN h hz;rw[beq_iff_eq.1 a0]at this;rw[zG,this]at hl;cases hl
theorem YX {α:Type}{k:α→List UInt8}{s:List UInt8}:∀{l:List α},zW k l→(l.any fun y=>k y==s)=true→∃hp:yI k l s<l.length,k (l[yI k l s]'hp)=s
 |[],_,h=>by simp at h
 |y::ys,hs,h=>by
  by_cases hl:zG s (k y)=true
  ·have a1:=Yq _ _ hl
   rw[pO,a1,pP]at h;obtain⟨hp,he⟩:=YX (List.Pairwise.of_cons hs) h;have e:yI k (y::ys) s=yI k ys s+1:=by rw[Yb,if_pos hl]
   refine⟨by rw[e];simpa using hp,?_⟩;simp only[e,List.getElem_cons_succ];exact he
  ·have a0 :zG s (k y)=false:=by simpa using hl
   rw[pO,kA hs s a0,pQ]at h;have e:yI k (y::ys) s=0:=by rw[Yb,if_neg hl]
   refine⟨by rw[e];simp,?_⟩;simp only[e,List.getElem_cons_zero];exact beq_iff_eq.1 h
theorem bh {α:Type}(k:α→List UInt8)(l:List α)(s:List UInt8):yI k l s≤l.length:=pR
theorem J7 {α:Type}{k:α→List UInt8}{s:List UInt8}:∀{l:List α},zW k l→(l.any fun y=>k y==s)=true→(l.filter fun y=> !(k y==s))=l.take (yI k l s)++l.drop (yI k l s+1)
 |[],_,h=>by simp at h
 |y::ys,hs,h=>by
  by_cases hl:zG s (k y)=true
  ·have a0:=Yq _ _ hl
   rw[pO,a0,pP]at h;rw[Yb,if_pos hl,pL,a0,J7 (List.Pairwise.of_cons hs) h];simp
  ·have a1 :zG s (k y)=false:=by simpa using hl
   have hr:=kA hs s a1;rw[pO,hr,pQ]at h;rw[Yb,if_neg hl,pL,h,QI k s ys hr];simp
theorem kd {α:Type}{k:α→List UInt8}{s:List UInt8}(x:α):∀{l:List α},zW k l→(l.any fun y=>k y==s)=true→xE k x s false l=l.take (yI k l s)++x::l.drop (yI k l s+1)
 |[],_,h=>by simp at h
 |y::ys,hs,h=>by
  by_cases hl:zG s (k y)=true
  ·have a0:=Yq _ _ hl
   have h2:=qG _ _ hl;have a1 :(s==k y)=false:=by rw[nY]at a0⊢;intro e;exact a0 (by rw[beq_iff_eq]at e⊢;exact e.symm)
   rw[pO,a0,pP]at h;rw[Yb,if_pos hl,xE,a0,h2,a1,pS,pS,kd x (List.Pairwise.of_cons hs) h];simp
  ·have a2 :zG s (k y)=false:=by simpa using hl
   have hr:=kA hs s a2;rw[pO,hr,pQ]at h;have h3:(s==k y)=true:=by rw[beq_iff_eq]at h⊢;exact h.symm
   rw[Yb,if_neg hl,xE,h,h3,pT,pT,X_,QI k s ys hr];simp
theorem q9 {α:Type}{k:α→List UInt8}{s:List UInt8}(x:α):∀{l:List α},zW k l→(l.any fun y=>k y==s)=false→xE k x s false l=l.take (yI k l s)++x::l.drop (yI k l s)
 |[],_,_=>by simp[xE,yI]
 |y::ys,hs,h=>by
  rw[pO,pG]at h;have a0 :(s==k y)=false:=by have:=h.1;rw[nY]at this⊢;intro e;exact this (by rw[beq_iff_eq]at e⊢;exact e.symm)
  by_cases hl:zG s (k y)=true
  ·have h2:=qG _ _ hl
   rw[Yb,if_pos hl,xE,h.1,h2,a0,pS,pS,q9 x (List.Pairwise.of_cons hs) h.2];simp
  ·have a1 :zG s (k y)=false:=by simpa using hl
   have h3:Op.bytesLess s (k y)=true:=by
    cases hc:Op.bytesLess s (k y)
    ·rw[YS _ _ hc a1]at a0;simp at a0
    ·rfl
   rw[Yb,if_neg hl,xE,h.1,h3,mP,pT,X_,QI k s ys h.2];simp
theorem yW {α:Type}{k:α→List UInt8}{s:List UInt8}{x:α}:∀{l:List α} {d:Bool} {z:α},z∈xE k x s d l→z=x∨z∈l
 |[],d,z,h=>by cases d<;>simp_all [xE]
 |y::ys,d,z,h=>by
  rw[xE,iZ,iZ]at h;rcases h with h|h|h
  ·split at h
   ·exact .inl (by simpa using h)
   ·simp at h
  ·split at h
   ·simp at h
   ·exact .inr (by rw[iV.1 h];exact iO ..)
  ·rcases yW h with e|e
   ·exact .inl e
   ·exact .inr (iQ _ e)
theorem xK {α:Type}{k:α→List UInt8}{s:List UInt8}{x:α}(hx:k x=s):∀{l:List α},zW k l→zW k (xE k x s false l)
 |[],_=>by simp[xE,zW]
 |y::ys,hs=>by
  have a3:=List.Pairwise.of_cons hs;have a0:∀z∈ys,Op.bytesLess (k y) (k z)=true:=fun z hz=>pN hs hz
  have hf:zW k (ys.filter fun y=> !(k y==s)):=List.Pairwise.sublist pU a3;rw[xE]
  cases hc:(Op.bytesLess s (k y)||s==k y)
  ·rw[pG]at hc
   have a1:(k y==s)=false:=by have:=hc.2;rw[nY]at this⊢;intro e;exact this (by rw[beq_iff_eq]at e⊢;exact e.symm)
   have a2:Op.bytesLess (k y) s=true:=by
    cases h:Op.bytesLess (k y) s
    ·rw[YS _ _ h hc.1]at a1;simp at a1
    ·rfl
   rw[a1];simp only[eV,nU,eU,if_false,nV,pS,mS];refine List.Pairwise.cons (fun z hz=> ?_) (xK hx a3);rcases yW hz with rfl|hz
   ·rw[hx];exact a2
   ·exact a0 z hz
  ·simp only[eV,nU,if_true,pT]
   rw[X_];by_cases he:k y=s
   ·have:(k y==s)=true:=by simpa using he
    rw[this];simp only[if_true,nV,mS];refine List.Pairwise.cons (fun z hz=> ?_) hf;rw[hx,←he];exact a0 z (pV.1 hz).1
   ·have a1:(k y==s)=false:=by simpa using he
    have a2:Op.bytesLess s (k y)=true:=by
     cases h:Op.bytesLess s (k y)
     ·rw[h,pP]at hc;exact absurd (beq_iff_eq.1 hc).symm he
     ·rfl
    rw[a1];simp only[eU,if_false,mS];refine List.Pairwise.cons (fun z hz=> ?_) (List.Pairwise.cons (fun z hz=>a0 z (pV.1 hz).1) hf);rcases iT.1 hz with rfl|hz
    ·rw[hx];exact a2
    ·rw[hx];exact Zj _ _ _ a2 (a0 z (pV.1 hz).1)
structure OkL (x:R.Leaf):Prop where
 path:R.isPath x.path=true
 kind:(x.kind=35∧x.text=[]∧x.items=[])∨(x.kind=61∧x.n=0∧x.items=[])∨(x.kind=42∧x.n=0∧x.text=[]∧x.items≠ [])
 hi:x.n≤1000000000
 lo: -1000000000≤x.n
 text:R.isText x.text=true
 many:x.items.length≤8
 item:∀i∈x.items,R.isText i=true∧i≠ []
 sort:Zb x.items
structure OkT (t:List R.Leaf):Prop where
 sort:Ys t
 few:t.length≤24
 ok:∀x∈t,OkL x
 free:∀x∈t,∀y∈t,R.leads x.path y.path=false
structure Inv (st:R.St):Prop where
 many:st.brs.length≤6
 names:∀b∈st.brs,R.isName b.name=true
 sort:zW R.Br.name st.brs
 work:∀b∈st.brs,OkT b.work
 heads:∀b∈st.brs,b.head≤st.cms.length
 few:st.cms.length≤60
 trees:∀c∈st.cms,OkT c.tree
 pars:∀(i:Nat) (h:i<st.cms.length),∀p∈st.cms[i].parents,1≤p∧p≤i
 two:∀c∈st.cms,c.parents.length≤2
theorem Zs (l:List UInt8)(h:R.isText l=true):l.length≤20:=by
 simp only[R.isText,pB,decide_eq_true_eq]at h;exact h.1
theorem ZN (l:List UInt8)(h:R.isName l=true):l.length≤8:=by
 simp only[R.isName,pB,decide_eq_true_eq]at h;exact h.2.2
theorem Y7 (l:List UInt8)(h:R.isPath l=true):l.length≤100:=by
 simp only[R.isPath,pB,decide_eq_true_eq]at h;exact h.1
theorem OkL.good {x:R.Leaf}(h:OkL x):R.Good x:=
 ⟨by have:=Y7 _ h.path;omega,by have:=h.hi;omega,by have:=h.lo;omega,by have:=Zs _ h.text;omega,by have:=h.many;omega,fun i hi=>by have:=Zs _ (h.item i hi).1;omega⟩
theorem OkL.nz {x:R.Leaf}(h:OkL x):x.kind≠0:=by
 rcases h.kind with h|h|h<;>(rw[h.1];decide)
theorem OkT.nil:OkT []:=⟨fun i j hi=>by simp at hi,by simp,by simp,by simp⟩
theorem vP (p:List UInt8):R.leads p p=false:=by simp[R.leads]
theorem Va {t:List R.Leaf}{p:List UInt8}(h:R.blocked t p=false):∀y∈t,R.leads y.path p=false∧R.leads p y.path=false:=fun y hy=>by
 have:=pM.1 h y hy;simpa using this
theorem Vb (t:List R.Leaf)(p:List UInt8):((t.any fun x=>x.path==p)=false∧R.at_ t p=R.none p)∨((t.any fun x=>x.path==p)=true∧R.at_ t p∈t∧(R.at_ t p).path=p):=by
 unfold R.at_
 cases h:t.find? fun x=>x.path==p with
 |none=>
  refine .inl ⟨?_,rfl⟩;rw[nY];intro ha;obtain⟨y,hy,a0⟩:=nX.1 ha;exact absurd a0 (by have:=pW.1 h y hy;simpa using this)
 |some y=>
  have h1:=pX h;have h2:=List.mem_of_find?_eq_some h;exact .inr ⟨nX.2 ⟨y,h2,h1⟩,h2,beq_iff_eq.1 h1⟩
theorem OkT.bytes {t:List R.Leaf}(h:OkT t):∀y∈t,∀c∈y.path,47≤c:=fun y hy=>yL _ (h.ok y hy).path
theorem qW {t:List R.Leaf}(h:OkT t)(x:R.Leaf)(hp:R.isPath x.path=true)(hk:x.kind=0):R.set t x=t.filter fun y=> !(y.path==x.path):=by
 rw[R.set,decide_eq_true hk,Qx x (yL _ hp) t true h.bytes,X_]
theorem qV {t:List R.Leaf}(h:OkT t)(x:R.Leaf)(hp:R.isPath x.path=true)(hk:x.kind≠0):R.set t x=xE R.Leaf.path x x.path false t:=by
 rw[R.set,decide_eq_false hk,Qx x (yL _ hp) t false h.bytes]
theorem Ug {t:List R.Leaf}(h:OkT t)(x:R.Leaf)(hp:R.isPath x.path=true)(hk:x.kind≠0)(ha:(t.any fun y=>y.path==x.path)=true):R.set t x=t.take (yg t x.path)++x::t.drop (yg t x.path+1):=by
 rw[qV h x hp hk];exact kd x h.sort.k ha
theorem ju {t:List R.Leaf}(h:OkT t)(x:R.Leaf)(hp:R.isPath x.path=true)(hk:x.kind≠0)(ha:(t.any fun y=>y.path==x.path)=false):R.set t x=t.take (yg t x.path)++x::t.drop (yg t x.path):=by
 rw[qV h x hp hk];exact q9 x h.sort.k ha
theorem CN {t:List R.Leaf}(h:OkT t)(x:R.Leaf)(hp:R.isPath x.path=true)(hk:x.kind=0)(ha:(t.any fun y=>y.path==x.path)=true):R.set t x=t.take (yg t x.path)++t.drop (yg t x.path+1):=by
 rw[qW h x hp hk];exact J7 h.sort.k ha
theorem set_same {t:List R.Leaf}(h:OkT t)(x:R.Leaf)(hp:R.isPath x.path=true)(hk:x.kind=0)(ha:(t.any fun y=>y.path==x.path)=false):R.set t x=t:=by
 rw[qW h x hp hk];exact QI R.Leaf.path x.path t ha
theorem XZ {l:List (List UInt8)}(h:Zb l)(s:List UInt8)(ha:(l.any fun y=>y==s)=true):R.item l s=l:=by
 rw[R.item,xZ,kd s h.k ha];obtain⟨hp,he⟩:=YX (k:=id) (s:=s) h.k ha;have e:s::l.drop (yI id l s+1)=l.drop (yI id l s):=by
  rw[nP hp];congr 1;exact he.symm
 rw[e,nS]
theorem xJ {l:List (List UInt8)}(h:Zb l)(s:List UInt8)(ha:(l.any fun y=>y==s)=false):R.item l s=l.take (xB l s)++s::l.drop (xB l s):=by
 rw[R.item,xZ];exact q9 s h.k ha
theorem oC {l:List (List UInt8)}(h:Zb l)(s:List UInt8)(ha:(l.any fun y=>y==s)=true):R.without l s=l.take (xB l s)++l.drop (xB l s+1):=J7 (k:=id) h.k ha
theorem kU {l:List (List UInt8)}(h:Zb l)(s:List UInt8):Zb (R.item l s):=by
 rw[R.item,xZ];exact zW.i (xK rfl h.k)
theorem jZ {l:List (List UInt8)}{s z:List UInt8}(h:z∈R.item l s):z=s∨z∈l:=by
 rw[R.item,xZ]at h;exact yW h
theorem GZ (l:List (List UInt8))(h:Zb l)(s:List UInt8):R.item l s≠ []:=by
 cases ha:l.any fun y=>y==s
 ·rw[xJ h s ha];simp
 ·rw[XZ h s ha];intro e;rw[e]at ha;simp at ha
theorem BA {t:List R.Leaf}(h:OkT t)(x:R.Leaf)(hp:R.isPath x.path=true)(hx:x.kind≠0→OkL x)(hm:x.kind≠0→(R.at_ t x.path).kind=0→t.length<24)(a0:x.kind≠0→R.blocked t x.path=false∨∃z∈t,z.path=x.path):OkT (R.set t x):=by
 by_cases hk:x.kind=0
 ·rw[qW h x hp hk]
  refine⟨zW.t (List.Pairwise.sublist pU h.sort.k),?_,fun y hy=>h.ok y (pV.1 hy).1,fun y hy z hz=>h.free y (pV.1 hy).1 z (pV.1 hz).1⟩;have:=pY (fun y:R.Leaf=> !(y.path==x.path)) t;have:=h.few;omega
 ·have hs:Ys (R.set t x):=by rw[qV h x hp hk];exact zW.t (xK rfl h.sort.k)
  refine⟨hs,?_,fun y hy=> ?_,fun y hy z hz=> ?_⟩
  ·rcases Vb t x.path with⟨ha,he⟩|⟨ha,h1,h2⟩
   ·rw[ju h x hp hk ha]
    have:=hm hk (by rw[he];rfl);simp only[nL,nM,pZ,rA];omega
   ·rw[Ug h x hp hk ha]
    obtain⟨a1,_⟩:=YX (k:=R.Leaf.path) h.sort.k ha;have e:yg t x.path=yI R.Leaf.path t x.path:=rfl;have:=h.few;simp only[nL,nM,pZ,rA];omega
  ·rw[qV h x hp hk]at hy
   rcases yW hy with rfl|hy
   ·exact hx hk
   ·exact h.ok y hy
  ·rw[qV h x hp hk]at hy hz
   have hd:∀y∈t,R.leads y.path x.path=false∧R.leads x.path y.path=false:=by
    rcases a0 hk with hb|⟨q,hq,e⟩
    ·exact Va hb
    ·intro y hy
     rw[←e];exact⟨h.free y hy q hq,h.free q hq y hy⟩
   rcases yW hy with e1|e1
   ·rcases yW hz with e2|e2
    ·rw[e1,e2];exact vP _
    ·rw[e1];exact(hd z e2).2
   ·rcases yW hz with e2|e2
    ·rw[e2];exact(hd y e1).1
    ·exact h.free y e1 z e2
theorem Bd {t:List R.Leaf}(h:OkT t)(p:List UInt8):R.at_ t p=R.none p∨OkL (R.at_ t p):=by
 rcases Vb t p with⟨_,he⟩|⟨_,h1,_⟩
 ·exact .inl he
 ·exact .inr (h.ok _ h1)
theorem CG {t:List R.Leaf}(h:OkT t)(kind:Int)(path:List UInt8)(n:Int)(text:List UInt8)(hp:R.isPath path=true)(hk:kind=0∨kind=45∨kind=35∨kind=61∨kind=42)
  (h0:(R.valV kind t (R.at_ t path) path n text).1=0):OkT (R.set t (R.valV kind t (R.at_ t path) path n text).2):=by
 generalize hx:R.at_ t path=x at*;have a1:x=R.none path∨OkL x:=by rw[←hx];exact Bd h path
 have a3:x.path=path:=by
  rcases Vb t path with⟨_,he⟩|⟨_,_,h2⟩
  ·rw[←hx,he];rfl
  ·rw[←hx];exact h2
 have a5:Zb x.items:=by
  rcases a1 with rfl|a1
  ·intro i j hi;simp[R.none]at hi
  ·exact a1.sort
 have a0:∀y:R.Leaf,y.path=path→(y.kind≠0→OkL y)→(y.kind≠0→x.kind=0→t.length<24)→(y.kind≠0→R.blocked t path=false∨∃z∈t,z.path=path)→OkT (R.set t y):=fun y hy h1 h2 h5=>
  BA h y (by rw[hy];exact hp) h1 (fun h3 h4=>h2 h3 (by rw[hy,hx]at h4;exact h4)) (by rw[hy];exact h5)
 rcases hk with rfl|rfl|rfl|rfl|rfl
 ·simp only[R.valV,if_true,R.delV]at h0⊢
  split at h0
  ·cases h0
  ·rw[if_neg (by assumption)]
   exact a0 _ rfl (fun h=>absurd rfl h) (fun h=>absurd rfl h) (fun h=>absurd rfl h)
 ·simp only[R.valV,show¬(45:Int)=0 by decide,if_false,if_true,R.takeV]at h0⊢
  split at h0
  ·cases h0
  ·rename_i c1
   split at h0
   ·cases h0
   ·rename_i c2
    split at h0
    ·cases h0
    ·rename_i c3
     rw[if_neg c1,if_neg c2,if_neg c3];have a7 :(x.items.any fun y=>y==text)=true:=by simpa using c3
     have a2:OkL x∧x.kind=42:=by
      rcases a1 with rfl|a1
      ·simp[R.none]at a7
      ·refine⟨a1,?_⟩
       have:=a1.nz;by_cases e:x.kind=42
       ·exact e
       ·exact absurd ⟨this,e⟩ c2
     refine a0 _ rfl (fun a4=> ?_) (fun a4 hz=>absurd hz a2.1.nz) (fun _=> .inr ⟨x,?_,a3⟩);rotate_left
     ·rcases Vb t path with⟨_,he⟩|⟨_,h1,_⟩
      ·rw[hx]at he;rw[he]at a2;exact absurd a2.2 (by simp[R.none])
      ·rw[hx]at h1;exact h1
     have hw:R.without x.items text≠ []:=by
      intro e;simp[e]at a4
     refine⟨hp,.inr (.inr ⟨by simp[hw],rfl,rfl,hw⟩),by simp,by simp,rfl,?_,fun i hi=>a2.1.item i (pV.1 hi).1,zW.i (List.Pairwise.sublist pU a2.1.sort.k)⟩;have:=pY (fun y:List UInt8=> !(y==text)) x.items;have:=a2.1.many;simp only[R.without];omega
 ·simp only[R.valV,show¬(35:Int)=0 by decide,show¬(35:Int)=45 by decide,if_false,if_true,R.addV]at h0⊢
  split at h0
  ·cases h0
  ·rename_i c1
   split at h0
   ·cases h0
   ·rename_i c2
    split at h0
    ·cases h0
    ·rename_i c3
     split at h0
     ·cases h0
     ·rename_i c4
      rw[if_neg c1,if_neg c2,if_neg c3,if_neg c4];refine a0 _ rfl (fun _=> ?_) (fun _ hz=>by
       rcases mX t.length 24 with h|h
       ·exact h
       ·exact absurd ⟨hz,h⟩ c4) (fun _=> .inl (by simpa using c2))
      exact⟨hp,.inl ⟨rfl,rfl,rfl⟩,by simp only;omega,by simp only;omega,rfl,by simp,by simp,fun i j hi=>by simp at hi⟩
 ·simp only[R.valV,show¬(61:Int)=0 by decide,show¬(61:Int)=45 by decide,show¬(61:Int)=35 by decide,if_false,if_true,R.noteV]at h0⊢
  split at h0
  ·cases h0
  ·rename_i c1
   split at h0
   ·cases h0
   ·rename_i c2
    split at h0
    ·cases h0
    ·rename_i c3
     split at h0
     ·cases h0
     ·rename_i c4
      rw[if_neg c1,if_neg c2,if_neg c3,if_neg c4];refine a0 _ rfl (fun _=> ?_) (fun _ hz=>by
       rcases mX t.length 24 with h|h
       ·exact h
       ·exact absurd ⟨hz,h⟩ c4) (fun _=> .inl (by simpa using c3))
      exact⟨hp,.inr (.inl ⟨rfl,rfl,rfl⟩),by simp,by simp,by simpa using c1,by simp,by simp,fun i j hi=>by simp at hi⟩
 ·simp only[R.valV,show¬(42:Int)=0 by decide,show¬(42:Int)=45 by decide,show¬(42:Int)=35 by decide,show¬(42:Int)=61 by decide,if_false,R.putV]at h0⊢
  split at h0
  ·cases h0
  ·rename_i c1
   split at h0
   ·cases h0
   ·rename_i c2
    split at h0
    ·cases h0
    ·rename_i c3
     split at h0
     ·cases h0
     ·rename_i c4
      split at h0
      ·cases h0
      ·rename_i c5
       rw[if_neg c1,if_neg c2,if_neg c3,if_neg c4,if_neg c5];refine a0 _ rfl (fun _=> ?_) (fun _ hz=>by
        rcases mX t.length 24 with h|h
        ·exact h
        ·exact absurd ⟨hz,h⟩ c5) (fun _=> .inl (by simpa using c3))
       have a6 :R.isText text=true∧text≠ []:=by simpa using c1
       refine⟨hp,.inr (.inr ⟨rfl,rfl,rfl,GZ _ a5 _⟩),by simp,by simp,rfl,by simp only;omega,fun i hi=> ?_,kU a5 text⟩;rcases jZ hi with rfl|hi
       ·exact a6
       ·rcases a1 with rfl|a1
        ·simp[R.none]at hi
        ·exact a1.item i hi
theorem QH (l:List R.Br)(n:List UInt8):(l.any fun b=>b.name==n)=decide (R.fnd l n<l.length):=by
 rw[rC,decide_eq_true_eq,nX];unfold R.fnd;rw[List.findIdx_lt_length]
theorem j8 {l:List R.Br}(h:zW R.Br.name l)(n:List UInt8)(hl:R.fnd l n<l.length):R.fnd l n=yI R.Br.name l n:=by
 obtain⟨hp,he⟩:=YX (k:=R.Br.name) (s:=n) h (by rw[QH];exact decide_eq_true hl);have hf:=R.fnd_name l n hl;have hs:=(Zz _ _).1 h;rcases Nat.lt_trichotomy (R.fnd l n) (yI R.Br.name l n)with a1|e|a0
 ·have:=hs _ _ hl hp a1;rw[hf,he,zm]at this;cases this
 ·exact e
 ·have:=hs _ _ hp hl a0;rw[hf,he,zm]at this;cases this
theorem uu {l:List R.Br}(h:zW R.Br.name l)(b:R.Br)(hn:¬R.fnd l b.name<l.length):R.insB l b=xE R.Br.name b b.name false l:=by
 rw[q9 b h (by rw[QH];exact decide_eq_false hn)];rfl
theorem YA {st:R.St}(h:Inv st)(n:Nat):OkT (R.treeOf st n):=by
 unfold R.treeOf;split
 ·exact OkT.nil
 ·cases e:st.cms[n-1]? with
  |none=>exact OkT.nil
  |some c=>exact h.trees c (lC e)
theorem Qc {st:R.St}(h:Inv st)(name fr:List UInt8)(a0:Bool):Inv (R.made st name fr a0).2:=by
 unfold R.made;split
 ·exact h
 ·rename_i hn
  split
  ·exact h
  ·split
   ·exact h
   ·rename_i hf
    split
    ·exact h
    ·rename_i hm
     have a6:¬R.fnd st.brs name<st.brs.length:=by
      intro e;exact hf (by rw[R.fndI,if_pos e];omega)
     have a2:(if a0 then R.headOf st fr else 0)≤st.cms.length:=by
      split
      ·unfold R.headOf
       cases e:st.brs[R.fnd st.brs fr]? with
       |none=>simp
       |some b=>exact h.heads b (lC e)
      ·omega
     generalize hb:({name:=name,head:=if a0 then R.headOf st fr else 0,work:=R.treeOf st (if a0 then R.headOf st fr else 0)}:R.Br)=b;have a4:b.name=name:=by rw[←hb]
     have a3:=uu h.sort b (by rw[a4];exact a6);have a1:∀z∈R.insB st.brs b,z=b∨z∈st.brs:=fun z hz=>by rw[a3]at hz;exact yW hz
     have a5:(R.insB st.brs b).length=st.brs.length+1:=by
      have a7:R.pos st.brs b.name≤st.brs.length:=pR;simp only[R.insB,nL,pZ,nM,rA];omega
     refine⟨?_,?_,?_,?_,?_,h.few,h.trees,h.pars,h.two⟩
     ·show(R.insB st.brs b).length≤6
      omega
     ·intro z hz
      rcases a1 z hz with rfl|hz
      ·rw[a4];simpa using hn
      ·exact h.names z hz
     ·show zW R.Br.name (R.insB st.brs b)
      rw[a3];exact xK rfl h.sort
     ·intro z hz
      rcases a1 z hz with rfl|hz
      ·rw[←hb];exact YA h _
      ·exact h.work z hz
     ·intro z hz
      rcases a1 z hz with rfl|hz
      ·rw[←hb];exact a2
      ·exact h.heads z hz
theorem OO {st:R.St}(h:Inv st)(n:List UInt8):Inv (R.dropped st n).2:=by
 unfold R.dropped;split
 ·exact h
 ·have a0:(st.brs.take (R.fnd st.brs n)++st.brs.drop (R.fnd st.brs n+1)).Sublist st.brs:=by
   have h1:(st.brs.drop (R.fnd st.brs n+1)).Sublist (st.brs.drop (R.fnd st.brs n)):=by
    rw[←List.drop_drop];exact List.drop_sublist _ _
   have:=List.Sublist.append (List.Sublist.refl (st.brs.take (R.fnd st.brs n))) h1;rwa[nS]at this
  refine⟨j0f a0.length_le h.many,fun b hb=>h.names b (a0.subset hb),List.Pairwise.sublist a0 h.sort,fun b hb=>h.work b (a0.subset hb),fun b hb=>h.heads b (a0.subset hb),h.few,h.trees,h.pars,h.two⟩
theorem oL {st:R.St}(h:Inv st)(i:Nat)(t:List R.Leaf)(ht:OkT t):Inv (R.setWork st i t):=by
 unfold R.setWork
 cases e:st.brs[i]? with
 |none=>exact h
 |some b=>
  obtain⟨hi,hb⟩:=rD.1 e;have a1:b∈st.brs:=lC e;have a0:∀z∈st.brs.set i {b with work:=t},z={b with work:=t}∨z∈st.brs:=fun z hz=>(rE hz).symm
  refine⟨by simpa using h.many,fun z hz=> ?_,?_,fun z hz=> ?_,fun z hz=> ?_,h.few,h.trees,h.pars,h.two⟩
  ·rcases a0 z hz with rfl|hz
   ·exact h.names b a1
   ·exact h.names z hz
  ·show zW R.Br.name (st.brs.set i {b with work:=t})
   rw[Zz];have hs:=(Zz _ _).1 h.sort;intro p q hp hq a2;have g:∀(p:Nat) (hp:p<(st.brs.set i {b with work:=t}).length),(st.brs.set i {b with work:=t})[p].name=(st.brs[p]'(by simpa using hp)).name:=by
    intro p hp;rw[rF];split
    ·rename_i e;subst e;simp only;rw[hb]
    ·rfl
   rw[g,g];exact hs p q _ _ a2
  ·rcases a0 z hz with rfl|hz
   ·exact ht
   ·exact h.work z hz
  ·rcases a0 z hz with rfl|hz
   ·exact h.heads b a1
   ·exact h.heads z hz
theorem ZL {st:R.St}(h:Inv st)(n:List UInt8):OkT (R.workOf st n):=by
 unfold R.workOf
 cases e:st.brs[R.fnd st.brs n]? with
 |none=>exact OkT.nil
 |some b=>exact h.work b (lC e)
theorem Ya {st:R.St}(h:Inv st)(kind:Int)(a0 path:List UInt8)(n:Int)(text:List UInt8)(hk:kind=0∨kind=45∨kind=35∨kind=61∨kind=42):Inv (R.change st kind a0 path n text).2:=by
 unfold R.change;split
 ·exact h
 ·split
  ·exact h
  ·rename_i hp
   split
   ·rename_i h0
    exact oL h _ _ (CG (ZL h a0) kind path n text (by simpa using hp) hk h0)
   ·exact h
theorem UU (c:UInt8):∀(a b r s:List UInt8),(∀z∈a,z≠c)→(∀z∈b,z≠c)→a++c::r=b++c::s→a=b∧r=s
 |[],[],r,s,_,_,h=>⟨rfl,by simpa using h⟩
 |[],y::b,r,s,_,hb,h=>by
  simp at h;exact absurd h.1.symm (hb y (by simp))
 |x::a,[],r,s,ha,_,h=>by
  simp at h;exact absurd h.1 (ha x (by simp))
 |x::a,y::b,r,s,ha,hb,h=>by
  simp only[mJ,List.cons.injEq]at h;obtain⟨h1,h2⟩:=UU c a b r s (fun z hz=>ha z (by simp[hz])) (fun z hz=>hb z (by simp[hz])) h.2;exact⟨by rw[h.1,h1],h2⟩
theorem Xl (l:List UInt8)(h:R.isText l=true):∀c∈l,32≤c.toNat∧c≠59:=by
 simp only[R.isText,pB,nZ]at h;intro c hc;have h1:=h.2 c hc;simp only[R.tb,pB,decide_eq_true_eq,Bool.not_eq_true',decide_eq_false_iff_not]at h1;exact⟨h1.1,fun e=>h1.2.2 (by rw[e];rfl)⟩
theorem Og:∀(l:List (List UInt8)),(∀x∈l,R.isText x=true)→∀c∈R.joinF l,32≤c.toNat
 |[],_,c,hc=>by simp[R.joinF]at hc
 |x::r,h,c,hc=>by
  simp only[R.joinF,mJ,iT,iZ]at hc;rcases hc with rfl|hc|hc
  ·decide
  ·exact(Xl x (h x (by simp)) c hc).1
  ·exact Og r (fun z hz=>h z (by simp[hz])) c hc
theorem uq:∀(l m:List (List UInt8)) (x y:List UInt8),(∀z∈l,R.isText z=true)→(∀z∈m,R.isText z=true)→R.isText x=true→R.isText y=true→x++R.joinF l=y++R.joinF m→x=y∧l=m
 |[],[],x,y,_,_,_,_,h=>⟨by simpa[R.joinF]using h,rfl⟩
 |[],b::m,x,y,_,_,hx,_,h=>by
  simp only[R.joinF,nB]at h;have:(59:UInt8)∈x:=by rw[h];simp
  exact absurd rfl (Xl x hx _ this).2
 |a::l,[],x,y,_,_,_,hy,h=>by
  simp only[R.joinF,nB]at h;have:(59:UInt8)∈y:=by rw[←h];simp
  exact absurd rfl (Xl y hy _ this).2
 |a::l,b::m,x,y,hl,hm,hx,hy,h=>by
  simp only[R.joinF,mJ]at h;obtain⟨h1,h2⟩:=UU 59 x y _ _ (fun z hz=>(Xl x hx z hz).2) (fun z hz=>(Xl y hy z hz).2) h;obtain⟨h3,h4⟩:=uq l m a b (fun z hz=>hl z (by simp[hz])) (fun z hz=>hm z (by simp[hz])) (hl a (by simp)) (hm b (by simp)) h2;exact⟨h1,by rw[h3,h4]⟩
theorem F4 (l m:List (List UInt8))(hl:∀z∈l,R.isText z=true)(hm:∀z∈m,R.isText z=true)(h1:l≠ [])(h2:m≠ [])(h:R.joinI l=R.joinI m):l=m:=by
 cases l with
 |nil=>exact absurd rfl h1
 |cons a l=>
  cases m with
  |nil=>exact absurd rfl h2
  |cons b m=>
   rw[R.joinI_eq,R.joinI_eq]at h;obtain⟨h3,h4⟩:=uq l m a b (fun z hz=>hl z (by simp[hz])) (fun z hz=>hm z (by simp[hz])) (hl a (by simp)) (hm b (by simp)) h;rw[h3,h4]
theorem qc (n:Nat)(h:¬n<10):rG n=rG (n/10)++ [nK (48+n % 10)]:=by rw[rG,dif_neg h]
theorem Cg (a b:Nat)(ha:a<10)(hb:b<10)(h:nK (48+a)=nK (48+b)):a=b:=by
 have:=congrArg UInt8.toNat h;rw[rH,rH]at this;omega
theorem OU (n:Nat):1≤(rG n).length:=by rw[Lib.decDigits_length];exact Lib.nDigits_pos n
theorem OV:∀(a b:Nat),rG a=rG b→a=b:=by
 intro a;induction a using mN with
 |_ a ih=>
  intro b h;by_cases ha:a<10
  ·by_cases hb:b<10
   ·rw[rI ha,rI hb]at h
    exact Cg a b ha hb (by simpa using h)
   ·rw[rI ha,qc b hb]at h
    have h1:=congrArg rJ h;have:=OU (b/10);simp only[nL,rK]at h1;omega
  ·by_cases hb:b<10
   ·rw[rI hb,qc a ha]at h
    have h1:=congrArg rJ h;have:=OU (a/10);simp only[nL,rK]at h1;omega
   ·rw[qc a ha,qc b hb]at h
    obtain⟨h1,h2⟩:=List.append_inj' h rfl;have:=ih (a/10) (by omega) (b/10) h1;have:=Cg (a % 10) (b % 10) (by omega) (by omega) (by simpa using h2);omega
theorem ki:∀(n:Nat),∀c∈rG n,48≤c.toNat:=by
 intro n;induction n using mN with
 |_ n ih=>
  intro c hc;by_cases h:n<10
  ·rw[rI h]at hc
   rw[iV.1 hc,rH];omega
  ·rw[qc n h]at hc
   rcases iZ.1 hc with hc|hc
   ·exact ih (n/10) (by omega) c hc
   ·rw[iV.1 hc,rH];omega
theorem cQ (n:Int):∀c∈nJ n,45≤c.toNat:=by
 intro c hc;unfold nJ at hc;split at hc
 ·rcases iT.1 hc with rfl|hc
  ·decide
  ·have:=ki _ c hc;omega
 ·have:=ki _ c hc;omega
theorem cP (a b:Int)(h:nJ a=nJ b):a=b:=by
 unfold nJ at h;split at h<;>split at h
 ·have:=OV _ _ (List.cons.inj h).2;omega
 ·have:=ki b.toNat 45 (by rw[←h];simp);exact absurd this (by decide)
 ·have:=ki a.toNat 45 (by rw[h];simp);exact absurd this (by decide)
 ·have:=OV _ _ h;omega
theorem cO (l:List (List UInt8))(h:∀x∈l,R.isText x=true):∀c∈R.joinI l,32≤c.toNat:=by
 cases l with
 |nil=>intro c hc;simp[R.joinI]at hc
 |cons a l=>
  intro c hc;rw[R.joinI_eq]at hc;rcases iZ.1 hc with hc|hc
  ·exact(Xl a (h a (by simp)) c hc).1
  ·exact Og l (fun z hz=>h z (by simp[hz])) c hc
theorem OkL.no10 {x:R.Leaf}(h:OkL x):∀c∈R.written x,c≠10:=by
 intro c hc e;subst e;unfold R.written at hc;split at hc
 ·rcases iT.1 hc with hc|hc
  ·exact absurd hc (by decide)
  ·exact absurd (cQ _ _ hc) (by decide)
 ·split at hc
  ·rcases iT.1 hc with hc|hc
   ·exact absurd hc (by decide)
   ·exact absurd (Xl _ h.text _ hc).1 (by decide)
  ·rcases iT.1 hc with hc|hc
   ·exact absurd hc (by decide)
   ·exact absurd (cO _ (fun i hi=>(h.item i hi).1) _ hc) (by decide)
theorem OkL.no32 {x:R.Leaf}(h:OkL x):∀c∈x.path,c≠32∧c≠10:=by
 intro c hc;have:=yL _ h.path c hc;constructor<;>(intro e;rw[e]at this;exact absurd this (by decide))
theorem OkL.inj {x y:R.Leaf}(hx:OkL x)(hy:OkL y)(hp:x.path=y.path)(h:R.written x=R.written y):x=y:=by
 obtain⟨p,k,n,t,it⟩:=x;obtain⟨p',k',n',t',a0⟩:=y;simp only at hp;subst hp;rcases hx.kind with⟨e1,e2,e3⟩|⟨e1,e2,e3⟩|⟨e1,e2,e3,e4⟩<;>rcases hy.kind with⟨f1,f2,f3⟩|⟨f1,f2,f3⟩|⟨f1,f2,f3,f4⟩<;>simp only at e1 e2 e3 f1 f2 f3<;>subst e1 e2 e3 f1 f2 f3<;>simp[R.written]at h
 ·rw[cP _ _ h]
 ·rw[h]
 ·rw[F4 it a0 (fun i hi=>(hx.item i hi).1) (fun i hi=>(hy.item i hi).1) e4 f4 h]
theorem KC:∀(t u:List R.Leaf),(∀x∈t,OkL x)→(∀x∈u,OkL x)→R.Written t=R.Written u→t=u
 |[],[],_,_,_=>rfl
 |[],y::u,_,_,h=>by simp[R.Written,R.line]at h
 |x::t,[],_,_,h=>by simp[R.Written,R.line]at h
 |x::t,y::u,ht,hu,h=>by
  have hx:=ht x (by simp);have hy:=hu y (by simp);simp only[R.Written,rL,R.line,List.append_assoc,mJ,nV]at h;obtain⟨h1,h2⟩:=UU 32 _ _ _ _ (fun z hz=>(hx.no32 z hz).1) (fun z hz=>(hy.no32 z hz).1) h;obtain⟨h3,h4⟩:=UU 10 _ _ _ _ hx.no10 hy.no10 h2;rw[hx.inj hy h1 h3,KC t u (fun z hz=>ht z (by simp[hz])) (fun z hz=>hu z (by simp[hz])) h4]
theorem OkT.inj {t u:List R.Leaf}(ht:OkT t)(hu:OkT u):R.Written t=R.Written u↔t=u:=⟨KC t u ht.ok hu.ok,fun h=>by rw[h]⟩
namespace R
def bodyC (c:Cm):List UInt8:=nK c.parents.length::(c.parents.map nK++Written c.tree)
def keepC (st:St)(c:Cm):St:={st with cms:=st.cms++ [c],packed:=st.packed++record 67 (bodyC c)}
def setHead (st:St)(name:List UInt8)(n:Nat):St:={st with brs:=st.brs.set (fnd st.brs name) {name:=name,head:=n,work:=treeOf st n},packed:=st.packed++record 66 (nK n::name)}
def parsOf (h:Nat):List Nat:=if h=0 then []else [h]
def down (st:St)(name:List UInt8)(c:Cm):St:=setHead (keepC st c) name (st.cms.length+1)
def commit (st:St)(name:List UInt8):(Int×Int)×St:=
 if fndI st.brs name<0 then((0,5),st)
 else if Written (workOf st name)=Written (treeOf st (headOf st name))then((0,9),st)
 else if 60≤st.cms.length then((0,4),st)
 else((((st.cms.length+1:Nat):Int),0),down st name {tree:=workOf st name,parents:=parsOf (headOf st name)})
def treeAt (st:St)(n:Int):List UInt8×Int:=if n<1∨(st.cms.length:Int)<n then([],10)else(Written (treeOf st n.toNat),0)
def parents (st:St)(m:Nat):List Nat:=((st.cms[m-1]?).map (·.parents)).getD []
end R
theorem QE {st:R.St}(h:Inv st)(c:R.Cm)(hl:st.cms.length<60)(ht:OkT c.tree)(hp:∀p∈c.parents,1≤p∧p≤st.cms.length)(h2:c.parents.length≤2):Inv (R.keepC st c):=by
 refine⟨h.many,h.names,h.sort,h.work,fun b hb=> ?_,?_,fun x hx=> ?_,fun i hi=> ?_,fun x hx=> ?_⟩
 ·have:=h.heads b hb
  simp only[R.keepC,nL,rK];omega
 ·simp only[R.keepC,nL,rK];omega
 ·simp only[R.keepC]at hx
  rcases iZ.1 hx with hx|hx
  ·exact h.trees x hx
  ·rw[iV.1 hx];exact ht
 ·simp only[R.keepC,nL,rK]at hi
  simp only[R.keepC];by_cases e:i<st.cms.length
  ·rw[List.getElem_append_left e];exact h.pars i e
  ·rw[List.getElem_append_right (by omega)]
   intro p a1;have a0:p∈c.parents:=by simpa using a1
   have:=hp p a0;omega
 ·simp only[R.keepC]at hx
  rcases iZ.1 hx with hx|hx
  ·exact h.two x hx
  ·rw[iV.1 hx];exact h2
theorem setHead_inv {st:R.St}(h:Inv st)(name:List UInt8)(n:Nat)(hn:n≤st.cms.length)(hf:R.fnd st.brs name<st.brs.length):Inv (R.setHead st name n):=by
 have a1:=R.fnd_name st.brs name hf;have a2:(st.brs[R.fnd st.brs name]'hf)∈st.brs:=j0c hf;have a0:∀z∈st.brs.set (R.fnd st.brs name) {name:=name,head:=n,work:=R.treeOf st n},z={name:=name,head:=n,work:=R.treeOf st n}∨z∈st.brs:=fun z hz=>(rE hz).symm
 refine⟨by simpa[R.setHead]using h.many,fun z hz=> ?_,?_,fun z hz=> ?_,fun z hz=> ?_,h.few,h.trees,h.pars,h.two⟩
 ·rcases a0 z hz with rfl|hz
  ·have:=h.names _ a2;rw[a1]at this;exact this
  ·exact h.names z hz
 ·show zW R.Br.name (st.brs.set (R.fnd st.brs name) {name:=name,head:=n,work:=R.treeOf st n})
  rw[Zz];have hs:=(Zz _ _).1 h.sort;intro p q hp hq a3;have g:∀(p:Nat) (hp:p<(st.brs.set (R.fnd st.brs name) {name:=name,head:=n,work:=R.treeOf st n}).length),(st.brs.set (R.fnd st.brs name) {name:=name,head:=n,work:=R.treeOf st n})[p].name=(st.brs[p]'(by simpa using hp)).name:=by
   intro p hp;rw[rF];split
   ·rename_i e;subst e;simp only;rw[a1]
   ·rfl
  rw[g,g];exact hs p q _ _ a3
 ·rcases a0 z hz with rfl|hz
  ·exact YA h _
  ·exact h.work z hz
 ·rcases a0 z hz with rfl|hz
  ·exact hn
  ·exact h.heads z hz
theorem Zr {st:R.St}(h:Inv st)(n:List UInt8):R.headOf st n≤st.cms.length:=by
 unfold R.headOf
 cases e:st.brs[R.fnd st.brs n]? with
 |none=>simp
 |some b=>exact h.heads b (lC e)
theorem OQ {st:R.St}(h:Inv st)(name:List UInt8)(c:R.Cm)(hl:st.cms.length<60)(ht:OkT c.tree)(hp:∀p∈c.parents,1≤p∧p≤st.cms.length)(h2:c.parents.length≤2)(hf:R.fnd st.brs name<st.brs.length):Inv (R.down st name c):=
 setHead_inv (QE h c hl ht hp h2) name _ (by simp[R.keepC]) hf
theorem QB {st:R.St}(h:Inv st)(n:List UInt8):(∀p∈R.parsOf (R.headOf st n),1≤p∧p≤st.cms.length)∧(R.parsOf (R.headOf st n)).length≤2:=by
 have:=Zr h n;unfold R.parsOf;split
 ·simp
 ·simp;omega
theorem YI {st:R.St}(h:Inv st)(name:List UInt8):Inv (R.commit st name).2:=by
 unfold R.commit;split
 ·exact h
 ·rename_i hf
  split
  ·exact h
  ·split
   ·exact h
   ·have:=QB h name
    refine OQ h name _ (by omega) (ZL h name) this.1 this.2 ?_;rcases R.fndI_cases st.brs name with h1|h1
    ·omega
    ·exact h1.2
theorem Oe {x:R.Leaf}(h:OkL x):(R.line x).length≤9000:=by
 have h1:=Y7 _ h.path;have h2:=Zs _ h.text;have h3:=R.joinI_length x.items (fun i hi=>by have:=Zs _ (h.item i hi).1;omega);have h4:=h.many;have h5:=Lib.itoa_length_le x.n (by have:=h.lo;omega) (by have:=h.hi;omega);unfold R.line R.written;split
 ·simp only[nL,nM,pC];omega
 ·split<;>(simp only[nL,nM,pC];omega)
theorem KB:∀(t:List R.Leaf),(∀x∈t,OkL x)→(R.Written t).length≤t.length*9000
 |[],_=>by simp[R.Written]
 |x::t,h=>by
  have h1:=Oe (h x (by simp));have h2:=KB t fun z hz=>h z (by simp[hz])
  simp only[R.Written,rL,nL,nM]at h2⊢;omega
theorem OkT.len {t:List R.Leaf}(h:OkT t):(R.Written t).length≤216000:=by
 have:=KB t h.ok;have:=h.few;omega
theorem JF {st:R.St}(h:Inv st)(name:List UInt8):(R.commit st name).2.packed.length≤st.packed.length+300000:=by
 unfold R.commit;split
 ·simp
 ·rename_i hf
  split
  ·simp
  ·split
   ·simp
   ·have hp:=QB h name
    have hw:=(ZL h name).len;have a0:R.fnd st.brs name<st.brs.length:=by
     rcases R.fndI_cases st.brs name with h1|h1
     ·omega
     ·exact h1.2
    have a1:name.length≤8:=by
     have:=ZN _ (h.names _ (j0c a0));rw[R.fnd_name st.brs name a0]at this;exact this
    simp only[R.down,R.setHead,R.keepC,R.record,R.recHead,R.bodyC,nL,nM,pC,List.length_map];omega
def VO (p:List UInt8)(x:R.Leaf):Prop:=x=R.none p∨(OkL x∧x.path=p)
theorem kp {t:List R.Leaf}(h:∀x∈t,OkL x)(p:List UInt8):VO p (R.at_ t p):=by
 rcases Vb t p with⟨_,e⟩|⟨_,h1,h2⟩
 ·exact .inl e
 ·exact .inr ⟨h _ h1,h2⟩
theorem VO.kind0 {p:List UInt8}{x:R.Leaf}(h:VO p x):x.kind=0↔x=R.none p:=by
 rcases h with rfl|⟨h,_⟩
 ·simp[R.none]
 ·exact⟨fun e=>absurd e h.nz,fun e=>by rw[e];rfl⟩
theorem VO.path {p:List UInt8}{x:R.Leaf}(h:VO p x):x.path=p:=by
 rcases h with rfl|⟨_,h⟩
 ·rfl
 ·exact h
theorem VO.ok {p:List UInt8}{x:R.Leaf}(h:VO p x)(hk:x.kind≠0):OkL x:=by
 rcases h with rfl|⟨h,_⟩
 ·exact absurd rfl hk
 ·exact h
theorem c7 {p:List UInt8}{a b:R.Leaf}(ha:VO p a)(hb:VO p b):R.same a b=true↔a=b:=by
 unfold R.same;by_cases h0:a.kind=0∨b.kind=0
 ·rw[if_pos h0,decide_eq_true_eq]
  constructor
  ·intro e
   have h1:a.kind=0:=by rcases h0 with h|h;exact h;rw[e];exact h
   rw[ha.kind0.1 h1,hb.kind0.1 (by rw[←e];exact h1)]
  ·intro e;rw[e]
 ·rw[if_neg h0,beq_iff_eq]
  have h1:=ha.ok fun e=>h0 (.inl e)
  have h2:=hb.ok fun e=>h0 (.inr e)
  exact⟨fun e=>OkL.inj h1 h2 (by rw[ha.path,hb.path]) e,fun e=>by rw[e]⟩
theorem OkL.kinds {x:R.Leaf}(h:OkL x):x.kind=35∨x.kind=61∨x.kind=42:=by
 rcases h.kind with h|h|h
 ·exact .inl h.1
 ·exact .inr (.inl h.1)
 ·exact .inr (.inr h.1)
theorem VO.n_of {p:List UInt8}{x:R.Leaf}(h:VO p x)(hk:x.kind≠35):x.n=0:=by
 rcases h with rfl|⟨h,_⟩
 ·rfl
 ·rcases h.kind with h|h|h
  ·exact absurd h.1 hk
  all_goals
   exact h.2.1
theorem VO.items_of {p:List UInt8}{x:R.Leaf}(h:VO p x)(hk:x.kind≠42):x.items=[]:=by
 rcases h with rfl|⟨h,_⟩
 ·rfl
 ·rcases h.kind with h|h|h
  ·exact h.2.2
  ·exact h.2.2
  ·exact absurd h.1 hk
theorem VO.baseN {p:List UInt8}{x:R.Leaf}(h:VO p x):R.baseN x 35=x.n:=by
 unfold R.baseN;split
 ·rfl
 ·exact(h.n_of ‹_›).symm
theorem VO.baseI {p:List UInt8}{x:R.Leaf}(h:VO p x):R.baseI x 42=x.items:=by
 unfold R.baseI;split
 ·rfl
 ·exact(h.items_of ‹_›).symm
theorem VO.sort {p:List UInt8}{x:R.Leaf}(h:VO p x):Zb x.items:=by
 rcases h with rfl|⟨h,_⟩
 ·intro i j hi;simp[R.none]at hi
 ·exact h.sort
theorem VO.few {p:List UInt8}{x:R.Leaf}(h:VO p x):x.items.length≤8:=by
 rcases h with rfl|⟨h,_⟩
 ·simp[R.none]
 ·exact h.many
theorem VO.n_hi {p:List UInt8}{x:R.Leaf}(h:VO p x):x.n≤1000000000∧ -1000000000≤x.n:=by
 rcases h with rfl|⟨h,_⟩
 ·simp[R.none]
 ·exact⟨h.hi,h.lo⟩
theorem UH (l:List (List UInt8))(s:List UInt8):R.inL l s=true↔s∈l:=by
 simp[R.inL]
theorem qU:Zb []:=fun i j hi=>by simp at hi
structure OkI (l:List (List UInt8)):Prop where
 sort:Zb l
 item:∀i∈l,R.isText i=true∧i≠ []
theorem OkI.put {l:List (List UInt8)}(h:OkI l){s:List UInt8}(hs:R.isText s=true∧s≠ []):OkI (R.item l s):=
 ⟨kU h.sort s,fun i hi=>by rcases jZ hi with rfl|hi;exact hs;exact h.item i hi⟩
theorem OkI.nil:OkI []:=⟨qU,by simp⟩
def Zn (c:List UInt8→Bool)(acc l:List (List UInt8)):List (List UInt8):=l.foldl (fun acc s=>if c s then R.item acc s else acc) acc
theorem Q0 (c:List UInt8→Bool):∀(l a0:List (List UInt8)),OkI a0→(∀i∈l,R.isText i=true∧i≠ [])→OkI (Zn c a0 l)
 |[],a0,h,_=>h
 |s::l,a0,h,hl=>by
  show OkI (Zn c (if c s then R.item a0 s else a0) l);refine Q0 c l _ ?_ fun i hi=>hl i (iQ _ hi)
  split
  ·exact h.put (hl s (iO ..))
  ·exact h
theorem JZ (c:List UInt8→Bool):∀(l a0:List (List UInt8)),(Zn c a0 l).length≤a0.length+l.length
 |[],a0=>j0a _
 |s::l,a0=>by
  have h:=JZ c l (if c s then R.item a0 s else a0);have h2:=R.item_length s a0 false;show(Zn c (if c s then R.item a0 s else a0) l).length≤_;rw[nM];split at h<;>rename_i hc
  ·rw[if_pos hc];have:(R.item a0 s).length≤a0.length+1:=h2;omega
  ·rw[if_neg hc];omega
theorem g_ (c:List UInt8→Bool)(a0 l:List (List UInt8))(s:List UInt8):Zn c a0 (l++ [s])=if c s then R.item (Zn c a0 l) s else Zn c a0 l:=by
 unfold Zn;rw[rM];rfl
theorem Ul (c:List UInt8→Bool)(a0 l m:List (List UInt8)):Zn c a0 (l++m)=Zn c (Zn c a0 l) m:=by
 unfold Zn;rw[rM]
theorem fi (b t o:List (List UInt8)):R.bagA b t o=Zn (fun s=>R.inL t s|| !R.inL b s) [] o:=rfl
theorem fh (b a0 t:List (List UInt8)):R.bagB b a0 t=Zn (fun s=> !R.inL b s) a0 t:=by
 unfold R.bagB Zn;congr 1
 funext a0 s
 cases h:R.inL b s<;>simp[h]
theorem ut {l:List (List UInt8)}(h:OkI l)(s z:List UInt8)(hz:z∈l):z∈R.item l s:=by
 by_cases ha:(l.any fun y=>y==s)=true
 ·rw[XZ h.sort s ha];exact hz
 ·rw[xJ h.sort s (nY.2 ha)]
  rw[←nS (xB l s) l]at hz;rcases iZ.1 hz with hz|hz
  ·exact mT _ hz
  ·exact rN _ (iQ _ hz)
theorem QF {l:List (List UInt8)}(h:OkI l)(s:List UInt8):s∈R.item l s:=by
 by_cases ha:(l.any fun y=>y==s)=true
 ·rw[XZ h.sort s ha];simpa using ha
 ·rw[xJ h.sort s (nY.2 ha)];simp
theorem jA (c:List UInt8→Bool):∀(l a0:List (List UInt8)),OkI a0→(∀i∈l,R.isText i=true∧i≠ [])→∀z∈a0,z∈Zn c a0 l
 |[],_,_,_,z,hz=>hz
 |s::l,a0,h,hl,z,hz=>by
  show z∈Zn c (if c s then R.item a0 s else a0) l;refine jA c l _ ?_ (fun i hi=>hl i (iQ _ hi)) z ?_
  ·split
   ·exact h.put (hl s (iO ..))
   ·exact h
  ·split
   ·exact ut h s z hz
   ·exact hz
theorem JY (c:List UInt8→Bool):∀(l a0:List (List UInt8)),OkI a0→(∀i∈l,R.isText i=true∧i≠ [])→∀z∈l,c z=true→z∈Zn c a0 l
 |[],_,_,_,z,hz,_=>by simp at hz
 |s::l,a0,h,hl,z,hz,hc=>by
  show z∈Zn c (if c s then R.item a0 s else a0) l;have a1:OkI (if c s then R.item a0 s else a0):=by
   split
   ·exact h.put (hl s (iO ..))
   ·exact h
  rcases iT.1 hz with rfl|hz
  ·refine jA c l _ a1 (fun i hi=>hl i (iQ _ hi)) z ?_
   rw[if_pos hc];exact QF h z
  ·exact JY c l _ a1 (fun i hi=>hl i (iQ _ hi)) z hz hc
theorem vw (c d:List UInt8→Bool):∀(l a0:List (List UInt8)),OkI a0→(∀i∈l,R.isText i=true∧i≠ [])→(∀z∈l,c z=d z∨z∈a0)→Zn c a0 l=Zn d a0 l
 |[],_,_,_,_=>rfl
 |s::l,a0,h,hl,hcd=>by
  show Zn c (if c s then R.item a0 s else a0) l=Zn d (if d s then R.item a0 s else a0) l;have e:(if c s then R.item a0 s else a0)=(if d s then R.item a0 s else a0):=by
   rcases hcd s (iO ..)with e|e
   ·rw[e]
   ·have:R.item a0 s=a0:=XZ h.sort s (by simpa using e)
    rw[this];simp
  rw[e];refine vw c d l _ ?_ (fun i hi=>hl i (iQ _ hi)) fun z hz=> ?_
  ·split
   ·exact h.put (hl s (iO ..))
   ·exact h
  ·rcases hcd z (iQ _ hz)with e|e
   ·exact .inl e
   ·refine .inr ?_
    split
    ·exact ut h s z e
    ·exact e
theorem Cq {b o t:List (List UInt8)}(ho:∀i∈o,R.isText i=true∧i≠ [])(ht:∀i∈t,R.isText i=true∧i≠ []):
  R.bagJ b o t=Zn (fun s=>(R.inL o s&&R.inL t s)|| !R.inL b s) [] (o++t):=by
 unfold R.bagJ;rw[fi,fh,Ul];have e:Zn (fun s=>(R.inL o s&&R.inL t s)|| !R.inL b s) [] o=Zn (fun s=>R.inL t s|| !R.inL b s) [] o:=
  vw _ _ o [] OkI.nil ho fun z hz=> .inl (by
   have:R.inL o z=true:=(UH o z).2 hz;simp only[this,nU])
 rw[e];refine(vw _ _ t _ (Q0 _ o [] OkI.nil ho) ht fun z hz=> ?_).symm;have h1:R.inL t z=true:=(UH t z).2 hz;by_cases h2:R.inL o z=true
 ·refine .inr (JY _ o [] OkI.nil ho z ((UH o z).1 h2) ?_)
  simp only[h1,mP]
 ·refine .inl ?_
  have a0 :R.inL o z=false:=by simpa using h2
  simp only[a0,pA,pP]
theorem bW {b o t:List (List UInt8)}(ho:∀i∈o,R.isText i=true∧i≠ [])(ht:∀i∈t,R.isText i=true∧i≠ []):OkI (R.bagJ b o t):=by
 unfold R.bagJ;rw[fi,fh];exact Q0 _ t _ (Q0 _ o [] OkI.nil ho) ht
theorem cJ (a b:List UInt8):R.later a b=a∨R.later a b=b:=by
 unfold R.later;split
 ·exact .inr rfl
 ·exact .inl rfl
theorem jW {p:List UInt8}{x y z:R.Leaf}(_hx:VO p x)(hy:VO p y)(hz:VO p z)(he:(R.joinedV x y z).2=0):(R.joinedV x y z).1.kind=0∨(OkL (R.joinedV x y z).1∧(R.joinedV x y z).1.path=p):=by
 have hv:∀u,VO p u→u.kind=0∨(OkL u∧u.path=p):=by
  rintro u (rfl|h)
  ·exact .inl rfl
  ·exact .inr h
 unfold R.joinedV at he⊢;by_cases h1:R.same y x=true
 ·rw[if_pos h1];exact hv _ hz
 rw[if_neg h1]at he⊢;by_cases h2:R.same z x=true
 ·rw[if_pos h2];exact hv _ hy
 rw[if_neg h2]at he⊢;by_cases h3:y.kind=0
 ·rw[if_pos h3];exact hv _ hz
 rw[if_neg h3]at he⊢;by_cases h4:z.kind=0
 ·rw[if_pos h4];exact hv _ hy
 rw[if_neg h4]at he⊢;by_cases h5:y.kind≠z.kind
 ·rw[if_pos h5]at he;exact absurd he (by simp[R.bad])
 rw[if_neg h5]at he⊢;have oy:=hy.ok h3;have oz:=hz.ok h4;have a0:R.isPath y.path=true:=oy.path;by_cases h6:y.kind=35
 ·rw[if_pos h6]at he⊢
  unfold R.counterJ at he⊢;split at he
  ·exact absurd he (by simp[R.bad])
  ·rename_i hb
   rw[if_neg hb];refine .inr ⟨⟨a0,.inl ⟨rfl,rfl,rfl⟩,?_,?_,rfl,by simp,by simp,qU⟩,hy.path⟩
   all_goals
    simp only;omega
 rw[if_neg h6]at he⊢;by_cases h7:y.kind=61
 ·rw[if_pos h7]
  refine .inr ⟨⟨a0,.inr (.inl ⟨rfl,rfl,rfl⟩),by simp,by simp,?_,by simp,by simp,qU⟩,hy.path⟩;rcases cJ y.text z.text with e|e
  ·simp only[e];exact oy.text
  ·simp only[e];exact oz.text
 rw[if_neg h7]at he⊢;unfold R.bagV at he⊢;split at he
 ·exact absurd he (by simp[R.bad])
 ·rename_i hb
  rw[if_neg hb];have a1:=bW (b:=R.baseI x y.kind) oy.item oz.item;by_cases hn:R.bagJ (R.baseI x y.kind) y.items z.items=[]
  ·exact .inl (by simp only[hn,if_true])
  ·exact .inr ⟨⟨a0,.inr (.inr ⟨by simp only[if_neg hn],rfl,rfl,hn⟩),by simp,by simp,rfl,by simp only;omega,a1.item,a1.sort⟩,hy.path⟩
theorem bD {α:Type}{k:α→List UInt8}{s:List UInt8}{x:α}(hx:k x=s){l:List α}(hl:zW k l)(q:List UInt8):(∃z∈xE k x s false l,k z=q)↔q=s∨∃z∈l,k z=q:=by
 cases ha:l.any fun y=>k y==s with
 |true=>
  rw[kd x hl ha];obtain⟨hp,he⟩:=YX hl ha;constructor
  ·rintro⟨z,hz,rfl⟩
   rcases iZ.1 hz with hz|hz
   ·exact .inr ⟨z,rO hz,rfl⟩
   ·rcases iT.1 hz with rfl|hz
    ·exact .inl hx
    ·exact .inr ⟨z,rP hz,rfl⟩
  ·rintro(rfl|⟨z,hz,rfl⟩)
   ·exact⟨x,by simp,hx⟩
   ·by_cases a0:k z=s
    ·exact⟨x,by simp,by rw[hx,a0]⟩
    ·refine⟨z,?_,rfl⟩
     rw[←nS (yI k l s) l,nP hp]at hz;rcases iZ.1 hz with hz|hz
     ·exact mT _ hz
     ·rcases iT.1 hz with rfl|hz
      ·exact absurd he a0
      ·exact rN _ (iQ _ hz)
 |false=>
  rw[q9 x hl ha];constructor
  ·rintro⟨z,hz,rfl⟩
   rcases iZ.1 hz with hz|hz
   ·exact .inr ⟨z,rO hz,rfl⟩
   ·rcases iT.1 hz with rfl|hz
    ·exact .inl hx
    ·exact .inr ⟨z,rP hz,rfl⟩
  ·rintro(rfl|⟨z,hz,rfl⟩)
   ·exact⟨x,by simp,hx⟩
   ·refine⟨z,?_,rfl⟩
    rw[←nS (yI k l s) l]at hz;rcases iZ.1 hz with hz|hz
    ·exact mT _ hz
    ·exact rN _ (iQ _ hz)
theorem CO {t:List R.Leaf}(hb:∀y∈t,R.isPath y.path=true)(x:R.Leaf)(hp:R.isPath x.path=true)(hk:x.kind≠0):R.set t x=xE R.Leaf.path x x.path false t:=by
 unfold R.set;rw[decide_eq_false hk];exact Qx x (yL _ hp) t false fun y hy=>yL _ (hb y hy)
theorem OG:∀(l a0:List R.Leaf),(∀x∈l,R.isPath x.path=true∧x.kind≠0)→(∀x∈a0,R.isPath x.path=true)→zW R.Leaf.path a0→
  zW R.Leaf.path (l.foldl R.set a0)∧(∀x∈l.foldl R.set a0,R.isPath x.path=true)∧∀q,(∃z∈l.foldl R.set a0,z.path=q)↔(∃z∈l,z.path=q)∨∃z∈a0,z.path=q
 |[],a0,_,h2,h3=>⟨h3,h2,fun q=>by simp⟩
 |x::l,a0,h1,h2,h3=>by
  obtain⟨hp,hk⟩:=h1 x (iO ..);have e:=CO h2 x hp hk;obtain⟨g1,g2,g3⟩:=OG l (R.set a0 x) (fun y hy=>h1 y (iQ _ hy)) (by
   rw[e];intro y hy;rcases yW hy with rfl|hy;exact hp;exact h2 y hy) (by rw[e];exact xK rfl h3)
  refine⟨g1,g2,fun q=> ?_⟩;rw[List.foldl_cons,g3 q,e,bD rfl h3 q];constructor
  ·rintro(⟨z,hz,rfl⟩|rfl|h)
   ·exact .inl ⟨z,iQ _ hz,rfl⟩
   ·exact .inl ⟨x,iO ..,rfl⟩
   ·exact .inr h
  ·rintro(⟨z,hz,rfl⟩|h)
   ·rcases iT.1 hz with rfl|hz
    ·exact .inr (.inl rfl)
    ·exact .inl ⟨z,hz,rfl⟩
   ·exact .inr (.inr h)
structure Ps (t:List (List UInt8))(base ours theirs:List R.Leaf):Prop where
 sort:Zb t
 path:∀p∈t,R.isPath p=true
 mem:∀q,q∈t↔∃z∈base++(ours++theirs),z.path=q
theorem fk {base a1 a0:List R.Leaf}(hb:OkT base)(ho:OkT a1)(ht:OkT a0):Ps (R.allP base a1 a0) base a1 a0:=by
 have h1:∀x∈base++(a1++a0),R.isPath x.path=true∧x.kind≠0:=by
  intro x hx;rcases iZ.1 hx with hx|hx
  ·exact⟨(hb.ok x hx).path,(hb.ok x hx).nz⟩
  ·rcases iZ.1 hx with hx|hx
   ·exact⟨(ho.ok x hx).path,(ho.ok x hx).nz⟩
   ·exact⟨(ht.ok x hx).path,(ht.ok x hx).nz⟩
 obtain⟨g1,g2,g3⟩:=OG (base++(a1++a0)) [] h1 (by simp) List.Pairwise.nil;refine⟨zW.i ?_,?_,?_⟩
 ·unfold R.allP
  unfold zW at g1⊢;rw[rQ];exact g1
 ·intro p hp
  obtain⟨z,hz,rfl⟩:=rR.1 hp;exact g2 z hz
 ·intro q
  have:=g3 q;simp only[List.not_mem_nil,false_and,exists_false,or_false]at this;rw[←this];unfold R.allP;rw[rR]
theorem sorted_eq:∀(l m:List (List UInt8)),zW id l→zW id m→(∀q,q∈l↔q∈m)→l=m
 |[],[],_,_,_=>rfl
 |[],y::m,_,_,h=>by have:=(h y).2 (by simp);simp at this
 |x::l,[],_,_,h=>by have:=(h x).1 (by simp);simp at this
 |x::l,y::m,hl,hm,h=>by
  have a0:∀z∈l,Op.bytesLess x z=true:=fun z hz=>pN hl hz
  have a1:∀z∈m,Op.bytesLess y z=true:=fun z hz=>pN hm hz
  have a2:∀(a b:List UInt8),Op.bytesLess a b=true→Op.bytesLess b a=true→False:=fun a b h1 h2=>by
   have:=Zj _ _ _ h1 h2;rw[zm]at this;cases this
  have e:x=y:=by
   rcases iT.1 ((h x).1 (by simp))with e|h1
   ·exact e
   ·rcases iT.1 ((h y).2 (by simp))with e|h2
    ·exact e.symm
    ·exact(a2 _ _ (a1 x h1) (a0 y h2)).elim
  subst e;rw[sorted_eq l m (List.Pairwise.of_cons hl) (List.Pairwise.of_cons hm) fun q=> ?_];constructor
  ·intro hq
   rcases iT.1 ((h q).1 (iQ _ hq))with rfl|h1
   ·have:=a0 q hq;rw[zm]at this;cases this
   ·exact h1
  ·intro hq
   rcases iT.1 ((h q).2 (iQ _ hq))with rfl|h1
   ·have:=a1 q hq;rw[zm]at this;cases this
   ·exact h1
theorem Ps.eq {t u:List (List UInt8)}{base a1 a0:List R.Leaf}(h:Ps t base a1 a0)(k:Ps u base a1 a0):t=u:=
 sorted_eq t u h.sort.k k.sort.k fun q=>by rw[h.mem,k.mem]
theorem Fh {b o t:List R.Leaf}{ps:List (List UInt8)}(h:R.errJ b o t ps=0):∀p∈ps,(R.valJ b o t p).2=0:=by
 intro p hp;unfold R.errJ at h
 cases e:ps.find? fun p=> !decide ((R.valJ b o t p).2=0)with
 |none=>
  have:=pW.1 e p hp;simpa using this
 |some q=>
  have h1:=pX e;rw[e]at h;simp only[Option.map_some,rS]at h;rw[h]at h1;simp at h1
theorem bN {b o t:List R.Leaf}{ps:List (List UInt8)}(h:∀p∈ps,(R.valJ b o t p).2=0):R.errJ b o t ps=0:=by
 unfold R.errJ;rw[pW.2 fun p hp=>by simp[h p hp]];rfl
theorem bO {b o t:List R.Leaf}{ps:List (List UInt8)}(k:Nat)(hk:k<ps.length)(h:∀p∈ps.take k,(R.valJ b o t p).2=0)(he:(R.valJ b o t ps[k]).2≠0):R.errJ b o t ps=(R.valJ b o t ps[k]).2:=by
 unfold R.errJ;have:(ps.find? fun p=> !decide ((R.valJ b o t p).2=0))=some ps[k]:=by
  have e:ps=ps.take k++ps[k]::ps.drop (k+1):=by rw[←nP hk,nS]
  conv=>lhs;rw[e]
  rw[List.find?_append,pW.2 fun p hp=>by simp[h p hp],Option.none_or,List.find?_cons_of_pos (by simp[he])]
 rw[this];rfl
theorem fO (b o t:List R.Leaf)(ps:List (List UInt8))(k:Nat)(hk:k<ps.length):R.outJ b o t (ps.take (k+1))=R.outJ b o t (ps.take k)++R.leafJ b o t ps[k]:=by
 unfold R.outJ;rw[nN hk,pD];simp
theorem uk {b o t:List R.Leaf}{p:List UInt8}{x:R.Leaf}(h:x∈R.leafJ b o t p):x.path=p∧(R.valJ b o t p).1.kind≠0∧x={(R.valJ b o t p).1 with path:=p}:=by
 unfold R.leafJ at h;split at h
 ·simp at h
 ·rename_i hk
  rw[iV]at h;subst h;exact⟨rfl,hk,rfl⟩
theorem fX (x:R.Leaf)(p:List UInt8)(h:x.path=p):({x with path:=p}:R.Leaf)=x:=by subst h;rfl
theorem GO {b o t:List R.Leaf}(hb:OkT b)(ho:OkT o)(ht:OkT t){ps:List (List UInt8)}(he:∀p∈ps,(R.valJ b o t p).2=0):∀x∈R.outJ b o t ps,OkL x∧x.path∈ps:=by
 intro x hx;obtain⟨p,hp,hx⟩:=rT.1 hx;obtain⟨h1,h2,h3⟩:=uk hx;rcases jW (kp hb.ok p) (kp ho.ok p) (kp ht.ok p) (he p hp)with h|⟨h,hq⟩
 ·exact absurd h h2
 ·have h4:x=(R.joinedV (R.at_ b p) (R.at_ o p) (R.at_ t p)).1:=h3.trans (fX _ _ hq)
  exact⟨by rw[h4];exact h,by rw[h1];exact hp⟩
theorem ub {b o t:List R.Leaf}:∀{ps:List (List UInt8)},zW id ps→zW R.Leaf.path (R.outJ b o t ps)
 |[],_=>List.Pairwise.nil
 |p::ps,h=>by
  have ih:=ub (b:=b) (o:=o) (t:=t) (List.Pairwise.of_cons h);have hr:∀x∈R.outJ b o t ps,Op.bytesLess p x.path=true:=by
   intro x hx;obtain⟨q,hq,hx⟩:=rT.1 hx;rw[(uk hx).1];exact pN h hq
  show zW R.Leaf.path (R.leafJ b o t p++R.outJ b o t ps);unfold R.leafJ;split
  ·exact ih
  ·exact List.Pairwise.cons hr ih
theorem gI {t:List R.Leaf}(h:R.tangled t=false):∀x∈t,∀y∈t,R.leads x.path y.path=false:=by
 intro x hx y hy;have h1:=pM.1 h y hy;exact(Va (by simpa using h1) x hx).1
theorem kb {b o t:List R.Leaf}(hb:OkT b)(ho:OkT o)(ht:OkT t):OkT (R.joinT b o t).1:=by
 unfold R.joinT R.joinP;split
 ·exact OkT.nil
 ·rename_i he
  have a0 :R.errJ b o t (R.allP b o t)=0:=by simpa using he
  unfold R.endJ;split
  ·exact OkT.nil
  ·rename_i h1
   split
   ·exact OkT.nil
   ·rename_i h2
    refine⟨zW.t (ub (fk hb ho ht).sort.k),by simp only;omega,fun x hx=>(GO hb ho ht (Fh a0) x hx).1,gI (by simpa using h1)⟩
theorem Us (ps:Nat→List Nat)(hp:∀m,∀p∈ps m,p<m):∀(i:Nat) (f:Nat→Bool) (j:Nat),i≤j→mk ps i f j=f j
 |0,_,_,_=>rfl
 |i+1,f,j,h=>by
  rw[mk,Us ps hp i _ j (by omega)];split
  ·have:¬j∈ps (i+1):=fun e=>by have:=hp _ _ e;omega
   simp[this]
  ·rfl
theorem Uq (ps:Nat→List Nat):∀(i:Nat) (f:Nat→Bool) (j:Nat),f j=true→mk ps i f j=true
 |0,_,_,h=>h
 |i+1,f,j,h=>by
  rw[mk];refine Uq ps i _ j ?_;split
  ·simp[h]
  ·exact h
theorem jH (ps:Nat→List Nat)(T:Nat→Prop)(hT:∀m,T m→∀p∈ps m,T p):∀(i:Nat) (f:Nat→Bool),(∀j,f j=true→T j)→∀j,mk ps i f j=true→T j
 |0,_,h,j,hj=>h j hj
 |i+1,f,h,j,hj=>by
  rw[mk]at hj;refine jH ps T hT i _ (fun q hq=> ?_) j hj;split at hq
  ·rename_i hi
   rw[pE,decide_eq_true_eq]at hq;rcases hq with hq|hq
   ·exact h q hq
   ·exact hT _ (h _ hi) q hq
  ·exact h q hq
theorem kD (ps:Nat→List Nat)(hp:∀m,∀p∈ps m,p<m):∀(i:Nat) (f:Nat→Bool) (m:Nat),1≤m→m≤i→mk ps i f m=true→∀p∈ps m,mk ps i f p=true
 |0,_,m,h1,h2,_,_,_=>by omega
 |i+1,f,m,h1,h2,h,p,hpm=>by
  rw[mk]at h⊢;rcases mX i m with hm|hm
  ·have e:m=i+1:=by omega
   subst e;rw[Us ps hp i _ (i+1) (by omega)]at h;have hf:f (i+1)=true:=by
    split at h
    ·assumption
    ·exact h
   rw[if_pos hf];exact Uq ps i _ p (by simp[hpm])
  ·exact kD ps hp i _ m h1 hm h p hpm
def WfC (cms:List R.Cm):Prop:=∀(i:Nat) (h:i<cms.length),∀p∈cms[i].parents,1≤p∧p≤i
theorem WfC.par {cms:List R.Cm}(h:WfC cms):∀m,∀p∈R.parsC cms m,1≤p∧p<m:=by
 intro m p hp;unfold R.parsC at hp
 cases e:cms[m-1]? with
 |none=>rw[e]at hp;simp at hp
 |some c=>
  rw[e]at hp;obtain⟨hi,rfl⟩:=rD.1 e;have:=h (m-1) hi p (by simpa using hp);omega
theorem WfC.lt {cms:List R.Cm}(h:WfC cms):∀m,∀p∈R.parsC cms m,p<m:=fun m p hp=>(h.par m p hp).2
theorem Inv.wf {st:R.St}(h:Inv st):WfC st.cms:=h.pars
section
variable {cms:List R.Cm}
theorem Xs (h:WfC cms)(n j:Nat)(hj:R.mark cms n j=true):j≤n∧1≤j:=by
 have:=jH (R.parsC cms) (fun j=>j≤n∧1≤j) (fun m hm p hp=>by have:=h.par m p hp;omega) cms.length (fun j=>decide (j=n∧0<n)) (fun j hj=>by rw[decide_eq_true_eq]at hj;omega) j hj;exact this
theorem yj (n:Nat)(h0:0<n):R.mark cms n n=true:=Uq _ _ _ _ (by simp[h0])
theorem jR (h:WfC cms)(n k j:Nat)(hn:n≤cms.length)(h1:R.mark cms n k=true)(h2:R.mark cms k j=true):R.mark cms n j=true:=by
 refine jH (R.parsC cms) (fun j=>R.mark cms n j=true) (fun m hm p hp=> ?_) cms.length (fun j=>decide (j=k∧0<k)) (fun j hj=> ?_) j h2
 ·have:=Xs h n m hm
  exact kD (R.parsC cms) h.lt cms.length _ m this.2 (by omega) hm p hp
 ·rw[decide_eq_true_eq]at hj;rw[hj.1];exact h1
theorem UW (h:WfC cms){a b i:Nat}(hc:R.comm cms a b i=true):i≤a∧i≤b∧1≤i:=by
 unfold R.comm at hc;rw[pB]at hc;have h1:=Xs h _ _ hc.1;have h2:=Xs h _ _ hc.2;omega
theorem Gc (a b i k:Nat):R.lastIn cms a b i k=true↔∀m,k≤m→m≤cms.length→R.comm cms a b m=true→R.mark cms m i=false:=by
 unfold R.lastIn;rw[nZ];constructor
 ·intro h m h1 h2 h3
  have:=h m (by rw[rU];omega);rw[h3]at this;simpa using this
 ·intro h m hm
  rw[rU]at hm
  cases hc:R.comm cms a b m with
  |false=>simp
  |true=>rw[h m (by omega) (by omega) hc];rfl
theorem x_ (a b i:Nat):R.isLast cms a b i=true↔R.comm cms a b i=true∧∀m,i<m→m≤cms.length→R.comm cms a b m=true→R.mark cms m i=false:=by
 unfold R.isLast;rw[pB,Gc];exact Iff.rfl
theorem VS (a b i:Nat):i∈R.latC cms a b↔1≤i∧i≤cms.length∧R.isLast cms a b i=true:=by
 unfold R.latC;rw[pV,rU];constructor
 ·rintro⟨h1,h2⟩;exact⟨by omega,by omega,h2⟩
 ·rintro⟨h1,h2,h3⟩;exact⟨by omega,h3⟩
theorem um (a b:Nat):(R.latC cms a b).Pairwise (·< ·):=List.Pairwise.filter _ List.pairwise_lt_range'
theorem GU (h:WfC cms){a b x y:Nat}{r:List Nat}(ha:a≤cms.length)(hl:R.latC cms a b=x::y::r):∀i∈x::y::r,i<a:=by
 intro i hi;have hm:=(VS (cms:=cms) a b i).1 (by rw[hl];exact hi);have hc:=(x_ a b i).1 hm.2.2;have a4:=UW h hc.1;rcases mX i a with h1|h1
 ·exact h1
 have e:i=a:=by omega
 subst e;exfalso
 have a0:∀z∈R.latC cms i b,z=i:=by
  intro z hz;have a3 :=(VS (cms:=cms) i b z).1 hz;have a1 :=(x_ i b z).1 a3.2.2;have a2 :=UW h a1.1;rcases mX z i with h2|h2
  ·have h3:=a1.2 i h2 ha hc.1
   have h4:=a1.1;unfold R.comm at h4;rw[pB]at h4;rw[h4.1]at h3;cases h3
  ·omega
 have hs:=um (cms:=cms) i b;rw[hl]at hs a0;have h1:=a0 x (by simp);have h2:=a0 y (by simp);have:=pN hs (iO ..);omega
end
theorem jr (cms:List R.Cm)(f g:Nat→Nat→List R.Leaf×Int):∀(l:List Nat) (p:Nat) (t:List R.Leaf),(∀x∈p::l,∀y∈l,f x y=g x y)→R.togF f cms p t l=R.togF g cms p t l
 |[],_,_,_=>rfl
 |n::r,p,t,h=>by
  have e:=h p (iO ..) n (iO ..);unfold R.togF;rw[e,jr cms f g r n _ fun x hx y hy=>h x (iQ _ hx) y (iQ _ hy)]
theorem togL_congr {cms:List R.Cm}(hw:WfC cms)(f g:Nat→Nat→List R.Leaf×Int)(a b:Nat)(ha:a≤cms.length)(h:∀x y,x<a→y<a→f x y=g x y):R.togL f cms (R.latC cms a b)=R.togL g cms (R.latC cms a b):=by
 cases hl:R.latC cms a b with
 |nil=>rfl
 |cons x r=>
  cases r with
  |nil=>rfl
  |cons y r=>
   have a0:=GU hw ha hl;exact jr cms f g _ _ _ fun u hu v hv=>h u v (a0 u hu) (a0 v (iQ _ hv))
theorem Jk {cms:List R.Cm}(hw:WfC cms):∀(f g a b:Nat),a<f→a<g→a≤cms.length→R.baseF cms f a b=R.baseF cms g a b
 |0,_,_,_,h,_,_=>by omega
 |_,0,_,_,_,h,_=>by omega
 |f+1,g+1,a,b,h1,h2,ha=>togL_congr hw _ _ a b ha fun x y hx _=>Jk hw f g x y (by omega) (by omega) (by omega)
theorem Cp {cms:List R.Cm}(hw:WfC cms)(a b:Nat)(ha:a≤cms.length):R.baseC cms a b=R.togL (R.baseC cms) cms (R.latC cms a b):=
 togL_congr hw _ _ a b ha fun x y hx _=>Jk hw a (x+1) x y hx (by omega) (by omega)
theorem ye {cms:List R.Cm}(ht:∀c∈cms,OkT c.tree)(n:Nat):OkT (R.treeC cms n):=by
 unfold R.treeC;split
 ·exact OkT.nil
 ·cases e:cms[n-1]? with
  |none=>exact OkT.nil
  |some c=>exact ht c (lC e)
theorem GF {cms:List R.Cm}(ht:∀c∈cms,OkT c.tree)(f:Nat→Nat→List R.Leaf×Int)(hf:∀x y,OkT (f x y).1):∀(l:List Nat) (p:Nat) (t:List R.Leaf),OkT t→OkT (R.togF f cms p t l).1
 |[],_,_,h=>h
 |n::r,p,t,h=>by
  unfold R.togF;split
  ·exact OkT.nil
  ·split
   ·exact OkT.nil
   ·exact GF ht f hf r n _ (kb (hf p n) h (ye ht n))
theorem CI {cms:List R.Cm}(ht:∀c∈cms,OkT c.tree)(f:Nat→Nat→List R.Leaf×Int)(hf:∀x y,OkT (f x y).1)(l:List Nat):OkT (R.togL f cms l).1:=by
 cases l with
 |nil=>exact OkT.nil
 |cons n r=>exact GF ht f hf r n _ (ye ht n)
theorem gj {cms:List R.Cm}(ht:∀c∈cms,OkT c.tree):∀(f a b:Nat),OkT (R.baseF cms f a b).1
 |0,_,_=>OkT.nil
 |f+1,_,_=>CI ht _ (gj ht f) _
theorem ko {cms:List R.Cm}(ht:∀c∈cms,OkT c.tree)(a b:Nat):OkT (R.baseC cms a b).1:=gj ht _ _ _
theorem oE (f:Nat→Nat→List R.Leaf×Int)(cms:List R.Cm):∀(l:List Nat) (p:Nat) (t:List R.Leaf),(R.togF f cms p t l).2≠0→(R.togF f cms p t l).1=[]
 |[],_,_,h=>absurd rfl h
 |n::r,p,t,h=>by
  unfold R.togF at h⊢;split
  ·rfl
  ·rename_i h1
   rw[if_neg h1]at h;split
   ·rfl
   ·rename_i h2
    rw[if_neg h2]at h;exact oE f cms r n _ h
theorem Fs (cms:List R.Cm)(a b:Nat)(h:(R.baseC cms a b).2≠0):(R.baseC cms a b).1=[]:=by
 unfold R.baseC R.baseF R.togL at h⊢;split
 ·rfl
 ·rename_i n r hl
  rw[hl]at h;exact oE _ _ _ _ _ h
section
variable {cms:List R.Cm}(ext:List R.Cm)
end
def Xb:Nat→List Nat
 |0=> []
 |i+1=>(i+1)::Xb i
theorem Qa:∀(i j:Nat),j∈Xb i↔1≤j∧j≤i
 |0,j=>by simp[Xb];omega
 |i+1,j=>by rw[Xb,iT,Qa i j];omega
theorem OS:∀(i:Nat),(Xb i).reverse=nC 1 i
 |0=>rfl
 |i+1=>by rw[Xb,List.reverse_cons,OS i,List.range'_1_concat,Nat.add_comm]
def xk (mark:Nat→Nat→Bool):Nat→List Nat→List Nat
 |0,_=> []
 |_+1,[]=> []
 |f+1,x::r=>x::xk mark f ((x::r).filter fun m=> !mark x m)
theorem Y9 (mark:Nat→Nat→Bool)(f:Nat):xk mark f []=[]:=by cases f<;>rfl
section
variable {cms:List R.Cm}
theorem Qg (hw:WfC cms)(a b:Nat):∀(i f:Nat) (F:List Nat),i≤cms.length→i≤f→
  (∀x∈F,i<x∧x≤cms.length∧R.comm cms a b x=true)→(∀k,i<k→k≤cms.length→R.comm cms a b k=true→∃x∈F,R.mark cms x k=true)→
  xk (R.mark cms) f ((Xb i).filter fun j=>R.comm cms a b j&&F.all fun x=> !R.mark cms x j)=(Xb i).filter (R.isLast cms a b)
 |0,f,F,_,_,_,_=>by simp only[Xb,List.filter_nil,Y9]
 |i+1,f,F,hi,hf,hF,hk=>by
  have hl:R.isLast cms a b (i+1)=(R.comm cms a b (i+1)&&F.all fun x=> !R.mark cms x (i+1)):=by
   rw[rC,x_,pB,nZ];refine and_congr_right fun hc=>⟨fun h x hx=> ?_,fun h m h1 h2 h3=> ?_⟩
   ·obtain⟨g1,g2,g3⟩:=hF x hx
    rw[h x g1 g2 g3];rfl
   ·rw[nY];intro e
    obtain⟨x,hx,a1⟩:=hk m h1 h2 h3;have:=h x hx;rw[jR hw x m (i+1) (hF x hx).2.1 a1 e]at this
    cases this
  rw[Xb,pL,pL,←hl];by_cases hc:R.isLast cms a b (i+1)=true
  ·rw[if_pos hc,if_pos hc]
   obtain⟨f,rfl⟩:∃g,f=g+1:=⟨f-1,by omega⟩
   have a0:=((x_ a b (i+1)).1 hc).1;rw[xk];congr 1
   rw[pL,if_neg (by rw[yj (i+1) (by omega)];simp),List.filter_filter];rw[←Qg hw a b i f ((i+1)::F) (by omega) (by omega) (fun x hx=> ?_) (fun k h1 h2 h3=> ?_)]
   ·congr 1
    refine rV fun j _=> ?_
    rw[nT]
    cases R.comm cms a b j<;>cases R.mark cms (i+1) j<;>simp
   ·rcases iT.1 hx with rfl|hx
    ·exact⟨by omega,hi,a0⟩
    ·obtain⟨g1,g2,g3⟩:=hF x hx
     exact⟨by omega,g2,g3⟩
   ·rcases mX (i+1) k with h4|h4
    ·obtain⟨x,hx,hm⟩:=hk k h4 h2 h3
     exact⟨x,iQ _ hx,hm⟩
    ·have e:k=i+1:=by omega
     subst e;exact⟨i+1,iO ..,yj (i+1) (by omega)⟩
  ·rw[if_neg hc,if_neg hc]
   refine Qg hw a b i f F (by omega) (by omega) (fun x hx=> ?_) (fun k h1 h2 h3=> ?_)
   ·obtain⟨g1,g2,g3⟩:=hF x hx
    exact⟨by omega,g2,g3⟩
   ·rcases mX (i+1) k with h4|h4
    ·exact hk k h4 h2 h3
    ·have e:k=i+1:=by omega
     subst e;rw[hl,h3,nU,nZ]at hc;have:∃x∈F,¬(!R.mark cms x (i+1))=true:=by
      refine Classical.byContradiction fun hn=>hc fun x hx=> ?_
      exact Classical.byContradiction fun hm=>hn ⟨x,hx,hm⟩
     obtain⟨x,hx,hm⟩:=this;exact⟨x,hx,by simpa using hm⟩
theorem Jz (hw:WfC cms)(a b f:Nat)(hf:cms.length≤f):(xk (R.mark cms) f ((Xb cms.length).filter (R.comm cms a b))).reverse=R.latC cms a b:=by
 have h:=Qg hw a b cms.length f [] (j0a _) hf (by simp) (fun k h1 h2=>by omega);have e:((Xb cms.length).filter fun j=>R.comm cms a b j&&([]:List Nat).all fun x=> !R.mark cms x j)=(Xb cms.length).filter (R.comm cms a b):=
  rV fun j _=>by simp
 rw[e]at h;rw[h,←List.filter_reverse,OS];rfl
end
theorem vg {a b:List UInt8}(h:a≤b)(hn:a≠b):Op.bytesLess a b=true:=by
 cases h1:Op.bytesLess a b
 ·have h2:Op.bytesLess b a=false:=by
   rw[Go.Proofs.bytesLess_eq];exact decide_eq_false (List.not_lt.2 h)
  exact(hn (YS a b h1 h2)).elim
 ·rfl
theorem fC (l:List (List UInt8)):(l.mergeSort fun x y=>decide (x≤y)).Pairwise (·≤ ·):=by
 have:=List.pairwise_mergeSort (le:=fun x y:List UInt8=>decide (x≤y)) (fun a b c h1 h2=>by simp only[decide_eq_true_eq]at*;exact List.le_trans h1 h2) (fun a b=>by simp only[pE,decide_eq_true_eq];exact List.le_total a b) l;exact this.imp fun h=>by simpa using h
theorem OY (s:List (List UInt8))(q:List UInt8):q∈rW s↔q∈s:=by
 unfold rW rX;simp only[rR,pV,List.mem_range];constructor
 ·rintro⟨j,⟨hj,_⟩,rfl⟩
  simp[hj]
 ·intro h
  obtain⟨k,hk,rfl⟩:=List.getElem_of_mem h;have:∀k (hk:k<s.length),∃j,(j<s.length∧rY s.toArray j=true)∧s.toArray[j]! =s[k]:=by
   intro k;induction k with
   |zero=>intro hk;exact⟨0,⟨hk,by simp[rY]⟩,by simp[hk]⟩
   |succ k ih=>
    intro hk
    cases hc:rY s.toArray (k+1)
    ·obtain⟨j,h1,h2⟩:=ih (by omega)
     refine⟨j,h1,h2.trans ?_⟩;have:s.toArray[k+1]! =s.toArray[k]! :=by simpa[rY]using hc
     have a0 :k<s.length:=by omega
     simp only[rZ,sA,j0d hk,j0d a0,rS]at this;exact this.symm
    ·exact⟨k+1,⟨hk,hc⟩,by simp[hk]⟩
  exact this k hk
theorem UV (s:List (List UInt8))(h:s.Pairwise (·≤ ·)):Zb (rW s):=by
 refine zW.i ?_;unfold zW rW rX;rw[rQ,List.pairwise_filter,pK];intro i j hi hj a1;simp only[List.length_range]at hi hj;simp only[List.getElem_range,id_eq];intro _ hk;have h1:s.toArray[j]! ≠s.toArray[j-1]! :=by
  have:=hk;simp only[rY,decide_eq_true_eq]at this;rcases this with e|e
  ·omega
  ·exact e
 have a0:j-1<s.length:=by omega
 simp only[rZ,sA,j0d hi,j0d hj,j0d a0,rS]at h1⊢;rw[pK]at h;have h2:s[j-1]≤s[j]:=h _ _ _ _ (by omega);have h3:=vg h2 h1.symm;by_cases e:i=j-1
 ·subst e;exact h3
 ·have h4:s[i]≤s[j-1]:=h _ _ _ _ (by omega)
  by_cases e2:s[i]=s[j-1]
  ·rw[e2];exact h3
  ·exact Zj _ _ _ (vg h4 e2) h3
theorem ua {base a1 a0:List R.Leaf}(hb:OkT base)(ho:OkT a1)(ht:OkT a0):
  rW (((base++(a1++a0)).map R.Leaf.path).mergeSort fun x y=>decide (x≤y))=R.allP base a1 a0:=by
 have hp:=fk hb ho ht;have hm:∀q,q∈rW (((base++(a1++a0)).map R.Leaf.path).mergeSort fun x y=>decide (x≤y))↔∃z∈base++(a1++a0),z.path=q:=fun q=>by
  rw[OY,List.mem_mergeSort,rR]
 refine Ps.eq ⟨UV _ (fC _),fun p h=> ?_,hm⟩ hp;exact hp.path p ((hp.mem p).2 ((hm p).1 h))
