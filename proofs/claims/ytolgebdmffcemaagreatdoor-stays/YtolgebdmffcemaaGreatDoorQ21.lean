import Derived.Test.YtolgebdmffcemaaGreatDoorQ18
set_option linter.all false
set_option maxHeartbeats 20000000
set_option maxRecDepth 1000000
namespace Go.Proofs.YtolgebdmffcemaaGreatDoor
open Go.RowKit
def bQ (c n:Int):Int:=if c<0 then(-(c+1)) % n else c % n
namespace R
def bit (x i:Nat):Bool:=decide (x/2^i % 2=1)
def cY:List UInt8:=[98,97,103]
def bgItem (i:Nat):List UInt8:=[UInt8.ofNat (97+i)]
def bq (x:Nat)(st:St)(i:Nat):St:=if bit x i then(change st 42 [97] cY 0 (bgItem i)).2 else st
def bgTurn (name:List UInt8)(x:Nat)(st:St)(i:Nat):St:=if bit x i then(change st 42 name cY 0 (bgItem i)).2 else(change st 45 name cY 0 (bgItem i)).2
def bg0:St:={cms:=[],brs:=[],packed:=[]}
def bg1:St:=(change (made bg0 [97] [] false).2 35 [97] [110] 1 []).2
def bg2 (f:Nat):St:=(List.range 5).foldl (bq f) bg1
def bg3 (f:Nat):St:=(made (commit (bg2 f) [97]).2 [98] [97] true).2
def Fz (name:List UInt8)(x:Nat)(st:St):St:=(commit ((List.range 5).foldl (bgTurn name x) (change st 35 name name 1 []).2) name).2
def bg4 (f x:Nat):St:=Fz [97] x (bg3 f)
def bg5 (f x y:Nat):St:=Fz [98] y (bg4 f x)
def CR (f x y:Nat):List (List UInt8):=((List.range 5).filter fun i=>(bit x i&&bit y i)||((bit x i||bit y i)&& !bit f i)).map bgItem
def jE (x:Nat):List (List UInt8):=((List.range 5).filter fun i=>bit x i).map bgItem
def bgT (f x y:Nat):List (List UInt8):=if x=y then jE x else if x=f then jE y else if y=f then jE x else if x=0 then jE y else if y=0 then jE x else CR f x y
def bgW (l:List (List UInt8)):List UInt8:=[97,32,35,49,10,98,32,35,49,10]++((if l=[]then []else cY++ [32,42]++joinI l++ [10])++ [110,32,35,49,10])
def bV (f x y:Nat):Bool:=decide ((joinB (bg5 f x y) [97] [98]).1.2=0)&&decide (shown (joinB (bg5 f x y) [97] [98]).2 [97]=(bgW (bgT f x y),0))
end R
def C7 (name:List UInt8)(x:Nat)(st:R.St):R.St:=(List.range 5).foldl (R.bgTurn name x) (R.change st 35 name name 1 []).2
structure B0 (f x y:Nat):Prop where
 c1:(R.commit (R.bg2 f) [97]).1=(1,0)
 d1:(R.made (R.commit (R.bg2 f) [97]).2 [98] [97] true).1=0
 e4:(R.commit (C7 [97] x (R.bg3 f)) [97]).1=(2,0)
 e5:(R.commit (C7 [98] y (R.bg4 f x)) [98]).1=(3,0)
 j:(R.joinB (R.bg5 f x y) [97] [98]).1=(4,0)
 s:R.shown (R.joinB (R.bg5 f x y) [97] [98]).2 [97]=(R.bgW (R.bgT f x y),0)
namespace R
structure ZF (st:St):Prop where
 names:st.brs.map (·.name)=[[97],[98],[99]]
 one:1≤st.cms.length
 heads:∀b∈st.brs,1≤b.head
 par:∀i (h:i<st.cms.length),1≤i→st.cms[i].parents≠ []
theorem QW (l:List Br)(i:Nat)(b:Br)(hb:∀h:i<l.length,b.name=l[i].name):(l.set i b).map (·.name)=l.map (·.name):=by
 apply List.ext_getElem?;intro j;rw[List.getElem?_map,List.getElem?_map,List.getElem?_set];split
 ·rename_i e
  subst e;split
  ·rename_i h
   rw[j0d h];simp[hb h]
  ·rename_i h
   rw[List.getElem?_eq_none (by omega)]
 ·rfl
theorem Uq {st:St}{i:Nat}{t:List Leaf}{b:Br}(hb:b∈(setWork st i t).brs):∃c∈st.brs,b.head=c.head∧b.name=c.name:=by
 unfold setWork at hb
 cases e:st.brs[i]? with
 |none=>rw[e]at hb;exact⟨b,hb,rfl,rfl⟩
 |some c=>
  rw[e]at hb;obtain⟨hi,rfl⟩:=List.getElem?_eq_some_iff.1 e;rcases List.mem_or_eq_of_mem_set hb with h|h
  ·exact⟨b,h,rfl,rfl⟩
  ·exact⟨st.brs[i],j0c hi,by rw[h],by rw[h]⟩
theorem ZF.setWork {st:St}(h:ZF st)(i:Nat)(t:List Leaf):ZF (setWork st i t):=by
 refine⟨?_,h.one,fun b hb=> ?_,h.par⟩
 ·rw[←h.names]
  unfold R.setWork
  cases e:st.brs[i]? with
  |none=>rfl
  |some c=>
   obtain⟨hi,rfl⟩:=List.getElem?_eq_some_iff.1 e;exact QW _ _ _ fun _=>rfl
 ·obtain⟨c,hc,e,_⟩:=Uq hb
  rw[e];exact h.heads c hc
theorem ky (st:St)(kind:Int)(br p:List UInt8)(n:Int)(text:List UInt8):(change st kind br p n text).2=st∨∃i t,(change st kind br p n text).2=setWork st i t:=by
 unfold change;split
 ·exact .inl rfl
 ·split
  ·exact .inl rfl
  ·split
   ·exact .inr ⟨_,_,rfl⟩
   ·exact .inl rfl
theorem ZF.change {st:St}(h:ZF st)(kind:Int)(br p:List UInt8)(n:Int)(text:List UInt8):ZF (change st kind br p n text).2:=by
 rcases ky st kind br p n text with e|⟨i,t,e⟩<;>rw[e]
 ·exact h
 ·exact h.setWork i t
theorem ZF.setHead {st:St}(h:ZF st)(name:List UInt8)(n:Nat)(hn:1≤n):ZF (setHead st name n):=by
 refine⟨?_,h.one,fun b hb=> ?_,h.par⟩
 ·rw[←h.names]
  exact QW _ _ _ fun hi=>(fnd_name _ _ hi).symm
 ·rcases List.mem_or_eq_of_mem_set hb with e|e
  ·exact h.heads b e
  ·rw[e];exact hn
theorem ZF.keepC {st:St}(h:ZF st)(c:Cm)(hc:c.parents≠ []):ZF (keepC st c):=by
 have hl:(R.keepC st c).cms=st.cms++ [c]:=rfl;refine⟨h.names,?_,h.heads,fun i hi h1=> ?_⟩
 ·rw[hl,List.length_append];have:=h.one;omega
 ·have a1 :i<st.cms.length+1:=by rw[hl,List.length_append]at hi;exact hi
  have key:∀(hi:i<(st.cms++ [c]).length),(st.cms++ [c])[i].parents≠ []:=fun hi=>by
   by_cases a0:i<st.cms.length
   ·rw[List.getElem_append_left a0];exact h.par i a0 h1
   ·rw[List.getElem_append_right (by omega)]
    simp[hc]
  exact key hi
theorem ZF.down {st:St}(h:ZF st)(name:List UInt8)(c:Cm)(hc:c.parents≠ []):ZF (down st name c):=(h.keepC c hc).setHead name _ (by omega)
theorem ZF.headOf {st:St}(h:ZF st){name:List UInt8}(hf:fnd st.brs name<st.brs.length):1≤headOf st name:=by
 unfold R.headOf;rw[j0d hf];exact h.heads _ (j0c hf)
theorem ZF.commit {st:St}(h:ZF st)(name:List UInt8):ZF (commit st name).2:=by
 unfold R.commit;split
 ·exact h
 ·rename_i hf
  split
  ·exact h
  ·split
   ·exact h
   ·refine h.down name _ ?_
    have:=h.headOf (name:=name) (kq hf);unfold parsOf;rw[if_neg (by omega)];simp
theorem ZF.joinB {st:St}(h:ZF st)(a0 fr:List UInt8):ZF (joinB st a0 fr).2:=by
 unfold R.joinB;split
 ·exact h
 ·rename_i hf
  split
  ·exact h
  ·have h1:=h.headOf (name:=fr) (kq fun e=>hf (.inr e))
   unfold joinH;split
   ·exact h
   ·split
    ·exact h.setHead a0 _ h1
    ·unfold joinN
     split
     ·exact h
     ·split
      ·exact h
      ·exact h.down a0 _ (by simp)
theorem jz (st:St)(kind:Int)(br p:List UInt8)(n:Int)(text:List UInt8):(change st kind br p n text).2.cms=st.cms∧(change st kind br p n text).2.packed=st.packed:=by
 rcases ky st kind br p n text with e|⟨i,t,e⟩<;>rw[e]<;>exact⟨rfl,rfl⟩
structure Grows (st st' :St)(k:Nat):Prop where
 cms:∃l,st'.cms=st.cms++l∧l.length≤k
 packed:∃l,st'.packed=st.packed++l
theorem Grows.refl (st:St):Grows st st 0:=⟨⟨[],by simp,j0a _⟩,⟨[],by simp⟩⟩
theorem Grows.trans {a b c:St}{k m:Nat}(h1:Grows a b k)(h2:Grows b c m):Grows a c (k+m):=by
 obtain⟨⟨l1,e1,n1⟩,⟨p1,q1⟩⟩:=h1;obtain⟨⟨l2,e2,n2⟩,⟨p2,q2⟩⟩:=h2;exact⟨⟨l1++l2,by rw[e2,e1,List.append_assoc],by rw[List.length_append];omega⟩,⟨p1++p2,by rw[q2,q1,List.append_assoc]⟩⟩
theorem Grows.mono {a b:St}{k m:Nat}(h:Grows a b k)(hk:k≤m):Grows a b m:=by
 obtain⟨⟨l,e,n⟩,h2⟩:=h;exact⟨⟨l,e,by omega⟩,h2⟩
theorem Grows.len {a b:St}{k:Nat}(h:Grows a b k):b.cms.length≤a.cms.length+k:=by
 obtain⟨⟨l,e,n⟩,_⟩:=h;rw[e,List.length_append];omega
theorem uA (st:St)(kind:Int)(br p:List UInt8)(n:Int)(text:List UInt8):Grows st (change st kind br p n text).2 0:=by
 obtain⟨e1,e2⟩:=jz st kind br p n text;exact⟨⟨[],by rw[e1];simp,j0a _⟩,⟨[],by rw[e2];simp⟩⟩
theorem jS (st:St)(name:List UInt8)(n:Nat):Grows st (setHead st name n) 0:=⟨⟨[],by simp[setHead],j0a _⟩,⟨_,rfl⟩⟩
theorem jp (st:St)(name:List UInt8)(c:Cm):Grows st (down st name c) 1:=by
 refine⟨⟨[c],rfl,j0a _⟩,?_⟩;unfold down setHead keepC;exact⟨_,List.append_assoc ..⟩
theorem qc (st:St)(name:List UInt8):Grows st (commit st name).2 1:=by
 unfold commit;split
 ·exact(Grows.refl st).mono (by decide)
 ·split
  ·exact(Grows.refl st).mono (by decide)
  ·split
   ·exact(Grows.refl st).mono (by decide)
   ·exact jp _ _ _
theorem o5 (st:St)(a0 fr:List UInt8):Grows st (joinB st a0 fr).2 1:=by
 unfold joinB;split
 ·exact(Grows.refl st).mono (by decide)
 ·split
  ·exact(Grows.refl st).mono (by decide)
  ·unfold joinH
   split
   ·exact(Grows.refl st).mono (by decide)
   ·split
    ·exact(jS _ _ _).mono (by decide)
    ·unfold joinN
     split
     ·exact(Grows.refl st).mono (by decide)
     ·split
      ·exact(Grows.refl st).mono (by decide)
      ·exact jp _ _ _
structure Raw where
 kind:Int
 br:Int
 path:Int
 n:Int
def pk_ (c n:Int):Int:=(if c<0 then-(c+1)else c) % n
def brN (c:Int):List UInt8:=([[97],[98],[99]]:List (List UInt8)).getD (pk_ c 3).toNat []
def Q_:List (List UInt8):=[[110],[109],[115],[116],[120,47,110],[120,47,115],[120,47,121,47,122],[120],[113,47,114],[110,47,111]]
def pathN (c:Int):List UInt8:=Q_.getD (pk_ c 10).toNat []
def Ch:List (List UInt8):=[[112],[113],[114],[115,111,109,101,32,116,101,120,116],[122]]
def textN (c:Int):List UInt8:=Ch.getD (pk_ c 5).toNat []
def actP (st:St)(a:Raw):St:=
 if pk_ a.kind 10=0∨pk_ a.kind 10=1 then(change st 35 (brN a.br) (pathN a.path) (pk_ a.n 200-100) []).2
 else if pk_ a.kind 10=2 then(change st 61 (brN a.br) (pathN a.path) 0 (textN a.n)).2
 else if pk_ a.kind 10=3∨pk_ a.kind 10=4 then(change st 42 (brN a.br) (pathN a.path) 0 (textN a.n)).2
 else if pk_ a.kind 10=5 then(change st 45 (brN a.br) (pathN a.path) 0 (textN a.n)).2
 else if pk_ a.kind 10=6 then(change st 0 (brN a.br) (pathN a.path) 0 []).2
 else if pk_ a.kind 10=7∨pk_ a.kind 10=8 then(commit st (brN a.br)).2
 else(joinB (commit st (brN a.br)).2 (brN a.br) (brN a.n)).2
def actsP (st:St)(l:List Raw):St:=(l.take 25).foldl actP st
theorem ZF.act {st:St}(h:ZF st)(a:Raw):ZF (actP st a):=by
 unfold actP;repeat' split
 all_goals first
  |exact h.change _ _ _ _ _
  |exact h.commit _
  |exact(h.commit _).joinB _ _
theorem GG (st:St)(a:Raw):Grows st (actP st a) 2:=by
 unfold actP;repeat' split
 all_goals first
  |exact(uA _ _ _ _ _ _).mono (by decide)
  |exact(qc _ _).mono (by decide)
  |exact(qc _ _).trans (o5 _ _ _)
theorem ZF.fold:∀(l:List Raw) {st:St},ZF st→ZF (l.foldl actP st)
 |[],_,h=>h
 |a::l,_,h=>ZF.fold l (h.act a)
theorem jo:∀(l:List Raw) (st:St),Grows st (l.foldl actP st) (2*l.length)
 |[],st=>Grows.refl st
 |a::l,st=>by
  have:=(GG st a).trans (jo l (actP st a));rw[List.length_cons];exact this.mono (by omega)
theorem ZF.acts {st:St}(h:ZF st)(l:List Raw):ZF (actsP st l):=ZF.fold _ h
theorem grows_acts (st:St)(l:List Raw):Grows st (actsP st l) 50:=(jo _ st).mono (by rw[List.length_take];omega)
end R
namespace R
def Fw (v:Int):Leaf:={path:=[110],kind:=35,n:=v,text:=[],items:=[]}
def cnt (v:Int):List Leaf:=[Fw v]
def Fx (l:List (Int×List Nat)):List Cm:=l.map fun p=>{tree:=cnt p.1,parents:=p.2}
def bT {α:Type}(f:Nat→α)(i:Nat)(v:α):Nat→α:=fun j=>if j=i then v else f j
def bp (k:Nat)(hd:Nat→Nat)(w:Nat→Int):List Br:=(List.range k).map fun i=>{name:=bgItem i,head:=hd i,work:=cnt (w i)}
def bm (l:List (Int×List Nat))(hd:Nat→Nat)(w:Nat→Int)(pk:List UInt8):St:={cms:=Fx l,brs:=bp 5 hd w,packed:=pk}
def val (l:List (Int×List Nat))(m:Nat):Int:=((l[m-1]?).map (·.1)).getD 0
section
variable (l:List (Int×List Nat))(hd:Nat→Nat)(w:Nat→Int)(pk:List UInt8)
end
theorem fT (v:Int):Written (cnt v)=110::32::35::(Lib.itoa v++ [10]):=by
 unfold cnt Written line written Fw;simp
theorem Cv:isPath [110]=true:=by decide+kernel
structure bw (l:List (Int×List Nat))(hd:Nat→Nat)(κ:Nat→Nat)(v0:Int)(live:Nat→Prop):Prop where
 first:l[0]? =some (v0,[])
 par:∀m,2≤m→m≤l.length→∃p,l[m-1]? =some p∧p.2≠ []∧∀q∈p.2,1≤q∧q<m∧(q=1∨κ q=κ m)
 head:∀i,live i→1≤hd i∧hd i≤l.length∧(hd i=1∨κ (hd i)=i)
section
variable {l:List (Int×List Nat)}{hd:Nat→Nat}{κ:Nat→Nat}{v0:Int}{live:Nat→Prop}
end
end R
namespace R
def bP (l:List (Int×List Nat))(hd:Nat→Nat)(w:Nat→Int)(live:Nat→Prop):Prop:=∀i,live i→w i=val l (hd i)
section
variable {l:List (Int×List Nat)}{hd:Nat→Nat}{κ:Nat→Nat}{v0:Int}{live:Nat→Prop}
end
def forkS (v0:Int)(k:Nat)(pk:List UInt8):St:={cms:=Fx [(v0,[])],brs:=bp k (fun _=>1) (fun _=>v0),packed:=pk}
theorem fork5 (v0:Int){k:Nat}(h1:1≤k)(h5:k<5)(pk:List UInt8):∃a0,made (forkS v0 k pk) (bgItem k) [97] true=(0,forkS v0 (k+1) a0):=by
 rcases(by omega:k=1∨k=2∨k=3∨k=4)with rfl|rfl|rfl|rfl<;>exact⟨_,rfl⟩
def sm1:St:=(made bg0 [97] [] false).2
theorem add5 (v:Int)(h0:0<v)(h1:v≤2000):∃pk,change sm1 35 [97] [110] v []=(0,{cms:=[],brs:=[{name:=[97],head:=0,work:=cnt v}],packed:=pk}):=by
 unfold change;rw[show fndI sm1.brs [97]=0 from rfl,if_neg (by decide),Cv,if_neg (by simp),show workOf sm1 [97]=[]from rfl];have e:valV 35 [] (at_ [] [110]) [110] v []=(0,Fw v):=by
  unfold valV;rw[if_neg (by decide),if_neg (by decide),if_pos rfl];unfold addV;rw[show at_ [] [110]=none [110]from rfl,if_neg (by simp[none]),show blocked [] [110]=false from rfl,if_neg (by simp),if_neg (by simp only[none];omega),if_neg (by simp)];simp[none,Fw]
 rw[e,if_pos rfl];exact⟨_,rfl⟩
theorem commit0 (v:Int)(pk:List UInt8):∃a0,commit {cms:=[],brs:=[{name:=[97],head:=0,work:=cnt v}],packed:=pk} [97]=((1,0),forkS v 1 a0):=by
 unfold commit;rw[show fndI [({name:=[97],head:=0,work:=cnt v}:Br)] [97]=0 from rfl,if_neg (by decide)];have hw:¬Written (cnt v)=Written []:=by rw[fT];intro h;cases h
 rw[show workOf {cms:=[],brs:=[{name:=[97],head:=0,work:=cnt v}],packed:=pk} [97]=cnt v from rfl,show headOf {cms:=[],brs:=[{name:=[97],head:=0,work:=cnt v}],packed:=pk} [97]=0 from rfl,show treeOf {cms:=[],brs:=[{name:=[97],head:=0,work:=cnt v}],packed:=pk} 0=[]from rfl,if_neg hw];exact⟨_,rfl⟩
end R
namespace R
theorem kr (l:List Br)(n:List UInt8):fnd l n=(l.map (·.name)).findIdx (·==n):=by
 unfold fnd;rw[List.findIdx_map];rfl
theorem Gp {l:List Br}{ns:List (List UInt8)}(h:l.map (·.name)=ns):l.length=ns.length:=by rw[←h,List.length_map]
theorem ZF.fnd {st:St}(h:ZF st){n:List UInt8}(hn:n=[97]∨n=[98]∨n=[99]):fnd st.brs n<st.brs.length∧¬fndI st.brs n<0:=by
 have hl:st.brs.length=3:=Gp h.names;have:R.fnd st.brs n<st.brs.length:=by
  rw[kr,h.names,hl];rcases hn with rfl|rfl|rfl<;>decide
 refine⟨this,?_⟩;unfold fndI;rw[if_pos this];omega
def Com (st:St)(n:List UInt8):Prop:=Written (workOf st n)=Written (treeOf st (headOf st n))
theorem kZ (st:St)(name n:List UInt8)(m:Nat):fnd (setHead st name m).brs n=fnd st.brs n:=by
 rw[kr,kr];congr 1
 exact QW _ _ _ fun hi=>(fnd_name _ _ hi).symm
theorem J_ (st:St)(name:List UInt8)(m:Nat)(hf:fnd st.brs name<st.brs.length):workOf (setHead st name m) name=treeOf st m∧headOf (setHead st name m) name=m:=by
 unfold workOf headOf;rw[kZ];have e:(setHead st name m).brs[fnd st.brs name]? =some {name:=name,head:=m,work:=treeOf st m}:=by
  unfold setHead;simp only;rw[List.getElem?_set,if_pos rfl,if_pos hf]
 rw[e];exact⟨rfl,rfl⟩
theorem jI (st:St)(name n:List UInt8)(m:Nat)(hf:fnd st.brs name<st.brs.length)(hn:n≠name)(a0:fnd st.brs n<st.brs.length):workOf (setHead st name m) n=workOf st n∧headOf (setHead st name m) n=headOf st n:=by
 unfold workOf headOf;rw[kZ];have a1:fnd st.brs name≠fnd st.brs n:=by
  intro e;have h1:=fnd_name _ _ hf;have h2:=fnd_name _ _ a0;apply hn;rw[←h2,←h1];simp only[e]
 have e:(setHead st name m).brs[fnd st.brs n]? =st.brs[fnd st.brs n]? :=by
  unfold setHead;simp only;rw[List.getElem?_set,if_neg a1]
 rw[e];exact⟨rfl,rfl⟩
theorem vM (st:St)(c:Cm)(m:Nat)(h:m≤st.cms.length):treeOf (keepC st c) m=treeOf st m:=by
 unfold treeOf keepC;split
 ·rfl
 ·simp only
  rw[List.getElem?_append_left (by omega)]
theorem Fv (st:St)(name:List UInt8)(c:Cm)(hf:fnd st.brs name<st.brs.length):Com (down st name c) name:=by
 obtain⟨e1,e2⟩:=J_ (keepC st c) name (st.cms.length+1) hf;unfold Com down;rw[e1,e2];rfl
theorem jy (st:St)(hi:Inv st)(name n:List UInt8)(c:Cm)(hf:fnd st.brs name<st.brs.length)(hn:n≠name)(a0:fnd st.brs n<st.brs.length)(h:Com st n):Com (down st name c) n:=by
 obtain⟨e1,e2⟩:=jI (keepC st c) name n (st.cms.length+1) hf hn a0;unfold Com down;rw[e1,e2];have e3:treeOf (setHead (keepC st c) name (st.cms.length+1)) (headOf (keepC st c) n)=treeOf (keepC st c) (headOf st n):=rfl;rw[e3,vM _ _ _ (ZD hi n)];exact h
theorem vC {st:St}(h:ZF st){n:List UInt8}(hn:n=[97]∨n=[98]∨n=[99])(a0:st.cms.length<60):Com (commit st n).2 n∧((commit st n).1.2=0∨(commit st n).1.2=9):=by
 obtain⟨h1,h2⟩:=h.fnd hn;unfold commit;rw[if_neg h2];split
 ·rename_i e;exact⟨e,.inr rfl⟩
 ·rw[if_neg (by omega)]
  exact⟨Fv _ _ _ h1,.inl rfl⟩
theorem qf {st:St}(h:ZF st)(hi:Inv st){n m:List UInt8}(hn:n=[97]∨n=[98]∨n=[99])(hm:m=[97]∨m=[98]∨m=[99])(a0:m≠n)(hc:Com st m):Com (commit st n).2 m:=by
 obtain⟨h1,h2⟩:=h.fnd hn;obtain⟨h3,h4⟩:=h.fnd hm;unfold commit;rw[if_neg h2];split
 ·exact hc
 ·split
  ·exact hc
  ·exact jy _ hi _ _ _ h1 a0 h3 hc
structure bS (cms:List Cm)(n:Nat)(h:List Nat):Prop where
 fall:h.Pairwise (fun a b=>b<a)
 first:h[0]? =some n
 last:h[h.length-1]? =some 1
 mem:∀k∈h,mark cms n k=true∧1≤k∧k≤n
theorem treeAt_in {st:St}{k:Nat}(hk:1≤k)(hh:k≤st.cms.length):treeAt st k=(Written (treeOf st k),0):=by
 unfold treeAt;rw[if_neg (by omega)];rfl
def bG (st:St):St:=(commit (commit (commit st [97]).2 [98]).2 [99]).2
theorem liv0 (pk:List UInt8):ZF (forkS 7 3 pk):=⟨rfl,j0a 1,fun b hb=>by
 obtain⟨i,_,rfl⟩:=List.mem_map.1 hb;exact j0a _,fun i hi h1=>by
 have:i<1:=hi;omega⟩
end R
namespace R
def SumA (v0 sum:Int)(na nd nl:Nat)(st:St):Prop:=∃l hd κ w pk,st=bm l hd w pk∧bw l hd κ v0 (fun j=>j<5)∧(∀j,j<nd→w j=val l (hd j))∧sum=w 0+(w 1-v0)+(w 2-v0)+(w 3-v0)+(w 4-v0)∧(∀j,j<5→ -(1000*(na:Int))-2000≤w j∧w j≤2000+1000*(na:Int))∧l.length≤nl
def bE (w:Nat→Int)(v0:Int)(L:List Nat):Int:=(L.map fun j=>w j-v0).sum
def SumB (v0 sum:Int)(L:List Nat)(nl:Nat)(st:St):Prop:=∃l hd κ w pk,st=bm l hd w pk∧bw l hd κ v0 (fun j=>j=0∨j∈L)∧bP l hd w (fun j=>j=0∨j∈L)∧sum=w 0+bE w v0 L∧(∀j,j<5→j≠0→ -30000≤w j∧w j≤30000)∧(-30000-40000*(4-(L.length:Int))≤w 0∧w 0≤30000+40000*(4-(L.length:Int)))∧(-2000≤v0∧v0≤2000)∧l.length≤nl
end R
namespace R
structure Rc where
 letter:UInt8
 cm:Cm
 head:Nat
 name:List UInt8
def Rc.body (r:Rc):List UInt8:=if r.letter=67 then bodyC r.cm else if r.letter=66 then UInt8.ofNat r.head::r.name else r.name
def Rc.bytes (r:Rc):List UInt8:=record r.letter r.body
def UZ (st:St)(name:List UInt8)(n:Nat):St:=if fnd st.brs name<st.brs.length then setHead st name n else headNew st {name:=name,head:=n,work:=treeOf st n}
def Rc.run (st:St)(r:Rc):St:=if r.letter=67 then keepC st r.cm else if r.letter=66 then UZ st r.name r.head else(dropped st r.name).2
structure CY (st:St)(c:Cm):Prop where
 few:st.cms.length<60
 tree:OkT c.tree
 par:∀p∈c.parents,1≤p∧p≤st.cms.length
 two:c.parents.length≤2
 nodup:c.parents.Nodup
def Rc.ok (st:St)(r:Rc):Prop:=(r.letter=67∧CY st r.cm)∨(r.letter=66∧isName r.name=true∧r.head≤st.cms.length∧(fnd st.brs r.name<st.brs.length∨st.brs.length<6))∨(r.letter=68∧fnd st.brs r.name<st.brs.length)
def f7:St→List Rc→Prop
 |_,[]=>True
 |st,r::rs=>r.ok st∧f7 (r.run st) rs
def runs (st:St)(rs:List Rc):St:=rs.foldl Rc.run st
def gR (rs:List Rc):List UInt8:=rs.flatMap Rc.bytes
def rcC (c:Cm):Rc:={letter:=67,cm:=c,head:=0,name:=[]}
def rcB (n:Nat)(name:List UInt8):Rc:={letter:=66,cm:={tree:=[],parents:=[]},head:=n,name:=name}
def rcD (name:List UInt8):Rc:={letter:=68,cm:={tree:=[],parents:=[]},head:=0,name:=name}
theorem f7.snoc {r:Rc}:∀{rs:List Rc} {st:St},f7 st rs→r.ok (runs st rs)→f7 st (rs++ [r])
 |[],_,_,h=>⟨h,trivial⟩
 |_::_,_,h,h2=>⟨h.1,f7.snoc h.2 h2⟩
def ZZ (st:St)(b:Br):Br:={b with work:=treeOf st b.head}
def clean (st:St):St:={st with brs:=st.brs.map (ZZ st)}
theorem gQ (l:List Br)(f:Br→Br)(hf:∀b,(f b).name=b.name)(n:List UInt8):fnd (l.map f) n=fnd l n:=by
 unfold fnd;rw[List.findIdx_map];congr 1
 funext b
 show((f b).name==n)=_;rw[hf]
theorem cr (l:List Br)(f:Br→Br)(hf:∀b,(f b).name=b.name)(n:List UInt8):pos (l.map f) n=pos l n:=by
 unfold pos;rw[List.findIdx_map];congr 1
 funext b
 show(!less n (f b))=_;unfold less;rw[hf]
theorem kt (st:St)(n:List UInt8):fnd (clean st).brs n=fnd st.brs n:=gQ st.brs (ZZ st) (fun _=>rfl) n
theorem Qk (st:St):(clean st).brs.length=st.brs.length:=List.length_map _
theorem set_same {α β:Type}(l:List α)(f:α→β)(i:Nat)(x:α)(hx:∀h:i<l.length,f x=f l[i]):(l.set i x).map f=l.map f:=by
 apply List.ext_getElem?;intro j;rw[List.getElem?_map,List.getElem?_map,List.getElem?_set];split
 ·rename_i e
  subst e;split
  ·rename_i h
   rw[j0d h];simp[hx h]
  ·rename_i h
   rw[List.getElem?_eq_none (by omega)]
 ·rfl
theorem jZ (st:St)(i:Nat)(t:List Leaf):clean (setWork st i t)=clean st:=by
 have e:(setWork st i t).brs.map (ZZ st)=st.brs.map (ZZ st):=by
  unfold setWork
  cases e:st.brs[i]? with
  |none=>rfl
  |some b=>
   obtain⟨hi,rfl⟩:=List.getElem?_eq_some_iff.1 e;exact set_same _ _ _ _ fun _=>rfl
 show({cms:=st.cms,brs:=(setWork st i t).brs.map (ZZ st),packed:=st.packed}:St)=_;rw[e];rfl
theorem uN (st:St)(kind:Int)(br p:List UInt8)(n:Int)(text:List UInt8):clean (change st kind br p n text).2=clean st:=by
 rcases ky st kind br p n text with e|⟨i,t,e⟩<;>rw[e]
 exact jZ st i t
theorem J0 (st:St)(name:List UInt8)(n:Nat):clean (headNew st {name:=name,head:=n,work:=treeOf st n})=headNew (clean st) {name:=name,head:=n,work:=treeOf st n}:=by
 have e:(insB st.brs {name:=name,head:=n,work:=treeOf st n}).map (ZZ st)=insB (st.brs.map (ZZ st)) {name:=name,head:=n,work:=treeOf st n}:=by
  unfold insB;rw[cr st.brs (ZZ st) (fun _=>rfl),List.map_append,List.map_cons,List.map_take,List.map_drop];rfl
 show({cms:=st.cms,brs:=(insB st.brs {name:=name,head:=n,work:=treeOf st n}).map (ZZ st),packed:=_}:St)=_;rw[e];rfl
theorem j_ (st:St)(name:List UInt8)(n:Nat):clean (setHead st name n)=setHead (clean st) name n:=by
 have e:(st.brs.set (fnd st.brs name) {name:=name,head:=n,work:=treeOf st n}).map (ZZ st)=(st.brs.map (ZZ st)).set (fnd (st.brs.map (ZZ st)) name) {name:=name,head:=n,work:=treeOf st n}:=by
  rw[gQ st.brs (ZZ st) (fun _=>rfl),List.map_set];rfl
 show({cms:=st.cms,brs:=(st.brs.set (fnd st.brs name) {name:=name,head:=n,work:=treeOf st n}).map (ZZ st),packed:=_}:St)=_;rw[e];rfl
theorem oV {st:St}(hi:Inv st)(c:Cm):clean (keepC st c)=keepC (clean st) c:=by
 have e:st.brs.map (ZZ (keepC st c))=st.brs.map (ZZ st):=List.map_congr_left fun b hb=>by
  unfold ZZ;rw[vM st c b.head (hi.heads b hb)]
 show({cms:=st.cms++ [c],brs:=st.brs.map (ZZ (keepC st c)),packed:=_}:St)=_;rw[e];rfl
def Zb (st:St):Prop:=∃rs,f7 bg0 rs∧runs bg0 rs=clean st∧st.packed=gR rs
theorem bf:Inv bg0:=⟨by decide,by simp[bg0],List.Pairwise.nil,by simp[bg0],by simp[bg0],by decide,by simp[bg0],fun i h=>by simp[bg0]at h,by simp[bg0]⟩
theorem b8:Zb bg0:=⟨[],trivial,rfl,rfl⟩
theorem Zb.snoc {st st' :St}(h:Zb st)(r:Rc)(hr:r.ok (clean st))(hc:r.run (clean st)=clean st')(hp:st'.packed=st.packed++r.bytes):Zb st' :=by
 obtain⟨rs,h1,h2,h3⟩:=h;refine⟨rs++ [r],h1.snoc (by rw[h2];exact hr),?_,?_⟩
 ·unfold runs at h2⊢
  rw[List.foldl_append,h2];exact hc
 ·unfold gR at h3⊢
  rw[hp,h3,List.flatMap_append];simp
section
variable {st:St}
theorem Zb.change (h:Zb st)(kind:Int)(br p:List UInt8)(n:Int)(text:List UInt8):Zb (change st kind br p n text).2:=by
 obtain⟨rs,h1,h2,h3⟩:=h;exact⟨rs,h1,by rw[uN];exact h2,by rw[(jz st kind br p n text).2];exact h3⟩
theorem Zb.headNew (h:Zb st){name:List UInt8}{n:Nat}(hn:isName name=true)(hh:n≤st.cms.length)(hm:st.brs.length<6)(a0:¬fnd st.brs name<st.brs.length):Zb (headNew st {name:=name,head:=n,work:=treeOf st n}):=by
 refine h.snoc (rcB n name) (.inr (.inl ⟨rfl,hn,hh,.inr (by rw[Qk];exact hm)⟩)) ?_ rfl;rw[J0];show UZ (clean st) name n=_;unfold UZ;rw[kt,Qk,if_neg a0];rfl
theorem Zb.setHead (h:Zb st)(hi:Inv st){name:List UInt8}{n:Nat}(hh:n≤st.cms.length)(hf:fnd st.brs name<st.brs.length):Zb (setHead st name n):=by
 have hn:isName name=true:=by
  have:=hi.names _ (j0c hf);rwa[fnd_name]at this
 refine h.snoc (rcB n name) (.inr (.inl ⟨rfl,hn,hh,.inl (by rw[kt,Qk];exact hf)⟩)) ?_ rfl;rw[j_];show UZ (clean st) name n=_;unfold UZ;rw[kt,Qk,if_pos hf]
theorem Zb.keepC (h:Zb st)(hi:Inv st){c:Cm}(hc:CY st c):Zb (keepC st c):=by
 refine h.snoc (rcC c) (.inl ⟨rfl,⟨hc.few,hc.tree,hc.par,hc.two,hc.nodup⟩⟩) ?_ rfl;rw[oV hi];rfl
theorem Zb.made (h:Zb st)(hi:Inv st)(name fr:List UInt8)(a0:Bool):Zb (made st name fr a0).2:=by
 unfold R.made;split
 ·exact h
 ·rename_i hn
  split
  ·exact h
  ·split
   ·exact h
   ·rename_i hf
    split
    ·exact h
    ·rename_i hm
     refine h.headNew (by simpa using hn) ?_ (by omega) fun e=>hf (by rw[fndI,if_pos e];omega)
     split
     ·exact ZD hi fr
     ·omega
theorem Zb.down (h:Zb st)(hi:Inv st){name:List UInt8}{c:Cm}(hc:CY st c)(hf:fnd st.brs name<st.brs.length):Zb (down st name c):=
 (h.keepC hi hc).setHead (km hi c hc.few hc.tree hc.par hc.two) (by show _≤(st.cms++ [c]).length;rw[List.length_append];simp) hf
theorem Zb.commit (h:Zb st)(hi:Inv st)(name:List UInt8):Zb (commit st name).2:=by
 unfold R.commit;split
 ·exact h
 ·rename_i hf
  split
  ·exact h
  ·split
   ·exact h
   ·rename_i hl
    obtain⟨h1,h2⟩:=Qj hi name;have a0 :=kq hf;refine h.down hi ⟨by omega,?_,h1,h2,by unfold parsOf;split<;>simp⟩ a0;show OkT (workOf st name);unfold workOf;rw[j0d a0];exact hi.work _ (j0c a0)
theorem Zb.joinB (h:Zb st)(hi:Inv st)(a0 fr:List UInt8):Zb (joinB st a0 fr).2:=by
 unfold R.joinB;split
 ·exact h
 ·rename_i hf
  have a1 :=kq (st:=st) (n:=a0) fun e=>hf (.inl e)
  split
  ·exact h
  ·have ha:=ZD hi a0
   have hb:=ZD hi fr;generalize headOf st a0=a at*;generalize headOf st fr=b at*;unfold joinH;split
   ·exact h
   ·rename_i h1
    split
    ·exact h.setHead hi hb a1
    ·rename_i h2
     unfold joinN;split
     ·exact h
     ·split
      ·exact h
      ·refine h.down hi ⟨by omega,jk hi a b,fun p hp=> ?_,by simp,?_⟩ a1
       ·simp only[List.mem_cons,List.not_mem_nil,or_false]at hp
        rcases hp with rfl|rfl<;>omega
       ·have:a≠b:=cE (by omega) fun e=>h1 (.inr e)
        simpa using this
theorem c_ (hi:Inv st)(a:Raw):Inv (actP st a):=by
 unfold actP;repeat' split
 all_goals first
  |exact yU hi _ _ _ _ _ (by simp)
  |exact Yv hi _
  |exact Ju (Yv hi _) _ _
theorem Zb.act (h:Zb st)(hi:Inv st)(a:Raw):Zb (actP st a):=by
 unfold actP;repeat' split
 all_goals first
  |exact h.change _ _ _ _ _
  |exact h.commit hi _
  |exact(h.commit hi _).joinB (Yv hi _) _ _
end
theorem Zb.fold:∀(l:List Raw) {st:St},Inv st→Zb st→Zb (l.foldl actP st)
 |[],_,_,h=>h
 |a::l,_,hi,h=>Zb.fold l (c_ hi a) (h.act hi a)
theorem Zb.acts {st:St}(h:Zb st)(hi:Inv st)(l:List Raw):Zb (actsP st l):=Zb.fold _ hi h
theorem pack_liv {s1 s2 s3 s4:St}{r1 r3 r4:Int}{r2:Int×Int}(e1:R.change (R.made bg0 [97] [] false).2 35 [97] [110] 7 []=(r1,s1))(e2:R.commit s1 [97]=(r2,s2))(e3:R.made s2 [98] [97] true=(r3,s3))(e4:R.made s3 [99] [97] true=(r4,s4)):Zb s4∧Inv s4:=by
 have i0:=qU bf [97] [] false;have p0:=b8.made bf [97] [] false;have i1:=yU i0 35 [97] [110] 7 [] (by simp);have p1:=p0.change 35 [97] [110] 7 [];rw[e1]at p1;rw[e1]at i1;have i2:=Yv i1 [97];have p2:=p1.commit i1 [97];rw[e2]at i2 p2;have i3:=qU i2 [98] [97] true;have p3:=p2.made i2 [98] [97] true;rw[e3]at i3 p3;have i4:=qU i3 [99] [97] true;have p4:=p3.made i3 [99] [97] true;rw[e4]at i4 p4;exact⟨p4,i4⟩
def Cs (p:List UInt8):Nat:=256*(p.getD 1 0).toNat+(p.getD 2 0).toNat
def whole (p:List UInt8):Bool:=decide (3≤p.length)&&(decide (3+Cs p<p.length)&&decide ((p.getD (3+Cs p) 0).toNat=(1+sumB (p.take (3+Cs p))) % 251))
theorem record_len (c:UInt8)(a0:List UInt8):(record c a0).length=a0.length+4:=by simp[record,recHead]
end R
namespace R
def lvA (st:St)(k:Nat):St:=if k=0 then st else if k=1 then(commit st [97]).2 else if k=2 then(commit (commit st [97]).2 [98]).2 else bG st
structure Lived (st:St):Prop where
 liv:ZF st
 com:∀n,(n=[97]∨n=[98]∨n=[99])→Com st n
 len:st.cms.length≤54
 pack:Zb st
theorem Q3 {st:St}(h:ZF st)(hi:Inv st){n:List UInt8}(hn:n=[97]∨n=[98]∨n=[99])(hl:st.cms.length<60):ZF (commit st n).2∧Inv (commit st n).2∧(commit st n).2.cms.length≤st.cms.length+1:=⟨h.commit n,Yv hi n,(qc st n).len⟩
theorem lived_of {st:St}(h:ZF st)(hi:Inv st)(hl:st.cms.length≤51)(hp:Zb st):
  (∀k,k<3→((commit (lvA st k) (([[97],[98],[99]]:List (List UInt8)).getD k [])).1.2=0∨(commit (lvA st k) (([[97],[98],[99]]:List (List UInt8)).getD k [])).1.2=9)∧(commit (lvA st k) (([[97],[98],[99]]:List (List UInt8)).getD k [])).2=lvA st (k+1))∧Lived (lvA st 3):=by
 have ha:([97]:List UInt8)=[97]∨([97]:List UInt8)=[98]∨([97]:List UInt8)=[99]:= .inl rfl;have hb:([98]:List UInt8)=[97]∨([98]:List UInt8)=[98]∨([98]:List UInt8)=[99]:= .inr (.inl rfl);have hc:([99]:List UInt8)=[97]∨([99]:List UInt8)=[98]∨([99]:List UInt8)=[99]:= .inr (.inr rfl);obtain⟨l1,i1,n1⟩:=Q3 h hi ha (by omega);obtain⟨l2,i2,n2⟩:=Q3 l1 i1 hb (by omega);obtain⟨l3,i3,n3⟩:=Q3 l2 i2 hc (by omega);obtain⟨c1,r1⟩:=vC h ha (by omega);obtain⟨c2,r2⟩:=vC l1 hb (by omega);obtain⟨c3,r3⟩:=vC l2 hc (by omega);have a0:=qf l1 i1 hb ha (by decide) c1;have a1:=qf l2 i2 hc ha (by decide) a0;have a2:=qf l2 i2 hc hb (by decide) c2;refine⟨fun k hk=> ?_,⟨l3,fun n hn=> ?_,by show(commit _ _).2.cms.length≤54;omega,((hp.commit hi _).commit i1 _).commit i2 _⟩⟩
 ·rcases(by omega:k=0∨k=1∨k=2)with rfl|rfl|rfl
  ·exact⟨r1,rfl⟩
  ·exact⟨r2,rfl⟩
  ·exact⟨r3,rfl⟩
 ·rcases hn with rfl|rfl|rfl
  ·exact a1
  ·exact a2
  ·exact c3
theorem brN_small (k:Nat)(hk:k<3):brN (k:Int)=([[97],[98],[99]]:List (List UInt8)).getD k []:=by
 rcases(by omega:k=0∨k=1∨k=2)with rfl|rfl|rfl<;>rfl
end R
namespace R
def zB (t:List Leaf):Prop:=∀x∈t,x.path∈Q_
theorem zB.nil:zB []:=fun x hx=>by simp at hx
theorem Us (x:Leaf):∀(d:Bool) (l:List Leaf),∀z∈setL x d l,z=x∨z∈l
 |d,[],z,hz=>by
  unfold setL at hz;split at hz
  ·simp at hz
  ·exact .inl (by simpa using hz)
 |d,y::ys,z,hz=>by
  unfold setL at hz;rcases List.mem_append.1 hz with h|h
  ·split at h
   ·exact .inl (by simpa using h)
   ·simp at h
  ·rcases List.mem_append.1 h with h|h
   ·split at h
    ·simp at h
    ·exact .inr (by simp at h;simp[h])
   ·rcases Us x _ ys z h with h|h
    ·exact .inl h
    ·exact .inr (List.mem_cons_of_mem _ h)
theorem zB.set {t:List Leaf}(h:zB t){x:Leaf}(hx:x.path∈Q_):zB (set t x):=fun z hz=>by
 rcases Us x _ t z hz with rfl|hz
 ·exact hx
 ·exact h z hz
theorem zB.fold:∀(l a0:List Leaf),zB l→zB a0→zB (l.foldl R.set a0)
 |[],a0,_,h=>h
 |x::l,a0,hl,h=>zB.fold l _ (fun z hz=>hl z (List.mem_cons_of_mem _ hz)) (h.set (hl x (List.mem_cons_self ..)))
theorem zB.append {s t:List Leaf}(h1:zB s)(h2:zB t):zB (s++t):=fun x hx=>(List.mem_append.1 hx).elim (h1 x) (h2 x)
theorem zB.joinT {a b c:List Leaf}(ha:zB a)(hb:zB b)(hc:zB c):zB (joinT a b c).1:=by
 have hp:∀p∈allP a b c,p∈Q_:=fun p hp=>by
  obtain⟨z,hz,rfl⟩:=List.mem_map.1 hp;exact zB.fold _ _ (ha.append (hb.append hc)) zB.nil z hz
 have ho:zB (outJ a b c (allP a b c)):=fun x hx=>by
  obtain⟨p,h1,h2⟩:=List.mem_flatMap.1 hx;unfold leafJ at h2;split at h2
  ·simp at h2
  ·have e:x={(valJ a b c p).1 with path:=p}:=by simpa using h2
   rw[e];exact hp p h1
 unfold R.joinT joinP;split
 ·exact zB.nil
 ·unfold endJ
  split
  ·exact zB.nil
  ·split
   ·exact zB.nil
   ·exact ho
theorem zB.treeC {cms:List Cm}(h:∀c∈cms,zB c.tree)(n:Nat):zB (treeC cms n):=by
 unfold R.treeC;split
 ·exact zB.nil
 ·cases e:cms[n-1]? with
  |none=>exact zB.nil
  |some c=>exact h c (List.mem_of_getElem? e)
theorem zB.togF {base:Nat→Nat→List Leaf×Int}{cms:List Cm}(h:∀c∈cms,zB c.tree)(hb:∀a b,zB (base a b).1):∀(l:List Nat) (p:Nat) (t:List Leaf),zB t→zB (togF base cms p t l).1
 |[],p,t,ht=>ht
 |n::r,p,t,ht=>by
  unfold R.togF;split
  ·exact zB.nil
  ·split
   ·exact zB.nil
   ·exact zB.togF h hb r n _ ((hb p n).joinT ht (zB.treeC h n))
theorem zB.baseF {cms:List Cm}(h:∀c∈cms,zB c.tree):∀(f a b:Nat),zB (baseF cms f a b).1
 |0,_,_=>zB.nil
 |f+1,a,b=>by
  show zB (togL (R.baseF cms f) cms (latC cms a b)).1
  cases latC cms a b with
  |nil=>exact zB.nil
  |cons n r=>exact zB.togF h (zB.baseF h f) r n _ (zB.treeC h n)
structure PathI (st:St):Prop where
 work:∀b∈st.brs,zB b.work
 trees:∀c∈st.cms,zB c.tree
theorem PathI.workOf {st:St}(h:PathI st)(n:List UInt8):zB (workOf st n):=by
 unfold R.workOf
 cases e:st.brs[fnd st.brs n]? with
 |none=>exact zB.nil
 |some b=>exact h.work b (List.mem_of_getElem? e)
theorem PathI.treeOf {st:St}(h:PathI st)(n:Nat):zB (treeOf st n):=zB.treeC h.trees n
theorem PathI.setWork {st:St}(h:PathI st)(i:Nat){t:List Leaf}(ht:zB t):PathI (setWork st i t):=by
 refine⟨fun b hb=> ?_,h.trees⟩;unfold R.setWork at hb
 cases e:st.brs[i]? with
 |none=>rw[e]at hb;exact h.work b hb
 |some c=>
  rw[e]at hb;rcases List.mem_or_eq_of_mem_set hb with hb|hb
  ·exact h.work b hb
  ·rw[hb];exact ht
theorem GO (x:Leaf)(path:List UInt8)(h:(delV x path).1=0):(delV x path).2.path=path:=by
 unfold delV at h⊢;by_cases c0:x.kind=0
 ·rw[if_pos c0]at h;exact absurd h (by simp)
 rw[if_neg c0]at h⊢;rfl
theorem Oj (x:Leaf)(path text:List UInt8)(h:(takeV x path text).1=0):(takeV x path text).2.path=path:=by
 unfold takeV at h⊢;by_cases c0:(!isText text||text==[])=true
 ·rw[if_pos c0]at h;exact absurd h (by simp)
 rw[if_neg c0]at h⊢;by_cases c1:x.kind≠0∧x.kind≠42
 ·rw[if_pos c1]at h;exact absurd h (by simp)
 rw[if_neg c1]at h⊢;by_cases c2:(x.items.any fun y=>y==text)=false
 ·rw[if_pos c2]at h;exact absurd h (by simp)
 rw[if_neg c2]at h⊢
theorem GX (t:List Leaf)(x:Leaf)(path:List UInt8)(n:Int)(h:(addV t x path n).1=0):(addV t x path n).2.path=path:=by
 unfold addV at h⊢;by_cases c0:x.kind≠0∧x.kind≠35
 ·rw[if_pos c0]at h;exact absurd h (by simp)
 rw[if_neg c0]at h⊢;by_cases c1:blocked t path=true
 ·rw[if_pos c1]at h;exact absurd h (by simp)
 rw[if_neg c1]at h⊢;by_cases c2:1000000000-x.n<n∨n< -1000000000-x.n
 ·rw[if_pos c2]at h;exact absurd h (by simp)
 rw[if_neg c2]at h⊢;by_cases c3:x.kind=0∧24≤t.length
 ·rw[if_pos c3]at h;exact absurd h (by simp)
 rw[if_neg c3]at h⊢
theorem OG (t:List Leaf)(x:Leaf)(path text:List UInt8)(h:(noteV t x path text).1=0):(noteV t x path text).2.path=path:=by
 unfold noteV at h⊢;by_cases c0:isText text=false
 ·rw[if_pos c0]at h;exact absurd h (by simp)
 rw[if_neg c0]at h⊢;by_cases c1:x.kind≠0∧x.kind≠61
 ·rw[if_pos c1]at h;exact absurd h (by simp)
 rw[if_neg c1]at h⊢;by_cases c2:blocked t path=true
 ·rw[if_pos c2]at h;exact absurd h (by simp)
 rw[if_neg c2]at h⊢;by_cases c3:x.kind=0∧24≤t.length
 ·rw[if_pos c3]at h;exact absurd h (by simp)
 rw[if_neg c3]at h⊢
theorem Ge (t:List Leaf)(x:Leaf)(path text:List UInt8)(h:(putV t x path text).1=0):(putV t x path text).2.path=path:=by
 unfold putV at h⊢;by_cases c0:(!isText text||text==[])=true
 ·rw[if_pos c0]at h;exact absurd h (by simp)
 rw[if_neg c0]at h⊢;by_cases c1:x.kind≠0∧x.kind≠42
 ·rw[if_pos c1]at h;exact absurd h (by simp)
 rw[if_neg c1]at h⊢;by_cases c2:blocked t path=true
 ·rw[if_pos c2]at h;exact absurd h (by simp)
 rw[if_neg c2]at h⊢;by_cases c3:8<(item x.items text).length
 ·rw[if_pos c3]at h;exact absurd h (by simp)
 rw[if_neg c3]at h⊢;by_cases c4:x.kind=0∧24≤t.length
 ·rw[if_pos c4]at h;exact absurd h (by simp)
 rw[if_neg c4]at h⊢
theorem G1 (kind:Int)(t:List Leaf)(x:Leaf)(path:List UInt8)(n:Int)(text:List UInt8)(h:(valV kind t x path n text).1=0):(valV kind t x path n text).2.path=path:=by
 unfold valV at h⊢;by_cases c0:kind=0
 ·rw[if_pos c0]at h⊢;exact GO _ _ h
 rw[if_neg c0]at h⊢;by_cases c1:kind=45
 ·rw[if_pos c1]at h⊢;exact Oj _ _ _ h
 rw[if_neg c1]at h⊢;by_cases c2:kind=35
 ·rw[if_pos c2]at h⊢;exact GX _ _ _ _ h
 rw[if_neg c2]at h⊢;by_cases c3:kind=61
 ·rw[if_pos c3]at h⊢;exact OG _ _ _ _ h
 rw[if_neg c3]at h⊢;exact Ge _ _ _ _ h
theorem PathI.change {st:St}(h:PathI st)(kind:Int)(br path:List UInt8)(n:Int)(text:List UInt8)(hp:path∈Q_):PathI (change st kind br path n text).2:=by
 unfold R.change;split
 ·exact h
 ·split
  ·exact h
  ·split
   ·rename_i e
    exact h.setWork _ ((h.workOf br).set (by rw[G1 _ _ _ _ _ _ e];exact hp))
   ·exact h
theorem PathI.setHead {st:St}(h:PathI st)(name:List UInt8)(n:Nat):PathI (setHead st name n):=by
 refine⟨fun b hb=> ?_,h.trees⟩;rcases List.mem_or_eq_of_mem_set hb with hb|hb
 ·exact h.work b hb
 ·rw[hb];exact h.treeOf n
theorem PathI.keepC {st:St}(h:PathI st)(c:Cm)(hc:zB c.tree):PathI (keepC st c):=by
 refine⟨h.work,fun d hd=> ?_⟩;rcases List.mem_append.1 hd with hd|hd
 ·exact h.trees d hd
 ·rw[show d=c by simpa using hd];exact hc
theorem PathI.down {st:St}(h:PathI st)(name:List UInt8)(c:Cm)(hc:zB c.tree):PathI (down st name c):=(h.keepC c hc).setHead name _
theorem PathI.commit {st:St}(h:PathI st)(name:List UInt8):PathI (commit st name).2:=by
 unfold R.commit;split
 ·exact h
 ·split
  ·exact h
  ·split
   ·exact h
   ·exact h.down name _ (h.workOf name)
theorem PathI.joinB {st:St}(h:PathI st)(a0 fr:List UInt8):PathI (joinB st a0 fr).2:=by
 unfold R.joinB;split
 ·exact h
 ·split
  ·exact h
  ·unfold joinH
   split
   ·exact h
   ·split
    ·exact h.setHead a0 _
    ·unfold joinN
     split
     ·exact h
     ·split
      ·exact h
      ·refine h.down a0 _ ?_
       unfold joinC;split
       ·exact zB.nil
       ·exact(zB.baseF h.trees _ _ _).joinT (zB.treeC h.trees _) (zB.treeC h.trees _)
theorem Gh (c:Int):pathN c∈Q_:=by
 unfold pathN;have h1:0≤pk_ c 10:=Int.emod_nonneg _ (by decide);have h2:pk_ c 10<10:=Int.emod_lt_of_pos _ (by decide);have h3:(pk_ c 10).toNat<Q_.length:=by
  show _<10;omega
 rw[List.getD_eq_getElem?_getD,j0d h3];exact j0c h3
theorem PathI.act {st:St}(h:PathI st)(a:Raw):PathI (actP st a):=by
 unfold actP;repeat' split
 all_goals first
  |exact h.change _ _ _ _ _ (Gh _)
  |exact h.commit _
  |exact(h.commit _).joinB _ _
theorem PathI.fold:∀(l:List Raw) {st:St},PathI st→PathI (l.foldl actP st)
 |[],_,h=>h
 |a::l,_,h=>PathI.fold l (h.act a)
theorem PathI.acts {st:St}(h:PathI st)(l:List Raw):PathI (actsP st l):=PathI.fold _ h
theorem path0 (pk:List UInt8):PathI (forkS 7 3 pk):=by
 have ht:zB (cnt 7):=fun x hx=>by
  have e:x=Fw 7:=by simpa[cnt]using hx
  rw[e];exact List.mem_cons_self ..
 refine⟨fun b hb=> ?_,fun c hc=> ?_⟩
 ·obtain⟨i,_,rfl⟩:=List.mem_map.1 hb
  exact ht
 ·have e:c={tree:=cnt 7,parents:=[]}:=by simpa[forkS,Fx]using hc
  rw[e];exact ht
theorem PathI.lived {st:St}(h:PathI st):PathI (lvA st 3):=((h.commit [97]).commit [98]).commit [99]
end R
namespace R
def bR:List UInt8:=[110,111,110,101,48]
def bC:List UInt8:=[110,111,119,104,101,114,101]
def fresh:List UInt8:=[102,114,101,115,104]
section
variable {st:St}
end
end R
namespace R
theorem jT (st:St)(n:List UInt8):Grows st (dropped st n).2 0:=by
 unfold dropped;split
 ·exact Grows.refl st
 ·exact⟨⟨[],by simp,j0a _⟩,⟨_,rfl⟩⟩
section
variable {a b:St}{k:Nat}
theorem Grows.base (h:Grows a b k)(hi:Inv a){x y:Int}(h1:1≤x)(h2:x≤a.cms.length)(h3:1≤y)(h4:y≤a.cms.length):baseAt b x y=baseAt a x y:=by
 obtain⟨⟨l,e,_⟩,_⟩:=h;have hl:b.cms.length=a.cms.length+l.length:=by rw[e,List.length_append]
 have c1:¬(x<1∨y<1∨(b.cms.length:Int)<x∨(b.cms.length:Int)<y):=by omega
 have c2:¬(x<1∨y<1∨(a.cms.length:Int)<x∨(a.cms.length:Int)<y):=by omega
 unfold baseAt;rw[if_neg c1,if_neg c2,e,uQ l hi.wf x.toNat y.toNat (by omega) (by omega)]
theorem Grows.more (h:Grows a b k):a.cms.length≤b.cms.length:=by
 obtain⟨⟨l,e,_⟩,_⟩:=h;rw[e,List.length_append];omega
theorem Grows.pk (h:Grows a b k):a.packed.length≤b.packed.length∧b.packed.take a.packed.length=a.packed:=by
 obtain⟨_,⟨l,e⟩⟩:=h;rw[e];exact⟨by rw[List.length_append];omega,by simp⟩
theorem Grows.tree (h:Grows a b k){i:Nat}(hi:i<a.cms.length)(a0:i<b.cms.length):b.cms[i].tree=a.cms[i].tree:=by
 obtain⟨⟨l,e,_⟩,_⟩:=h;have:b.cms[i]? =a.cms[i]? :=by rw[e,List.getElem?_append_left hi]
 rw[j0d hi,j0d a0,Option.some.injEq]at this;rw[this]
theorem grows_later (st:St)(l:List Raw):Grows st (dropped (actsP st l) [99]).2 50:=(grows_acts st l).trans (jT _ _)
end
end R
