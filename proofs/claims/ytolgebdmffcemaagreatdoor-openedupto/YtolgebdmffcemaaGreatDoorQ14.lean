import Derived.Test.YtolgebdmffcemaaGreatDoorQ11
set_option linter.all false
set_option maxHeartbeats 20000000
set_option maxRecDepth 1000000
open UInt8 renaming ofNat→nK,toNat_ofNat'→rH
open List renaming range→mO,ext_getElem?→sR,getElem?_map→sZ,getElem?_set→aK,getElem?_eq_none→aL,getElem?_eq_some_iff→rD,mem_or_eq_of_mem_set→rE,length_append→nL,append_assoc→sM,length_cons→nM,length_take→pZ,findIdx_map→aM,length_map→aN,getElem?_append_left→aP,mem_cons→iT,rel_of_pairwise_cons→pN,mem_cons_self→iO,mem_cons_of_mem→iQ,mem_map→rR,map_congr_left→aQ,foldl_append→rM,not_mem_nil→lA,length_nil→pC,getD_eq_getElem?_getD→lB,take_append_of_le_length→sN,take_of_length_le→nR,mem_append→iZ,mem_of_getElem?→lC,take_sublist→aR,mem_of_mem_take→rO,mem_take_iff_getElem→aS,any_eq_false→pM,findIdx_eq_length→aT,take_length→aU,drop_length→aV,length_pos_iff→aW,mem_singleton→iV,take_succ_cons→aX
open Bool renaming and_eq_true→pB
open Nat renaming lt_or_ge→mX,zero_le→wB
namespace Go.Proofs.YtolgebdmffcemaaGreatDoor
open Go.RowKit
def D9 (c n:Int):Int:=if c<0 then(-(c+1)) % n else c % n
namespace R
def bit (x i:Nat):Bool:=decide (x/2^i % 2=1)
def bU:List UInt8:=[98,97,103]
def bgItem (i:Nat):List UInt8:=[nK (97+i)]
def dL (x:Nat)(st:St)(i:Nat):St:=if bit x i then(change st 42 [97] bU 0 (bgItem i)).2 else st
def bgTurn (name:List UInt8)(x:Nat)(st:St)(i:Nat):St:=if bit x i then(change st 42 name bU 0 (bgItem i)).2 else(change st 45 name bU 0 (bgItem i)).2
def bg0:St:={cms:=[],brs:=[],packed:=[]}
def bg1:St:=(change (made bg0 [97] [] false).2 35 [97] [110] 1 []).2
def bg2 (f:Nat):St:=(mO 5).foldl (dL f) bg1
def bg3 (f:Nat):St:=(made (commit (bg2 f) [97]).2 [98] [97] true).2
def Co (name:List UInt8)(x:Nat)(st:St):St:=(commit ((mO 5).foldl (bgTurn name x) (change st 35 name name 1 []).2) name).2
def bg4 (f x:Nat):St:=Co [97] x (bg3 f)
def bg5 (f x y:Nat):St:=Co [98] y (bg4 f x)
def de (f x y:Nat):List (List UInt8):=((mO 5).filter fun i=>(bit x i&&bit y i)||((bit x i||bit y i)&& !bit f i)).map bgItem
def Jj (x:Nat):List (List UInt8):=((mO 5).filter fun i=>bit x i).map bgItem
def bgT (f x y:Nat):List (List UInt8):=if x=y then Jj x else if x=f then Jj y else if y=f then Jj x else if x=0 then Jj y else if y=0 then Jj x else de f x y
def bgW (l:List (List UInt8)):List UInt8:=[97,32,35,49,10,98,32,35,49,10]++((if l=[]then []else bU++ [32,42]++joinI l++ [10])++ [110,32,35,49,10])
def Dd (f x y:Nat):Bool:=decide ((joinB (bg5 f x y) [97] [98]).1.2=0)&&decide (shown (joinB (bg5 f x y) [97] [98]).2 [97]=(bgW (bgT f x y),0))
end R
def Bc (name:List UInt8)(x:Nat)(st:R.St):R.St:=(mO 5).foldl (R.bgTurn name x) (R.change st 35 name name 1 []).2
structure Dj (f x y:Nat):Prop where
 c1:(R.commit (R.bg2 f) [97]).1=(1,0)
 d1:(R.made (R.commit (R.bg2 f) [97]).2 [98] [97] true).1=0
 e4:(R.commit (Bc [97] x (R.bg3 f)) [97]).1=(2,0)
 e5:(R.commit (Bc [98] y (R.bg4 f x)) [98]).1=(3,0)
 j:(R.joinB (R.bg5 f x y) [97] [98]).1=(4,0)
 s:R.shown (R.joinB (R.bg5 f x y) [97] [98]).2 [97]=(R.bgW (R.bgT f x y),0)
namespace R
structure ZF (st:St):Prop where
 names:st.brs.map (·.name)=[[97],[98],[99]]
 one:1≤st.cms.length
 heads:∀b∈st.brs,1≤b.head
 par:∀i (h:i<st.cms.length),1≤i→st.cms[i].parents≠ []
theorem vu (l:List Br)(i:Nat)(b:Br)(hb:∀h:i<l.length,b.name=l[i].name):(l.set i b).map (·.name)=l.map (·.name):=by
 apply sR;intro j;rw[sZ,sZ,aK];split
 ·rename_i e
  subst e;split
  ·rename_i h
   rw[j0d h];simp[hb h]
  ·rename_i h
   rw[aL (by omega)]
 ·rfl
theorem oJ {st:St}{i:Nat}{t:List Leaf}{b:Br}(hb:b∈(setWork st i t).brs):∃c∈st.brs,b.head=c.head∧b.name=c.name:=by
 unfold setWork at hb
 cases e:st.brs[i]? with
 |none=>rw[e]at hb;exact⟨b,hb,rfl,rfl⟩
 |some c=>
  rw[e]at hb;obtain⟨hi,rfl⟩:=rD.1 e;rcases rE hb with h|h
  ·exact⟨b,h,rfl,rfl⟩
  ·exact⟨st.brs[i],j0c hi,by rw[h],by rw[h]⟩
theorem ZF.setWork {st:St}(h:ZF st)(i:Nat)(t:List Leaf):ZF (setWork st i t):=by
 refine⟨?_,h.one,fun b hb=> ?_,h.par⟩
 ·rw[←h.names]
  unfold R.setWork
  cases e:st.brs[i]? with
  |none=>rfl
  |some c=>
   obtain⟨hi,rfl⟩:=rD.1 e;exact vu _ _ _ fun _=>rfl
 ·obtain⟨c,hc,e,_⟩:=oJ hb
  rw[e];exact h.heads c hc
theorem K3 (st:St)(kind:Int)(br p:List UInt8)(n:Int)(text:List UInt8):(change st kind br p n text).2=st∨∃i t,(change st kind br p n text).2=setWork st i t:=by
 unfold change;split
 ·exact .inl rfl
 ·split
  ·exact .inl rfl
  ·split
   ·exact .inr ⟨_,_,rfl⟩
   ·exact .inl rfl
theorem ZF.change {st:St}(h:ZF st)(kind:Int)(br p:List UInt8)(n:Int)(text:List UInt8):ZF (change st kind br p n text).2:=by
 rcases K3 st kind br p n text with e|⟨i,t,e⟩<;>rw[e]
 ·exact h
 ·exact h.setWork i t
theorem ZF.setHead {st:St}(h:ZF st)(name:List UInt8)(n:Nat)(hn:1≤n):ZF (setHead st name n):=by
 refine⟨?_,h.one,fun b hb=> ?_,h.par⟩
 ·rw[←h.names]
  exact vu _ _ _ fun hi=>(fnd_name _ _ hi).symm
 ·rcases rE hb with e|e
  ·exact h.heads b e
  ·rw[e];exact hn
theorem ZF.keepC {st:St}(h:ZF st)(c:Cm)(hc:c.parents≠ []):ZF (keepC st c):=by
 have hl:(R.keepC st c).cms=st.cms++ [c]:=rfl;refine⟨h.names,?_,h.heads,fun i hi h1=> ?_⟩
 ·rw[hl,nL];have:=h.one;omega
 ·have a1 :i<st.cms.length+1:=by rw[hl,nL]at hi;exact hi
  have key:∀(hi:i<(st.cms++ [c]).length),(st.cms++ [c])[i].parents≠ []:=fun hi=>by
   by_cases a0:i<st.cms.length
   ·rw[List.getElem_append_left a0];exact h.par i a0 h1
   ·rw[List.getElem_append_right (by omega)]
    simp[hc]
  exact key hi
theorem ZF.down {st:St}(h:ZF st)(name:List UInt8)(c:Cm)(hc:c.parents≠ []):ZF (down st name c):=(h.keepC c hc).setHead name _ (by omega)
theorem ZF.headOf {st:St}(h:ZF st){name:List UInt8}(hf:fnd st.brs name<st.brs.length):1≤headOf st name:=by
 unfold R.headOf;rw[j0d hf];exact h.heads _ (j0c hf)
theorem ZF.commit {st:St}(h:ZF st)(name:List UInt8):ZF (commit st name).2:=by
 unfold R.commit;split
 ·exact h
 ·rename_i hf
  split
  ·exact h
  ·split
   ·exact h
   ·refine h.down name _ ?_
    have:=h.headOf (name:=name) (kX hf);unfold parsOf;rw[if_neg (by omega)];simp
theorem ZF.joinB {st:St}(h:ZF st)(a0 fr:List UInt8):ZF (joinB st a0 fr).2:=by
 unfold R.joinB;split
 ·exact h
 ·rename_i hf
  split
  ·exact h
  ·have h1:=h.headOf (name:=fr) (kX fun e=>hf (.inr e))
   unfold joinH;split
   ·exact h
   ·split
    ·exact h.setHead a0 _ h1
    ·unfold joinN
     split
     ·exact h
     ·split
      ·exact h
      ·exact h.down a0 _ (by simp)
theorem Jf (st:St)(kind:Int)(br p:List UInt8)(n:Int)(text:List UInt8):(change st kind br p n text).2.cms=st.cms∧(change st kind br p n text).2.packed=st.packed:=by
 rcases K3 st kind br p n text with e|⟨i,t,e⟩<;>rw[e]<;>exact⟨rfl,rfl⟩
structure ZI (st st' :St)(k:Nat):Prop where
 cms:∃l,st'.cms=st.cms++l∧l.length≤k
 packed:∃l,st'.packed=st.packed++l
theorem ZI.refl (st:St):ZI st st 0:=⟨⟨[],by simp,j0a _⟩,⟨[],by simp⟩⟩
theorem ZI.trans {a b c:St}{k m:Nat}(h1:ZI a b k)(h2:ZI b c m):ZI a c (k+m):=by
 obtain⟨⟨l1,e1,n1⟩,⟨p1,q1⟩⟩:=h1;obtain⟨⟨l2,e2,n2⟩,⟨p2,q2⟩⟩:=h2;exact⟨⟨l1++l2,by rw[e2,e1,sM],by rw[nL];omega⟩,⟨p1++p2,by rw[q2,q1,sM]⟩⟩
theorem ZI.mono {a b:St}{k m:Nat}(h:ZI a b k)(hk:k≤m):ZI a b m:=by
 obtain⟨⟨l,e,n⟩,h2⟩:=h;exact⟨⟨l,e,by omega⟩,h2⟩
theorem ZI.len {a b:St}{k:Nat}(h:ZI a b k):b.cms.length≤a.cms.length+k:=by
 obtain⟨⟨l,e,n⟩,_⟩:=h;rw[e,nL];omega
theorem UJ (st:St)(kind:Int)(br p:List UInt8)(n:Int)(text:List UInt8):ZI st (change st kind br p n text).2 0:=by
 obtain⟨e1,e2⟩:=Jf st kind br p n text;exact⟨⟨[],by rw[e1];simp,j0a _⟩,⟨[],by rw[e2];simp⟩⟩
theorem Jx (st:St)(name:List UInt8)(n:Nat):ZI st (setHead st name n) 0:=⟨⟨[],by simp[setHead],j0a _⟩,⟨_,rfl⟩⟩
theorem J1 (st:St)(name:List UInt8)(c:Cm):ZI st (down st name c) 1:=by
 refine⟨⟨[c],rfl,j0a _⟩,?_⟩;unfold down setHead keepC;exact⟨_,sM ..⟩
theorem qt (st:St)(name:List UInt8):ZI st (commit st name).2 1:=by
 unfold commit;split
 ·exact(ZI.refl st).mono (by decide)
 ·split
  ·exact(ZI.refl st).mono (by decide)
  ·split
   ·exact(ZI.refl st).mono (by decide)
   ·exact J1 _ _ _
theorem Om (st:St)(a0 fr:List UInt8):ZI st (joinB st a0 fr).2 1:=by
 unfold joinB;split
 ·exact(ZI.refl st).mono (by decide)
 ·split
  ·exact(ZI.refl st).mono (by decide)
  ·unfold joinH
   split
   ·exact(ZI.refl st).mono (by decide)
   ·split
    ·exact(Jx _ _ _).mono (by decide)
    ·unfold joinN
     split
     ·exact(ZI.refl st).mono (by decide)
     ·split
      ·exact(ZI.refl st).mono (by decide)
      ·exact J1 _ _ _
structure Raw where
 kind:Int
 br:Int
 path:Int
 n:Int
def pk_ (c n:Int):Int:=(if c<0 then-(c+1)else c) % n
def brN (c:Int):List UInt8:=([[97],[98],[99]]:List (List UInt8)).getD (pk_ c 3).toNat []
def vy:List (List UInt8):=[[110],[109],[115],[116],[120,47,110],[120,47,115],[120,47,121,47,122],[120],[113,47,114],[110,47,111]]
def pathN (c:Int):List UInt8:=vy.getD (pk_ c 10).toNat []
def Bo:List (List UInt8):=[[112],[113],[114],[115,111,109,101,32,116,101,120,116],[122]]
def textN (c:Int):List UInt8:=Bo.getD (pk_ c 5).toNat []
def actP (st:St)(a:Raw):St:=
 if pk_ a.kind 10=0∨pk_ a.kind 10=1 then(change st 35 (brN a.br) (pathN a.path) (pk_ a.n 200-100) []).2
 else if pk_ a.kind 10=2 then(change st 61 (brN a.br) (pathN a.path) 0 (textN a.n)).2
 else if pk_ a.kind 10=3∨pk_ a.kind 10=4 then(change st 42 (brN a.br) (pathN a.path) 0 (textN a.n)).2
 else if pk_ a.kind 10=5 then(change st 45 (brN a.br) (pathN a.path) 0 (textN a.n)).2
 else if pk_ a.kind 10=6 then(change st 0 (brN a.br) (pathN a.path) 0 []).2
 else if pk_ a.kind 10=7∨pk_ a.kind 10=8 then(commit st (brN a.br)).2
 else(joinB (commit st (brN a.br)).2 (brN a.br) (brN a.n)).2
def actsP (st:St)(l:List Raw):St:=(l.take 25).foldl actP st
theorem ZF.act {st:St}(h:ZF st)(a:Raw):ZF (actP st a):=by
 unfold actP;repeat' split
 all_goals first
  |exact h.change _ _ _ _ _
  |exact h.commit _
  |exact(h.commit _).joinB _ _
theorem F9 (st:St)(a:Raw):ZI st (actP st a) 2:=by
 unfold actP;repeat' split
 all_goals first
  |exact(UJ _ _ _ _ _ _).mono (by decide)
  |exact(qt _ _).mono (by decide)
  |exact(qt _ _).trans (Om _ _ _)
theorem ZF.fold:∀(l:List Raw) {st:St},ZF st→ZF (l.foldl actP st)
 |[],_,h=>h
 |a::l,_,h=>ZF.fold l (h.act a)
theorem J0:∀(l:List Raw) (st:St),ZI st (l.foldl actP st) (2*l.length)
 |[],st=>ZI.refl st
 |a::l,st=>by
  have:=(F9 st a).trans (J0 l (actP st a));rw[nM];exact this.mono (by omega)
theorem ZF.acts {st:St}(h:ZF st)(l:List Raw):ZF (actsP st l):=ZF.fold _ h
theorem grows_acts (st:St)(l:List Raw):ZI st (actsP st l) 50:=(J0 _ st).mono (by rw[pZ];omega)
end R
namespace R
def Cj (v:Int):Leaf:={path:=[110],kind:=35,n:=v,text:=[],items:=[]}
def cnt (v:Int):List Leaf:=[Cj v]
def Ck (l:List (Int×List Nat)):List Cm:=l.map fun p=>{tree:=cnt p.1,parents:=p.2}
def Dc {α:Type}(f:Nat→α)(i:Nat)(v:α):Nat→α:=fun j=>if j=i then v else f j
def dK (k:Nat)(hd:Nat→Nat)(w:Nat→Int):List Br:=(mO k).map fun i=>{name:=bgItem i,head:=hd i,work:=cnt (w i)}
def dH (l:List (Int×List Nat))(hd:Nat→Nat)(w:Nat→Int)(pk:List UInt8):St:={cms:=Ck l,brs:=dK 5 hd w,packed:=pk}
def val (l:List (Int×List Nat))(m:Nat):Int:=((l[m-1]?).map (·.1)).getD 0
section
variable (l:List (Int×List Nat))(hd:Nat→Nat)(w:Nat→Int)(pk:List UInt8)
end
theorem cH (v:Int):Written (cnt v)=110::32::35::(Lib.itoa v++ [10]):=by
 unfold cnt Written line written Cj;simp
theorem BJ:isPath [110]=true:=by decide+kernel
structure dO (l:List (Int×List Nat))(hd:Nat→Nat)(κ:Nat→Nat)(v0:Int)(live:Nat→Prop):Prop where
 first:l[0]? =some (v0,[])
 par:∀m,2≤m→m≤l.length→∃p,l[m-1]? =some p∧p.2≠ []∧∀q∈p.2,1≤q∧q<m∧(q=1∨κ q=κ m)
 head:∀i,live i→1≤hd i∧hd i≤l.length∧(hd i=1∨κ (hd i)=i)
section
variable {l:List (Int×List Nat)}{hd:Nat→Nat}{κ:Nat→Nat}{v0:Int}{live:Nat→Prop}
end
end R
namespace R
def D7 (l:List (Int×List Nat))(hd:Nat→Nat)(w:Nat→Int)(live:Nat→Prop):Prop:=∀i,live i→w i=val l (hd i)
section
variable {l:List (Int×List Nat)}{hd:Nat→Nat}{κ:Nat→Nat}{v0:Int}{live:Nat→Prop}
end
def forkS (v0:Int)(k:Nat)(pk:List UInt8):St:={cms:=Ck [(v0,[])],brs:=dK k (fun _=>1) (fun _=>v0),packed:=pk}
theorem fork5 (v0:Int){k:Nat}(h1:1≤k)(h5:k<5)(pk:List UInt8):∃a0,made (forkS v0 k pk) (bgItem k) [97] true=(0,forkS v0 (k+1) a0):=by
 rcases(by omega:k=1∨k=2∨k=3∨k=4)with rfl|rfl|rfl|rfl<;>exact⟨_,rfl⟩
def sm1:St:=(made bg0 [97] [] false).2
theorem add5 (v:Int)(h0:0<v)(h1:v≤2000):∃pk,change sm1 35 [97] [110] v []=(0,{cms:=[],brs:=[{name:=[97],head:=0,work:=cnt v}],packed:=pk}):=by
 unfold change;rw[show fndI sm1.brs [97]=0 from rfl,if_neg (by decide),BJ,if_neg (by simp),show workOf sm1 [97]=[]from rfl];have e:valV 35 [] (at_ [] [110]) [110] v []=(0,Cj v):=by
  unfold valV;rw[if_neg (by decide),if_neg (by decide),if_pos rfl];unfold addV;rw[show at_ [] [110]=none [110]from rfl,if_neg (by simp[none]),show blocked [] [110]=false from rfl,if_neg (by simp),if_neg (by simp only[none];omega),if_neg (by simp)];simp[none,Cj]
 rw[e,if_pos rfl];exact⟨_,rfl⟩
theorem commit0 (v:Int)(pk:List UInt8):∃a0,commit {cms:=[],brs:=[{name:=[97],head:=0,work:=cnt v}],packed:=pk} [97]=((1,0),forkS v 1 a0):=by
 unfold commit;rw[show fndI [({name:=[97],head:=0,work:=cnt v}:Br)] [97]=0 from rfl,if_neg (by decide)];have hw:¬Written (cnt v)=Written []:=by rw[cH];intro h;cases h
 rw[show workOf {cms:=[],brs:=[{name:=[97],head:=0,work:=cnt v}],packed:=pk} [97]=cnt v from rfl,show headOf {cms:=[],brs:=[{name:=[97],head:=0,work:=cnt v}],packed:=pk} [97]=0 from rfl,show treeOf {cms:=[],brs:=[{name:=[97],head:=0,work:=cnt v}],packed:=pk} 0=[]from rfl,if_neg hw];exact⟨_,rfl⟩
end R
namespace R
theorem kY (l:List Br)(n:List UInt8):fnd l n=(l.map (·.name)).findIdx (·==n):=by
 unfold fnd;rw[aM];rfl
theorem fT {l:List Br}{ns:List (List UInt8)}(h:l.map (·.name)=ns):l.length=ns.length:=by rw[←h,aN]
theorem ZF.fnd {st:St}(h:ZF st){n:List UInt8}(hn:n=[97]∨n=[98]∨n=[99]):fnd st.brs n<st.brs.length∧¬fndI st.brs n<0:=by
 have hl:st.brs.length=3:=fT h.names;have:R.fnd st.brs n<st.brs.length:=by
  rw[kY,h.names,hl];rcases hn with rfl|rfl|rfl<;>decide
 refine⟨this,?_⟩;unfold fndI;rw[if_pos this];omega
def Com (st:St)(n:List UInt8):Prop:=Written (workOf st n)=Written (treeOf st (headOf st n))
theorem Ku (st:St)(name n:List UInt8)(m:Nat):fnd (setHead st name m).brs n=fnd st.brs n:=by
 rw[kY,kY];congr 1
 exact vu _ _ _ fun hi=>(fnd_name _ _ hi).symm
theorem Uh (st:St)(name:List UInt8)(m:Nat)(hf:fnd st.brs name<st.brs.length):workOf (setHead st name m) name=treeOf st m∧headOf (setHead st name m) name=m:=by
 unfold workOf headOf;rw[Ku];have e:(setHead st name m).brs[fnd st.brs name]? =some {name:=name,head:=m,work:=treeOf st m}:=by
  unfold setHead;simp only;rw[aK,if_pos rfl,if_pos hf]
 rw[e];exact⟨rfl,rfl⟩
theorem Jn (st:St)(name n:List UInt8)(m:Nat)(hf:fnd st.brs name<st.brs.length)(hn:n≠name)(a0:fnd st.brs n<st.brs.length):workOf (setHead st name m) n=workOf st n∧headOf (setHead st name m) n=headOf st n:=by
 unfold workOf headOf;rw[Ku];have a1:fnd st.brs name≠fnd st.brs n:=by
  intro e;have h1:=fnd_name _ _ hf;have h2:=fnd_name _ _ a0;apply hn;rw[←h2,←h1];simp only[e]
 have e:(setHead st name m).brs[fnd st.brs n]? =st.brs[fnd st.brs n]? :=by
  unfold setHead;simp only;rw[aK,if_neg a1]
 rw[e];exact⟨rfl,rfl⟩
theorem Vm (st:St)(c:Cm)(m:Nat)(h:m≤st.cms.length):treeOf (keepC st c) m=treeOf st m:=by
 unfold treeOf keepC;split
 ·rfl
 ·simp only
  rw[aP (by omega)]
theorem Ci (st:St)(name:List UInt8)(c:Cm)(hf:fnd st.brs name<st.brs.length):Com (down st name c) name:=by
 obtain⟨e1,e2⟩:=Uh (keepC st c) name (st.cms.length+1) hf;unfold Com down;rw[e1,e2];rfl
theorem Je (st:St)(hi:Inv st)(name n:List UInt8)(c:Cm)(hf:fnd st.brs name<st.brs.length)(hn:n≠name)(a0:fnd st.brs n<st.brs.length)(h:Com st n):Com (down st name c) n:=by
 obtain⟨e1,e2⟩:=Jn (keepC st c) name n (st.cms.length+1) hf hn a0;unfold Com down;rw[e1,e2];have e3:treeOf (setHead (keepC st c) name (st.cms.length+1)) (headOf (keepC st c) n)=treeOf (keepC st c) (headOf st n):=rfl;rw[e3,Vm _ _ _ (Zr hi n)];exact h
theorem vY {st:St}(h:ZF st){n:List UInt8}(hn:n=[97]∨n=[98]∨n=[99])(a0:st.cms.length<60):Com (commit st n).2 n∧((commit st n).1.2=0∨(commit st n).1.2=9):=by
 obtain⟨h1,h2⟩:=h.fnd hn;unfold commit;rw[if_neg h2];split
 ·rename_i e;exact⟨e,.inr rfl⟩
 ·rw[if_neg (by omega)]
  exact⟨Ci _ _ _ h1,.inl rfl⟩
theorem qw {st:St}(h:ZF st)(hi:Inv st){n m:List UInt8}(hn:n=[97]∨n=[98]∨n=[99])(hm:m=[97]∨m=[98]∨m=[99])(a0:m≠n)(hc:Com st m):Com (commit st n).2 m:=by
 obtain⟨h1,h2⟩:=h.fnd hn;obtain⟨h3,h4⟩:=h.fnd hm;unfold commit;rw[if_neg h2];split
 ·exact hc
 ·split
  ·exact hc
  ·exact Je _ hi _ _ _ h1 a0 h3 hc
theorem ZF.mark1 {st:St}(h:ZF st)(hw:WfC st.cms)(n:Nat):1≤n→n≤st.cms.length→mark st.cms n 1=true:=by
 induction n using Nat.strongRecOn with
 |_ n ih=>
  intro h1 h2;by_cases h3:n=1
  ·subst h3;exact yj 1 (by decide)
  ·have hp:=h.par (n-1) (by omega) (by omega)
   obtain⟨q,hq⟩:=List.exists_mem_of_ne_nil _ hp;have a0 :q∈parsC st.cms n:=by
    unfold parsC;rw[j0d (by omega)];exact hq
   have h7:=hw.par n q a0;exact jR hw n q 1 h2 (kD (parsC st.cms) hw.lt st.cms.length _ n h1 h2 (yj n h1) q a0) (ih q h7.2 h7.1 (by omega))
theorem uH:∀i,(Xb i).Pairwise (fun a b=>b<a)
 |0=>List.Pairwise.nil
 |i+1=>List.Pairwise.cons (fun x hx=>by have:=(Qa i x).1 hx;omega) (uH i)
theorem vQ (cms:List Cm)(n:Nat):(zt cms n).Pairwise (fun a b=>b<a):=(uH _).filter _
theorem Gr {l:List Nat}(hl:l.Pairwise (fun a b=>b<a)){n:Nat}(hn:n∈l)(hm:∀x∈l,x≤n):l[0]? =some n:=by
 match l with
 |[]=>simp at hn
 |x::r=>
  rcases iT.1 hn with rfl|h
  ·rfl
  ·have:=pN hl h
   have:=hm x (by simp);omega
theorem uD:∀{l:List Nat},l.Pairwise (fun a b=>b<a)→1∈l→(∀x∈l,1≤x)→l[l.length-1]? =some 1
 |[],_,h,_=>by simp at h
 |[x],_,h,_=>by simp at h;subst h;rfl
 |x::y::r,hl,h,hm=>by
  have h1:1∈y::r:=by
   rcases iT.1 h with e|h
   ·have:=pN hl (iO (a:=y) (l:=r))
    have:=hm y (by simp);omega
   ·exact h
  have:=uD (List.Pairwise.of_cons hl) h1 fun z hz=>hm z (iQ _ hz)
  simpa using this
theorem mark_self_of {cms:List Cm}(_:WfC cms){n:Nat}(h:1≤n):mark cms n n=true:=yj n h
theorem fall_get {l:List Nat}(hl:l.Pairwise (fun a b=>b<a)){i j:Nat}(hj:j<l.length)(a0:i<j):l[j]<l[i]:=List.pairwise_iff_getElem.1 hl i j (by omega) hj a0
structure dS (cms:List Cm)(n:Nat)(h:List Nat):Prop where
 fall:h.Pairwise (fun a b=>b<a)
 first:h[0]? =some n
 last:h[h.length-1]? =some 1
 mem:∀k∈h,mark cms n k=true∧1≤k∧k≤n
theorem ZF.hist {st:St}(h:ZF st)(hw:WfC st.cms){n:Nat}(h1:1≤n)(h2:n≤st.cms.length):dS st.cms n (zt st.cms n):=by
 have hm:∀k∈zt st.cms n,mark st.cms n k=true∧1≤k∧k≤n:=fun k hk=>by
  have e:=(yK hw h2 k).1 hk;have:=Xs hw n k e;exact⟨e,this.2,this.1⟩
 exact⟨vQ _ _,Gr (vQ _ _) ((yK hw h2 n).2 (yj n h1)) fun x hx=>(hm x hx).2.2,uD (vQ _ _) ((yK hw h2 1).2 (h.mark1 hw n h1 h2)) fun x hx=>(hm x hx).2.1,hm⟩
theorem fR {k:Nat}{m:List Nat}(h1:m.Pairwise (·< ·))(h2:∀x,x∈m↔x=k):m=[k]:=by
 match m with
 |[]=>have:=(h2 k).2 rfl;simp at this
 |[x]=>rw[(h2 x).1 (by simp)]
 |x::y::r=>
  have e1:=(h2 x).1 (by simp);have e2:=(h2 y).1 (by simp);have:=pN h1 (iO (a:=y) (l:=r));omega
theorem bz {cms:List Cm}(hw:WfC cms){k h:Nat}(hk:1≤k)(hh:h≤cms.length)(hm:mark cms h k=true):latC cms k h=[k]:=by
 have a2:=Xs hw h k hm;have hc:comm cms k h k=true:=by
  unfold comm;rw[yj k hk,hm];rfl
 refine fR (um _ _) fun x=> ?_
 rw[VS,x_];constructor
 ·rintro⟨h1,h2,h3,h4⟩
  have h5:mark cms k x=true:=by
   unfold comm at h3;rw[pB]at h3;exact h3.1
  have h6:=Xs hw k x h5;rcases mX x k with a0|a1
  ·have:=h4 k a0 (by omega) hc
   rw[h5]at this;cases this
  ·omega
 ·rintro rfl
  refine⟨hk,by omega,hc,fun m a3 h2 h3=> ?_⟩;have:=UW hw h3;omega
theorem bT {cms:List Cm}(hw:WfC cms){k h:Nat}(hk:1≤k)(hh:h≤cms.length)(hm:mark cms h k=true):baseC cms k h=(treeC cms k,0):=by
 show togL (baseF cms k) cms (latC cms k h)=_;rw[bz hw hk hh hm];rfl
theorem baseAt_in {st:St}(hi:Inv st){k h:Nat}(hk:1≤k)(hh:h≤st.cms.length)(hm:mark st.cms h k=true):baseAt st k h=(Written (treeOf st k),0):=by
 have:=Xs hi.wf h k hm;unfold baseAt;rw[if_neg (by omega),show((k:Int)).toNat=k from rfl,show((h:Int)).toNat=h from rfl,bT hi.wf hk hh hm,if_neg (by simp)];rfl
theorem treeAt_in {st:St}{k:Nat}(hk:1≤k)(hh:k≤st.cms.length):treeAt st k=(Written (treeOf st k),0):=by
 unfold treeAt;rw[if_neg (by omega)];rfl
def dY (st:St):St:=(commit (commit (commit st [97]).2 [98]).2 [99]).2
theorem liv0 (pk:List UInt8):ZF (forkS 7 3 pk):=⟨rfl,j0a 1,fun b hb=>by
 obtain⟨i,_,rfl⟩:=rR.1 hb;exact j0a _,fun i hi h1=>by
 have:i<1:=hi;omega⟩
end R
namespace R
def SumA (v0 sum:Int)(na nd nl:Nat)(st:St):Prop:=∃l hd κ w pk,st=dH l hd w pk∧dO l hd κ v0 (fun j=>j<5)∧(∀j,j<nd→w j=val l (hd j))∧sum=w 0+(w 1-v0)+(w 2-v0)+(w 3-v0)+(w 4-v0)∧(∀j,j<5→ -(1000*(na:Int))-2000≤w j∧w j≤2000+1000*(na:Int))∧l.length≤nl
def dX (w:Nat→Int)(v0:Int)(L:List Nat):Int:=(L.map fun j=>w j-v0).sum
def SumB (v0 sum:Int)(L:List Nat)(nl:Nat)(st:St):Prop:=∃l hd κ w pk,st=dH l hd w pk∧dO l hd κ v0 (fun j=>j=0∨j∈L)∧D7 l hd w (fun j=>j=0∨j∈L)∧sum=w 0+dX w v0 L∧(∀j,j<5→j≠0→ -30000≤w j∧w j≤30000)∧(-30000-40000*(4-(L.length:Int))≤w 0∧w 0≤30000+40000*(4-(L.length:Int)))∧(-2000≤v0∧v0≤2000)∧l.length≤nl
end R
namespace R
structure Rc where
 letter:UInt8
 cm:Cm
 head:Nat
 name:List UInt8
def Rc.body (r:Rc):List UInt8:=if r.letter=67 then bodyC r.cm else if r.letter=66 then nK r.head::r.name else r.name
def Rc.bytes (r:Rc):List UInt8:=record r.letter r.body
def headR (st:St)(name:List UInt8)(n:Nat):St:=if fnd st.brs name<st.brs.length then setHead st name n else headNew st {name:=name,head:=n,work:=treeOf st n}
def Rc.run (st:St)(r:Rc):St:=if r.letter=67 then keepC st r.cm else if r.letter=66 then headR st r.name r.head else(dropped st r.name).2
structure CmOk (st:St)(c:Cm):Prop where
 few:st.cms.length<60
 tree:OkT c.tree
 par:∀p∈c.parents,1≤p∧p≤st.cms.length
 two:c.parents.length≤2
 nodup:c.parents.Nodup
def Rc.ok (st:St)(r:Rc):Prop:=(r.letter=67∧CmOk st r.cm)∨(r.letter=66∧isName r.name=true∧r.head≤st.cms.length∧(fnd st.brs r.name<st.brs.length∨st.brs.length<6))∨(r.letter=68∧fnd st.brs r.name<st.brs.length)
def OkRs:St→List Rc→Prop
 |_,[]=>True
 |st,r::rs=>r.ok st∧OkRs (r.run st) rs
def runs (st:St)(rs:List Rc):St:=rs.foldl Rc.run st
def bytesRs (rs:List Rc):List UInt8:=rs.flatMap Rc.bytes
def rcC (c:Cm):Rc:={letter:=67,cm:=c,head:=0,name:=[]}
def rcB (n:Nat)(name:List UInt8):Rc:={letter:=66,cm:={tree:=[],parents:=[]},head:=n,name:=name}
def rcD (name:List UInt8):Rc:={letter:=68,cm:={tree:=[],parents:=[]},head:=0,name:=name}
theorem OkRs.snoc {r:Rc}:∀{rs:List Rc} {st:St},OkRs st rs→r.ok (runs st rs)→OkRs st (rs++ [r])
 |[],_,_,h=>⟨h,trivial⟩
 |_::_,_,h,h2=>⟨h.1,OkRs.snoc h.2 h2⟩
theorem OkRs.take:∀(k:Nat) {rs:List Rc} {st:St},OkRs st rs→OkRs st (rs.take k)
 |0,_,_,_=>by rw[List.take_zero];trivial
 |_+1,[],_,_=>trivial
 |k+1,_::_,_,h=>⟨h.1,OkRs.take k h.2⟩
theorem Ok {st:St}(h:Inv st){name:List UInt8}{n:Nat}(hn:isName name=true)(hh:n≤st.cms.length)(hm:st.brs.length<6)(a4:¬fnd st.brs name<st.brs.length):Inv (headNew st {name:=name,head:=n,work:=treeOf st n}):=by
 generalize hb:({name:=name,head:=n,work:=treeOf st n}:Br)=b;have a2:b.name=name:=by rw[←hb]
 have a1:=uu h.sort b (by rw[a2];exact a4);have a0:∀z∈insB st.brs b,z=b∨z∈st.brs:=fun z hz=>by rw[a1]at hz;exact yW hz
 have a3:(insB st.brs b).length=st.brs.length+1:=by
  have a5:pos st.brs b.name≤st.brs.length:=List.findIdx_le_length;simp only[insB,nL,pZ,nM,List.length_drop];omega
 refine⟨by show(insB st.brs b).length≤6;omega,fun z hz=> ?_,?_,fun z hz=> ?_,fun z hz=> ?_,h.few,h.trees,h.pars,h.two⟩
 ·rcases a0 z hz with rfl|hz
  ·rw[a2];exact hn
  ·exact h.names z hz
 ·show zW Br.name (insB st.brs b)
  rw[a1];exact xK rfl h.sort
 ·rcases a0 z hz with rfl|hz
  ·rw[←hb];exact YA h _
  ·exact h.work z hz
 ·rcases a0 z hz with rfl|hz
  ·rw[←hb];exact hh
  ·exact h.heads z hz
theorem Rc.inv {st:St}(h:Inv st){r:Rc}(hr:r.ok st):Inv (r.run st):=by
 unfold Rc.run;rcases hr with⟨e,hc⟩|⟨e,h1,h2,h3⟩|⟨e,_⟩
 ·rw[if_pos e];exact QE h _ hc.few hc.tree hc.par hc.two
 ·rw[if_neg (by rw[e];decide),if_pos e]
  unfold headR;split
  ·rename_i hf;exact setHead_inv h _ _ h2 hf
  ·rename_i hf;exact Ok h h1 h2 (h3.resolve_left hf) hf
 ·rw[if_neg (by rw[e];decide),if_neg (by rw[e];decide)];exact OO h _
theorem OkRs.inv:∀{rs:List Rc} {st:St},Inv st→OkRs st rs→Inv (runs st rs)
 |[],_,hi,_=>hi
 |r::rs,st,hi,h=>OkRs.inv (rs:=rs) (st:=r.run st) (Rc.inv hi h.1) h.2
def ZT (st:St)(b:Br):Br:={b with work:=treeOf st b.head}
def clean (st:St):St:={st with brs:=st.brs.map (ZT st)}
theorem fe (l:List Br)(f:Br→Br)(hf:∀b,(f b).name=b.name)(n:List UInt8):fnd (l.map f) n=fnd l n:=by
 unfold fnd;rw[aM];congr 1
 funext b
 show((f b).name==n)=_;rw[hf]
theorem bg (l:List Br)(f:Br→Br)(hf:∀b,(f b).name=b.name)(n:List UInt8):pos (l.map f) n=pos l n:=by
 unfold pos;rw[aM];congr 1
 funext b
 show(!less n (f b))=_;unfold less;rw[hf]
theorem kZ (st:St)(n:List UInt8):fnd (clean st).brs n=fnd st.brs n:=fe st.brs (ZT st) (fun _=>rfl) n
theorem QC (st:St):(clean st).brs.length=st.brs.length:=aN _
theorem set_same {α β:Type}(l:List α)(f:α→β)(i:Nat)(x:α)(hx:∀h:i<l.length,f x=f l[i]):(l.set i x).map f=l.map f:=by
 apply sR;intro j;rw[sZ,sZ,aK];split
 ·rename_i e
  subst e;split
  ·rename_i h
   rw[j0d h];simp[hx h]
  ·rename_i h
   rw[aL (by omega)]
 ·rfl
theorem JH (st:St)(i:Nat)(t:List Leaf):clean (setWork st i t)=clean st:=by
 have e:(setWork st i t).brs.map (ZT st)=st.brs.map (ZT st):=by
  unfold setWork
  cases e:st.brs[i]? with
  |none=>rfl
  |some b=>
   obtain⟨hi,rfl⟩:=rD.1 e;exact set_same _ _ _ _ fun _=>rfl
 show({cms:=st.cms,brs:=(setWork st i t).brs.map (ZT st),packed:=st.packed}:St)=_;rw[e];rfl
theorem UX (st:St)(kind:Int)(br p:List UInt8)(n:Int)(text:List UInt8):clean (change st kind br p n text).2=clean st:=by
 rcases K3 st kind br p n text with e|⟨i,t,e⟩<;>rw[e]
 exact JH st i t
theorem JJ (st:St)(name:List UInt8)(n:Nat):clean (headNew st {name:=name,head:=n,work:=treeOf st n})=headNew (clean st) {name:=name,head:=n,work:=treeOf st n}:=by
 have e:(insB st.brs {name:=name,head:=n,work:=treeOf st n}).map (ZT st)=insB (st.brs.map (ZT st)) {name:=name,head:=n,work:=treeOf st n}:=by
  unfold insB;rw[bg st.brs (ZT st) (fun _=>rfl),List.map_append,List.map_cons,List.map_take,List.map_drop];rfl
 show({cms:=st.cms,brs:=(insB st.brs {name:=name,head:=n,work:=treeOf st n}).map (ZT st),packed:=_}:St)=_;rw[e];rfl
theorem JI (st:St)(name:List UInt8)(n:Nat):clean (setHead st name n)=setHead (clean st) name n:=by
 have e:(st.brs.set (fnd st.brs name) {name:=name,head:=n,work:=treeOf st n}).map (ZT st)=(st.brs.map (ZT st)).set (fnd (st.brs.map (ZT st)) name) {name:=name,head:=n,work:=treeOf st n}:=by
  rw[fe st.brs (ZT st) (fun _=>rfl),List.map_set];rfl
 show({cms:=st.cms,brs:=(st.brs.set (fnd st.brs name) {name:=name,head:=n,work:=treeOf st n}).map (ZT st),packed:=_}:St)=_;rw[e];rfl
theorem g7 {st:St}(hi:Inv st)(c:Cm):clean (keepC st c)=keepC (clean st) c:=by
 have e:st.brs.map (ZT (keepC st c))=st.brs.map (ZT st):=aQ fun b hb=>by
  unfold ZT;rw[Vm st c b.head (hi.heads b hb)]
 show({cms:=st.cms++ [c],brs:=st.brs.map (ZT (keepC st c)),packed:=_}:St)=_;rw[e];rfl
def Zc (st:St):Prop:=∃rs,OkRs bg0 rs∧runs bg0 rs=clean st∧st.packed=bytesRs rs
theorem inv0:Inv bg0:=⟨by decide,by simp[bg0],List.Pairwise.nil,by simp[bg0],by simp[bg0],by decide,by simp[bg0],fun i h=>by simp[bg0]at h,by simp[bg0]⟩
theorem dz:Zc bg0:=⟨[],trivial,rfl,rfl⟩
theorem Zc.snoc {st st' :St}(h:Zc st)(r:Rc)(hr:r.ok (clean st))(hc:r.run (clean st)=clean st')(hp:st'.packed=st.packed++r.bytes):Zc st' :=by
 obtain⟨rs,h1,h2,h3⟩:=h;refine⟨rs++ [r],h1.snoc (by rw[h2];exact hr),?_,?_⟩
 ·unfold runs at h2⊢
  rw[rM,h2];exact hc
 ·unfold bytesRs at h3⊢
  rw[hp,h3,List.flatMap_append];simp
section
variable {st:St}
theorem Zc.change (h:Zc st)(kind:Int)(br p:List UInt8)(n:Int)(text:List UInt8):Zc (change st kind br p n text).2:=by
 obtain⟨rs,h1,h2,h3⟩:=h;exact⟨rs,h1,by rw[UX];exact h2,by rw[(Jf st kind br p n text).2];exact h3⟩
theorem Zc.headNew (h:Zc st){name:List UInt8}{n:Nat}(hn:isName name=true)(hh:n≤st.cms.length)(hm:st.brs.length<6)(a0:¬fnd st.brs name<st.brs.length):Zc (headNew st {name:=name,head:=n,work:=treeOf st n}):=by
 refine h.snoc (rcB n name) (.inr (.inl ⟨rfl,hn,hh,.inr (by rw[QC];exact hm)⟩)) ?_ rfl;rw[JJ];show headR (clean st) name n=_;unfold headR;rw[kZ,QC,if_neg a0];rfl
theorem Zc.setHead (h:Zc st)(hi:Inv st){name:List UInt8}{n:Nat}(hh:n≤st.cms.length)(hf:fnd st.brs name<st.brs.length):Zc (setHead st name n):=by
 have hn:isName name=true:=by
  have:=hi.names _ (j0c hf);rwa[fnd_name]at this
 refine h.snoc (rcB n name) (.inr (.inl ⟨rfl,hn,hh,.inl (by rw[kZ,QC];exact hf)⟩)) ?_ rfl;rw[JI];show headR (clean st) name n=_;unfold headR;rw[kZ,QC,if_pos hf]
theorem Zc.keepC (h:Zc st)(hi:Inv st){c:Cm}(hc:CmOk st c):Zc (keepC st c):=by
 refine h.snoc (rcC c) (.inl ⟨rfl,⟨hc.few,hc.tree,hc.par,hc.two,hc.nodup⟩⟩) ?_ rfl;rw[g7 hi];rfl
theorem Zc.made (h:Zc st)(hi:Inv st)(name fr:List UInt8)(a0:Bool):Zc (made st name fr a0).2:=by
 unfold R.made;split
 ·exact h
 ·rename_i hn
  split
  ·exact h
  ·split
   ·exact h
   ·rename_i hf
    split
    ·exact h
    ·rename_i hm
     refine h.headNew (by simpa using hn) ?_ (by omega) fun e=>hf (by rw[fndI,if_pos e];omega)
     split
     ·exact Zr hi fr
     ·omega
theorem Zc.down (h:Zc st)(hi:Inv st){name:List UInt8}{c:Cm}(hc:CmOk st c)(hf:fnd st.brs name<st.brs.length):Zc (down st name c):=
 (h.keepC hi hc).setHead (QE hi c hc.few hc.tree hc.par hc.two) (by show _≤(st.cms++ [c]).length;rw[nL];simp) hf
theorem Zc.commit (h:Zc st)(hi:Inv st)(name:List UInt8):Zc (commit st name).2:=by
 unfold R.commit;split
 ·exact h
 ·rename_i hf
  split
  ·exact h
  ·split
   ·exact h
   ·rename_i hl
    obtain⟨h1,h2⟩:=QB hi name;have a0 :=kX hf;refine h.down hi ⟨by omega,?_,h1,h2,by unfold parsOf;split<;>simp⟩ a0;show OkT (workOf st name);unfold workOf;rw[j0d a0];exact hi.work _ (j0c a0)
theorem Zc.joinB (h:Zc st)(hi:Inv st)(a0 fr:List UInt8):Zc (joinB st a0 fr).2:=by
 unfold R.joinB;split
 ·exact h
 ·rename_i hf
  have a1 :=kX (st:=st) (n:=a0) fun e=>hf (.inl e)
  split
  ·exact h
  ·have ha:=Zr hi a0
   have hb:=Zr hi fr;generalize headOf st a0=a at*;generalize headOf st fr=b at*;unfold joinH;split
   ·exact h
   ·rename_i h1
    split
    ·exact h.setHead hi hb a1
    ·rename_i h2
     unfold joinN;split
     ·exact h
     ·split
      ·exact h
      ·refine h.down hi ⟨by omega,jY hi a b,fun p hp=> ?_,by simp,?_⟩ a1
       ·simp only[iT,lA,or_false]at hp
        rcases hp with rfl|rfl<;>omega
       ·have:a≠b:=bu (by omega) fun e=>h1 (.inr e)
        simpa using this
theorem bY (hi:Inv st)(a:Raw):Inv (actP st a):=by
 unfold actP;repeat' split
 all_goals first
  |exact Ya hi _ _ _ _ _ (by simp)
  |exact YI hi _
  |exact ur (YI hi _) _ _
theorem Zc.act (h:Zc st)(hi:Inv st)(a:Raw):Zc (actP st a):=by
 unfold actP;repeat' split
 all_goals first
  |exact h.change _ _ _ _ _
  |exact h.commit hi _
  |exact(h.commit hi _).joinB (YI hi _) _ _
end
theorem Zc.fold:∀(l:List Raw) {st:St},Inv st→Zc st→Zc (l.foldl actP st)
 |[],_,_,h=>h
 |a::l,_,hi,h=>Zc.fold l (bY hi a) (h.act hi a)
theorem Zc.acts {st:St}(h:Zc st)(hi:Inv st)(l:List Raw):Zc (actsP st l):=Zc.fold _ hi h
theorem pack_liv {s1 s2 s3 s4:St}{r1 r3 r4:Int}{r2:Int×Int}(e1:R.change (R.made bg0 [97] [] false).2 35 [97] [110] 7 []=(r1,s1))(e2:R.commit s1 [97]=(r2,s2))(e3:R.made s2 [98] [97] true=(r3,s3))(e4:R.made s3 [99] [97] true=(r4,s4)):Zc s4∧Inv s4:=by
 have i0:=Qc inv0 [97] [] false;have p0:=dz.made inv0 [97] [] false;have i1:=Ya i0 35 [97] [110] 7 [] (by simp);have p1:=p0.change 35 [97] [110] 7 [];rw[e1]at p1;rw[e1]at i1;have i2:=YI i1 [97];have p2:=p1.commit i1 [97];rw[e2]at i2 p2;have i3:=Qc i2 [98] [97] true;have p3:=p2.made i2 [98] [97] true;rw[e3]at i3 p3;have i4:=Qc i3 [99] [97] true;have p4:=p3.made i3 [99] [97] true;rw[e4]at i4 p4;exact⟨p4,i4⟩
theorem Fk {st:St}(h:∀b∈st.brs,b.work=treeOf st b.head):clean st=st:=by
 have e:st.brs.map (ZT st)=st.brs:=by
  conv=>rhs;rw[←List.map_id st.brs]
  exact aQ fun b hb=>by unfold ZT;rw[←h b hb];rfl
 unfold clean;rw[e]
theorem fW {x:Leaf}(h:OkL x):(line x).length≤300:=by
 have h1:x.path.length≤100:=by
  have:=h.path;simp only[isPath,pB,decide_eq_true_eq]at this;exact this.1
 have h2:=Zs _ h.text;have h3:(joinI x.items).length≤x.items.length*21:=by
  have key:∀l:List (List UInt8),(∀i∈l,i.length≤20)→(joinF l).length≤l.length*21:=by
   intro l;induction l with
   |nil=>intro _;simp[joinF]
   |cons y r ih=>
    intro hl;have:=hl y (by simp);have:=ih fun i hi=>hl i (by simp[hi])
    simp only[joinF,nL,nM];omega
  have hl:∀i∈x.items,i.length≤20:=fun i hi=>Zs _ (h.item i hi).1
  match hx:x.items with
  |[]=>simp[joinI]
  |y::r=>
   rw[hx]at hl;have:=hl y (by simp);have:=key r fun i hi=>hl i (by simp[hi])
   rw[joinI_eq];simp only[nL,nM];omega
 have h4:=h.many;have h5:=Lib.itoa_length_le x.n (by have:=h.lo;omega) (by have:=h.hi;omega);unfold line written;split
 ·simp only[nL,nM,pC];omega
 ·split<;>(simp only[nL,nM,pC];omega)
theorem kq:∀(t:List Leaf),(∀x∈t,OkL x)→(Written t).length≤t.length*300
 |[],_=>by simp[Written]
 |x::t,h=>by
  have h1:=fW (h x (by simp));have h2:=kq t fun z hz=>h z (by simp[hz])
  simp only[Written,List.flatMap_cons,nL,nM]at h2⊢;omega
theorem Rc.body_len {st:St}(hi:Inv st){r:Rc}(h:r.ok st):r.body.length≤10000:=by
 unfold Rc.body;rcases h with⟨e,hc⟩|⟨e,h1,h2,h3⟩|⟨e,hf⟩
 ·rw[if_pos e]
  have:=kq _ hc.tree.ok;have:=hc.tree.few;have:=hc.two;simp only[bodyC,nM,nL,aN];omega
 ·rw[if_neg (by rw[e];decide),if_pos e]
  have:=ZN _ h1;simp only[nM];omega
 ·rw[if_neg (by rw[e];decide),if_neg (by rw[e];decide)]
  have:=ZN _ (hi.names _ (j0c hf));rw[fnd_name]at this;omega
def recN (p:List UInt8):Nat:=256*(p.getD 1 0).toNat+(p.getD 2 0).toNat
def whole (p:List UInt8):Bool:=decide (3≤p.length)&&(decide (3+recN p<p.length)&&decide ((p.getD (3+recN p) 0).toNat=(1+sumB (p.take (3+recN p))) % 251))
theorem record_len (c:UInt8)(body:List UInt8):(record c body).length=body.length+4:=by simp[record,recHead]
theorem GL (c:UInt8)(body q:List UInt8)(hb:body.length<65536)(_h3:3≤q.length)(hq:∀i,i<3→q[i]? =(record c body)[i]?):recN q=body.length:=by
 have e1:q.getD 1 0=nK (body.length/256):=by rw[lB,hq 1 (by omega)];rfl
 have e2:q.getD 2 0=nK (body.length % 256):=by rw[lB,hq 2 (by omega)];rfl
 unfold recN;rw[e1,e2,rH,rH];omega
theorem whole_rec (c:UInt8)(body rest:List UInt8)(hb:body.length<65536):recN (record c body++rest)=body.length∧whole (record c body++rest)=true:=by
 have hl:=record_len c body;have hr:=GL c body (record c body++rest) hb (by rw[nL];omega) fun i hi=>aP (by omega)
 refine⟨hr,?_⟩;unfold whole;rw[hr];have hh:(recHead c body).length=3+body.length:=by simp[recHead];omega
 have e1:(record c body++rest).take (3+body.length)=recHead c body:=by
  unfold record;rw[sM,sN (by omega),nR (by omega)]
 have e2:(record c body++rest).getD (3+body.length) 0=nK ((1+sumB (recHead c body)) % 251):=by
  unfold record;rw[lB,sM,List.getElem?_append_right (by omega),hh];simp
 rw[e1,e2,rH,nL,hl];simp only[pB,decide_eq_true_eq];omega
theorem bQ (c:UInt8)(body:List UInt8)(hb:body.length<65536)(k:Nat)(hk:k<body.length+4):whole ((record c body).take k)=false:=by
 have hl:=record_len c body;unfold whole;by_cases h3:3≤((record c body).take k).length
 ·have hr:=GL c body ((record c body).take k) hb h3 fun i hi=>by
   rw[pZ]at h3;rw[List.getElem?_take,if_pos (by omega)]
  rw[hr,pZ,hl,decide_eq_false (p:=3+body.length<min k (body.length+4)) (by omega)];simp
 ·rw[decide_eq_false h3];rfl
theorem whole_nil:whole []=false:=rfl
end R
namespace R
def lvA (st:St)(k:Nat):St:=if k=0 then st else if k=1 then(commit st [97]).2 else if k=2 then(commit (commit st [97]).2 [98]).2 else dY st
structure Lived (st:St):Prop where
 liv:ZF st
 com:∀n,(n=[97]∨n=[98]∨n=[99])→Com st n
 len:st.cms.length≤54
 pack:Zc st
theorem Qn {st:St}(h:ZF st)(hi:Inv st){n:List UInt8}(hn:n=[97]∨n=[98]∨n=[99])(hl:st.cms.length<60):ZF (commit st n).2∧Inv (commit st n).2∧(commit st n).2.cms.length≤st.cms.length+1:=⟨h.commit n,YI hi n,(qt st n).len⟩
theorem lived_of {st:St}(h:ZF st)(hi:Inv st)(hl:st.cms.length≤51)(hp:Zc st):
  (∀k,k<3→((commit (lvA st k) (([[97],[98],[99]]:List (List UInt8)).getD k [])).1.2=0∨(commit (lvA st k) (([[97],[98],[99]]:List (List UInt8)).getD k [])).1.2=9)∧(commit (lvA st k) (([[97],[98],[99]]:List (List UInt8)).getD k [])).2=lvA st (k+1))∧Lived (lvA st 3):=by
 have ha:([97]:List UInt8)=[97]∨([97]:List UInt8)=[98]∨([97]:List UInt8)=[99]:= .inl rfl;have hb:([98]:List UInt8)=[97]∨([98]:List UInt8)=[98]∨([98]:List UInt8)=[99]:= .inr (.inl rfl);have hc:([99]:List UInt8)=[97]∨([99]:List UInt8)=[98]∨([99]:List UInt8)=[99]:= .inr (.inr rfl);obtain⟨l1,i1,n1⟩:=Qn h hi ha (by omega);obtain⟨l2,i2,n2⟩:=Qn l1 i1 hb (by omega);obtain⟨l3,i3,n3⟩:=Qn l2 i2 hc (by omega);obtain⟨c1,r1⟩:=vY h ha (by omega);obtain⟨c2,r2⟩:=vY l1 hb (by omega);obtain⟨c3,r3⟩:=vY l2 hc (by omega);have a0:=qw l1 i1 hb ha (by decide) c1;have a1:=qw l2 i2 hc ha (by decide) a0;have a2:=qw l2 i2 hc hb (by decide) c2;refine⟨fun k hk=> ?_,⟨l3,fun n hn=> ?_,by show(commit _ _).2.cms.length≤54;omega,((hp.commit hi _).commit i1 _).commit i2 _⟩⟩
 ·rcases(by omega:k=0∨k=1∨k=2)with rfl|rfl|rfl
  ·exact⟨r1,rfl⟩
  ·exact⟨r2,rfl⟩
  ·exact⟨r3,rfl⟩
 ·rcases hn with rfl|rfl|rfl
  ·exact a1
  ·exact a2
  ·exact c3
theorem brN_small (k:Nat)(hk:k<3):brN (k:Int)=([[97],[98],[99]]:List (List UInt8)).getD k []:=by
 rcases(by omega:k=0∨k=1∨k=2)with rfl|rfl|rfl<;>rfl
end R
namespace R
def zC (t:List Leaf):Prop:=∀x∈t,x.path∈vy
theorem zC.nil:zC []:=fun x hx=>by simp at hx
theorem oM (x:Leaf):∀(d:Bool) (l:List Leaf),∀z∈setL x d l,z=x∨z∈l
 |d,[],z,hz=>by
  unfold setL at hz;split at hz
  ·simp at hz
  ·exact .inl (by simpa using hz)
 |d,y::ys,z,hz=>by
  unfold setL at hz;rcases iZ.1 hz with h|h
  ·split at h
   ·exact .inl (by simpa using h)
   ·simp at h
  ·rcases iZ.1 h with h|h
   ·split at h
    ·simp at h
    ·exact .inr (by simp at h;simp[h])
   ·rcases oM x _ ys z h with h|h
    ·exact .inl h
    ·exact .inr (iQ _ h)
theorem zC.set {t:List Leaf}(h:zC t){x:Leaf}(hx:x.path∈vy):zC (set t x):=fun z hz=>by
 rcases oM x _ t z hz with rfl|hz
 ·exact hx
 ·exact h z hz
theorem zC.fold:∀(l a0:List Leaf),zC l→zC a0→zC (l.foldl R.set a0)
 |[],a0,_,h=>h
 |x::l,a0,hl,h=>zC.fold l _ (fun z hz=>hl z (iQ _ hz)) (h.set (hl x (iO ..)))
theorem zC.append {s t:List Leaf}(h1:zC s)(h2:zC t):zC (s++t):=fun x hx=>(iZ.1 hx).elim (h1 x) (h2 x)
theorem zC.joinT {a b c:List Leaf}(ha:zC a)(hb:zC b)(hc:zC c):zC (joinT a b c).1:=by
 have hp:∀p∈allP a b c,p∈vy:=fun p hp=>by
  obtain⟨z,hz,rfl⟩:=rR.1 hp;exact zC.fold _ _ (ha.append (hb.append hc)) zC.nil z hz
 have ho:zC (outJ a b c (allP a b c)):=fun x hx=>by
  obtain⟨p,h1,h2⟩:=List.mem_flatMap.1 hx;unfold leafJ at h2;split at h2
  ·simp at h2
  ·have e:x={(valJ a b c p).1 with path:=p}:=by simpa using h2
   rw[e];exact hp p h1
 unfold R.joinT joinP;split
 ·exact zC.nil
 ·unfold endJ
  split
  ·exact zC.nil
  ·split
   ·exact zC.nil
   ·exact ho
theorem zC.treeC {cms:List Cm}(h:∀c∈cms,zC c.tree)(n:Nat):zC (treeC cms n):=by
 unfold R.treeC;split
 ·exact zC.nil
 ·cases e:cms[n-1]? with
  |none=>exact zC.nil
  |some c=>exact h c (lC e)
theorem zC.togF {base:Nat→Nat→List Leaf×Int}{cms:List Cm}(h:∀c∈cms,zC c.tree)(hb:∀a b,zC (base a b).1):∀(l:List Nat) (p:Nat) (t:List Leaf),zC t→zC (togF base cms p t l).1
 |[],p,t,ht=>ht
 |n::r,p,t,ht=>by
  unfold R.togF;split
  ·exact zC.nil
  ·split
   ·exact zC.nil
   ·exact zC.togF h hb r n _ ((hb p n).joinT ht (zC.treeC h n))
theorem zC.baseF {cms:List Cm}(h:∀c∈cms,zC c.tree):∀(f a b:Nat),zC (baseF cms f a b).1
 |0,_,_=>zC.nil
 |f+1,a,b=>by
  show zC (togL (R.baseF cms f) cms (latC cms a b)).1
  cases latC cms a b with
  |nil=>exact zC.nil
  |cons n r=>exact zC.togF h (zC.baseF h f) r n _ (zC.treeC h n)
structure PathI (st:St):Prop where
 work:∀b∈st.brs,zC b.work
 trees:∀c∈st.cms,zC c.tree
theorem PathI.workOf {st:St}(h:PathI st)(n:List UInt8):zC (workOf st n):=by
 unfold R.workOf
 cases e:st.brs[fnd st.brs n]? with
 |none=>exact zC.nil
 |some b=>exact h.work b (lC e)
theorem PathI.treeOf {st:St}(h:PathI st)(n:Nat):zC (treeOf st n):=zC.treeC h.trees n
theorem PathI.setWork {st:St}(h:PathI st)(i:Nat){t:List Leaf}(ht:zC t):PathI (setWork st i t):=by
 refine⟨fun b hb=> ?_,h.trees⟩;unfold R.setWork at hb
 cases e:st.brs[i]? with
 |none=>rw[e]at hb;exact h.work b hb
 |some c=>
  rw[e]at hb;rcases rE hb with hb|hb
  ·exact h.work b hb
  ·rw[hb];exact ht
theorem Fj (x:Leaf)(path:List UInt8)(h:(delV x path).1=0):(delV x path).2.path=path:=by
 unfold delV at h⊢;by_cases c0:x.kind=0
 ·rw[if_pos c0]at h;exact absurd h (by simp)
 rw[if_neg c0]at h⊢;rfl
theorem gJ (x:Leaf)(path text:List UInt8)(h:(takeV x path text).1=0):(takeV x path text).2.path=path:=by
 unfold takeV at h⊢;by_cases c0:(!isText text||text==[])=true
 ·rw[if_pos c0]at h;exact absurd h (by simp)
 rw[if_neg c0]at h⊢;by_cases c1:x.kind≠0∧x.kind≠42
 ·rw[if_pos c1]at h;exact absurd h (by simp)
 rw[if_neg c1]at h⊢;by_cases c2:(x.items.any fun y=>y==text)=false
 ·rw[if_pos c2]at h;exact absurd h (by simp)
 rw[if_neg c2]at h⊢
theorem Fw (t:List Leaf)(x:Leaf)(path:List UInt8)(n:Int)(h:(addV t x path n).1=0):(addV t x path n).2.path=path:=by
 unfold addV at h⊢;by_cases c0:x.kind≠0∧x.kind≠35
 ·rw[if_pos c0]at h;exact absurd h (by simp)
 rw[if_neg c0]at h⊢;by_cases c1:blocked t path=true
 ·rw[if_pos c1]at h;exact absurd h (by simp)
 rw[if_neg c1]at h⊢;by_cases c2:1000000000-x.n<n∨n< -1000000000-x.n
 ·rw[if_pos c2]at h;exact absurd h (by simp)
 rw[if_neg c2]at h⊢;by_cases c3:x.kind=0∧24≤t.length
 ·rw[if_pos c3]at h;exact absurd h (by simp)
 rw[if_neg c3]at h⊢
theorem G4 (t:List Leaf)(x:Leaf)(path text:List UInt8)(h:(noteV t x path text).1=0):(noteV t x path text).2.path=path:=by
 unfold noteV at h⊢;by_cases c0:isText text=false
 ·rw[if_pos c0]at h;exact absurd h (by simp)
 rw[if_neg c0]at h⊢;by_cases c1:x.kind≠0∧x.kind≠61
 ·rw[if_pos c1]at h;exact absurd h (by simp)
 rw[if_neg c1]at h⊢;by_cases c2:blocked t path=true
 ·rw[if_pos c2]at h;exact absurd h (by simp)
 rw[if_neg c2]at h⊢;by_cases c3:x.kind=0∧24≤t.length
 ·rw[if_pos c3]at h;exact absurd h (by simp)
 rw[if_neg c3]at h⊢
theorem fJ (t:List Leaf)(x:Leaf)(path text:List UInt8)(h:(putV t x path text).1=0):(putV t x path text).2.path=path:=by
 unfold putV at h⊢;by_cases c0:(!isText text||text==[])=true
 ·rw[if_pos c0]at h;exact absurd h (by simp)
 rw[if_neg c0]at h⊢;by_cases c1:x.kind≠0∧x.kind≠42
 ·rw[if_pos c1]at h;exact absurd h (by simp)
 rw[if_neg c1]at h⊢;by_cases c2:blocked t path=true
 ·rw[if_pos c2]at h;exact absurd h (by simp)
 rw[if_neg c2]at h⊢;by_cases c3:8<(item x.items text).length
 ·rw[if_pos c3]at h;exact absurd h (by simp)
 rw[if_neg c3]at h⊢;by_cases c4:x.kind=0∧24≤t.length
 ·rw[if_pos c4]at h;exact absurd h (by simp)
 rw[if_neg c4]at h⊢
theorem ft (kind:Int)(t:List Leaf)(x:Leaf)(path:List UInt8)(n:Int)(text:List UInt8)(h:(valV kind t x path n text).1=0):(valV kind t x path n text).2.path=path:=by
 unfold valV at h⊢;by_cases c0:kind=0
 ·rw[if_pos c0]at h⊢;exact Fj _ _ h
 rw[if_neg c0]at h⊢;by_cases c1:kind=45
 ·rw[if_pos c1]at h⊢;exact gJ _ _ _ h
 rw[if_neg c1]at h⊢;by_cases c2:kind=35
 ·rw[if_pos c2]at h⊢;exact Fw _ _ _ _ h
 rw[if_neg c2]at h⊢;by_cases c3:kind=61
 ·rw[if_pos c3]at h⊢;exact G4 _ _ _ _ h
 rw[if_neg c3]at h⊢;exact fJ _ _ _ _ h
theorem PathI.change {st:St}(h:PathI st)(kind:Int)(br path:List UInt8)(n:Int)(text:List UInt8)(hp:path∈vy):PathI (change st kind br path n text).2:=by
 unfold R.change;split
 ·exact h
 ·split
  ·exact h
  ·split
   ·rename_i e
    exact h.setWork _ ((h.workOf br).set (by rw[ft _ _ _ _ _ _ e];exact hp))
   ·exact h
theorem PathI.setHead {st:St}(h:PathI st)(name:List UInt8)(n:Nat):PathI (setHead st name n):=by
 refine⟨fun b hb=> ?_,h.trees⟩;rcases rE hb with hb|hb
 ·exact h.work b hb
 ·rw[hb];exact h.treeOf n
theorem PathI.keepC {st:St}(h:PathI st)(c:Cm)(hc:zC c.tree):PathI (keepC st c):=by
 refine⟨h.work,fun d hd=> ?_⟩;rcases iZ.1 hd with hd|hd
 ·exact h.trees d hd
 ·rw[show d=c by simpa using hd];exact hc
theorem PathI.down {st:St}(h:PathI st)(name:List UInt8)(c:Cm)(hc:zC c.tree):PathI (down st name c):=(h.keepC c hc).setHead name _
theorem PathI.commit {st:St}(h:PathI st)(name:List UInt8):PathI (commit st name).2:=by
 unfold R.commit;split
 ·exact h
 ·split
  ·exact h
  ·split
   ·exact h
   ·exact h.down name _ (h.workOf name)
theorem PathI.joinB {st:St}(h:PathI st)(a0 fr:List UInt8):PathI (joinB st a0 fr).2:=by
 unfold R.joinB;split
 ·exact h
 ·split
  ·exact h
  ·unfold joinH
   split
   ·exact h
   ·split
    ·exact h.setHead a0 _
    ·unfold joinN
     split
     ·exact h
     ·split
      ·exact h
      ·refine h.down a0 _ ?_
       unfold joinC;split
       ·exact zC.nil
       ·exact(zC.baseF h.trees _ _ _).joinT (zC.treeC h.trees _) (zC.treeC h.trees _)
theorem fM (c:Int):pathN c∈vy:=by
 unfold pathN;have h1:0≤pk_ c 10:=Int.emod_nonneg _ (by decide);have h2:pk_ c 10<10:=Int.emod_lt_of_pos _ (by decide);have h3:(pk_ c 10).toNat<vy.length:=by
  show _<10;omega
 rw[lB,j0d h3];exact j0c h3
theorem PathI.act {st:St}(h:PathI st)(a:Raw):PathI (actP st a):=by
 unfold actP;repeat' split
 all_goals first
  |exact h.change _ _ _ _ _ (fM _)
  |exact h.commit _
  |exact(h.commit _).joinB _ _
theorem PathI.fold:∀(l:List Raw) {st:St},PathI st→PathI (l.foldl actP st)
 |[],_,h=>h
 |a::l,_,h=>PathI.fold l (h.act a)
theorem PathI.acts {st:St}(h:PathI st)(l:List Raw):PathI (actsP st l):=PathI.fold _ h
theorem path0 (pk:List UInt8):PathI (forkS 7 3 pk):=by
 have ht:zC (cnt 7):=fun x hx=>by
  have e:x=Cj 7:=by simpa[cnt]using hx
  rw[e];exact iO ..
 refine⟨fun b hb=> ?_,fun c hc=> ?_⟩
 ·obtain⟨i,_,rfl⟩:=rR.1 hb
  exact ht
 ·have e:c={tree:=cnt 7,parents:=[]}:=by simpa[forkS,Ck]using hc
  rw[e];exact ht
theorem PathI.lived {st:St}(h:PathI st):PathI (lvA st 3):=((h.commit [97]).commit [98]).commit [99]
end R
namespace R
def Da:List UInt8:=[110,111,110,101,48]
def dV:List UInt8:=[110,111,119,104,101,114,101]
def fresh:List UInt8:=[102,114,101,115,104]
section
variable {st:St}
end
end R
namespace R
theorem Jy (st:St)(n:List UInt8):ZI st (dropped st n).2 0:=by
 unfold dropped;split
 ·exact ZI.refl st
 ·exact⟨⟨[],by simp,j0a _⟩,⟨_,rfl⟩⟩
section
variable {a b:St}{k:Nat}
end
end R
theorem cB {t:List R.Leaf}(h:OkT t)(k:Nat):OkT (t.take k):=by
 have hl:(t.take k).length≤t.length:=by rw[pZ];omega
 refine⟨zW.t (List.Pairwise.sublist (aR k t) h.sort.k),by have:=h.few;omega,fun x hx=>h.ok x (rO hx),fun x hx y hy=>h.free x (rO hx) y (rO hy)⟩
structure Xt (T:List R.Leaf)(x:R.Leaf):Prop where
 ok:OkT T
 few:T.length<24
 leaf:OkL x
 last:∀y∈T,Op.bytesLess y.path x.path=true
 free:R.blocked T x.path=false
theorem dA {t:List R.Leaf}(h:OkT t)(k:Nat)(hk:k<t.length):Xt (t.take k) t[k]:=by
 have hf:=h.few;refine⟨cB h k,by rw[pZ];omega,h.ok _ (j0c hk),fun y hy=> ?_,?_⟩
 ·obtain⟨i,hi,rfl⟩:=aS.1 hy
  exact h.sort i k (by omega) hk (by omega)
 ·unfold R.blocked
  rw[pM];intro y hy;have hm:=rO hy;rw[h.free y hm _ (j0c hk),h.free _ (j0c hk) y hm];simp
section
variable {T:List R.Leaf}{x:R.Leaf}
theorem Xt.none (h:Xt T x):(T.any fun y=>y.path==x.path)=false:=by
 rw[pM];intro y hy;rw[Yq _ _ (h.last y hy)];simp
theorem Xt.at_ (h:Xt T x):R.at_ T x.path=R.none x.path:=by
 rcases Vb T x.path with⟨_,e⟩|⟨e,_⟩
 ·exact e
 ·rw[h.none]at e;cases e
theorem Xt.pos (h:Xt T x){z:R.Leaf}(hz:z.path=x.path):yg T z.path=T.length:=by
 unfold yg;refine aT.2 fun y hy=> ?_
 rw[hz];show(!zG x.path y.path)=false;unfold zG;rw[h.last y hy];rfl
theorem Xt.set (h:Xt T x){z:R.Leaf}(hz:z.path=x.path)(hk:z.kind≠0):R.set T z=T++ [z]:=by
 rw[ju h.ok z (by rw[hz];exact h.leaf.path) hk (by rw[hz];exact h.none),h.pos hz,aU,aV]
theorem Xt.add (h:Xt T x)(hk:x.kind=35):R.addV T (R.at_ T x.path) x.path x.n=(0,x):=by
 obtain⟨h1,h2⟩:x.text=[]∧x.items=[]:=by
  rcases h.leaf.kind with⟨_,a⟩|⟨e,_⟩|⟨e,_⟩
  ·exact a
  ·rw[hk]at e;cases e
  ·rw[hk]at e;cases e
 have:=h.leaf.hi;have:=h.leaf.lo;have:=h.few;rw[h.at_];unfold R.addV;rw[if_neg (by simp[R.none]),h.free,if_neg (by simp),if_neg (by simp only[R.none];omega),if_neg (by omega)];obtain⟨p,k,n,te,it⟩:=x;simp only at hk h1 h2;subst hk h1 h2;simp[R.none]
theorem Xt.note (h:Xt T x)(hk:x.kind=61):R.noteV T (R.at_ T x.path) x.path x.text=(0,x):=by
 obtain⟨h1,h2⟩:x.n=0∧x.items=[]:=by
  rcases h.leaf.kind with⟨e,_⟩|⟨_,a⟩|⟨e,_⟩
  ·rw[hk]at e;cases e
  ·exact a
  ·rw[hk]at e;cases e
 have:=h.few;rw[h.at_];unfold R.noteV;rw[h.leaf.text,if_neg (by simp),if_neg (by simp[R.none]),h.free,if_neg (by simp),if_neg (by omega)];obtain⟨p,k,n,te,it⟩:=x;simp only at hk h1 h2;subst hk h1 h2;rfl
end
def YK (x:R.Leaf)(k:Nat):R.Leaf:={path:=x.path,kind:=42,n:=0,text:=[],items:=x.items.take k}
def xy (T:List R.Leaf)(x:R.Leaf)(k:Nat):List R.Leaf:=if k=0 then T else T++ [YK x k]
section
variable {T:List R.Leaf}{x:R.Leaf}(hk:x.kind=42)
theorem Vs (h:Xt T x)(k:Nat):Zb (x.items.take k):=zW.i (List.Pairwise.sublist (aR k _) h.leaf.sort.k)
theorem bV (h:Xt T x)(k:Nat)(h0:0<k)(hn:x.items≠ []):OkL (YK x k):=by
 have hm:=h.leaf.many;refine⟨h.leaf.path,.inr (.inr ⟨rfl,rfl,rfl,?_⟩),by simp[YK],by simp[YK],rfl,?_,fun i hi=>h.leaf.item i (rO hi),Vs h k⟩
 ·show x.items.take k≠ []
  intro e;have:=congrArg List.length e;rw[pZ,pC]at this;have:0<x.items.length:=aW.2 hn;omega
 ·show(x.items.take k).length≤8
  rw[pZ];omega
theorem Xt.bag (h:Xt T x)(k:Nat):Xt T (YK x (k+1))∨x.items=[]:=by
 by_cases hn:x.items=[]
 ·exact .inr hn
 ·exact .inl ⟨h.ok,h.few,bV h (k+1) (by omega) hn,h.last,h.free⟩
theorem Xt.snoc (h:Xt T x):OkT (T++ [x]):=by
 have hf:=h.few;refine⟨zW.t ?_,by rw[nL];simp;omega,fun y hy=> ?_,fun y hy z hz=> ?_⟩
 ·unfold zW
  rw[List.pairwise_append];refine⟨h.ok.sort.k,List.pairwise_singleton _ _,fun y hy z hz=> ?_⟩;rw[iV]at hz;subst hz;exact h.last y hy
 ·rcases iZ.1 hy with hy|hy
  ·exact h.ok.ok y hy
  ·rw[iV]at hy;subst hy;exact h.leaf
 ·have hb:=Va h.free
  rcases iZ.1 hy with a0|a0<;>rcases iZ.1 hz with a1|a1
  ·exact h.ok.free y a0 z a1
  ·rw[iV.1 a1];exact(hb y a0).1
  ·rw[iV.1 a0];exact(hb z a1).2
  ·rw[iV.1 a0,iV.1 a1];exact vP _
theorem F7 (h:Xt T x)(k:Nat)(a0:k<x.items.length):R.item (x.items.take k) x.items[k]=x.items.take (k+1):=by
 have hl:∀y∈x.items.take k,Op.bytesLess y x.items[k]=true:=fun y hy=>by
  obtain⟨i,hi,rfl⟩:=aS.1 hy;exact h.leaf.sort i k (by omega) a0 (by omega)
 have a1:((x.items.take k).any fun y=>y==x.items[k])=false:=by
  rw[pM];intro y hy;rw[Yq _ _ (hl y hy)];simp
 have hp:xB (x.items.take k) x.items[k]=(x.items.take k).length:=by
  unfold xB;refine aT.2 fun y hy=> ?_
  show(!zG x.items[k] y)=false;unfold zG;rw[hl y hy];rfl
 rw[xJ (Vs h k) _ a1,hp,aU,aV,List.take_succ_eq_append_getElem a0]
theorem gl (h:Xt T x)(k:Nat)(a0 :k≤x.items.length):OkT (xy T x k):=by
 unfold xy;split
 ·exact h.ok
 ·rename_i h0
  have hn:x.items≠ []:=fun e=>by rw[e]at a0;simp at a0;omega
  rcases h.bag (k-1)with hb|hb
  ·rw[show k-1+1=k by omega]at hb
   exact hb.snoc
  ·exact absurd hb hn
theorem ct (h:Xt T x)(k:Nat)(a0:k<x.items.length):R.putV (xy T x k) (R.at_ (xy T x k) x.path) x.path x.items[k]=(0,YK x (k+1))∧R.set (xy T x k) (YK x (k+1))=xy T x (k+1):=by
 obtain⟨a8,a9⟩:=h.leaf.item _ (j0c a0);have hm:=h.leaf.many;have hn:x.items≠ []:=fun e=>by rw[e]at a0;simp at a0
 have a3:=F7 h k a0;have h8:¬8<(x.items.take (k+1)).length:=by rw[pZ];omega
 have a4:(!R.isText x.items[k]||x.items[k]==[])=false:=by
  rw[a8,beq_eq_false_iff_ne.2 a9];rfl
 rcases Nat.eq_zero_or_pos k with h0|h0
 ·subst h0
  have e0:xy T x 0=T:=if_pos rfl;have e1:xy T x (0+1)=T++ [YK x (0+1)]:=if_neg (by omega);rw[e0,e1,h.at_];refine⟨?_,h.set rfl (by simp[YK])⟩;unfold R.putV;have a1:R.item (R.none x.path).items x.items[0]=x.items.take (0+1):=a3;have a7:=h.few;rw[a1,if_neg (by rw[a4];simp),if_neg (by simp[R.none]),h.free,if_neg (by simp),if_neg h8,if_neg (by omega)];rfl
 ·have e0:xy T x k=T++ [YK x k]:=if_neg (by omega)
  have e1:xy T x (k+1)=T++ [YK x (k+1)]:=if_neg (by omega);have hb:=gl h k (by omega);rw[e0]at hb;have a5:R.at_ (T++ [YK x k]) x.path=YK x k:=by
   unfold R.at_;rw[List.find?_append,List.find?_eq_none.2 fun y hy e=>by have:=pM.1 h.none y hy;exact this e];simp[YK]
  have a6:R.blocked (T++ [YK x k]) x.path=false:=by
   have:=h.free;unfold R.blocked at this⊢;rw[List.any_append,this];simp[YK,vP]
  have a2:R.item (YK x k).items x.items[k]=x.items.take (k+1):=a3;rw[e0,e1,a5];refine⟨?_,?_⟩
  ·unfold R.putV
   rw[a2,if_neg (by rw[a4];simp),if_neg (by simp[YK]),a6,if_neg (by simp),if_neg h8,if_neg (by simp[YK])];rfl
  ·have hp:yg (T++ [YK x k]) (YK x (k+1)).path=T.length:=by
    have h1:∀y∈T,zG x.path y.path=true:=fun y hy=>h.last y hy
    show yI R.Leaf.path (T++ [YK x k]) x.path=T.length;unfold yI;rw[List.findIdx_append];have e:T.findIdx (fun y=> !zG x.path y.path)=T.length:=aT.2 fun y hy=>by rw[h1 y hy];rfl
    rw[e,if_neg (by omega)];simp[YK,zG,zm]
   rw[Ug hb (YK x (k+1)) h.leaf.path (by simp[YK]) (by simp[YK]),hp,List.take_left,List.drop_of_length_le (by simp)]
theorem Ft (h:Xt T x)(hk:x.kind=42):xy T x x.items.length=T++ [x]:=by
 rcases h.leaf.kind with⟨e,_⟩|⟨e,_⟩|⟨_,h1,h2,h3⟩
 ·rw[hk]at e;cases e
 ·rw[hk]at e;cases e
 ·have:0<x.items.length:=aW.2 h3
  unfold xy;rw[if_neg (by omega)];congr 2
  obtain⟨p,k,n,te,it⟩:=x;simp only at hk h1 h2;subst hk h1 h2;simp[YK]
end
section
variable {b o t:List R.Leaf}
end
namespace R
def Abc (n:List UInt8):Prop:=n=[97]∨n=[98]∨n=[99]
theorem Lived.works {st:St}(hl:Lived st)(hi:Inv st):∀b∈st.brs,b.work=treeOf st b.head:=by
 intro b hb;have hn:b.name∈([[97],[98],[99]]:List (List UInt8)):=by rw[←hl.liv.names];exact rR.2 ⟨b,hb,rfl⟩
 have ha:Abc b.name:=by
  simp only[iT,lA,or_false]at hn;exact hn
 obtain⟨f1,_⟩:=hl.liv.fnd ha;obtain⟨i,a0,he⟩:=List.getElem_of_mem hb;have a1:fnd st.brs b.name=i:=by
  rcases Nat.lt_trichotomy (fnd st.brs b.name) i with h|h|h
  ·have:=(Zz _ _).1 hi.sort _ _ f1 a0 h
   rw[fnd_name,he,zm]at this
   cases this
  ·exact h
  ·have:=(Zz _ _).1 hi.sort _ _ a0 f1 h
   rw[fnd_name,he,zm]at this
   cases this
 have hg:st.brs[fnd st.brs b.name]? =some b:=by rw[a1,j0d a0,he]
 have hc:=hl.com b.name ha;unfold Com workOf headOf at hc;rw[hg]at hc;exact(OkT.inj (hi.work b hb) (YA hi _)).1 hc
theorem Lived.open_ {st:St}(hl:Lived st)(hi:Inv st):∃rs,OkRs bg0 rs∧runs bg0 rs=st∧st.packed=bytesRs rs:=by
 obtain⟨rs,h1,h2,h3⟩:=hl.pack;exact⟨rs,h1,by rw[h2,Fk (hl.works hi)],h3⟩
structure Two (st:St)(a b:List UInt8)(x y:Nat):Prop where
 fa:fnd st.brs a<st.brs.length
 fb:fnd st.brs b<st.brs.length
 ca:Com st a
 cb:Com st b
 ha:headOf st a=x
 hb:headOf st b=y
section
variable {st:St}{a b:List UInt8}{x y:Nat}
end
end R
def Cx (q:List UInt8):Prop:=R.whole q=false∨(R.whole q=true∧(q.getD 0 0).toNat≠67∧(q.getD 0 0).toNat≠66∧(q.getD 0 0).toNat≠68)
namespace R
theorem qy (r:Rc)(rs:List Rc):bytesRs (r::rs)=r.bytes++bytesRs rs:=rfl
theorem cut_facts:∀{rs:List Rc} {st:St},Inv st→OkRs st rs→∀c,c≤(bytesRs rs).length→∃k q,k≤rs.length∧(bytesRs rs).take c=bytesRs (rs.take k)++q∧Cx q∧(bytesRs (rs.take k)).length≤c
 |[],_,_,_,c,hc=>by
  have:c=0:=by simpa[bytesRs]using hc
  subst this;exact⟨0,[],j0a _,rfl,.inl whole_nil,j0a _⟩
 |r::rs,st,hi,h,c,hc=>by
  have hb:=Rc.body_len hi h.1;have hl:r.bytes.length=r.body.length+4:=record_len _ _;rw[qy]at hc⊢;rcases mX c r.bytes.length with a1|a0
  ·refine⟨0,r.bytes.take c,wB _,?_,.inl (bQ r.letter r.body (by omega) c (by omega)),wB _⟩
   rw[sN (by omega)];rfl
  ·obtain⟨k,q,h1,h2,h3,h4⟩:=cut_facts (rs:=rs) (st:=r.run st) (Rc.inv hi h.1) h.2 (c-r.bytes.length) (by rw[nL]at hc;omega)
   refine⟨k+1,q,by simp;omega,?_,h3,?_⟩
   ·rw[List.take_append,nR a0,h2,aX,qy,sM]
   ·rw[aX,qy,nL];omega
theorem CU (st:St)(r:Rc):∃l,(r.run st).cms=st.cms++l:=by
 unfold Rc.run;split
 ·exact⟨_,rfl⟩
 ·split
  ·unfold headR
   split
   ·exact⟨[],by simp[setHead]⟩
   ·exact⟨[],by simp[headNew]⟩
  ·obtain⟨⟨l,e,_⟩,_⟩:=Jy st r.name
   exact⟨l,e⟩
theorem runs_cms:∀(rs:List Rc) (st:St),∃l,(runs st rs).cms=st.cms++l
 |[],st=>⟨[],by simp[runs]⟩
 |r::rs,st=>by
  obtain⟨l1,e1⟩:=CU st r;obtain⟨l2,e2⟩:=runs_cms rs (r.run st);exact⟨l1++l2,by show(runs (r.run st) rs).cms=_;rw[e2,e1,sM]⟩
theorem runs_part (st:St)(rs:List Rc)(k:Nat):runs st rs=runs (runs st (rs.take k)) (rs.drop k):=by
 unfold runs;rw[←rM,List.take_append_drop]
theorem noRec_x (a0:List UInt8):Cx (120::a0):=by
 cases h:whole (120::a0)
 ·exact .inl h
 ·exact .inr ⟨h,by show(120:UInt8).toNat≠67;decide,by show(120:UInt8).toNat≠66;decide,by show(120:UInt8).toNat≠68;decide⟩
end R
