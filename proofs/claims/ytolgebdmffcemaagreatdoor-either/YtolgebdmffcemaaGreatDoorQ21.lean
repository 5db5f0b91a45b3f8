import Derived.Test.YtolgebdmffcemaaGreatDoorQ18
set_option linter.all false
set_option maxHeartbeats 20000000
set_option maxRecDepth 1000000
open UInt8 renaming ofNat→mA,toNat_ofNat'→nT
open List renaming range→lQ,ext_getElem?→rH,getElem?_map→rN,getElem?_set→wB,getElem?_eq_none→wC,getElem?_eq_some_iff→wD,mem_or_eq_of_mem_set→rQ,length_append→mB,append_assoc→rD,length_cons→mC,length_take→nP,findIdx_map→wF,length_map→pA,getElem?_append_left→wG,mem_map→pH,map_congr_left→wH,length_nil→mS,getD_eq_getElem?_getD→iJ,mem_append→nJ,mem_cons_of_mem→hU,mem_cons_self→eY,mem_of_getElem?→iK,take_sublist→wK,mem_of_mem_take→pE,mem_take_iff_getElem→wL,any_eq_false→nB,findIdx_eq_length→wM,take_length→wN,drop_length→wO,length_pos_iff→wP,mem_singleton→iE
open Bool renaming and_eq_true→mR
open Int renaming emod_nonneg→wI,emod_lt_of_pos→wJ
namespace Go.Proofs.YtolgebdmffcemaaGreatDoor
open Go.RowKit
def dH (c n:Int):Int:=if c<0 then(-(c+1)) % n else c % n
namespace R
def bit (x i:Nat):Bool:=decide (x/2^i % 2=1)
def bq:List UInt8:=[98,97,103]
def bgItem (i:Nat):List UInt8:=[mA (97+i)]
def da (x:Nat)(st:St)(i:Nat):St:=if bit x i then(change st 42 [97] bq 0 (bgItem i)).2 else st
def bgTurn (name:List UInt8)(x:Nat)(st:St)(i:Nat):St:=if bit x i then(change st 42 name bq 0 (bgItem i)).2 else(change st 45 name bq 0 (bgItem i)).2
def bg0:St:={cms:=[],brs:=[],packed:=[]}
def bg1:St:=(change (made bg0 [97] [] false).2 35 [97] [110] 1 []).2
def bg2 (f:Nat):St:=(lQ 5).foldl (da f) bg1
def bg3 (f:Nat):St:=(made (commit (bg2 f) [97]).2 [98] [97] true).2
def C4 (name:List UInt8)(x:Nat)(st:St):St:=(commit ((lQ 5).foldl (bgTurn name x) (change st 35 name name 1 []).2) name).2
def bg4 (f x:Nat):St:=C4 [97] x (bg3 f)
def bg5 (f x y:Nat):St:=C4 [98] y (bg4 f x)
def BE (f x y:Nat):List (List UInt8):=((lQ 5).filter fun i=>(bit x i&&bit y i)||((bit x i||bit y i)&& !bit f i)).map bgItem
def Jj (x:Nat):List (List UInt8):=((lQ 5).filter fun i=>bit x i).map bgItem
def bgT (f x y:Nat):List (List UInt8):=if x=y then Jj x else if x=f then Jj y else if y=f then Jj x else if x=0 then Jj y else if y=0 then Jj x else BE f x y
def bgW (l:List (List UInt8)):List UInt8:=[97,32,35,49,10,98,32,35,49,10]++((if l=[]then []else bq++ [32,42]++joinI l++ [10])++ [110,32,35,49,10])
def dL (f x y:Nat):Bool:=decide ((joinB (bg5 f x y) [97] [98]).1.2=0)&&decide (shown (joinB (bg5 f x y) [97] [98]).2 [97]=(bgW (bgT f x y),0))
end R
def bI (name:List UInt8)(x:Nat)(st:R.St):R.St:=(lQ 5).foldl (R.bgTurn name x) (R.change st 35 name name 1 []).2
structure dS (f x y:Nat):Prop where
 c1:(R.commit (R.bg2 f) [97]).1=(1,0)
 d1:(R.made (R.commit (R.bg2 f) [97]).2 [98] [97] true).1=0
 e4:(R.commit (bI [97] x (R.bg3 f)) [97]).1=(2,0)
 e5:(R.commit (bI [98] y (R.bg4 f x)) [98]).1=(3,0)
 j:(R.joinB (R.bg5 f x y) [97] [98]).1=(4,0)
 s:R.shown (R.joinB (R.bg5 f x y) [97] [98]).2 [97]=(R.bgW (R.bgT f x y),0)
namespace R
structure ZL (st:St):Prop where
 names:st.brs.map (·.name)=[[97],[98],[99]]
 one:1≤st.cms.length
 heads:∀b∈st.brs,1≤b.head
 par:∀i (h:i<st.cms.length),1≤i→st.cms[i].parents≠ []
theorem vr (l:List Br)(i:Nat)(b:Br)(hb:∀h:i<l.length,b.name=l[i].name):(l.set i b).map (·.name)=l.map (·.name):=by
 apply rH;intro j;rw[rN,rN,wB];split
 ·rename_i e
  subst e;split
  ·rename_i h
   rw[j0d h];simp[hb h]
  ·rename_i h
   rw[wC (by omega)]
 ·rfl
theorem om {st:St}{i:Nat}{t:List Leaf}{b:Br}(hb:b∈(setWork st i t).brs):∃c∈st.brs,b.head=c.head∧b.name=c.name:=by
 unfold setWork at hb
 cases e:st.brs[i]? with
 |none=>rw[e]at hb;exact⟨b,hb,rfl,rfl⟩
 |some c=>
  rw[e]at hb;obtain⟨hi,rfl⟩:=wD.1 e;rcases rQ hb with h|h
  ·exact⟨b,h,rfl,rfl⟩
  ·exact⟨st.brs[i],j0c hi,by rw[h],by rw[h]⟩
theorem ZL.setWork {st:St}(h:ZL st)(i:Nat)(t:List Leaf):ZL (setWork st i t):=by
 refine⟨?_,h.one,fun b hb=> ?_,h.par⟩
 ·rw[←h.names]
  unfold R.setWork
  cases e:st.brs[i]? with
  |none=>rfl
  |some c=>
   obtain⟨hi,rfl⟩:=wD.1 e;exact vr _ _ _ fun _=>rfl
 ·obtain⟨c,hc,e,_⟩:=om hb
  rw[e];exact h.heads c hc
theorem kZ (st:St)(kind:Int)(br p:List UInt8)(n:Int)(text:List UInt8):(change st kind br p n text).2=st∨∃i t,(change st kind br p n text).2=setWork st i t:=by
 unfold change;split
 ·exact .inl rfl
 ·split
  ·exact .inl rfl
  ·split
   ·exact .inr ⟨_,_,rfl⟩
   ·exact .inl rfl
theorem ZL.change {st:St}(h:ZL st)(kind:Int)(br p:List UInt8)(n:Int)(text:List UInt8):ZL (change st kind br p n text).2:=by
 rcases kZ st kind br p n text with e|⟨i,t,e⟩<;>rw[e]
 ·exact h
 ·exact h.setWork i t
theorem ZL.setHead {st:St}(h:ZL st)(name:List UInt8)(n:Nat)(hn:1≤n):ZL (setHead st name n):=by
 refine⟨?_,h.one,fun b hb=> ?_,h.par⟩
 ·rw[←h.names]
  exact vr _ _ _ fun hi=>(fnd_name _ _ hi).symm
 ·rcases rQ hb with e|e
  ·exact h.heads b e
  ·rw[e];exact hn
theorem ZL.keepC {st:St}(h:ZL st)(c:Cm)(hc:c.parents≠ []):ZL (keepC st c):=by
 have hl:(R.keepC st c).cms=st.cms++ [c]:=rfl;refine⟨h.names,?_,h.heads,fun i hi h1=> ?_⟩
 ·rw[hl,mB];have:=h.one;omega
 ·have a1 :i<st.cms.length+1:=by rw[hl,mB]at hi;exact hi
  have key:∀(hi:i<(st.cms++ [c]).length),(st.cms++ [c])[i].parents≠ []:=fun hi=>by
   by_cases a0:i<st.cms.length
   ·rw[List.getElem_append_left a0];exact h.par i a0 h1
   ·rw[List.getElem_append_right (by omega)]
    simp[hc]
  exact key hi
theorem ZL.down {st:St}(h:ZL st)(name:List UInt8)(c:Cm)(hc:c.parents≠ []):ZL (down st name c):=(h.keepC c hc).setHead name _ (by omega)
theorem ZL.headOf {st:St}(h:ZL st){name:List UInt8}(hf:fnd st.brs name<st.brs.length):1≤headOf st name:=by
 unfold R.headOf;rw[j0d hf];exact h.heads _ (j0c hf)
theorem ZL.commit {st:St}(h:ZL st)(name:List UInt8):ZL (commit st name).2:=by
 unfold R.commit;split
 ·exact h
 ·rename_i hf
  split
  ·exact h
  ·split
   ·exact h
   ·refine h.down name _ ?_
    have:=h.headOf (name:=name) (kT hf);unfold parsOf;rw[if_neg (by omega)];simp
theorem ZL.joinB {st:St}(h:ZL st)(a0 fr:List UInt8):ZL (joinB st a0 fr).2:=by
 unfold R.joinB;split
 ·exact h
 ·rename_i hf
  split
  ·exact h
  ·have h1:=h.headOf (name:=fr) (kT fun e=>hf (.inr e))
   unfold joinH;split
   ·exact h
   ·split
    ·exact h.setHead a0 _ h1
    ·unfold joinN
     split
     ·exact h
     ·split
      ·exact h
      ·exact h.down a0 _ (by simp)
theorem Jf (st:St)(kind:Int)(br p:List UInt8)(n:Int)(text:List UInt8):(change st kind br p n text).2.cms=st.cms∧(change st kind br p n text).2.packed=st.packed:=by
 rcases kZ st kind br p n text with e|⟨i,t,e⟩<;>rw[e]<;>exact⟨rfl,rfl⟩
structure ZM (st st' :St)(k:Nat):Prop where
 cms:∃l,st'.cms=st.cms++l∧l.length≤k
 packed:∃l,st'.packed=st.packed++l
theorem ZM.refl (st:St):ZM st st 0:=⟨⟨[],by simp,j0a _⟩,⟨[],by simp⟩⟩
theorem ZM.trans {a b c:St}{k m:Nat}(h1:ZM a b k)(h2:ZM b c m):ZM a c (k+m):=by
 obtain⟨⟨l1,e1,n1⟩,⟨p1,q1⟩⟩:=h1;obtain⟨⟨l2,e2,n2⟩,⟨p2,q2⟩⟩:=h2;exact⟨⟨l1++l2,by rw[e2,e1,rD],by rw[mB];omega⟩,⟨p1++p2,by rw[q2,q1,rD]⟩⟩
theorem ZM.mono {a b:St}{k m:Nat}(h:ZM a b k)(hk:k≤m):ZM a b m:=by
 obtain⟨⟨l,e,n⟩,h2⟩:=h;exact⟨⟨l,e,by omega⟩,h2⟩
theorem ZM.len {a b:St}{k:Nat}(h:ZM a b k):b.cms.length≤a.cms.length+k:=by
 obtain⟨⟨l,e,n⟩,_⟩:=h;rw[e,mB];omega
theorem Ut (st:St)(kind:Int)(br p:List UInt8)(n:Int)(text:List UInt8):ZM st (change st kind br p n text).2 0:=by
 obtain⟨e1,e2⟩:=Jf st kind br p n text;exact⟨⟨[],by rw[e1];simp,j0a _⟩,⟨[],by rw[e2];simp⟩⟩
theorem Jy (st:St)(name:List UInt8)(n:Nat):ZM st (setHead st name n) 0:=⟨⟨[],by simp[setHead],j0a _⟩,⟨_,rfl⟩⟩
theorem jY (st:St)(name:List UInt8)(c:Cm):ZM st (down st name c) 1:=by
 refine⟨⟨[c],rfl,j0a _⟩,?_⟩;unfold down setHead keepC;exact⟨_,rD ..⟩
theorem qq (st:St)(name:List UInt8):ZM st (commit st name).2 1:=by
 unfold commit;split
 ·exact(ZM.refl st).mono (by decide)
 ·split
  ·exact(ZM.refl st).mono (by decide)
  ·split
   ·exact(ZM.refl st).mono (by decide)
   ·exact jY _ _ _
theorem O7 (st:St)(a0 fr:List UInt8):ZM st (joinB st a0 fr).2 1:=by
 unfold joinB;split
 ·exact(ZM.refl st).mono (by decide)
 ·split
  ·exact(ZM.refl st).mono (by decide)
  ·unfold joinH
   split
   ·exact(ZM.refl st).mono (by decide)
   ·split
    ·exact(Jy _ _ _).mono (by decide)
    ·unfold joinN
     split
     ·exact(ZM.refl st).mono (by decide)
     ·split
      ·exact(ZM.refl st).mono (by decide)
      ·exact jY _ _ _
structure Raw where
 kind:Int
 br:Int
 path:Int
 n:Int
def pk_ (c n:Int):Int:=(if c<0 then-(c+1)else c) % n
def brN (c:Int):List UInt8:=([[97],[98],[99]]:List (List UInt8)).getD (pk_ c 3).toNat []
def vw:List (List UInt8):=[[110],[109],[115],[116],[120,47,110],[120,47,115],[120,47,121,47,122],[120],[113,47,114],[110,47,111]]
def pathN (c:Int):List UInt8:=vw.getD (pk_ c 10).toNat []
def bU:List (List UInt8):=[[112],[113],[114],[115,111,109,101,32,116,101,120,116],[122]]
def textN (c:Int):List UInt8:=bU.getD (pk_ c 5).toNat []
def actP (st:St)(a:Raw):St:=
 if pk_ a.kind 10=0∨pk_ a.kind 10=1 then(change st 35 (brN a.br) (pathN a.path) (pk_ a.n 200-100) []).2
 else if pk_ a.kind 10=2 then(change st 61 (brN a.br) (pathN a.path) 0 (textN a.n)).2
 else if pk_ a.kind 10=3∨pk_ a.kind 10=4 then(change st 42 (brN a.br) (pathN a.path) 0 (textN a.n)).2
 else if pk_ a.kind 10=5 then(change st 45 (brN a.br) (pathN a.path) 0 (textN a.n)).2
 else if pk_ a.kind 10=6 then(change st 0 (brN a.br) (pathN a.path) 0 []).2
 else if pk_ a.kind 10=7∨pk_ a.kind 10=8 then(commit st (brN a.br)).2
 else(joinB (commit st (brN a.br)).2 (brN a.br) (brN a.n)).2
def actsP (st:St)(l:List Raw):St:=(l.take 25).foldl actP st
theorem ZL.act {st:St}(h:ZL st)(a:Raw):ZL (actP st a):=by
 unfold actP;repeat' split
 all_goals first
  |exact h.change _ _ _ _ _
  |exact h.commit _
  |exact(h.commit _).joinB _ _
theorem fQ (st:St)(a:Raw):ZM st (actP st a) 2:=by
 unfold actP;repeat' split
 all_goals first
  |exact(Ut _ _ _ _ _ _).mono (by decide)
  |exact(qq _ _).mono (by decide)
  |exact(qq _ _).trans (O7 _ _ _)
theorem ZL.fold:∀(l:List Raw) {st:St},ZL st→ZL (l.foldl actP st)
 |[],_,h=>h
 |a::l,_,h=>ZL.fold l (h.act a)
theorem jW:∀(l:List Raw) (st:St),ZM st (l.foldl actP st) (2*l.length)
 |[],st=>ZM.refl st
 |a::l,st=>by
  have:=(fQ st a).trans (jW l (actP st a));rw[mC];exact this.mono (by omega)
theorem ZL.acts {st:St}(h:ZL st)(l:List Raw):ZL (actsP st l):=ZL.fold _ h
theorem grows_acts (st:St)(l:List Raw):ZM st (actsP st l) 50:=(jW _ st).mono (by rw[nP];omega)
end R
namespace R
def C1 (v:Int):Leaf:={path:=[110],kind:=35,n:=v,text:=[],items:=[]}
def cnt (v:Int):List Leaf:=[C1 v]
def C2 (l:List (Int×List Nat)):List Cm:=l.map fun p=>{tree:=cnt p.1,parents:=p.2}
def dK {α:Type}(f:Nat→α)(i:Nat)(v:α):Nat→α:=fun j=>if j=i then v else f j
def d9 (k:Nat)(hd:Nat→Nat)(w:Nat→Int):List Br:=(lQ k).map fun i=>{name:=bgItem i,head:=hd i,work:=cnt (w i)}
def d7 (l:List (Int×List Nat))(hd:Nat→Nat)(w:Nat→Int)(pk:List UInt8):St:={cms:=C2 l,brs:=d9 5 hd w,packed:=pk}
def val (l:List (Int×List Nat))(m:Nat):Int:=((l[m-1]?).map (·.1)).getD 0
section
variable (l:List (Int×List Nat))(hd:Nat→Nat)(w:Nat→Int)(pk:List UInt8)
end
theorem cg (v:Int):Written (cnt v)=110::32::35::(Lib.itoa v++ [10]):=by
 unfold cnt Written line written C1;simp
theorem B9:isPath [110]=true:=by decide+kernel
structure dh (l:List (Int×List Nat))(hd:Nat→Nat)(κ:Nat→Nat)(v0:Int)(live:Nat→Prop):Prop where
 first:l[0]? =some (v0,[])
 par:∀m,2≤m→m≤l.length→∃p,l[m-1]? =some p∧p.2≠ []∧∀q∈p.2,1≤q∧q<m∧(q=1∨κ q=κ m)
 head:∀i,live i→1≤hd i∧hd i≤l.length∧(hd i=1∨κ (hd i)=i)
section
variable {l:List (Int×List Nat)}{hd:Nat→Nat}{κ:Nat→Nat}{v0:Int}{live:Nat→Prop}
end
end R
namespace R
def dG (l:List (Int×List Nat))(hd:Nat→Nat)(w:Nat→Int)(live:Nat→Prop):Prop:=∀i,live i→w i=val l (hd i)
section
variable {l:List (Int×List Nat)}{hd:Nat→Nat}{κ:Nat→Nat}{v0:Int}{live:Nat→Prop}
end
def forkS (v0:Int)(k:Nat)(pk:List UInt8):St:={cms:=C2 [(v0,[])],brs:=d9 k (fun _=>1) (fun _=>v0),packed:=pk}
theorem fork5 (v0:Int){k:Nat}(h1:1≤k)(h5:k<5)(pk:List UInt8):∃a0,made (forkS v0 k pk) (bgItem k) [97] true=(0,forkS v0 (k+1) a0):=by
 rcases(by omega:k=1∨k=2∨k=3∨k=4)with rfl|rfl|rfl|rfl<;>exact⟨_,rfl⟩
def sm1:St:=(made bg0 [97] [] false).2
theorem add5 (v:Int)(h0:0<v)(h1:v≤2000):∃pk,change sm1 35 [97] [110] v []=(0,{cms:=[],brs:=[{name:=[97],head:=0,work:=cnt v}],packed:=pk}):=by
 unfold change;rw[show fndI sm1.brs [97]=0 from rfl,if_neg (by decide),B9,if_neg (by simp),show workOf sm1 [97]=[]from rfl];have e:valV 35 [] (at_ [] [110]) [110] v []=(0,C1 v):=by
  unfold valV;rw[if_neg (by decide),if_neg (by decide),if_pos rfl];unfold addV;rw[show at_ [] [110]=none [110]from rfl,if_neg (by simp[none]),show blocked [] [110]=false from rfl,if_neg (by simp),if_neg (by simp only[none];omega),if_neg (by simp)];simp[none,C1]
 rw[e,if_pos rfl];exact⟨_,rfl⟩
theorem commit0 (v:Int)(pk:List UInt8):∃a0,commit {cms:=[],brs:=[{name:=[97],head:=0,work:=cnt v}],packed:=pk} [97]=((1,0),forkS v 1 a0):=by
 unfold commit;rw[show fndI [({name:=[97],head:=0,work:=cnt v}:Br)] [97]=0 from rfl,if_neg (by decide)];have hw:¬Written (cnt v)=Written []:=by rw[cg];intro h;cases h
 rw[show workOf {cms:=[],brs:=[{name:=[97],head:=0,work:=cnt v}],packed:=pk} [97]=cnt v from rfl,show headOf {cms:=[],brs:=[{name:=[97],head:=0,work:=cnt v}],packed:=pk} [97]=0 from rfl,show treeOf {cms:=[],brs:=[{name:=[97],head:=0,work:=cnt v}],packed:=pk} 0=[]from rfl,if_neg hw];exact⟨_,rfl⟩
end R
namespace R
theorem kU (l:List Br)(n:List UInt8):fnd l n=(l.map (·.name)).findIdx (·==n):=by
 unfold fnd;rw[wF];rfl
theorem fu {l:List Br}{ns:List (List UInt8)}(h:l.map (·.name)=ns):l.length=ns.length:=by rw[←h,pA]
theorem ZL.fnd {st:St}(h:ZL st){n:List UInt8}(hn:n=[97]∨n=[98]∨n=[99]):fnd st.brs n<st.brs.length∧¬fndI st.brs n<0:=by
 have hl:st.brs.length=3:=fu h.names;have:R.fnd st.brs n<st.brs.length:=by
  rw[kU,h.names,hl];rcases hn with rfl|rfl|rfl<;>decide
 refine⟨this,?_⟩;unfold fndI;rw[if_pos this];omega
def Com (st:St)(n:List UInt8):Prop:=Written (workOf st n)=Written (treeOf st (headOf st n))
theorem Xl (st:St)(name n:List UInt8)(m:Nat):fnd (setHead st name m).brs n=fnd st.brs n:=by
 rw[kU,kU];congr 1
 exact vr _ _ _ fun hi=>(fnd_name _ _ hi).symm
theorem Vm (st:St)(name:List UInt8)(m:Nat)(hf:fnd st.brs name<st.brs.length):workOf (setHead st name m) name=treeOf st m∧headOf (setHead st name m) name=m:=by
 unfold workOf headOf;rw[Xl];have e:(setHead st name m).brs[fnd st.brs name]? =some {name:=name,head:=m,work:=treeOf st m}:=by
  unfold setHead;simp only;rw[wB,if_pos rfl,if_pos hf]
 rw[e];exact⟨rfl,rfl⟩
theorem QY (st:St)(name n:List UInt8)(m:Nat)(hf:fnd st.brs name<st.brs.length)(hn:n≠name)(a0:fnd st.brs n<st.brs.length):workOf (setHead st name m) n=workOf st n∧headOf (setHead st name m) n=headOf st n:=by
 unfold workOf headOf;rw[Xl];have a1:fnd st.brs name≠fnd st.brs n:=by
  intro e;have h1:=fnd_name _ _ hf;have h2:=fnd_name _ _ a0;apply hn;rw[←h2,←h1];simp only[e]
 have e:(setHead st name m).brs[fnd st.brs n]? =st.brs[fnd st.brs n]? :=by
  unfold setHead;simp only;rw[wB,if_neg a1]
 rw[e];exact⟨rfl,rfl⟩
theorem xo (st:St)(c:Cm)(m:Nat)(h:m≤st.cms.length):treeOf (keepC st c) m=treeOf st m:=by
 unfold treeOf keepC;split
 ·rfl
 ·simp only
  rw[wG (by omega)]
theorem C0 (st:St)(name:List UInt8)(c:Cm)(hf:fnd st.brs name<st.brs.length):Com (down st name c) name:=by
 obtain⟨e1,e2⟩:=Vm (keepC st c) name (st.cms.length+1) hf;unfold Com down;rw[e1,e2];rfl
theorem Je (st:St)(hi:Inv st)(name n:List UInt8)(c:Cm)(hf:fnd st.brs name<st.brs.length)(hn:n≠name)(a0:fnd st.brs n<st.brs.length)(h:Com st n):Com (down st name c) n:=by
 obtain⟨e1,e2⟩:=QY (keepC st c) name n (st.cms.length+1) hf hn a0;unfold Com down;rw[e1,e2];have e3:treeOf (setHead (keepC st c) name (st.cms.length+1)) (headOf (keepC st c) n)=treeOf (keepC st c) (headOf st n):=rfl;rw[e3,xo _ _ _ (Zh hi n)];exact h
theorem vU {st:St}(h:ZL st){n:List UInt8}(hn:n=[97]∨n=[98]∨n=[99])(a0:st.cms.length<60):Com (commit st n).2 n∧((commit st n).1.2=0∨(commit st n).1.2=9):=by
 obtain⟨h1,h2⟩:=h.fnd hn;unfold commit;rw[if_neg h2];split
 ·rename_i e;exact⟨e,.inr rfl⟩
 ·rw[if_neg (by omega)]
  exact⟨C0 _ _ _ h1,.inl rfl⟩
theorem qs {st:St}(h:ZL st)(hi:Inv st){n m:List UInt8}(hn:n=[97]∨n=[98]∨n=[99])(hm:m=[97]∨m=[98]∨m=[99])(a0:m≠n)(hc:Com st m):Com (commit st n).2 m:=by
 obtain⟨h1,h2⟩:=h.fnd hn;obtain⟨h3,h4⟩:=h.fnd hm;unfold commit;rw[if_neg h2];split
 ·exact hc
 ·split
  ·exact hc
  ·exact Je _ hi _ _ _ h1 a0 h3 hc
structure dJ (cms:List Cm)(n:Nat)(h:List Nat):Prop where
 fall:h.Pairwise (fun a b=>b<a)
 first:h[0]? =some n
 last:h[h.length-1]? =some 1
 mem:∀k∈h,mark cms n k=true∧1≤k∧k≤n
theorem fE (cms:List Cm)(a b:Nat):latC cms a b=latC cms b a:=by
 have e:∀i,comm cms a b i=comm cms b a i:=fun i=>by unfold comm;exact Bool.and_comm _ _
 unfold latC;congr 1
 funext i
 unfold isLast lastIn;simp only[e]
theorem baseC_comm {cms:List Cm}(hw:WfC cms)(a b:Nat)(ha:a≤cms.length)(hb:b≤cms.length):baseC cms a b=baseC cms b a:=by
 rw[Jl hw a b ha,Jl hw b a hb,fE]
theorem Qq {st:St}{k:Nat}(hk:1≤k)(hh:k≤st.cms.length):treeAt st k=(Written (treeOf st k),0):=by
 unfold treeAt;rw[if_neg (by omega)];rfl
def dv (st:St):St:=(commit (commit (commit st [97]).2 [98]).2 [99]).2
theorem liv0 (pk:List UInt8):ZL (forkS 7 3 pk):=⟨rfl,j0a 1,fun b hb=>by
 obtain⟨i,_,rfl⟩:=pH.1 hb;exact j0a _,fun i hi h1=>by
 have:i<1:=hi;omega⟩
end R
namespace R
def SumA (v0 sum:Int)(na nd nl:Nat)(st:St):Prop:=∃l hd κ w pk,st=d7 l hd w pk∧dh l hd κ v0 (fun j=>j<5)∧(∀j,j<nd→w j=val l (hd j))∧sum=w 0+(w 1-v0)+(w 2-v0)+(w 3-v0)+(w 4-v0)∧(∀j,j<5→ -(1000*(na:Int))-2000≤w j∧w j≤2000+1000*(na:Int))∧l.length≤nl
def dt (w:Nat→Int)(v0:Int)(L:List Nat):Int:=(L.map fun j=>w j-v0).sum
def SumB (v0 sum:Int)(L:List Nat)(nl:Nat)(st:St):Prop:=∃l hd κ w pk,st=d7 l hd w pk∧dh l hd κ v0 (fun j=>j=0∨j∈L)∧dG l hd w (fun j=>j=0∨j∈L)∧sum=w 0+dt w v0 L∧(∀j,j<5→j≠0→ -30000≤w j∧w j≤30000)∧(-30000-40000*(4-(L.length:Int))≤w 0∧w 0≤30000+40000*(4-(L.length:Int)))∧(-2000≤v0∧v0≤2000)∧l.length≤nl
end R
namespace R
structure Rc where
 letter:UInt8
 cm:Cm
 head:Nat
 name:List UInt8
def Rc.body (r:Rc):List UInt8:=if r.letter=67 then bodyC r.cm else if r.letter=66 then mA r.head::r.name else r.name
def Rc.bytes (r:Rc):List UInt8:=record r.letter r.body
def headR (st:St)(name:List UInt8)(n:Nat):St:=if fnd st.brs name<st.brs.length then setHead st name n else headNew st {name:=name,head:=n,work:=treeOf st n}
def Rc.run (st:St)(r:Rc):St:=if r.letter=67 then keepC st r.cm else if r.letter=66 then headR st r.name r.head else(dropped st r.name).2
structure CmOk (st:St)(c:Cm):Prop where
 few:st.cms.length<60
 tree:OkT c.tree
 par:∀p∈c.parents,1≤p∧p≤st.cms.length
 two:c.parents.length≤2
 nodup:c.parents.Nodup
def Rc.ok (st:St)(r:Rc):Prop:=(r.letter=67∧CmOk st r.cm)∨(r.letter=66∧isName r.name=true∧r.head≤st.cms.length∧(fnd st.brs r.name<st.brs.length∨st.brs.length<6))∨(r.letter=68∧fnd st.brs r.name<st.brs.length)
def OkRs:St→List Rc→Prop
 |_,[]=>True
 |st,r::rs=>r.ok st∧OkRs (r.run st) rs
def runs (st:St)(rs:List Rc):St:=rs.foldl Rc.run st
def bytesRs (rs:List Rc):List UInt8:=rs.flatMap Rc.bytes
def rcC (c:Cm):Rc:={letter:=67,cm:=c,head:=0,name:=[]}
def rcB (n:Nat)(name:List UInt8):Rc:={letter:=66,cm:={tree:=[],parents:=[]},head:=n,name:=name}
def rcD (name:List UInt8):Rc:={letter:=68,cm:={tree:=[],parents:=[]},head:=0,name:=name}
theorem OkRs.snoc {r:Rc}:∀{rs:List Rc} {st:St},OkRs st rs→r.ok (runs st rs)→OkRs st (rs++ [r])
 |[],_,_,h=>⟨h,trivial⟩
 |_::_,_,h,h2=>⟨h.1,OkRs.snoc h.2 h2⟩
theorem OkRs.take:∀(k:Nat) {rs:List Rc} {st:St},OkRs st rs→OkRs st (rs.take k)
 |0,_,_,_=>by rw[List.take_zero];trivial
 |_+1,[],_,_=>trivial
 |k+1,_::_,_,h=>⟨h.1,OkRs.take k h.2⟩
theorem O5 {st:St}(h:Inv st){name:List UInt8}{n:Nat}(hn:isName name=true)(hh:n≤st.cms.length)(hm:st.brs.length<6)(a4:¬fnd st.brs name<st.brs.length):Inv (headNew st {name:=name,head:=n,work:=treeOf st n}):=by
 generalize hb:({name:=name,head:=n,work:=treeOf st n}:Br)=b;have a2:b.name=name:=by rw[←hb]
 have a1:=uk h.sort b (by rw[a2];exact a4);have a0:∀z∈insB st.brs b,z=b∨z∈st.brs:=fun z hz=>by rw[a1]at hz;exact yN hz
 have a3:(insB st.brs b).length=st.brs.length+1:=by
  have a5:pos st.brs b.name≤st.brs.length:=List.findIdx_le_length;simp only[insB,mB,nP,mC,List.length_drop];omega
 refine⟨by show(insB st.brs b).length≤6;omega,fun z hz=> ?_,?_,fun z hz=> ?_,fun z hz=> ?_,h.few,h.trees,h.pars,h.two⟩
 ·rcases a0 z hz with rfl|hz
  ·rw[a2];exact hn
  ·exact h.names z hz
 ·show zW Br.name (insB st.brs b)
  rw[a1];exact xF rfl h.sort
 ·rcases a0 z hz with rfl|hz
  ·rw[←hb];exact Ys h _
  ·exact h.work z hz
 ·rcases a0 z hz with rfl|hz
  ·rw[←hb];exact hh
  ·exact h.heads z hz
theorem Rc.inv {st:St}(h:Inv st){r:Rc}(hr:r.ok st):Inv (r.run st):=by
 unfold Rc.run;rcases hr with⟨e,hc⟩|⟨e,h1,h2,h3⟩|⟨e,_⟩
 ·rw[if_pos e];exact Qz h _ hc.few hc.tree hc.par hc.two
 ·rw[if_neg (by rw[e];decide),if_pos e]
  unfold headR;split
  ·rename_i hf;exact setHead_inv h _ _ h2 hf
  ·rename_i hf;exact O5 h h1 h2 (h3.resolve_left hf) hf
 ·rw[if_neg (by rw[e];decide),if_neg (by rw[e];decide)];exact Oy h _
theorem OkRs.inv:∀{rs:List Rc} {st:St},Inv st→OkRs st rs→Inv (runs st rs)
 |[],_,hi,_=>hi
 |r::rs,st,hi,h=>OkRs.inv (rs:=rs) (st:=r.run st) (Rc.inv hi h.1) h.2
def ZR (st:St)(b:Br):Br:={b with work:=treeOf st b.head}
def clean (st:St):St:={st with brs:=st.brs.map (ZR st)}
theorem GJ (l:List Br)(f:Br→Br)(hf:∀b,(f b).name=b.name)(n:List UInt8):fnd (l.map f) n=fnd l n:=by
 unfold fnd;rw[wF];congr 1
 funext b
 show((f b).name==n)=_;rw[hf]
theorem CH (l:List Br)(f:Br→Br)(hf:∀b,(f b).name=b.name)(n:List UInt8):pos (l.map f) n=pos l n:=by
 unfold pos;rw[wF];congr 1
 funext b
 show(!less n (f b))=_;unfold less;rw[hf]
theorem kV (st:St)(n:List UInt8):fnd (clean st).brs n=fnd st.brs n:=GJ st.brs (ZR st) (fun _=>rfl) n
theorem Qx (st:St):(clean st).brs.length=st.brs.length:=pA _
theorem set_same {α β:Type}(l:List α)(f:α→β)(i:Nat)(x:α)(hx:∀h:i<l.length,f x=f l[i]):(l.set i x).map f=l.map f:=by
 apply rH;intro j;rw[rN,rN,wB];split
 ·rename_i e
  subst e;split
  ·rename_i h
   rw[j0d h];simp[hx h]
  ·rename_i h
   rw[wC (by omega)]
 ·rfl
theorem JH (st:St)(i:Nat)(t:List Leaf):clean (setWork st i t)=clean st:=by
 have e:(setWork st i t).brs.map (ZR st)=st.brs.map (ZR st):=by
  unfold setWork
  cases e:st.brs[i]? with
  |none=>rfl
  |some b=>
   obtain⟨hi,rfl⟩:=wD.1 e;exact set_same _ _ _ _ fun _=>rfl
 show({cms:=st.cms,brs:=(setWork st i t).brs.map (ZR st),packed:=st.packed}:St)=_;rw[e];rfl
theorem UH (st:St)(kind:Int)(br p:List UInt8)(n:Int)(text:List UInt8):clean (change st kind br p n text).2=clean st:=by
 rcases kZ st kind br p n text with e|⟨i,t,e⟩<;>rw[e]
 exact JH st i t
theorem JJ (st:St)(name:List UInt8)(n:Nat):clean (headNew st {name:=name,head:=n,work:=treeOf st n})=headNew (clean st) {name:=name,head:=n,work:=treeOf st n}:=by
 have e:(insB st.brs {name:=name,head:=n,work:=treeOf st n}).map (ZR st)=insB (st.brs.map (ZR st)) {name:=name,head:=n,work:=treeOf st n}:=by
  unfold insB;rw[CH st.brs (ZR st) (fun _=>rfl),List.map_append,List.map_cons,List.map_take,List.map_drop];rfl
 show({cms:=st.cms,brs:=(insB st.brs {name:=name,head:=n,work:=treeOf st n}).map (ZR st),packed:=_}:St)=_;rw[e];rfl
theorem JI (st:St)(name:List UInt8)(n:Nat):clean (setHead st name n)=setHead (clean st) name n:=by
 have e:(st.brs.set (fnd st.brs name) {name:=name,head:=n,work:=treeOf st n}).map (ZR st)=(st.brs.map (ZR st)).set (fnd (st.brs.map (ZR st)) name) {name:=name,head:=n,work:=treeOf st n}:=by
  rw[GJ st.brs (ZR st) (fun _=>rfl),List.map_set];rfl
 show({cms:=st.cms,brs:=(st.brs.set (fnd st.brs name) {name:=name,head:=n,work:=treeOf st n}).map (ZR st),packed:=_}:St)=_;rw[e];rfl
theorem OK {st:St}(hi:Inv st)(c:Cm):clean (keepC st c)=keepC (clean st) c:=by
 have e:st.brs.map (ZR (keepC st c))=st.brs.map (ZR st):=wH fun b hb=>by
  unfold ZR;rw[xo st c b.head (hi.heads b hb)]
 show({cms:=st.cms++ [c],brs:=st.brs.map (ZR (keepC st c)),packed:=_}:St)=_;rw[e];rfl
def Zc (st:St):Prop:=∃rs,OkRs bg0 rs∧runs bg0 rs=clean st∧st.packed=bytesRs rs
theorem inv0:Inv bg0:=⟨by decide,by simp[bg0],List.Pairwise.nil,by simp[bg0],by simp[bg0],by decide,by simp[bg0],fun i h=>by simp[bg0]at h,by simp[bg0]⟩
theorem BU:Zc bg0:=⟨[],trivial,rfl,rfl⟩
theorem Zc.snoc {st st' :St}(h:Zc st)(r:Rc)(hr:r.ok (clean st))(hc:r.run (clean st)=clean st')(hp:st'.packed=st.packed++r.bytes):Zc st' :=by
 obtain⟨rs,h1,h2,h3⟩:=h;refine⟨rs++ [r],h1.snoc (by rw[h2];exact hr),?_,?_⟩
 ·unfold runs at h2⊢
  rw[List.foldl_append,h2];exact hc
 ·unfold bytesRs at h3⊢
  rw[hp,h3,List.flatMap_append];simp
section
variable {st:St}
theorem Zc.change (h:Zc st)(kind:Int)(br p:List UInt8)(n:Int)(text:List UInt8):Zc (change st kind br p n text).2:=by
 obtain⟨rs,h1,h2,h3⟩:=h;exact⟨rs,h1,by rw[UH];exact h2,by rw[(Jf st kind br p n text).2];exact h3⟩
theorem Zc.headNew (h:Zc st){name:List UInt8}{n:Nat}(hn:isName name=true)(hh:n≤st.cms.length)(hm:st.brs.length<6)(a0:¬fnd st.brs name<st.brs.length):Zc (headNew st {name:=name,head:=n,work:=treeOf st n}):=by
 refine h.snoc (rcB n name) (.inr (.inl ⟨rfl,hn,hh,.inr (by rw[Qx];exact hm)⟩)) ?_ rfl;rw[JJ];show headR (clean st) name n=_;unfold headR;rw[kV,Qx,if_neg a0];rfl
theorem Zc.setHead (h:Zc st)(hi:Inv st){name:List UInt8}{n:Nat}(hh:n≤st.cms.length)(hf:fnd st.brs name<st.brs.length):Zc (setHead st name n):=by
 have hn:isName name=true:=by
  have:=hi.names _ (j0c hf);rwa[fnd_name]at this
 refine h.snoc (rcB n name) (.inr (.inl ⟨rfl,hn,hh,.inl (by rw[kV,Qx];exact hf)⟩)) ?_ rfl;rw[JI];show headR (clean st) name n=_;unfold headR;rw[kV,Qx,if_pos hf]
theorem Zc.keepC (h:Zc st)(hi:Inv st){c:Cm}(hc:CmOk st c):Zc (keepC st c):=by
 refine h.snoc (rcC c) (.inl ⟨rfl,⟨hc.few,hc.tree,hc.par,hc.two,hc.nodup⟩⟩) ?_ rfl;rw[OK hi];rfl
theorem Zc.made (h:Zc st)(hi:Inv st)(name fr:List UInt8)(a0:Bool):Zc (made st name fr a0).2:=by
 unfold R.made;split
 ·exact h
 ·rename_i hn
  split
  ·exact h
  ·split
   ·exact h
   ·rename_i hf
    split
    ·exact h
    ·rename_i hm
     refine h.headNew (by simpa using hn) ?_ (by omega) fun e=>hf (by rw[fndI,if_pos e];omega)
     split
     ·exact Zh hi fr
     ·omega
theorem Zc.down (h:Zc st)(hi:Inv st){name:List UInt8}{c:Cm}(hc:CmOk st c)(hf:fnd st.brs name<st.brs.length):Zc (down st name c):=
 (h.keepC hi hc).setHead (Qz hi c hc.few hc.tree hc.par hc.two) (by show _≤(st.cms++ [c]).length;rw[mB];simp) hf
theorem Zc.commit (h:Zc st)(hi:Inv st)(name:List UInt8):Zc (commit st name).2:=by
 unfold R.commit;split
 ·exact h
 ·rename_i hf
  split
  ·exact h
  ·split
   ·exact h
   ·rename_i hl
    obtain⟨h1,h2⟩:=Qw hi name;have a0 :=kT hf;refine h.down hi ⟨by omega,?_,h1,h2,by unfold parsOf;split<;>simp⟩ a0;show OkT (workOf st name);unfold workOf;rw[j0d a0];exact hi.work _ (j0c a0)
theorem Zc.joinB (h:Zc st)(hi:Inv st)(a0 fr:List UInt8):Zc (joinB st a0 fr).2:=by
 unfold R.joinB;split
 ·exact h
 ·rename_i hf
  have a1 :=kT (st:=st) (n:=a0) fun e=>hf (.inl e)
  split
  ·exact h
  ·have ha:=Zh hi a0
   have hb:=Zh hi fr;generalize headOf st a0=a at*;generalize headOf st fr=b at*;unfold joinH;split
   ·exact h
   ·rename_i h1
    split
    ·exact h.setHead hi hb a1
    ·rename_i h2
     unfold joinN;split
     ·exact h
     ·split
      ·exact h
      ·refine h.down hi ⟨by omega,jU hi a b,fun p hp=> ?_,by simp,?_⟩ a1
       ·simp only[List.mem_cons,List.not_mem_nil,or_false]at hp
        rcases hp with rfl|rfl<;>omega
       ·have:a≠b:=Gx (by omega) fun e=>h1 (.inr e)
        simpa using this
theorem bw (hi:Inv st)(a:Raw):Inv (actP st a):=by
 unfold actP;repeat' split
 all_goals first
  |exact Y2 hi _ _ _ _ _ (by simp)
  |exact YB hi _
  |exact QA (YB hi _) _ _
theorem Zc.act (h:Zc st)(hi:Inv st)(a:Raw):Zc (actP st a):=by
 unfold actP;repeat' split
 all_goals first
  |exact h.change _ _ _ _ _
  |exact h.commit hi _
  |exact(h.commit hi _).joinB (YB hi _) _ _
end
theorem Zc.fold:∀(l:List Raw) {st:St},Inv st→Zc st→Zc (l.foldl actP st)
 |[],_,_,h=>h
 |a::l,_,hi,h=>Zc.fold l (bw hi a) (h.act hi a)
theorem Zc.acts {st:St}(h:Zc st)(hi:Inv st)(l:List Raw):Zc (actsP st l):=Zc.fold _ hi h
theorem pack_liv {s1 s2 s3 s4:St}{r1 r3 r4:Int}{r2:Int×Int}(e1:R.change (R.made bg0 [97] [] false).2 35 [97] [110] 7 []=(r1,s1))(e2:R.commit s1 [97]=(r2,s2))(e3:R.made s2 [98] [97] true=(r3,s3))(e4:R.made s3 [99] [97] true=(r4,s4)):Zc s4∧Inv s4:=by
 have i0:=Q4 inv0 [97] [] false;have p0:=BU.made inv0 [97] [] false;have i1:=Y2 i0 35 [97] [110] 7 [] (by simp);have p1:=p0.change 35 [97] [110] 7 [];rw[e1]at p1;rw[e1]at i1;have i2:=YB i1 [97];have p2:=p1.commit i1 [97];rw[e2]at i2 p2;have i3:=Q4 i2 [98] [97] true;have p3:=p2.made i2 [98] [97] true;rw[e3]at i3 p3;have i4:=Q4 i3 [99] [97] true;have p4:=p3.made i3 [99] [97] true;rw[e4]at i4 p4;exact⟨p4,i4⟩
theorem F0 {st:St}(h:∀b∈st.brs,b.work=treeOf st b.head):clean st=st:=by
 have e:st.brs.map (ZR st)=st.brs:=by
  conv=>rhs;rw[←List.map_id st.brs]
  exact wH fun b hb=>by unfold ZR;rw[←h b hb];rfl
 unfold clean;rw[e]
theorem fx {x:Leaf}(h:OkL x):(line x).length≤300:=by
 have h1:x.path.length≤100:=by
  have:=h.path;simp only[isPath,mR,decide_eq_true_eq]at this;exact this.1
 have h2:=Zr _ h.text;have h3:(joinI x.items).length≤x.items.length*21:=by
  have key:∀l:List (List UInt8),(∀i∈l,i.length≤20)→(joinF l).length≤l.length*21:=by
   intro l;induction l with
   |nil=>intro _;simp[joinF]
   |cons y r ih=>
    intro hl;have:=hl y (by simp);have:=ih fun i hi=>hl i (by simp[hi])
    simp only[joinF,mB,mC];omega
  have hl:∀i∈x.items,i.length≤20:=fun i hi=>Zr _ (h.item i hi).1
  match hx:x.items with
  |[]=>simp[joinI]
  |y::r=>
   rw[hx]at hl;have:=hl y (by simp);have:=key r fun i hi=>hl i (by simp[hi])
   rw[joinI_eq];simp only[mB,mC];omega
 have h4:=h.many;have h5:=Lib.itoa_length_le x.n (by have:=h.lo;omega) (by have:=h.hi;omega);unfold line written;split
 ·simp only[mB,mC,mS];omega
 ·split<;>(simp only[mB,mC,mS];omega)
theorem kh:∀(t:List Leaf),(∀x∈t,OkL x)→(Written t).length≤t.length*300
 |[],_=>by simp[Written]
 |x::t,h=>by
  have h1:=fx (h x (by simp));have h2:=kh t fun z hz=>h z (by simp[hz])
  simp only[Written,List.flatMap_cons,mB,mC]at h2⊢;omega
theorem Rc.body_len {st:St}(hi:Inv st){r:Rc}(h:r.ok st):r.body.length≤10000:=by
 unfold Rc.body;rcases h with⟨e,hc⟩|⟨e,h1,h2,h3⟩|⟨e,hf⟩
 ·rw[if_pos e]
  have:=kh _ hc.tree.ok;have:=hc.tree.few;have:=hc.two;simp only[bodyC,mC,mB,pA];omega
 ·rw[if_neg (by rw[e];decide),if_pos e]
  have:=ZK _ h1;simp only[mC];omega
 ·rw[if_neg (by rw[e];decide),if_neg (by rw[e];decide)]
  have:=ZK _ (hi.names _ (j0c hf));rw[fnd_name]at this;omega
def recN (p:List UInt8):Nat:=256*(p.getD 1 0).toNat+(p.getD 2 0).toNat
def whole (p:List UInt8):Bool:=decide (3≤p.length)&&(decide (3+recN p<p.length)&&decide ((p.getD (3+recN p) 0).toNat=(1+sumB (p.take (3+recN p))) % 251))
theorem record_len (c:UInt8)(body:List UInt8):(record c body).length=body.length+4:=by simp[record,recHead]
theorem CC (c:UInt8)(body q:List UInt8)(hb:body.length<65536)(_h3:3≤q.length)(hq:∀i,i<3→q[i]? =(record c body)[i]?):recN q=body.length:=by
 have e1:q.getD 1 0=mA (body.length/256):=by rw[iJ,hq 1 (by omega)];rfl
 have e2:q.getD 2 0=mA (body.length % 256):=by rw[iJ,hq 2 (by omega)];rfl
 unfold recN;rw[e1,e2,nT,nT];omega
theorem whole_rec (c:UInt8)(body rest:List UInt8)(hb:body.length<65536):recN (record c body++rest)=body.length∧whole (record c body++rest)=true:=by
 have hl:=record_len c body;have hr:=CC c body (record c body++rest) hb (by rw[mB];omega) fun i hi=>wG (by omega)
 refine⟨hr,?_⟩;unfold whole;rw[hr];have hh:(recHead c body).length=3+body.length:=by simp[recHead];omega
 have e1:(record c body++rest).take (3+body.length)=recHead c body:=by
  unfold record;rw[rD,List.take_append_of_le_length (by omega),List.take_of_length_le (by omega)]
 have e2:(record c body++rest).getD (3+body.length) 0=mA ((1+sumB (recHead c body)) % 251):=by
  unfold record;rw[iJ,rD,List.getElem?_append_right (by omega),hh];simp
 rw[e1,e2,nT,mB,hl];simp only[mR,decide_eq_true_eq];omega
theorem whole_nil:whole []=false:=rfl
end R
namespace R
def lvA (st:St)(k:Nat):St:=if k=0 then st else if k=1 then(commit st [97]).2 else if k=2 then(commit (commit st [97]).2 [98]).2 else dv st
structure Lived (st:St):Prop where
 liv:ZL st
 com:∀n,(n=[97]∨n=[98]∨n=[99])→Com st n
 len:st.cms.length≤54
 pack:Zc st
theorem Qh {st:St}(h:ZL st)(hi:Inv st){n:List UInt8}(hn:n=[97]∨n=[98]∨n=[99])(hl:st.cms.length<60):ZL (commit st n).2∧Inv (commit st n).2∧(commit st n).2.cms.length≤st.cms.length+1:=⟨h.commit n,YB hi n,(qq st n).len⟩
theorem lived_of {st:St}(h:ZL st)(hi:Inv st)(hl:st.cms.length≤51)(hp:Zc st):
  (∀k,k<3→((commit (lvA st k) (([[97],[98],[99]]:List (List UInt8)).getD k [])).1.2=0∨(commit (lvA st k) (([[97],[98],[99]]:List (List UInt8)).getD k [])).1.2=9)∧(commit (lvA st k) (([[97],[98],[99]]:List (List UInt8)).getD k [])).2=lvA st (k+1))∧Lived (lvA st 3):=by
 have ha:([97]:List UInt8)=[97]∨([97]:List UInt8)=[98]∨([97]:List UInt8)=[99]:= .inl rfl;have hb:([98]:List UInt8)=[97]∨([98]:List UInt8)=[98]∨([98]:List UInt8)=[99]:= .inr (.inl rfl);have hc:([99]:List UInt8)=[97]∨([99]:List UInt8)=[98]∨([99]:List UInt8)=[99]:= .inr (.inr rfl);obtain⟨l1,i1,n1⟩:=Qh h hi ha (by omega);obtain⟨l2,i2,n2⟩:=Qh l1 i1 hb (by omega);obtain⟨l3,i3,n3⟩:=Qh l2 i2 hc (by omega);obtain⟨c1,r1⟩:=vU h ha (by omega);obtain⟨c2,r2⟩:=vU l1 hb (by omega);obtain⟨c3,r3⟩:=vU l2 hc (by omega);have a0:=qs l1 i1 hb ha (by decide) c1;have a1:=qs l2 i2 hc ha (by decide) a0;have a2:=qs l2 i2 hc hb (by decide) c2;refine⟨fun k hk=> ?_,⟨l3,fun n hn=> ?_,by show(commit _ _).2.cms.length≤54;omega,((hp.commit hi _).commit i1 _).commit i2 _⟩⟩
 ·rcases(by omega:k=0∨k=1∨k=2)with rfl|rfl|rfl
  ·exact⟨r1,rfl⟩
  ·exact⟨r2,rfl⟩
  ·exact⟨r3,rfl⟩
 ·rcases hn with rfl|rfl|rfl
  ·exact a1
  ·exact a2
  ·exact c3
theorem brN_small (k:Nat)(hk:k<3):brN (k:Int)=([[97],[98],[99]]:List (List UInt8)).getD k []:=by
 rcases(by omega:k=0∨k=1∨k=2)with rfl|rfl|rfl<;>rfl
theorem brN_abc (c:Int):brN c=[97]∨brN c=[98]∨brN c=[99]:=by
 unfold brN;have h1:0≤pk_ c 3:=wI _ (by decide);have h2:pk_ c 3<3:=wJ _ (by decide);rcases(by omega:(pk_ c 3).toNat=0∨(pk_ c 3).toNat=1∨(pk_ c 3).toNat=2)with e|e|e<;>rw[e]
 ·exact .inl rfl
 ·exact .inr (.inl rfl)
 ·exact .inr (.inr rfl)
end R
namespace R
def zC (t:List Leaf):Prop:=∀x∈t,x.path∈vw
theorem zC.nil:zC []:=fun x hx=>by simp at hx
theorem ou (x:Leaf):∀(d:Bool) (l:List Leaf),∀z∈setL x d l,z=x∨z∈l
 |d,[],z,hz=>by
  unfold setL at hz;split at hz
  ·simp at hz
  ·exact .inl (by simpa using hz)
 |d,y::ys,z,hz=>by
  unfold setL at hz;rcases nJ.1 hz with h|h
  ·split at h
   ·exact .inl (by simpa using h)
   ·simp at h
  ·rcases nJ.1 h with h|h
   ·split at h
    ·simp at h
    ·exact .inr (by simp at h;simp[h])
   ·rcases ou x _ ys z h with h|h
    ·exact .inl h
    ·exact .inr (hU _ h)
theorem zC.set {t:List Leaf}(h:zC t){x:Leaf}(hx:x.path∈vw):zC (set t x):=fun z hz=>by
 rcases ou x _ t z hz with rfl|hz
 ·exact hx
 ·exact h z hz
theorem zC.fold:∀(l a0:List Leaf),zC l→zC a0→zC (l.foldl R.set a0)
 |[],a0,_,h=>h
 |x::l,a0,hl,h=>zC.fold l _ (fun z hz=>hl z (hU _ hz)) (h.set (hl x (eY ..)))
theorem zC.append {s t:List Leaf}(h1:zC s)(h2:zC t):zC (s++t):=fun x hx=>(nJ.1 hx).elim (h1 x) (h2 x)
theorem zC.joinT {a b c:List Leaf}(ha:zC a)(hb:zC b)(hc:zC c):zC (joinT a b c).1:=by
 have hp:∀p∈allP a b c,p∈vw:=fun p hp=>by
  obtain⟨z,hz,rfl⟩:=pH.1 hp;exact zC.fold _ _ (ha.append (hb.append hc)) zC.nil z hz
 have ho:zC (outJ a b c (allP a b c)):=fun x hx=>by
  obtain⟨p,h1,h2⟩:=List.mem_flatMap.1 hx;unfold leafJ at h2;split at h2
  ·simp at h2
  ·have e:x={(valJ a b c p).1 with path:=p}:=by simpa using h2
   rw[e];exact hp p h1
 unfold R.joinT joinP;split
 ·exact zC.nil
 ·unfold endJ
  split
  ·exact zC.nil
  ·split
   ·exact zC.nil
   ·exact ho
theorem zC.treeC {cms:List Cm}(h:∀c∈cms,zC c.tree)(n:Nat):zC (treeC cms n):=by
 unfold R.treeC;split
 ·exact zC.nil
 ·cases e:cms[n-1]? with
  |none=>exact zC.nil
  |some c=>exact h c (iK e)
theorem zC.togF {base:Nat→Nat→List Leaf×Int}{cms:List Cm}(h:∀c∈cms,zC c.tree)(hb:∀a b,zC (base a b).1):∀(l:List Nat) (p:Nat) (t:List Leaf),zC t→zC (togF base cms p t l).1
 |[],p,t,ht=>ht
 |n::r,p,t,ht=>by
  unfold R.togF;split
  ·exact zC.nil
  ·split
   ·exact zC.nil
   ·exact zC.togF h hb r n _ ((hb p n).joinT ht (zC.treeC h n))
theorem zC.baseF {cms:List Cm}(h:∀c∈cms,zC c.tree):∀(f a b:Nat),zC (baseF cms f a b).1
 |0,_,_=>zC.nil
 |f+1,a,b=>by
  show zC (togL (R.baseF cms f) cms (latC cms a b)).1
  cases latC cms a b with
  |nil=>exact zC.nil
  |cons n r=>exact zC.togF h (zC.baseF h f) r n _ (zC.treeC h n)
structure PathI (st:St):Prop where
 work:∀b∈st.brs,zC b.work
 trees:∀c∈st.cms,zC c.tree
theorem PathI.workOf {st:St}(h:PathI st)(n:List UInt8):zC (workOf st n):=by
 unfold R.workOf
 cases e:st.brs[fnd st.brs n]? with
 |none=>exact zC.nil
 |some b=>exact h.work b (iK e)
theorem PathI.treeOf {st:St}(h:PathI st)(n:Nat):zC (treeOf st n):=zC.treeC h.trees n
theorem PathI.setWork {st:St}(h:PathI st)(i:Nat){t:List Leaf}(ht:zC t):PathI (setWork st i t):=by
 refine⟨fun b hb=> ?_,h.trees⟩;unfold R.setWork at hb
 cases e:st.brs[i]? with
 |none=>rw[e]at hb;exact h.work b hb
 |some c=>
  rw[e]at hb;rcases rQ hb with hb|hb
  ·exact h.work b hb
  ·rw[hb];exact ht
theorem f_ (x:Leaf)(path:List UInt8)(h:(delV x path).1=0):(delV x path).2.path=path:=by
 unfold delV at h⊢;by_cases c0:x.kind=0
 ·rw[if_pos c0]at h;exact absurd h (by simp)
 rw[if_neg c0]at h⊢;rfl
theorem gl (x:Leaf)(path text:List UInt8)(h:(takeV x path text).1=0):(takeV x path text).2.path=path:=by
 unfold takeV at h⊢;by_cases c0:(!isText text||text==[])=true
 ·rw[if_pos c0]at h;exact absurd h (by simp)
 rw[if_neg c0]at h⊢;by_cases c1:x.kind≠0∧x.kind≠42
 ·rw[if_pos c1]at h;exact absurd h (by simp)
 rw[if_neg c1]at h⊢;by_cases c2:(x.items.any fun y=>y==text)=false
 ·rw[if_pos c2]at h;exact absurd h (by simp)
 rw[if_neg c2]at h⊢
theorem Fd (t:List Leaf)(x:Leaf)(path:List UInt8)(n:Int)(h:(addV t x path n).1=0):(addV t x path n).2.path=path:=by
 unfold addV at h⊢;by_cases c0:x.kind≠0∧x.kind≠35
 ·rw[if_pos c0]at h;exact absurd h (by simp)
 rw[if_neg c0]at h⊢;by_cases c1:blocked t path=true
 ·rw[if_pos c1]at h;exact absurd h (by simp)
 rw[if_neg c1]at h⊢;by_cases c2:1000000000-x.n<n∨n< -1000000000-x.n
 ·rw[if_pos c2]at h;exact absurd h (by simp)
 rw[if_neg c2]at h⊢;by_cases c3:x.kind=0∧24≤t.length
 ·rw[if_pos c3]at h;exact absurd h (by simp)
 rw[if_neg c3]at h⊢
theorem gK (t:List Leaf)(x:Leaf)(path text:List UInt8)(h:(noteV t x path text).1=0):(noteV t x path text).2.path=path:=by
 unfold noteV at h⊢;by_cases c0:isText text=false
 ·rw[if_pos c0]at h;exact absurd h (by simp)
 rw[if_neg c0]at h⊢;by_cases c1:x.kind≠0∧x.kind≠61
 ·rw[if_pos c1]at h;exact absurd h (by simp)
 rw[if_neg c1]at h⊢;by_cases c2:blocked t path=true
 ·rw[if_pos c2]at h;exact absurd h (by simp)
 rw[if_neg c2]at h⊢;by_cases c3:x.kind=0∧24≤t.length
 ·rw[if_pos c3]at h;exact absurd h (by simp)
 rw[if_neg c3]at h⊢
theorem fi (t:List Leaf)(x:Leaf)(path text:List UInt8)(h:(putV t x path text).1=0):(putV t x path text).2.path=path:=by
 unfold putV at h⊢;by_cases c0:(!isText text||text==[])=true
 ·rw[if_pos c0]at h;exact absurd h (by simp)
 rw[if_neg c0]at h⊢;by_cases c1:x.kind≠0∧x.kind≠42
 ·rw[if_pos c1]at h;exact absurd h (by simp)
 rw[if_neg c1]at h⊢;by_cases c2:blocked t path=true
 ·rw[if_pos c2]at h;exact absurd h (by simp)
 rw[if_neg c2]at h⊢;by_cases c3:8<(item x.items text).length
 ·rw[if_pos c3]at h;exact absurd h (by simp)
 rw[if_neg c3]at h⊢;by_cases c4:x.kind=0∧24≤t.length
 ·rw[if_pos c4]at h;exact absurd h (by simp)
 rw[if_neg c4]at h⊢
theorem GU (kind:Int)(t:List Leaf)(x:Leaf)(path:List UInt8)(n:Int)(text:List UInt8)(h:(valV kind t x path n text).1=0):(valV kind t x path n text).2.path=path:=by
 unfold valV at h⊢;by_cases c0:kind=0
 ·rw[if_pos c0]at h⊢;exact f_ _ _ h
 rw[if_neg c0]at h⊢;by_cases c1:kind=45
 ·rw[if_pos c1]at h⊢;exact gl _ _ _ h
 rw[if_neg c1]at h⊢;by_cases c2:kind=35
 ·rw[if_pos c2]at h⊢;exact Fd _ _ _ _ h
 rw[if_neg c2]at h⊢;by_cases c3:kind=61
 ·rw[if_pos c3]at h⊢;exact gK _ _ _ _ h
 rw[if_neg c3]at h⊢;exact fi _ _ _ _ h
theorem PathI.change {st:St}(h:PathI st)(kind:Int)(br path:List UInt8)(n:Int)(text:List UInt8)(hp:path∈vw):PathI (change st kind br path n text).2:=by
 unfold R.change;split
 ·exact h
 ·split
  ·exact h
  ·split
   ·rename_i e
    exact h.setWork _ ((h.workOf br).set (by rw[GU _ _ _ _ _ _ e];exact hp))
   ·exact h
theorem PathI.setHead {st:St}(h:PathI st)(name:List UInt8)(n:Nat):PathI (setHead st name n):=by
 refine⟨fun b hb=> ?_,h.trees⟩;rcases rQ hb with hb|hb
 ·exact h.work b hb
 ·rw[hb];exact h.treeOf n
theorem PathI.keepC {st:St}(h:PathI st)(c:Cm)(hc:zC c.tree):PathI (keepC st c):=by
 refine⟨h.work,fun d hd=> ?_⟩;rcases nJ.1 hd with hd|hd
 ·exact h.trees d hd
 ·rw[show d=c by simpa using hd];exact hc
theorem PathI.down {st:St}(h:PathI st)(name:List UInt8)(c:Cm)(hc:zC c.tree):PathI (down st name c):=(h.keepC c hc).setHead name _
theorem PathI.commit {st:St}(h:PathI st)(name:List UInt8):PathI (commit st name).2:=by
 unfold R.commit;split
 ·exact h
 ·split
  ·exact h
  ·split
   ·exact h
   ·exact h.down name _ (h.workOf name)
theorem PathI.joinB {st:St}(h:PathI st)(a0 fr:List UInt8):PathI (joinB st a0 fr).2:=by
 unfold R.joinB;split
 ·exact h
 ·split
  ·exact h
  ·unfold joinH
   split
   ·exact h
   ·split
    ·exact h.setHead a0 _
    ·unfold joinN
     split
     ·exact h
     ·split
      ·exact h
      ·refine h.down a0 _ ?_
       unfold joinC;split
       ·exact zC.nil
       ·exact(zC.baseF h.trees _ _ _).joinT (zC.treeC h.trees _) (zC.treeC h.trees _)
theorem fl (c:Int):pathN c∈vw:=by
 unfold pathN;have h1:0≤pk_ c 10:=wI _ (by decide);have h2:pk_ c 10<10:=wJ _ (by decide);have h3:(pk_ c 10).toNat<vw.length:=by
  show _<10;omega
 rw[iJ,j0d h3];exact j0c h3
theorem PathI.act {st:St}(h:PathI st)(a:Raw):PathI (actP st a):=by
 unfold actP;repeat' split
 all_goals first
  |exact h.change _ _ _ _ _ (fl _)
  |exact h.commit _
  |exact(h.commit _).joinB _ _
theorem PathI.fold:∀(l:List Raw) {st:St},PathI st→PathI (l.foldl actP st)
 |[],_,h=>h
 |a::l,_,h=>PathI.fold l (h.act a)
theorem PathI.acts {st:St}(h:PathI st)(l:List Raw):PathI (actsP st l):=PathI.fold _ h
theorem path0 (pk:List UInt8):PathI (forkS 7 3 pk):=by
 have ht:zC (cnt 7):=fun x hx=>by
  have e:x=C1 7:=by simpa[cnt]using hx
  rw[e];exact eY ..
 refine⟨fun b hb=> ?_,fun c hc=> ?_⟩
 ·obtain⟨i,_,rfl⟩:=pH.1 hb
  exact ht
 ·have e:c={tree:=cnt 7,parents:=[]}:=by simpa[forkS,C2]using hc
  rw[e];exact ht
theorem PathI.lived {st:St}(h:PathI st):PathI (lvA st 3):=((h.commit [97]).commit [98]).commit [99]
end R
namespace R
def dI:List UInt8:=[110,111,110,101,48]
def dq:List UInt8:=[110,111,119,104,101,114,101]
def fresh:List UInt8:=[102,114,101,115,104]
section
variable {st:St}
end
end R
namespace R
section
variable {a b:St}{k:Nat}
end
end R
theorem c7 {t:List R.Leaf}(h:OkT t)(k:Nat):OkT (t.take k):=by
 have hl:(t.take k).length≤t.length:=by rw[nP];omega
 refine⟨zW.t (List.Pairwise.sublist (wK k t) h.sort.k),by have:=h.few;omega,fun x hx=>h.ok x (pE hx),fun x hx y hy=>h.free x (pE hx) y (pE hy)⟩
structure Xm (T:List R.Leaf)(x:R.Leaf):Prop where
 ok:OkT T
 few:T.length<24
 leaf:OkL x
 last:∀y∈T,Op.bytesLess y.path x.path=true
 free:R.blocked T x.path=false
theorem BV {t:List R.Leaf}(h:OkT t)(k:Nat)(hk:k<t.length):Xm (t.take k) t[k]:=by
 have hf:=h.few;refine⟨c7 h k,by rw[nP];omega,h.ok _ (j0c hk),fun y hy=> ?_,?_⟩
 ·obtain⟨i,hi,rfl⟩:=wL.1 hy
  exact h.sort i k (by omega) hk (by omega)
 ·unfold R.blocked
  rw[nB];intro y hy;have hm:=pE hy;rw[h.free y hm _ (j0c hk),h.free _ (j0c hk) y hm];simp
section
variable {T:List R.Leaf}{x:R.Leaf}
theorem Xm.none (h:Xm T x):(T.any fun y=>y.path==x.path)=false:=by
 rw[nB];intro y hy;rw[Yh _ _ (h.last y hy)];simp
theorem Xm.at_ (h:Xm T x):R.at_ T x.path=R.none x.path:=by
 rcases vY T x.path with⟨_,e⟩|⟨e,_⟩
 ·exact e
 ·rw[h.none]at e;cases e
theorem Xm.pos (h:Xm T x){z:R.Leaf}(hz:z.path=x.path):y8 T z.path=T.length:=by
 unfold y8;refine wM.2 fun y hy=> ?_
 rw[hz];show(!zF x.path y.path)=false;unfold zF;rw[h.last y hy];rfl
theorem Xm.set (h:Xm T x){z:R.Leaf}(hz:z.path=x.path)(hk:z.kind≠0):R.set T z=T++ [z]:=by
 rw[jr h.ok z (by rw[hz];exact h.leaf.path) hk (by rw[hz];exact h.none),h.pos hz,wN,wO]
theorem Xm.add (h:Xm T x)(hk:x.kind=35):R.addV T (R.at_ T x.path) x.path x.n=(0,x):=by
 obtain⟨h1,h2⟩:x.text=[]∧x.items=[]:=by
  rcases h.leaf.kind with⟨_,a⟩|⟨e,_⟩|⟨e,_⟩
  ·exact a
  ·rw[hk]at e;cases e
  ·rw[hk]at e;cases e
 have:=h.leaf.hi;have:=h.leaf.lo;have:=h.few;rw[h.at_];unfold R.addV;rw[if_neg (by simp[R.none]),h.free,if_neg (by simp),if_neg (by simp only[R.none];omega),if_neg (by omega)];obtain⟨p,k,n,te,it⟩:=x;simp only at hk h1 h2;subst hk h1 h2;simp[R.none]
theorem Xm.note (h:Xm T x)(hk:x.kind=61):R.noteV T (R.at_ T x.path) x.path x.text=(0,x):=by
 obtain⟨h1,h2⟩:x.n=0∧x.items=[]:=by
  rcases h.leaf.kind with⟨e,_⟩|⟨_,a⟩|⟨e,_⟩
  ·rw[hk]at e;cases e
  ·exact a
  ·rw[hk]at e;cases e
 have:=h.few;rw[h.at_];unfold R.noteV;rw[h.leaf.text,if_neg (by simp),if_neg (by simp[R.none]),h.free,if_neg (by simp),if_neg (by omega)];obtain⟨p,k,n,te,it⟩:=x;simp only at hk h1 h2;subst hk h1 h2;rfl
end
def YD (x:R.Leaf)(k:Nat):R.Leaf:={path:=x.path,kind:=42,n:=0,text:=[],items:=x.items.take k}
def xl (T:List R.Leaf)(x:R.Leaf)(k:Nat):List R.Leaf:=if k=0 then T else T++ [YD x k]
section
variable {T:List R.Leaf}{x:R.Leaf}(hk:x.kind=42)
theorem Vk (h:Xm T x)(k:Nat):Zb (x.items.take k):=zW.i (List.Pairwise.sublist (wK k _) h.leaf.sort.k)
theorem bt (h:Xm T x)(k:Nat)(h0:0<k)(hn:x.items≠ []):OkL (YD x k):=by
 have hm:=h.leaf.many;refine⟨h.leaf.path,.inr (.inr ⟨rfl,rfl,rfl,?_⟩),by simp[YD],by simp[YD],rfl,?_,fun i hi=>h.leaf.item i (pE hi),Vk h k⟩
 ·show x.items.take k≠ []
  intro e;have:=congrArg List.length e;rw[nP,mS]at this;have:0<x.items.length:=wP.2 hn;omega
 ·show(x.items.take k).length≤8
  rw[nP];omega
theorem Xm.bag (h:Xm T x)(k:Nat):Xm T (YD x (k+1))∨x.items=[]:=by
 by_cases hn:x.items=[]
 ·exact .inr hn
 ·exact .inl ⟨h.ok,h.few,bt h (k+1) (by omega) hn,h.last,h.free⟩
theorem Xm.snoc (h:Xm T x):OkT (T++ [x]):=by
 have hf:=h.few;refine⟨zW.t ?_,by rw[mB];simp;omega,fun y hy=> ?_,fun y hy z hz=> ?_⟩
 ·unfold zW
  rw[List.pairwise_append];refine⟨h.ok.sort.k,List.pairwise_singleton _ _,fun y hy z hz=> ?_⟩;rw[iE]at hz;subst hz;exact h.last y hy
 ·rcases nJ.1 hy with hy|hy
  ·exact h.ok.ok y hy
  ·rw[iE]at hy;subst hy;exact h.leaf
 ·have hb:=vX h.free
  rcases nJ.1 hy with a0|a0<;>rcases nJ.1 hz with a1|a1
  ·exact h.ok.free y a0 z a1
  ·rw[iE.1 a1];exact(hb y a0).1
  ·rw[iE.1 a0];exact(hb z a1).2
  ·rw[iE.1 a0,iE.1 a1];exact vM _
theorem fO (h:Xm T x)(k:Nat)(a0:k<x.items.length):R.item (x.items.take k) x.items[k]=x.items.take (k+1):=by
 have hl:∀y∈x.items.take k,Op.bytesLess y x.items[k]=true:=fun y hy=>by
  obtain⟨i,hi,rfl⟩:=wL.1 hy;exact h.leaf.sort i k (by omega) a0 (by omega)
 have a1:((x.items.take k).any fun y=>y==x.items[k])=false:=by
  rw[nB];intro y hy;rw[Yh _ _ (hl y hy)];simp
 have hp:xq (x.items.take k) x.items[k]=(x.items.take k).length:=by
  unfold xq;refine wM.2 fun y hy=> ?_
  show(!zF x.items[k] y)=false;unfold zF;rw[hl y hy];rfl
 rw[xE (Vk h k) _ a1,hp,wN,wO,List.take_succ_eq_append_getElem a0]
theorem OR (h:Xm T x)(k:Nat)(a0 :k≤x.items.length):OkT (xl T x k):=by
 unfold xl;split
 ·exact h.ok
 ·rename_i h0
  have hn:x.items≠ []:=fun e=>by rw[e]at a0;simp at a0;omega
  rcases h.bag (k-1)with hb|hb
  ·rw[show k-1+1=k by omega]at hb
   exact hb.snoc
  ·exact absurd hb hn
theorem zFS (h:Xm T x)(k:Nat)(a0:k<x.items.length):R.putV (xl T x k) (R.at_ (xl T x k) x.path) x.path x.items[k]=(0,YD x (k+1))∧R.set (xl T x k) (YD x (k+1))=xl T x (k+1):=by
 obtain⟨a8,a9⟩:=h.leaf.item _ (j0c a0);have hm:=h.leaf.many;have hn:x.items≠ []:=fun e=>by rw[e]at a0;simp at a0
 have a3:=fO h k a0;have h8:¬8<(x.items.take (k+1)).length:=by rw[nP];omega
 have a4:(!R.isText x.items[k]||x.items[k]==[])=false:=by
  rw[a8,beq_eq_false_iff_ne.2 a9];rfl
 rcases Nat.eq_zero_or_pos k with h0|h0
 ·subst h0
  have e0:xl T x 0=T:=if_pos rfl;have e1:xl T x (0+1)=T++ [YD x (0+1)]:=if_neg (by omega);rw[e0,e1,h.at_];refine⟨?_,h.set rfl (by simp[YD])⟩;unfold R.putV;have a1:R.item (R.none x.path).items x.items[0]=x.items.take (0+1):=a3;have a7:=h.few;rw[a1,if_neg (by rw[a4];simp),if_neg (by simp[R.none]),h.free,if_neg (by simp),if_neg h8,if_neg (by omega)];rfl
 ·have e0:xl T x k=T++ [YD x k]:=if_neg (by omega)
  have e1:xl T x (k+1)=T++ [YD x (k+1)]:=if_neg (by omega);have hb:=OR h k (by omega);rw[e0]at hb;have a5:R.at_ (T++ [YD x k]) x.path=YD x k:=by
   unfold R.at_;rw[List.find?_append,List.find?_eq_none.2 fun y hy e=>by have:=nB.1 h.none y hy;exact this e];simp[YD]
  have a6:R.blocked (T++ [YD x k]) x.path=false:=by
   have:=h.free;unfold R.blocked at this⊢;rw[List.any_append,this];simp[YD,vM]
  have a2:R.item (YD x k).items x.items[k]=x.items.take (k+1):=a3;rw[e0,e1,a5];refine⟨?_,?_⟩
  ·unfold R.putV
   rw[a2,if_neg (by rw[a4];simp),if_neg (by simp[YD]),a6,if_neg (by simp),if_neg h8,if_neg (by simp[YD])];rfl
  ·have hp:y8 (T++ [YD x k]) (YD x (k+1)).path=T.length:=by
    have h1:∀y∈T,zF x.path y.path=true:=fun y hy=>h.last y hy
    show yC R.Leaf.path (T++ [YD x k]) x.path=T.length;unfold yC;rw[List.findIdx_append];have e:T.findIdx (fun y=> !zF x.path y.path)=T.length:=wM.2 fun y hy=>by rw[h1 y hy];rfl
    rw[e,if_neg (by omega)];simp[YD,zF,zm]
   rw[uU hb (YD x (k+1)) h.leaf.path (by simp[YD]) (by simp[YD]),hp,List.take_left,List.drop_of_length_le (by simp)]
theorem F8 (h:Xm T x)(hk:x.kind=42):xl T x x.items.length=T++ [x]:=by
 rcases h.leaf.kind with⟨e,_⟩|⟨e,_⟩|⟨_,h1,h2,h3⟩
 ·rw[hk]at e;cases e
 ·rw[hk]at e;cases e
 ·have:0<x.items.length:=wP.2 h3
  unfold xl;rw[if_neg (by omega)];congr 2
  obtain⟨p,k,n,te,it⟩:=x;simp only at hk h1 h2;subst hk h1 h2;simp[YD]
end
theorem oJ (c:List UInt8→Bool):∀(l a0:List (List UInt8)),∀z∈Zk c a0 l,z∈a0∨(z∈l∧c z=true)
 |[],_,z,hz=> .inl hz
 |s::l,a0,z,hz=>by
  have a1 :z∈Zk c (if c s then R.item a0 s else a0) l:=hz;rcases oJ c l _ z a1 with h|⟨h1,h2⟩
  ·split at h
   ·rename_i hc
    rcases VU h with rfl|h
    ·exact .inr ⟨eY ..,hc⟩
    ·exact .inl h
   ·exact .inl h
  ·exact .inr ⟨hU _ h1,h2⟩
theorem OT {b o t:List (List UInt8)}(ho:∀i∈o,R.isText i=true∧i≠ [])(ht:∀i∈t,R.isText i=true∧i≠ [])(z:List UInt8):
  z∈R.bagJ b o t↔(z∈o∨z∈t)∧((z∈o∧z∈t)∨z∉b):=by
 have hc:((R.inL o z&&R.inL t z)|| !R.inL b z)=true↔((z∈o∧z∈t)∨z∉b):=by
  rw[Bool.or_eq_true,mR,QC,QC,Bool.not_eq_true',Bool.eq_false_iff,ne_eq,QC]
 rw[OS ho ht];constructor
 ·intro h
  rcases oJ _ _ _ z h with h|⟨h1,h2⟩
  ·simp at h
  ·exact⟨nJ.1 h1,hc.1 h2⟩
 ·rintro⟨h1,h2⟩
  refine kw _ (o++t) [] OkI.nil (fun i hi=> ?_) z (nJ.2 h1) (hc.2 h2);rcases nJ.1 hi with h|h
  ·exact ho i h
  ·exact ht i h
theorem F9 {b o t:List (List UInt8)}(ho:∀i∈o,R.isText i=true∧i≠ [])(ht:∀i∈t,R.isText i=true∧i≠ []):R.bagJ b o t=R.bagJ b t o:=
 sorted_eq _ _ (UL ho ht).sort.k (UL ht ho).sort.k fun q=>by
  rw[OT ho ht,OT ht ho];constructor
  ·rintro⟨h1,h2⟩;exact⟨h1.symm,h2.imp And.symm id⟩
  ·rintro⟨h1,h2⟩;exact⟨h1.symm,h2.imp And.symm id⟩
theorem gS (a b:List UInt8):R.later a b=R.later b a:=by
 unfold R.later
 cases h1:Op.bytesLess a b
 ·cases h2:Op.bytesLess b a
  ·exact yR a b h1 h2
  ·rfl
 ·rw[xb a b h1];rfl
theorem Uq {p:List UInt8}{x y z:R.Leaf}(hx:VO p x)(hy:VO p y)(hz:VO p z):R.joinedV x y z=R.joinedV x z y:=by
 unfold R.joinedV;by_cases h1:R.same y x=true
 ·by_cases h2:R.same z x=true
  ·rw[if_pos h1,if_pos h2,(jt hy hx).1 h1,(jt hz hx).1 h2]
  ·rw[if_pos h1,if_neg h2,if_pos h1]
 ·by_cases h2:R.same z x=true
  ·rw[if_neg h1,if_pos h2,if_pos h2]
  ·rw[if_neg h1,if_neg h2,if_neg h2,if_neg h1]
   by_cases h3:y.kind=0
   ·by_cases h4:z.kind=0
    ·rw[if_pos h3,if_pos h4,hy.kind0.1 h3,hz.kind0.1 h4]
    ·rw[if_pos h3,if_neg h4,if_pos h3]
   ·by_cases h4:z.kind=0
    ·rw[if_neg h3,if_pos h4,if_pos h4]
    ·rw[if_neg h3,if_neg h4,if_neg h4,if_neg h3]
     by_cases h5:y.kind=z.kind
     ·have hp:y.path=z.path:=by rw[hy.path,hz.path]
      have e1:¬y.kind≠z.kind:=fun e=>e h5
      have e2:¬z.kind≠y.kind:=fun e=>e h5.symm
      rw[if_neg e1,if_neg e2,←h5,←hp,gS z.text y.text,F9 hz.item hy.item,Int.add_comm z.n y.n]
     ·rw[if_pos (by simpa using h5),if_pos (by simpa using fun e=>h5 e.symm)]
section
variable {b o t:List R.Leaf}
theorem Fc (hb:OkT b)(ho:OkT o)(ht:OkT t):R.allP b o t=R.allP b t o:=by
 refine sorted_eq _ _ (QK hb ho ht).sort.k (QK hb ht ho).sort.k fun q=> ?_
 rw[(QK hb ho ht).mem,(QK hb ht ho).mem];simp only[nJ];constructor
 ·rintro⟨z,h,e⟩;exact⟨z,h.imp id Or.symm,e⟩
 ·rintro⟨z,h,e⟩;exact⟨z,h.imp id Or.symm,e⟩
theorem GV (hb:OkT b)(ho:OkT o)(ht:OkT t)(p:List UInt8):R.valJ b o t p=R.valJ b t o p:=Uq (qB hb.ok p) (qB ho.ok p) (qB ht.ok p)
theorem gW (hb:OkT b)(ho:OkT o)(ht:OkT t):R.joinT b o t=R.joinT b t o:=by
 have e:R.valJ b o t=R.valJ b t o:=funext fun p=>GV hb ho ht p
 unfold R.joinT R.joinP R.errJ R.outJ R.leafJ;rw[Fc hb ho ht,e]
end
theorem gX {st:R.St}(hi:Inv st)(x y:Nat)(hx:x≤st.cms.length)(hy:y≤st.cms.length):R.joinC st.cms x y=R.joinC st.cms y x:=by
 unfold R.joinC;rw[R.baseC_comm hi.wf x y hx hy,gW (Qm hi.trees y x) (ZH hi.trees x) (ZH hi.trees y)]
