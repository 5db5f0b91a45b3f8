import Derived.Test.YtolgebdmffcemaaGreatDoorQ18
set_option linter.all false
set_option maxHeartbeats 20000000
set_option maxRecDepth 1000000
namespace Go.Proofs.YtolgebdmffcemaaGreatDoor
open Go.RowKit
def CS (c n:Int):Int:=if c<0 then(-(c+1)) % n else c % n
namespace R
def bit (x i:Nat):Bool:=decide (x/2^i % 2=1)
def FW:List UInt8:=[98,97,103]
def bgItem (i:Nat):List UInt8:=[UInt8.ofNat (97+i)]
def Cv (x:Nat)(st:St)(i:Nat):St:=if bit x i then(change st 42 [97] FW 0 (bgItem i)).2 else st
def bgTurn (name:List UInt8)(x:Nat)(st:St)(i:Nat):St:=if bit x i then(change st 42 name FW 0 (bgItem i)).2 else(change st 45 name FW 0 (bgItem i)).2
def bg0:St:={cms:=[],brs:=[],packed:=[]}
def bg1:St:=(change (made bg0 [97] [] false).2 35 [97] [110] 1 []).2
def bg2 (f:Nat):St:=(List.range 5).foldl (Cv f) bg1
def bg3 (f:Nat):St:=(made (commit (bg2 f) [97]).2 [98] [97] true).2
def fR (name:List UInt8)(x:Nat)(st:St):St:=(commit ((List.range 5).foldl (bgTurn name x) (change st 35 name name 1 []).2) name).2
def bg4 (f x:Nat):St:=fR [97] x (bg3 f)
def bg5 (f x y:Nat):St:=fR [98] y (bg4 f x)
def C5 (f x y:Nat):List (List UInt8):=((List.range 5).filter fun i=>(bit x i&&bit y i)||((bit x i||bit y i)&& !bit f i)).map bgItem
def jk (x:Nat):List (List UInt8):=((List.range 5).filter fun i=>bit x i).map bgItem
def bgT (f x y:Nat):List (List UInt8):=if x=y then jk x else if x=f then jk y else if y=f then jk x else if x=0 then jk y else if y=0 then jk x else C5 f x y
def bgW (l:List (List UInt8)):List UInt8:=[97,32,35,49,10,98,32,35,49,10]++((if l=[]then []else FW++ [32,42]++joinI l++ [10])++ [110,32,35,49,10])
def CV (f x y:Nat):Bool:=decide ((joinB (bg5 f x y) [97] [98]).1.2=0)&&decide (shown (joinB (bg5 f x y) [97] [98]).2 [97]=(bgW (bgT f x y),0))
end R
def cn (name:List UInt8)(x:Nat)(st:R.St):R.St:=(List.range 5).foldl (R.bgTurn name x) (R.change st 35 name name 1 []).2
structure CY (f x y:Nat):Prop where
 c1:(R.commit (R.bg2 f) [97]).1=(1,0)
 d1:(R.made (R.commit (R.bg2 f) [97]).2 [98] [97] true).1=0
 e4:(R.commit (cn [97] x (R.bg3 f)) [97]).1=(2,0)
 e5:(R.commit (cn [98] y (R.bg4 f x)) [98]).1=(3,0)
 j:(R.joinB (R.bg5 f x y) [97] [98]).1=(4,0)
 s:R.shown (R.joinB (R.bg5 f x y) [97] [98]).2 [97]=(R.bgW (R.bgT f x y),0)
namespace R
structure Zx (st:St):Prop where
 names:st.brs.map (·.name)=[[97],[98],[99]]
 one:1≤st.cms.length
 heads:∀b∈st.brs,1≤b.head
 par:∀i (h:i<st.cms.length),1≤i→st.cms[i].parents≠ []
theorem QM (l:List Br)(i:Nat)(b:Br)(hb:∀h:i<l.length,b.name=l[i].name):(l.set i b).map (·.name)=l.map (·.name):=by
 apply List.ext_getElem?;intro j;rw[List.getElem?_map,List.getElem?_map,List.getElem?_set];split
 ·rename_i e
  subst e;split
  ·rename_i h
   rw[j0d h];simp[hb h]
  ·rename_i h
   rw[List.getElem?_eq_none (by omega)]
 ·rfl
theorem uX {st:St}{i:Nat}{t:List Leaf}{b:Br}(hb:b∈(setWork st i t).brs):∃c∈st.brs,b.head=c.head∧b.name=c.name:=by
 unfold setWork at hb
 cases e:st.brs[i]? with
 |none=>rw[e]at hb;exact⟨b,hb,rfl,rfl⟩
 |some c=>
  rw[e]at hb;obtain⟨hi,rfl⟩:=List.getElem?_eq_some_iff.1 e;rcases List.mem_or_eq_of_mem_set hb with h|h
  ·exact⟨b,h,rfl,rfl⟩
  ·exact⟨st.brs[i],j0c hi,by rw[h],by rw[h]⟩
theorem Zx.setWork {st:St}(h:Zx st)(i:Nat)(t:List Leaf):Zx (setWork st i t):=by
 refine⟨?_,h.one,fun b hb=> ?_,h.par⟩
 ·rw[←h.names]
  unfold R.setWork
  cases e:st.brs[i]? with
  |none=>rfl
  |some c=>
   obtain⟨hi,rfl⟩:=List.getElem?_eq_some_iff.1 e;exact QM _ _ _ fun _=>rfl
 ·obtain⟨c,hc,e,_⟩:=uX hb
  rw[e];exact h.heads c hc
theorem Jm (st:St)(kind:Int)(br p:List UInt8)(n:Int)(text:List UInt8):(change st kind br p n text).2=st∨∃i t,(change st kind br p n text).2=setWork st i t:=by
 unfold change;split
 ·exact .inl rfl
 ·split
  ·exact .inl rfl
  ·split
   ·exact .inr ⟨_,_,rfl⟩
   ·exact .inl rfl
theorem Zx.change {st:St}(h:Zx st)(kind:Int)(br p:List UInt8)(n:Int)(text:List UInt8):Zx (change st kind br p n text).2:=by
 rcases Jm st kind br p n text with e|⟨i,t,e⟩<;>rw[e]
 ·exact h
 ·exact h.setWork i t
theorem Zx.setHead {st:St}(h:Zx st)(name:List UInt8)(n:Nat)(hn:1≤n):Zx (setHead st name n):=by
 refine⟨?_,h.one,fun b hb=> ?_,h.par⟩
 ·rw[←h.names]
  exact QM _ _ _ fun hi=>(fnd_name _ _ hi).symm
 ·rcases List.mem_or_eq_of_mem_set hb with e|e
  ·exact h.heads b e
  ·rw[e];exact hn
theorem Zx.keepC {st:St}(h:Zx st)(c:Cm)(hc:c.parents≠ []):Zx (keepC st c):=by
 have hl:(R.keepC st c).cms=st.cms++ [c]:=rfl;refine⟨h.names,?_,h.heads,fun i hi h1=> ?_⟩
 ·rw[hl,List.length_append];have:=h.one;omega
 ·have a1 :i<st.cms.length+1:=by rw[hl,List.length_append]at hi;exact hi
  have key:∀(hi:i<(st.cms++ [c]).length),(st.cms++ [c])[i].parents≠ []:=fun hi=>by
   by_cases a0:i<st.cms.length
   ·rw[List.getElem_append_left a0];exact h.par i a0 h1
   ·rw[List.getElem_append_right (by omega)]
    simp[hc]
  exact key hi
theorem Zx.down {st:St}(h:Zx st)(name:List UInt8)(c:Cm)(hc:c.parents≠ []):Zx (down st name c):=(h.keepC c hc).setHead name _ (by omega)
theorem Zx.headOf {st:St}(h:Zx st){name:List UInt8}(hf:fnd st.brs name<st.brs.length):1≤headOf st name:=by
 unfold R.headOf;rw[j0d hf];exact h.heads _ (j0c hf)
theorem Zx.commit {st:St}(h:Zx st)(name:List UInt8):Zx (commit st name).2:=by
 unfold R.commit;split
 ·exact h
 ·rename_i hf
  split
  ·exact h
  ·split
   ·exact h
   ·refine h.down name _ ?_
    have:=h.headOf (name:=name) (uo hf);unfold parsOf;rw[if_neg (by omega)];simp
theorem Zx.joinB {st:St}(h:Zx st)(a0 fr:List UInt8):Zx (joinB st a0 fr).2:=by
 unfold R.joinB;split
 ·exact h
 ·rename_i hf
  split
  ·exact h
  ·have h1:=h.headOf (name:=fr) (uo fun e=>hf (.inr e))
   unfold joinH;split
   ·exact h
   ·split
    ·exact h.setHead a0 _ h1
    ·unfold joinN
     split
     ·exact h
     ·split
      ·exact h
      ·exact h.down a0 _ (by simp)
theorem Ow (st:St)(kind:Int)(br p:List UInt8)(n:Int)(text:List UInt8):(change st kind br p n text).2.cms=st.cms∧(change st kind br p n text).2.packed=st.packed:=by
 rcases Jm st kind br p n text with e|⟨i,t,e⟩<;>rw[e]<;>exact⟨rfl,rfl⟩
structure ZF (st st' :St)(k:Nat):Prop where
 cms:∃l,st'.cms=st.cms++l∧l.length≤k
 packed:∃l,st'.packed=st.packed++l
theorem ZF.refl (st:St):ZF st st 0:=⟨⟨[],by simp,j0a _⟩,⟨[],by simp⟩⟩
theorem ZF.trans {a b c:St}{k m:Nat}(h1:ZF a b k)(h2:ZF b c m):ZF a c (k+m):=by
 obtain⟨⟨l1,e1,n1⟩,⟨p1,q1⟩⟩:=h1;obtain⟨⟨l2,e2,n2⟩,⟨p2,q2⟩⟩:=h2;exact⟨⟨l1++l2,by rw[e2,e1,List.append_assoc],by rw[List.length_append];omega⟩,⟨p1++p2,by rw[q2,q1,List.append_assoc]⟩⟩
theorem ZF.mono {a b:St}{k m:Nat}(h:ZF a b k)(hk:k≤m):ZF a b m:=by
 obtain⟨⟨l,e,n⟩,h2⟩:=h;exact⟨⟨l,e,by omega⟩,h2⟩
theorem ZF.len {a b:St}{k:Nat}(h:ZF a b k):b.cms.length≤a.cms.length+k:=by
 obtain⟨⟨l,e,n⟩,_⟩:=h;rw[e,List.length_append];omega
theorem ue (st:St)(kind:Int)(br p:List UInt8)(n:Int)(text:List UInt8):ZF st (change st kind br p n text).2 0:=by
 obtain⟨e1,e2⟩:=Ow st kind br p n text;exact⟨⟨[],by rw[e1];simp,j0a _⟩,⟨[],by rw[e2];simp⟩⟩
theorem jA (st:St)(name:List UInt8)(n:Nat):ZF st (setHead st name n) 0:=⟨⟨[],by simp[setHead],j0a _⟩,⟨_,rfl⟩⟩
theorem j3 (st:St)(name:List UInt8)(c:Cm):ZF st (down st name c) 1:=by
 refine⟨⟨[c],rfl,j0a _⟩,?_⟩;unfold down setHead keepC;exact⟨_,List.append_assoc ..⟩
theorem q8 (st:St)(name:List UInt8):ZF st (commit st name).2 1:=by
 unfold commit;split
 ·exact(ZF.refl st).mono (by decide)
 ·split
  ·exact(ZF.refl st).mono (by decide)
  ·split
   ·exact(ZF.refl st).mono (by decide)
   ·exact j3 _ _ _
theorem UC (st:St)(a0 fr:List UInt8):ZF st (joinB st a0 fr).2 1:=by
 unfold joinB;split
 ·exact(ZF.refl st).mono (by decide)
 ·split
  ·exact(ZF.refl st).mono (by decide)
  ·unfold joinH
   split
   ·exact(ZF.refl st).mono (by decide)
   ·split
    ·exact(jA _ _ _).mono (by decide)
    ·unfold joinN
     split
     ·exact(ZF.refl st).mono (by decide)
     ·split
      ·exact(ZF.refl st).mono (by decide)
      ·exact j3 _ _ _
structure Raw where
 kind:Int
 br:Int
 path:Int
 n:Int
def pk_ (c n:Int):Int:=(if c<0 then-(c+1)else c) % n
def brN (c:Int):List UInt8:=([[97],[98],[99]]:List (List UInt8)).getD (pk_ c 3).toNat []
def cK:List (List UInt8):=[[110],[109],[115],[116],[120,47,110],[120,47,115],[120,47,121,47,122],[120],[113,47,114],[110,47,111]]
def pathN (c:Int):List UInt8:=cK.getD (pk_ c 10).toNat []
def cy:List (List UInt8):=[[112],[113],[114],[115,111,109,101,32,116,101,120,116],[122]]
def textN (c:Int):List UInt8:=cy.getD (pk_ c 5).toNat []
def actP (st:St)(a:Raw):St:=
 if pk_ a.kind 10=0∨pk_ a.kind 10=1 then(change st 35 (brN a.br) (pathN a.path) (pk_ a.n 200-100) []).2
 else if pk_ a.kind 10=2 then(change st 61 (brN a.br) (pathN a.path) 0 (textN a.n)).2
 else if pk_ a.kind 10=3∨pk_ a.kind 10=4 then(change st 42 (brN a.br) (pathN a.path) 0 (textN a.n)).2
 else if pk_ a.kind 10=5 then(change st 45 (brN a.br) (pathN a.path) 0 (textN a.n)).2
 else if pk_ a.kind 10=6 then(change st 0 (brN a.br) (pathN a.path) 0 []).2
 else if pk_ a.kind 10=7∨pk_ a.kind 10=8 then(commit st (brN a.br)).2
 else(joinB (commit st (brN a.br)).2 (brN a.br) (brN a.n)).2
def actsP (st:St)(l:List Raw):St:=(l.take 25).foldl actP st
theorem Zx.act {st:St}(h:Zx st)(a:Raw):Zx (actP st a):=by
 unfold actP;repeat' split
 all_goals first
  |exact h.change _ _ _ _ _
  |exact h.commit _
  |exact(h.commit _).joinB _ _
theorem G4 (st:St)(a:Raw):ZF st (actP st a) 2:=by
 unfold actP;repeat' split
 all_goals first
  |exact(ue _ _ _ _ _ _).mono (by decide)
  |exact(q8 _ _).mono (by decide)
  |exact(q8 _ _).trans (UC _ _ _)
theorem Zx.fold:∀(l:List Raw) {st:St},Zx st→Zx (l.foldl actP st)
 |[],_,h=>h
 |a::l,_,h=>Zx.fold l (h.act a)
theorem j2:∀(l:List Raw) (st:St),ZF st (l.foldl actP st) (2*l.length)
 |[],st=>ZF.refl st
 |a::l,st=>by
  have:=(G4 st a).trans (j2 l (actP st a));rw[List.length_cons];exact this.mono (by omega)
theorem Zx.acts {st:St}(h:Zx st)(l:List Raw):Zx (actsP st l):=Zx.fold _ h
theorem grows_acts (st:St)(l:List Raw):ZF st (actsP st l) 50:=(j2 _ st).mono (by rw[List.length_take];omega)
end R
namespace R
def FT (v:Int):Leaf:={path:=[110],kind:=35,n:=v,text:=[],items:=[]}
def cnt (v:Int):List Leaf:=[FT v]
def cm (l:List (Int×List Nat)):List Cm:=l.map fun p=>{tree:=cnt p.1,parents:=p.2}
def CT {α:Type}(f:Nat→α)(i:Nat)(v:α):Nat→α:=fun j=>if j=i then v else f j
def Cu (k:Nat)(hd:Nat→Nat)(w:Nat→Int):List Br:=(List.range k).map fun i=>{name:=bgItem i,head:=hd i,work:=cnt (w i)}
def Cs (l:List (Int×List Nat))(hd:Nat→Nat)(w:Nat→Int)(pk:List UInt8):St:={cms:=cm l,brs:=Cu 5 hd w,packed:=pk}
def val (l:List (Int×List Nat))(m:Nat):Int:=((l[m-1]?).map (·.1)).getD 0
section
variable (l:List (Int×List Nat))(hd:Nat→Nat)(w:Nat→Int)(pk:List UInt8)
end
theorem f8 (v:Int):Written (cnt v)=110::32::35::(Lib.itoa v++ [10]):=by
 unfold cnt Written line written FT;simp
theorem cL:isPath [110]=true:=by decide+kernel
structure Cy (l:List (Int×List Nat))(hd:Nat→Nat)(κ:Nat→Nat)(v0:Int)(live:Nat→Prop):Prop where
 first:l[0]? =some (v0,[])
 par:∀m,2≤m→m≤l.length→∃p,l[m-1]? =some p∧p.2≠ []∧∀q∈p.2,1≤q∧q<m∧(q=1∨κ q=κ m)
 head:∀i,live i→1≤hd i∧hd i≤l.length∧(hd i=1∨κ (hd i)=i)
section
variable {l:List (Int×List Nat)}{hd:Nat→Nat}{κ:Nat→Nat}{v0:Int}{live:Nat→Prop}
end
end R
namespace R
def CR (l:List (Int×List Nat))(hd:Nat→Nat)(w:Nat→Int)(live:Nat→Prop):Prop:=∀i,live i→w i=val l (hd i)
section
variable {l:List (Int×List Nat)}{hd:Nat→Nat}{κ:Nat→Nat}{v0:Int}{live:Nat→Prop}
end
def forkS (v0:Int)(k:Nat)(pk:List UInt8):St:={cms:=cm [(v0,[])],brs:=Cu k (fun _=>1) (fun _=>v0),packed:=pk}
theorem fork5 (v0:Int){k:Nat}(h1:1≤k)(h5:k<5)(pk:List UInt8):∃a0,made (forkS v0 k pk) (bgItem k) [97] true=(0,forkS v0 (k+1) a0):=by
 rcases(by omega:k=1∨k=2∨k=3∨k=4)with rfl|rfl|rfl|rfl<;>exact⟨_,rfl⟩
def sm1:St:=(made bg0 [97] [] false).2
theorem add5 (v:Int)(h0:0<v)(h1:v≤2000):∃pk,change sm1 35 [97] [110] v []=(0,{cms:=[],brs:=[{name:=[97],head:=0,work:=cnt v}],packed:=pk}):=by
 unfold change;rw[show fndI sm1.brs [97]=0 from rfl,if_neg (by decide),cL,if_neg (by simp),show workOf sm1 [97]=[]from rfl];have e:valV 35 [] (at_ [] [110]) [110] v []=(0,FT v):=by
  unfold valV;rw[if_neg (by decide),if_neg (by decide),if_pos rfl];unfold addV;rw[show at_ [] [110]=none [110]from rfl,if_neg (by simp[none]),show blocked [] [110]=false from rfl,if_neg (by simp),if_neg (by simp only[none];omega),if_neg (by simp)];simp[none,FT]
 rw[e,if_pos rfl];exact⟨_,rfl⟩
theorem commit0 (v:Int)(pk:List UInt8):∃a0,commit {cms:=[],brs:=[{name:=[97],head:=0,work:=cnt v}],packed:=pk} [97]=((1,0),forkS v 1 a0):=by
 unfold commit;rw[show fndI [({name:=[97],head:=0,work:=cnt v}:Br)] [97]=0 from rfl,if_neg (by decide)];have hw:¬Written (cnt v)=Written []:=by rw[f8];intro h;cases h
 rw[show workOf {cms:=[],brs:=[{name:=[97],head:=0,work:=cnt v}],packed:=pk} [97]=cnt v from rfl,show headOf {cms:=[],brs:=[{name:=[97],head:=0,work:=cnt v}],packed:=pk} [97]=0 from rfl,show treeOf {cms:=[],brs:=[{name:=[97],head:=0,work:=cnt v}],packed:=pk} 0=[]from rfl,if_neg hw];exact⟨_,rfl⟩
end R
namespace R
theorem kd (l:List Br)(n:List UInt8):fnd l n=(l.map (·.name)).findIdx (·==n):=by
 unfold fnd;rw[List.findIdx_map];rfl
theorem gN {l:List Br}{ns:List (List UInt8)}(h:l.map (·.name)=ns):l.length=ns.length:=by rw[←h,List.length_map]
theorem Zx.fnd {st:St}(h:Zx st){n:List UInt8}(hn:n=[97]∨n=[98]∨n=[99]):fnd st.brs n<st.brs.length∧¬fndI st.brs n<0:=by
 have hl:st.brs.length=3:=gN h.names;have:R.fnd st.brs n<st.brs.length:=by
  rw[kd,h.names,hl];rcases hn with rfl|rfl|rfl<;>decide
 refine⟨this,?_⟩;unfold fndI;rw[if_pos this];omega
def Com (st:St)(n:List UInt8):Prop:=Written (workOf st n)=Written (treeOf st (headOf st n))
theorem kJ (st:St)(name n:List UInt8)(m:Nat):fnd (setHead st name m).brs n=fnd st.brs n:=by
 rw[kd,kd];congr 1
 exact QM _ _ _ fun hi=>(fnd_name _ _ hi).symm
theorem JI (st:St)(name:List UInt8)(m:Nat)(hf:fnd st.brs name<st.brs.length):workOf (setHead st name m) name=treeOf st m∧headOf (setHead st name m) name=m:=by
 unfold workOf headOf;rw[kJ];have e:(setHead st name m).brs[fnd st.brs name]? =some {name:=name,head:=m,work:=treeOf st m}:=by
  unfold setHead;simp only;rw[List.getElem?_set,if_pos rfl,if_pos hf]
 rw[e];exact⟨rfl,rfl⟩
theorem jp (st:St)(name n:List UInt8)(m:Nat)(hf:fnd st.brs name<st.brs.length)(hn:n≠name)(a0:fnd st.brs n<st.brs.length):workOf (setHead st name m) n=workOf st n∧headOf (setHead st name m) n=headOf st n:=by
 unfold workOf headOf;rw[kJ];have a1:fnd st.brs name≠fnd st.brs n:=by
  intro e;have h1:=fnd_name _ _ hf;have h2:=fnd_name _ _ a0;apply hn;rw[←h2,←h1];simp only[e]
 have e:(setHead st name m).brs[fnd st.brs n]? =st.brs[fnd st.brs n]? :=by
  unfold setHead;simp only;rw[List.getElem?_set,if_neg a1]
 rw[e];exact⟨rfl,rfl⟩
theorem JC (st:St)(c:Cm)(m:Nat)(h:m≤st.cms.length):treeOf (keepC st c) m=treeOf st m:=by
 unfold treeOf keepC;split
 ·rfl
 ·simp only
  rw[List.getElem?_append_left (by omega)]
theorem fP (st:St)(name:List UInt8)(c:Cm)(hf:fnd st.brs name<st.brs.length):Com (down st name c) name:=by
 obtain⟨e1,e2⟩:=JI (keepC st c) name (st.cms.length+1) hf;unfold Com down;rw[e1,e2];rfl
theorem jf (st:St)(hi:Inv st)(name n:List UInt8)(c:Cm)(hf:fnd st.brs name<st.brs.length)(hn:n≠name)(a0:fnd st.brs n<st.brs.length)(h:Com st n):Com (down st name c) n:=by
 obtain⟨e1,e2⟩:=jp (keepC st c) name n (st.cms.length+1) hf hn a0;unfold Com down;rw[e1,e2];have e3:treeOf (setHead (keepC st c) name (st.cms.length+1)) (headOf (keepC st c) n)=treeOf (keepC st c) (headOf st n):=rfl;rw[e3,JC _ _ _ (ZL hi n)];exact h
theorem vt {st:St}(h:Zx st){n:List UInt8}(hn:n=[97]∨n=[98]∨n=[99])(a0:st.cms.length<60):Com (commit st n).2 n∧((commit st n).1.2=0∨(commit st n).1.2=9):=by
 obtain⟨h1,h2⟩:=h.fnd hn;unfold commit;rw[if_neg h2];split
 ·rename_i e;exact⟨e,.inr rfl⟩
 ·rw[if_neg (by omega)]
  exact⟨fP _ _ _ h1,.inl rfl⟩
theorem qd {st:St}(h:Zx st)(hi:Inv st){n m:List UInt8}(hn:n=[97]∨n=[98]∨n=[99])(hm:m=[97]∨m=[98]∨m=[99])(a0:m≠n)(hc:Com st m):Com (commit st n).2 m:=by
 obtain⟨h1,h2⟩:=h.fnd hn;obtain⟨h3,h4⟩:=h.fnd hm;unfold commit;rw[if_neg h2];split
 ·exact hc
 ·split
  ·exact hc
  ·exact jf _ hi _ _ _ h1 a0 h3 hc
theorem Zx.mark1 {st:St}(h:Zx st)(hw:WfC st.cms)(n:Nat):1≤n→n≤st.cms.length→mark st.cms n 1=true:=by
 induction n using Nat.strongRecOn with
 |_ n ih=>
  intro h1 h2;by_cases h3:n=1
  ·subst h3;exact yw 1 (by decide)
  ·have hp:=h.par (n-1) (by omega) (by omega)
   obtain⟨q,hq⟩:=List.exists_mem_of_ne_nil _ hp;have a0 :q∈parsC st.cms n:=by
    unfold parsC;rw[j0d (by omega)];exact hq
   have h7:=hw.par n q a0;exact KV hw n q 1 h2 (VG (parsC st.cms) hw.lt st.cms.length _ n h1 h2 (yw n h1) q a0) (ih q h7.2 h7.1 (by omega))
theorem Jl:∀i,(xH i).Pairwise (fun a b=>b<a)
 |0=>List.Pairwise.nil
 |i+1=>List.Pairwise.cons (fun x hx=>by have:=(qR i x).1 hx;omega) (Jl i)
theorem vh (cms:List Cm)(n:Nat):(zq cms n).Pairwise (fun a b=>b<a):=(Jl _).filter _
theorem Ot {l:List Nat}(hl:l.Pairwise (fun a b=>b<a)){n:Nat}(hn:n∈l)(hm:∀x∈l,x≤n):l[0]? =some n:=by
 match l with
 |[]=>simp at hn
 |x::r=>
  rcases List.mem_cons.1 hn with rfl|h
  ·rfl
  ·have:=List.rel_of_pairwise_cons hl h
   have:=hm x (by simp);omega
theorem Ji:∀{l:List Nat},l.Pairwise (fun a b=>b<a)→1∈l→(∀x∈l,1≤x)→l[l.length-1]? =some 1
 |[],_,h,_=>by simp at h
 |[x],_,h,_=>by simp at h;subst h;rfl
 |x::y::r,hl,h,hm=>by
  have h1:1∈y::r:=by
   rcases List.mem_cons.1 h with e|h
   ·have:=List.rel_of_pairwise_cons hl (List.mem_cons_self (a:=y) (l:=r))
    have:=hm y (by simp);omega
   ·exact h
  have:=Ji (List.Pairwise.of_cons hl) h1 fun z hz=>hm z (List.mem_cons_of_mem _ hz)
  simpa using this
theorem mark_self_of {cms:List Cm}(_:WfC cms){n:Nat}(h:1≤n):mark cms n n=true:=yw n h
theorem fall_get {l:List Nat}(hl:l.Pairwise (fun a b=>b<a)){i j:Nat}(hj:j<l.length)(a0:i<j):l[j]<l[i]:=List.pairwise_iff_getElem.1 hl i j (by omega) hj a0
structure CB (cms:List Cm)(n:Nat)(h:List Nat):Prop where
 fall:h.Pairwise (fun a b=>b<a)
 first:h[0]? =some n
 last:h[h.length-1]? =some 1
 mem:∀k∈h,mark cms n k=true∧1≤k∧k≤n
theorem Zx.hist {st:St}(h:Zx st)(hw:WfC st.cms){n:Nat}(h1:1≤n)(h2:n≤st.cms.length):CB st.cms n (zq st.cms n):=by
 have hm:∀k∈zq st.cms n,mark st.cms n k=true∧1≤k∧k≤n:=fun k hk=>by
  have e:=(yv hw h2 k).1 hk;have:=xZ hw n k e;exact⟨e,this.2,this.1⟩
 exact⟨vh _ _,Ot (vh _ _) ((yv hw h2 n).2 (yw n h1)) fun x hx=>(hm x hx).2.2,Ji (vh _ _) ((yv hw h2 1).2 (h.mark1 hw n h1 h2)) fun x hx=>(hm x hx).2.1,hm⟩
theorem gK {k:Nat}{m:List Nat}(h1:m.Pairwise (·< ·))(h2:∀x,x∈m↔x=k):m=[k]:=by
 match m with
 |[]=>have:=(h2 k).2 rfl;simp at this
 |[x]=>rw[(h2 x).1 (by simp)]
 |x::y::r=>
  have e1:=(h2 x).1 (by simp);have e2:=(h2 y).1 (by simp);have:=List.rel_of_pairwise_cons h1 (List.mem_cons_self (a:=y) (l:=r));omega
theorem Fy {cms:List Cm}(hw:WfC cms){k h:Nat}(hk:1≤k)(hh:h≤cms.length)(hm:mark cms h k=true):latC cms k h=[k]:=by
 have a2:=xZ hw h k hm;have hc:comm cms k h k=true:=by
  unfold comm;rw[yw k hk,hm];rfl
 refine gK (J5 _ _) fun x=> ?_
 rw[Va,xF];constructor
 ·rintro⟨h1,h2,h3,h4⟩
  have h5:mark cms k x=true:=by
   unfold comm at h3;rw[Bool.and_eq_true]at h3;exact h3.1
  have h6:=xZ hw k x h5;rcases Nat.lt_or_ge x k with a0|a1
  ·have:=h4 k a0 (by omega) hc
   rw[h5]at this;cases this
  ·omega
 ·rintro rfl
  refine⟨hk,by omega,hc,fun m a3 h2 h3=> ?_⟩;have:=uu hw h3;omega
theorem FU {cms:List Cm}(hw:WfC cms){k h:Nat}(hk:1≤k)(hh:h≤cms.length)(hm:mark cms h k=true):baseC cms k h=(treeC cms k,0):=by
 show togL (baseF cms k) cms (latC cms k h)=_;rw[Fy hw hk hh hm];rfl
theorem gU (cms:List Cm)(a b:Nat):latC cms a b=latC cms b a:=by
 have e:∀i,comm cms a b i=comm cms b a i:=fun i=>by unfold comm;exact Bool.and_comm _ _
 unfold latC;congr 1
 funext i
 unfold isLast lastIn;simp only[e]
theorem OD {cms:List Cm}(hw:WfC cms)(a b:Nat)(ha:a≤cms.length)(hb:b≤cms.length):baseC cms a b=baseC cms b a:=by
 rw[jm hw a b ha,jm hw b a hb,gU]
theorem baseAt_comm {st:St}(hi:Inv st)(a b:Int):baseAt st a b=baseAt st b a:=by
 unfold baseAt;by_cases h:a<1∨b<1∨(st.cms.length:Int)<a∨(st.cms.length:Int)<b
 ·rw[if_pos h,if_pos (by omega)]
 ·have h2:¬(b<1∨a<1∨(st.cms.length:Int)<b∨(st.cms.length:Int)<a):=by omega
  rw[if_neg h,if_neg h2,OD hi.wf a.toNat b.toNat (by omega) (by omega)]
theorem baseAt_in {st:St}(hi:Inv st){k h:Nat}(hk:1≤k)(hh:h≤st.cms.length)(hm:mark st.cms h k=true):baseAt st k h=(Written (treeOf st k),0):=by
 have:=xZ hi.wf h k hm;unfold baseAt;rw[if_neg (by omega),show((k:Int)).toNat=k from rfl,show((h:Int)).toNat=h from rfl,FU hi.wf hk hh hm,if_neg (by simp)];rfl
theorem treeAt_in {st:St}{k:Nat}(hk:1≤k)(hh:k≤st.cms.length):treeAt st k=(Written (treeOf st k),0):=by
 unfold treeAt;rw[if_neg (by omega)];rfl
def CI (st:St):St:=(commit (commit (commit st [97]).2 [98]).2 [99]).2
theorem liv0 (pk:List UInt8):Zx (forkS 7 3 pk):=⟨rfl,j0a 1,fun b hb=>by
 obtain⟨i,_,rfl⟩:=List.mem_map.1 hb;exact j0a _,fun i hi h1=>by
 have:i<1:=hi;omega⟩
end R
