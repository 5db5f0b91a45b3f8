import Derived.Test.YtolgebdmffcemaaGreatDoorQ09
import Derived.Lib.ItoaLen
import Derived.Test.YtolgebdmffcemaaGreatDoorRows
import Derived.WalkKit
import Derived.WalkSpells
import Derived.WalkLawsBesides
import Derived.Deep.AppendSrc
import Derived.Laws.CopyRow
import Derived.Laws.AppendOwn
import Derived.Lib.AppendZerosOnto
import Derived.Lib.Overlaps
import Derived.Laws.Externs
import Derived.Deep.RegionLaw
import Derived.Deep.AppendLies
set_option linter.all false
set_option maxHeartbeats 20000000
set_option maxRecDepth 1000000
namespace Go.Proofs.YtolgebdmffcemaaGreatDoor
open Go.RowKit
def j0g:=@Below.refl
theorem Jb (c:UInt8):∀(a b r s:List UInt8),(∀z∈a,z≠c)→(∀z∈b,z≠c)→a++c::r=b++c::s→a=b∧r=s
 |[],[],r,s,_,_,h=>⟨rfl,by simpa using h⟩
 |[],y::b,r,s,_,hb,h=>by
  simp at h;exact absurd h.1.symm (hb y (by simp))
 |x::a,[],r,s,ha,_,h=>by
  simp at h;exact absurd h.1 (ha x (by simp))
 |x::a,y::b,r,s,ha,hb,h=>by
  simp only[List.cons_append,List.cons.injEq]at h;obtain⟨h1,h2⟩:=Jb c a b r s (fun z hz=>ha z (by simp[hz])) (fun z hz=>hb z (by simp[hz])) h.2;exact⟨by rw[h.1,h1],h2⟩
theorem XM (l:List UInt8)(h:R.isText l=true):∀c∈l,32≤c.toNat∧c≠59:=by
 simp only[R.isText,Bool.and_eq_true,List.all_eq_true]at h;intro c hc;have h1:=h.2 c hc;simp only[R.tb,Bool.and_eq_true,decide_eq_true_eq,Bool.not_eq_true',decide_eq_false_iff_not]at h1;exact⟨h1.1,fun e=>h1.2.2 (by rw[e];rfl)⟩
theorem JV:∀(l:List (List UInt8)),(∀x∈l,R.isText x=true)→∀c∈R.joinF l,32≤c.toNat
 |[],_,c,hc=>by simp[R.joinF]at hc
 |x::r,h,c,hc=>by
  simp only[R.joinF,List.cons_append,List.mem_cons,List.mem_append]at hc;rcases hc with rfl|hc|hc
  ·decide
  ·exact(XM x (h x (by simp)) c hc).1
  ·exact JV r (fun z hz=>h z (by simp[hz])) c hc
theorem ji:∀(l m:List (List UInt8)) (x y:List UInt8),(∀z∈l,R.isText z=true)→(∀z∈m,R.isText z=true)→R.isText x=true→R.isText y=true→x++R.joinF l=y++R.joinF m→x=y∧l=m
 |[],[],x,y,_,_,_,_,h=>⟨by simpa[R.joinF]using h,rfl⟩
 |[],b::m,x,y,_,_,hx,_,h=>by
  simp only[R.joinF,List.append_nil]at h;have:(59:UInt8)∈x:=by rw[h];simp
  exact absurd rfl (XM x hx _ this).2
 |a::l,[],x,y,_,_,_,hy,h=>by
  simp only[R.joinF,List.append_nil]at h;have:(59:UInt8)∈y:=by rw[←h];simp
  exact absurd rfl (XM y hy _ this).2
 |a::l,b::m,x,y,hl,hm,hx,hy,h=>by
  simp only[R.joinF,List.cons_append]at h;obtain⟨h1,h2⟩:=Jb 59 x y _ _ (fun z hz=>(XM x hx z hz).2) (fun z hz=>(XM y hy z hz).2) h;obtain⟨h3,h4⟩:=ji l m a b (fun z hz=>hl z (by simp[hz])) (fun z hz=>hm z (by simp[hz])) (hl a (by simp)) (hm b (by simp)) h2;exact⟨h1,by rw[h3,h4]⟩
theorem oX (l m:List (List UInt8))(hl:∀z∈l,R.isText z=true)(hm:∀z∈m,R.isText z=true)(h1:l≠ [])(h2:m≠ [])(h:R.joinI l=R.joinI m):l=m:=by
 cases l with
 |nil=>exact absurd rfl h1
 |cons a l=>
  cases m with
  |nil=>exact absurd rfl h2
  |cons b m=>
   rw[R.joinI_eq,R.joinI_eq]at h;obtain⟨h3,h4⟩:=ji l m a b (fun z hz=>hl z (by simp[hz])) (fun z hz=>hm z (by simp[hz])) (hl a (by simp)) (hm b (by simp)) h;rw[h3,h4]
theorem XE (n:Nat)(h:¬n<10):Lib.decDigits n=Lib.decDigits (n/10)++ [UInt8.ofNat (48+n % 10)]:=by rw[Lib.decDigits,dif_neg h]
theorem gJ (a b:Nat)(ha:a<10)(hb:b<10)(h:UInt8.ofNat (48+a)=UInt8.ofNat (48+b)):a=b:=by
 have:=congrArg UInt8.toNat h;rw[UInt8.toNat_ofNat',UInt8.toNat_ofNat']at this;omega
theorem uC (n:Nat):1≤(Lib.decDigits n).length:=by rw[Lib.decDigits_length];exact Lib.nDigits_pos n
theorem uD:∀(a b:Nat),Lib.decDigits a=Lib.decDigits b→a=b:=by
 intro a;induction a using Nat.strongRecOn with
 |_ a ih=>
  intro b h;by_cases ha:a<10
  ·by_cases hb:b<10
   ·rw[Lib.decDigits_one ha,Lib.decDigits_one hb]at h
    exact gJ a b ha hb (by simpa using h)
   ·rw[Lib.decDigits_one ha,XE b hb]at h
    have h1:=congrArg List.length h;have:=uC (b/10);simp only[List.length_append,List.length_singleton]at h1;omega
  ·by_cases hb:b<10
   ·rw[Lib.decDigits_one hb,XE a ha]at h
    have h1:=congrArg List.length h;have:=uC (a/10);simp only[List.length_append,List.length_singleton]at h1;omega
   ·rw[XE a ha,XE b hb]at h
    obtain⟨h1,h2⟩:=List.append_inj' h rfl;have:=ih (a/10) (by omega) (b/10) h1;have:=gJ (a % 10) (b % 10) (by omega) (by omega) (by simpa using h2);omega
theorem V0:∀(n:Nat),∀c∈Lib.decDigits n,48≤c.toNat:=by
 intro n;induction n using Nat.strongRecOn with
 |_ n ih=>
  intro c hc;by_cases h:n<10
  ·rw[Lib.decDigits_one h]at hc
   rw[List.mem_singleton.1 hc,UInt8.toNat_ofNat'];omega
  ·rw[XE n h]at hc
   rcases List.mem_append.1 hc with hc|hc
   ·exact ih (n/10) (by omega) c hc
   ·rw[List.mem_singleton.1 hc,UInt8.toNat_ofNat'];omega
theorem gi (n:Int):∀c∈Lib.itoa n,45≤c.toNat:=by
 intro c hc;unfold Lib.itoa at hc;split at hc
 ·rcases List.mem_cons.1 hc with rfl|hc
  ·decide
  ·have:=V0 _ c hc;omega
 ·have:=V0 _ c hc;omega
theorem gh (a b:Int)(h:Lib.itoa a=Lib.itoa b):a=b:=by
 unfold Lib.itoa at h;split at h<;>split at h
 ·have:=uD _ _ (List.cons.inj h).2;omega
 ·have:=V0 b.toNat 45 (by rw[←h];simp);exact absurd this (by decide)
 ·have:=V0 a.toNat 45 (by rw[h];simp);exact absurd this (by decide)
 ·have:=uD _ _ h;omega
theorem gd (l:List (List UInt8))(h:∀x∈l,R.isText x=true):∀c∈R.joinI l,32≤c.toNat:=by
 cases l with
 |nil=>intro c hc;simp[R.joinI]at hc
 |cons a l=>
  intro c hc;rw[R.joinI_eq]at hc;rcases List.mem_append.1 hc with hc|hc
  ·exact(XM a (h a (by simp)) c hc).1
  ·exact JV l (fun z hz=>h z (by simp[hz])) c hc
theorem OkL.no10 {x:R.Leaf}(h:OkL x):∀c∈R.written x,c≠10:=by
 intro c hc e;subst e;unfold R.written at hc;split at hc
 ·rcases List.mem_cons.1 hc with hc|hc
  ·exact absurd hc (by decide)
  ·exact absurd (gi _ _ hc) (by decide)
 ·split at hc
  ·rcases List.mem_cons.1 hc with hc|hc
   ·exact absurd hc (by decide)
   ·exact absurd (XM _ h.text _ hc).1 (by decide)
  ·rcases List.mem_cons.1 hc with hc|hc
   ·exact absurd hc (by decide)
   ·exact absurd (gd _ (fun i hi=>(h.item i hi).1) _ hc) (by decide)
theorem OkL.no32 {x:R.Leaf}(h:OkL x):∀c∈x.path,c≠32∧c≠10:=by
 intro c hc;have:=yo _ h.path c hc;constructor<;>(intro e;rw[e]at this;exact absurd this (by decide))
theorem OkL.inj {x y:R.Leaf}(hx:OkL x)(hy:OkL y)(hp:x.path=y.path)(h:R.written x=R.written y):x=y:=by
 obtain⟨p,k,n,t,it⟩:=x;obtain⟨p',k',n',t',a0⟩:=y;simp only at hp;subst hp;rcases hx.kind with⟨e1,e2,e3⟩|⟨e1,e2,e3⟩|⟨e1,e2,e3,e4⟩<;>rcases hy.kind with⟨f1,f2,f3⟩|⟨f1,f2,f3⟩|⟨f1,f2,f3,f4⟩<;>simp only at e1 e2 e3 f1 f2 f3<;>subst e1 e2 e3 f1 f2 f3<;>simp[R.written]at h
 ·rw[gh _ _ h]
 ·rw[h]
 ·rw[oX it a0 (fun i hi=>(hx.item i hi).1) (fun i hi=>(hy.item i hi).1) e4 f4 h]
theorem kf:∀(t u:List R.Leaf),(∀x∈t,OkL x)→(∀x∈u,OkL x)→R.Written t=R.Written u→t=u
 |[],[],_,_,_=>rfl
 |[],y::u,_,_,h=>by simp[R.Written,R.line]at h
 |x::t,[],_,_,h=>by simp[R.Written,R.line]at h
 |x::t,y::u,ht,hu,h=>by
  have hx:=ht x (by simp);have hy:=hu y (by simp);simp only[R.Written,List.flatMap_cons,R.line,List.append_assoc,List.cons_append,List.nil_append]at h;obtain⟨h1,h2⟩:=Jb 32 _ _ _ _ (fun z hz=>(hx.no32 z hz).1) (fun z hz=>(hy.no32 z hz).1) h;obtain⟨h3,h4⟩:=Jb 10 _ _ _ _ hx.no10 hy.no10 h2;rw[hx.inj hy h1 h3,kf t u (fun z hz=>ht z (by simp[hz])) (fun z hz=>hu z (by simp[hz])) h4]
theorem OkT.inj {t u:List R.Leaf}(ht:OkT t)(hu:OkT u):R.Written t=R.Written u↔t=u:=⟨kf t u ht.ok hu.ok,fun h=>by rw[h]⟩
namespace R
def bodyC (c:Cm):List UInt8:=UInt8.ofNat c.parents.length::(c.parents.map UInt8.ofNat++Written c.tree)
def keepC (st:St)(c:Cm):St:={st with cms:=st.cms++ [c],packed:=st.packed++record 67 (bodyC c)}
def setHead (st:St)(name:List UInt8)(n:Nat):St:={st with brs:=st.brs.set (fnd st.brs name) {name:=name,head:=n,work:=treeOf st n},packed:=st.packed++record 66 (UInt8.ofNat n::name)}
def parsOf (h:Nat):List Nat:=if h=0 then []else [h]
def down (st:St)(name:List UInt8)(c:Cm):St:=setHead (keepC st c) name (st.cms.length+1)
def commit (st:St)(name:List UInt8):(Int×Int)×St:=
 if fndI st.brs name<0 then((0,5),st)
 else if Written (workOf st name)=Written (treeOf st (headOf st name))then((0,9),st)
 else if 60≤st.cms.length then((0,4),st)
 else((((st.cms.length+1:Nat):Int),0),down st name {tree:=workOf st name,parents:=parsOf (headOf st name)})
def treeAt (st:St)(n:Int):List UInt8×Int:=if n<1∨(st.cms.length:Int)<n then([],10)else(Written (treeOf st n.toNat),0)
def parents (st:St)(m:Nat):List Nat:=((st.cms[m-1]?).map (·.parents)).getD []
end R
theorem jh {st:R.St}(h:Inv st)(c:R.Cm)(hl:st.cms.length<60)(ht:OkT c.tree)(hp:∀p∈c.parents,1≤p∧p≤st.cms.length)(h2:c.parents.length≤2):Inv (R.keepC st c):=by
 refine⟨h.many,h.names,h.sort,h.work,fun b hb=> ?_,?_,fun x hx=> ?_,fun i hi=> ?_,fun x hx=> ?_⟩
 ·have:=h.heads b hb
  simp only[R.keepC,List.length_append,List.length_singleton];omega
 ·simp only[R.keepC,List.length_append,List.length_singleton];omega
 ·simp only[R.keepC]at hx
  rcases List.mem_append.1 hx with hx|hx
  ·exact h.trees x hx
  ·rw[List.mem_singleton.1 hx];exact ht
 ·simp only[R.keepC,List.length_append,List.length_singleton]at hi
  simp only[R.keepC];by_cases e:i<st.cms.length
  ·rw[List.getElem_append_left e];exact h.pars i e
  ·rw[List.getElem_append_right (by omega)]
   intro p a1;have a0:p∈c.parents:=by simpa using a1
   have:=hp p a0;omega
 ·simp only[R.keepC]at hx
  rcases List.mem_append.1 hx with hx|hx
  ·exact h.two x hx
  ·rw[List.mem_singleton.1 hx];exact h2
theorem setHead_inv {st:R.St}(h:Inv st)(name:List UInt8)(n:Nat)(hn:n≤st.cms.length)(hf:R.fnd st.brs name<st.brs.length):Inv (R.setHead st name n):=by
 have a1:=R.fnd_name st.brs name hf;have a2:(st.brs[R.fnd st.brs name]'hf)∈st.brs:=j0c hf;have a0:∀z∈st.brs.set (R.fnd st.brs name) {name:=name,head:=n,work:=R.treeOf st n},z={name:=name,head:=n,work:=R.treeOf st n}∨z∈st.brs:=fun z hz=>(List.mem_or_eq_of_mem_set hz).symm
 refine⟨by simpa[R.setHead]using h.many,fun z hz=> ?_,?_,fun z hz=> ?_,fun z hz=> ?_,h.few,h.trees,h.pars,h.two⟩
 ·rcases a0 z hz with rfl|hz
  ·have:=h.names _ a2;rw[a1]at this;exact this
  ·exact h.names z hz
 ·show Zr R.Br.name (st.brs.set (R.fnd st.brs name) {name:=name,head:=n,work:=R.treeOf st n})
  rw[ZE];have hs:=(ZE _ _).1 h.sort;intro p q hp hq a3;have g:∀(p:Nat) (hp:p<(st.brs.set (R.fnd st.brs name) {name:=name,head:=n,work:=R.treeOf st n}).length),(st.brs.set (R.fnd st.brs name) {name:=name,head:=n,work:=R.treeOf st n})[p].name=(st.brs[p]'(by simpa using hp)).name:=by
   intro p hp;rw[List.getElem_set];split
   ·rename_i e;subst e;simp only;rw[a1]
   ·rfl
  rw[g,g];exact hs p q _ _ a3
 ·rcases a0 z hz with rfl|hz
  ·exact Yb h _
  ·exact h.work z hz
 ·rcases a0 z hz with rfl|hz
  ·exact hn
  ·exact h.heads z hz
theorem Qc {st:R.St}(h:Inv st)(n:List UInt8):R.headOf st n≤st.cms.length:=by
 unfold R.headOf
 cases e:st.brs[R.fnd st.brs n]? with
 |none=>simp
 |some b=>exact h.heads b (List.mem_of_getElem? e)
theorem gH {st:R.St}(h:Inv st)(name:List UInt8)(c:R.Cm)(hl:st.cms.length<60)(ht:OkT c.tree)(hp:∀p∈c.parents,1≤p∧p≤st.cms.length)(h2:c.parents.length≤2)(hf:R.fnd st.brs name<st.brs.length):Inv (R.down st name c):=
 setHead_inv (jh h c hl ht hp h2) name _ (by simp[R.keepC]) hf
theorem Vd {st:R.St}(h:Inv st)(n:List UInt8):(∀p∈R.parsOf (R.headOf st n),1≤p∧p≤st.cms.length)∧(R.parsOf (R.headOf st n)).length≤2:=by
 have:=Qc h n;unfold R.parsOf;split
 ·simp
 ·simp;omega
theorem UA {st:R.St}(h:Inv st)(name:List UInt8):Inv (R.commit st name).2:=by
 unfold R.commit;split
 ·exact h
 ·rename_i hf
  split
  ·exact h
  ·split
   ·exact h
   ·have:=Vd h name
    refine gH h name _ (by omega) (Zc h name) this.1 this.2 ?_;rcases R.fndI_cases st.brs name with h1|h1
    ·omega
    ·exact h1.2
theorem O_ {x:R.Leaf}(h:OkL x):(R.line x).length≤9000:=by
 have h1:=yN _ h.path;have h2:=Zz _ h.text;have h3:=R.joinI_length x.items (fun i hi=>by have:=Zz _ (h.item i hi).1;omega);have h4:=h.many;have h5:=Lib.itoa_length_le x.n (by have:=h.lo;omega) (by have:=h.hi;omega);unfold R.line R.written;split
 ·simp only[List.length_append,List.length_cons,List.length_nil];omega
 ·split<;>(simp only[List.length_append,List.length_cons,List.length_nil];omega)
theorem Q1:∀(t:List R.Leaf),(∀x∈t,OkL x)→(R.Written t).length≤t.length*9000
 |[],_=>by simp[R.Written]
 |x::t,h=>by
  have h1:=O_ (h x (by simp));have h2:=Q1 t fun z hz=>h z (by simp[hz])
  simp only[R.Written,List.flatMap_cons,List.length_append,List.length_cons]at h2⊢;omega
theorem OkT.len {t:List R.Leaf}(h:OkT t):(R.Written t).length≤216000:=by
 have:=Q1 t h.ok;have:=h.few;omega
theorem KQ {st:R.St}(h:Inv st)(name:List UInt8):(R.commit st name).2.packed.length≤st.packed.length+300000:=by
 unfold R.commit;split
 ·simp
 ·rename_i hf
  split
  ·simp
  ·split
   ·simp
   ·have hp:=Vd h name
    have hw:=(Zc h name).len;have a0:R.fnd st.brs name<st.brs.length:=by
     rcases R.fndI_cases st.brs name with h1|h1
     ·omega
     ·exact h1.2
    have a1:name.length≤8:=by
     have:=ZA _ (h.names _ (j0c a0));rw[R.fnd_name st.brs name a0]at this;exact this
    simp only[R.down,R.setHead,R.keepC,R.record,R.recHead,R.bodyC,List.length_append,List.length_cons,List.length_nil,List.length_map];omega
def VO (p:List UInt8)(x:R.Leaf):Prop:=x=R.none p∨(OkL x∧x.path=p)
structure OkI (l:List (List UInt8)):Prop where
 sort:Zh l
 item:∀i∈l,R.isText i=true∧i≠ []
def Fs (c:List UInt8→Bool)(acc l:List (List UInt8)):List (List UInt8):=l.foldl (fun acc s=>if c s then R.item acc s else acc) acc
structure Ps (t:List (List UInt8))(base ours theirs:List R.Leaf):Prop where
 sort:Zh t
 path:∀p∈t,R.isPath p=true
 mem:∀q,q∈t↔∃z∈base++(ours++theirs),z.path=q
theorem UX (ps:Nat→List Nat)(hp:∀m,∀p∈ps m,p<m):∀(i:Nat) (f:Nat→Bool) (j:Nat),i≤j→mk ps i f j=f j
 |0,_,_,_=>rfl
 |i+1,f,j,h=>by
  rw[mk,UX ps hp i _ j (by omega)];split
  ·have:¬j∈ps (i+1):=fun e=>by have:=hp _ _ e;omega
   simp[this]
  ·rfl
def WfC (cms:List R.Cm):Prop:=∀(i:Nat) (h:i<cms.length),∀p∈cms[i].parents,1≤p∧p≤i
section
variable {cms:List R.Cm}
end
section
variable {cms:List R.Cm}(ext:List R.Cm)
end
def uB:Nat→List Nat
 |0=> []
 |i+1=>(i+1)::uB i
def fp (mark:Nat→Nat→Bool):Nat→List Nat→List Nat
 |0,_=> []
 |_+1,[]=> []
 |f+1,x::r=>x::fp mark f ((x::r).filter fun m=> !mark x m)
section
variable {cms:List R.Cm}
end
def S (l:List UInt8):Value:= .string ⟨l.toArray⟩
def Rd (w:World)(M:Nat→Prop)(v:Value)(n:Nat)(xs:List Value):Prop:=
 ∃a cap,v= .slice a n cap∧n≤cap∧cap≤maxLen∧(0<n→∃b off,a=some ⟨b,off,none⟩∧b<w.heap.size∧¬M b∧∀j u,xs[j]? =some u→w.cell? ⟨b,off+j,none⟩=some u)
structure zj (M:Nat→Prop)(w w' :World):Prop where
 os:w'.os=w.os
 tape:w'.tape=w.tape
 output:w'.output=w.output
 size:w.heap.size≤w'.heap.size
 block:∀k,k<w.heap.size→¬M k→w'.heap[k]? =w.heap[k]?
theorem zj.refl (M:Nat→Prop)(w:World):zj M w w:=⟨rfl,rfl,rfl,j0a _,fun _ _ _=>rfl⟩
theorem zj.of_below {M:Nat→Prop}{w w' :World}(h:Below w.heap.size w w'):zj M w w' :=⟨h.os,h.tape,h.output,h.size,fun k hk _=>h.block k hk⟩
theorem zj.trans {M:Nat→Prop}{a b c:World}(h:zj M a b)(k:zj M b c):zj M a c:=
 ⟨k.os.trans h.os,k.tape.trans h.tape,k.output.trans h.output,j0f h.size k.size,fun i hi hM=>(k.block i (j0b hi h.size) hM).trans (h.block i hi hM)⟩
theorem zj.mono {M M' :Nat→Prop}{w w' :World}(h:zj M w w')(hm:∀b,M b→M' b):zj M' w w' :=⟨h.os,h.tape,h.output,h.size,fun k hk hn=>h.block k hk fun e=>hn (hm k e)⟩
theorem zj.setCell {M:Nat→Prop}{a w:World}(h:zj M a w){p:Addr}(hp:M p.block∨a.heap.size≤p.block)(u:Value):zj M a (w.setCell p u):=
 ⟨h.os,h.tape,h.output,by simpa[World.setCell]using h.size,fun k hk hn=>by
  rw[Below.heap_setCell _ _ _ _ (by rintro rfl;rcases hp with hp|hp;exact hn hp;omega)];exact h.block k hk hn⟩
theorem zj.drewN {M:Nat→Prop}{a w:World}(h:zj M a w)(q:Nat):zj M a (w.drewN q):=⟨h.os,h.tape,h.output,h.size,h.block⟩
theorem zj.cell {M:Nat→Prop}{w w' :World}(h:zj M w w'){p:Addr}(hp:p.block<w.heap.size)(hM:¬M p.block):w'.cell? p=w.cell? p:=World.cell?_of_block (w:=w) (h.block _ hp hM)
theorem zj.frozen {M:Nat→Prop}{w w' :World}(h:zj M w w'){p:Addr}(hp:p.block<w.heap.size)(hM:¬M p.block):w'.frozen? p=w.frozen? p:=World.frozen?_of_block (w:=w) (h.block _ hp hM)
theorem Rd.step {w w' :World}{M M' O:Nat→Prop}{v:Value}{n:Nat}{xs:List Value}(h:Rd w M v n xs)(hk:zj O w w')(hO:∀b,O b→M b)(hM:∀b,M' b→M b∨w.heap.size≤b):Rd w' M' v n xs:=by
 obtain⟨a,cap,rfl,h1,h2,h3⟩:=h;refine⟨a,cap,rfl,h1,h2,fun h0=> ?_⟩;obtain⟨b,off,rfl,hb,a0,hc⟩:=h3 h0;refine⟨b,off,rfl,j0b hb hk.size,fun e=>by rcases hM b e with e|e;exact a0 e;omega,fun j u hu=> ?_⟩;rw[World.cell?_of_block (w:=w) (hk.block b hb fun e=>a0 (hO b e))];exact hc j u hu
theorem Rd.kept {w w' :World}{M:Nat→Prop}{v:Value}{n:Nat}{xs:List Value}(h:Rd w M v n xs)(hk:zj M w w'):Rd w' M v n xs:=by
 obtain⟨a,cap,rfl,h1,h2,h3⟩:=h;refine⟨a,cap,rfl,h1,h2,fun h0=> ?_⟩;obtain⟨b,off,rfl,hb,hM,hc⟩:=h3 h0;refine⟨b,off,rfl,j0b hb hk.size,hM,fun j u hu=> ?_⟩;rw[World.cell?_of_block (w:=w) (hk.block b hb hM)];exact hc j u hu
theorem Rd.below {w w' :World}{M:Nat→Prop}{v:Value}{n:Nat}{xs:List Value}(h:Rd w M v n xs)(hb:Below w.heap.size w w'):Rd w' M v n xs:=h.kept (zj.of_below hb)
theorem Rd.of_owns {w:World}{base:Nat}{M:Nat→Prop}{e:TypeId}{sz:Nat}{v:Value}{n:Nat}{xs:List Value}(h:w.ownsRow base e sz v n xs)(hM:∀b,M b→b<base):Rd w M v n xs:=by
 obtain⟨h1,h2⟩:=h;rcases h2 with⟨rfl,rfl⟩|⟨g,cap,a1,rfl,hg,hh,hn,a0,hs,ht⟩
 ·exact⟨none,0,rfl,j0a _,by unfold maxLen;omega,fun h=>absurd h (Nat.lt_irrefl _)⟩
 ·refine⟨_,cap,rfl,hn,a0,fun _=>⟨g,0,rfl,(Array.getElem?_eq_some_iff.1 hh).1,fun hm=>by have:=hM g hm;omega,fun j u hu=> ?_⟩⟩
  simp only[World.cell?,hh];rw[←ht,List.getElem?_take]at hu;split at hu
  ·simpa using hu
  ·cases hu
theorem Tryz.info9:(Tryz.prog.info? 9).map (fun i=>(i.zero,i.size,i.bytes))=some (some (.string ⟨#[]⟩),1,16):=by kernel_rfl
theorem Tryz.info216:(Tryz.prog.info? 216).map (fun i=>(i.zero,i.size,i.bytes))=some (some (.agg #[.string ⟨#[]⟩,.int .u8 0,.int .i64 0,.string ⟨#[]⟩,.slice none 0 0]),5,72):=by kernel_rfl
theorem zE (w:World)(C:Array Value)(t:TypeId):∀(j:Nat) (x:Value),C.toList[j]? =some x→(w.alloc (.cells C t)).cell? ((⟨w.heap.size,0,none⟩:Addr).add j)=some x:=by
 intro j x hj;have a0:(⟨w.heap.size,0,none⟩:Addr).add j=⟨w.heap.size,j,none⟩:=by unfold Addr.add;split<;>simp_all
 rw[a0,World.cell?_alloc_at _ _ _ _ rfl];simpa using hj
theorem Zi {P:Program}(w:World){ops:Array Oper}{rest:List Oper}{o:Oper}{a:Act}{Q:Exit→Act→World→Prop}
  (hg:o.guard=none)(s x:Operand)(t:TypeId)(a5:o.op=Op.call {callee:=Callee.builtin Builtin.append,args:= #[s,x],argTypes:= #[t,t]})
  (base:Nat)(e:TypeId)(z:Value)(size a0:Nat)(h1:P.underlying t=some (.slice e))(h2:(P.info? e).map (fun i=>(i.zero,i.size,i.bytes))=some (some z,size,a0))(h6:z.cells.size=size)(h7:0<size)
  {v:Value}{n:Nat}{xs:List Value}(a2:w.ownsRow base e size v n xs)(C:Array Value)(hC:C.size=size)(hs:a.eval s=v)
  (hx:a.eval x= .slice (some ⟨w.heap.size,0,none⟩) 1 1)(a3:∀u∈C.toList,u.oneCell' =true)(b1:n+1≤maxLen)(b2:(n+1)*a0≤140737488355328)(hB:base≤w.heap.size)
  (hK:∀v' w',w'.ownsRow base e size v' (n+1) (xs++C.toList)→w.grownBy w' v.ownBlock→wpList P ops Q rest (a.put o.dst v') w'):
  wpList P ops Q (o::rest) a (w.alloc (.cells C e)):=by
 obtain⟨i0,hi,a6,a7,a8⟩:=info_parts h2;refine wpList_append_own _ hg s x t a5 base e i0 z size a0 h1 hi a6 a7 a8 h6 h7 v n xs hs (a2.alloc _) ⟨w.heap.size,0,none⟩ 1 1 C.toList hx (by simp[hC]) (zE w C e) a3 b1 b2 (by simp;omega) ?_;intro v' w' ho a1 _;refine hK v' w' ho ⟨a1.os,a1.tape,a1.output,by have:=a1.size;simp at this;omega,fun k hk a4=> ?_⟩;rw[a1.block k (by simp;omega) a4];exact Below.heap_alloc _ _ _ hk
def LC (x:R.Leaf)(iv:Value):List Value:=[.string ⟨x.path.toArray⟩,.int .u8 x.kind,.int .i64 x.n,.string ⟨x.text.toArray⟩,iv]
def Za (L:List (R.Leaf×Value)):List Value:=L.flatMap fun p=>LC p.1 p.2
def It (w:World)(M:Nat→Prop)(p:R.Leaf×Value):Prop:=Rd w M p.2 p.1.items.length (p.1.items.map S)
def Tr (w:World)(M:Nat→Prop)(v:Value)(t:List R.Leaf):Prop:=∃L:List (R.Leaf×Value),L.map (·.1)=t∧Rd w M v L.length (Za L)∧∀p∈L,It w M p
theorem Tr.kept {w w' :World}{M:Nat→Prop}{v:Value}{t:List R.Leaf}(h:Tr w M v t)(hk:zj M w w'):Tr w' M v t:=by
 obtain⟨L,h1,h2,h3⟩:=h;exact⟨L,h1,h2.kept hk,fun p hp=>Rd.kept (h3 p hp) hk⟩
theorem Tr.step {w w' :World}{M M' O:Nat→Prop}{v:Value}{t:List R.Leaf}(h:Tr w M v t)(hk:zj O w w')(hO:∀b,O b→M b)(hM:∀b,M' b→M b∨w.heap.size≤b):Tr w' M' v t:=by
 obtain⟨L,h1,h2,h3⟩:=h;exact⟨L,h1,h2.step hk hO hM,fun p hp=>Rd.step (h3 p hp) hk hO hM⟩
theorem Tr.below {w w' :World}{M:Nat→Prop}{v:Value}{t:List R.Leaf}(h:Tr w M v t)(hb:Below w.heap.size w w'):Tr w' M v t:=h.kept (zj.of_below hb)
theorem jw:∀(L:List (R.Leaf×Value)) (i j:Nat) (h:i<L.length) (_:j<5),(Za L)[i*5+j]? =(LC (L[i]'h).1 (L[i]'h).2)[j]?
 |p::r,0,j,_,hj=>by
  unfold Za;rw[List.flatMap_cons,Nat.zero_mul,Nat.zero_add,List.getElem?_append_left (by simp[LC];omega)];rfl
 |p::r,i+1,j,h,hj=>by
  have ih:=jw r i j (by simpa using h) hj;unfold Za at ih⊢;rw[List.flatMap_cons,List.getElem?_append_right (by simp[LC];omega)];rw[show(i+1)*5+j-(LC p.1 p.2).length=i*5+j from by simp[LC];omega];simpa using ih
theorem K7 {w:World}{b off:Nat}{L:List (R.Leaf×Value)}(hc:∀j u,(Za L)[j]? =some u→w.cell? ⟨b,off+j,none⟩=some u)(i:Nat)(h:i<L.length):
  w.cell? ⟨b,off+i*5,none⟩=some (.string ⟨(L[i]'h).1.path.toArray⟩)∧w.cell? ⟨b,off+i*5+1,none⟩=some (.int .u8 (L[i]'h).1.kind)∧w.cell? ⟨b,off+i*5+2,none⟩=some (.int .i64 (L[i]'h).1.n)∧
  w.cell? ⟨b,off+i*5+3,none⟩=some (.string ⟨(L[i]'h).1.text.toArray⟩)∧w.cell? ⟨b,off+i*5+4,none⟩=some (L[i]'h).2:=by
 have g:∀j u,j<5→(LC (L[i]'h).1 (L[i]'h).2)[j]? =some u→w.cell? ⟨b,off+i*5+j,none⟩=some u:=by
  intro j u hj hu;rw[Nat.add_assoc];exact hc _ _ (by rw[jw L i j h hj];exact hu)
 exact⟨g 0 _ (by omega) rfl,g 1 _ (by omega) rfl,g 2 _ (by omega) rfl,g 3 _ (by omega) rfl,g 4 _ (by omega) rfl⟩
theorem xW {w:World}{M:Nat→Prop}{b off:Nat}{L:List (R.Leaf×Value)}(hI:∀p∈L,It w M p)(hc:∀j u,(Za L)[j]? =some u→w.cell? ⟨b,off+j,none⟩=some u)(i:Nat)(h:i<L.length):
  ∃(x:R.Leaf) (ia:Option Addr) (ic:Nat),Hid (L[i]'h=(x,.slice ia x.items.length ic))∧It w M (x,.slice ia x.items.length ic)∧w.cell? ⟨b,off+i*5,none⟩=some (.string ⟨x.path.toArray⟩)∧w.cell? ⟨b,off+i*5+1,none⟩=some (.int .u8 x.kind)∧w.cell? ⟨b,off+i*5+2,none⟩=some (.int .i64 x.n)∧
  w.cell? ⟨b,off+i*5+3,none⟩=some (.string ⟨x.text.toArray⟩)∧w.cell? ⟨b,off+i*5+4,none⟩=some (.slice ia x.items.length ic):=by
 obtain⟨c0,c1,c2,c3,c4⟩:=K7 hc i h;have hi:=hI _ (j0c h);obtain⟨ia,ic,hv,h1,h2,h3⟩:=hi;refine⟨(L[i]'h).1,ia,ic,?_,⟨ia,ic,rfl,h1,h2,h3⟩,c0,c1,c2,c3,by rw[c4,hv]⟩;show L[i]'h=_;rw[←hv]
theorem zw {w w' :World}{base:Nat}{e:TypeId}{size:Nat}{v:Value}{n:Nat}{xs:List Value}(h:w.ownsRow base e size v n xs)(hb:Below w.heap.size w w'):w'.ownsRow base e size v n xs:=
 h.kept (row:=none) ⟨hb.os,hb.tape,hb.output,hb.size,fun k hk _=>hb.block k hk⟩ (by cases v.ownBlock<;>simp)
theorem Zx {w:World}{q base:Nat}{e:TypeId}{size:Nat}{v:Value}{n:Nat}{xs:List Value}(h:w.ownsRow base e size v n xs):(w.drewN q).ownsRow base e size v n xs:=h
theorem Z5 (L:List (R.Leaf×Value))(x:R.Leaf)(iv:Value):Za (L++ [(x,iv)])=Za L++ [.string ⟨x.path.toArray⟩,.int .u8 x.kind,.int .i64 x.n,.string ⟨x.text.toArray⟩,iv]:=by
 simp[Za,LC]
theorem YE (a b:List UInt8)(k n:Int)(ia:Option Addr)(il ic:Nat):∀u∈ #[Value.string ⟨a.toArray⟩,.int .u8 k,.int .i64 n,.string ⟨b.toArray⟩,.slice ia il ic].toList,u.oneCell' =true:=by
 intro u hu;simp only[List.mem_cons,List.not_mem_nil,or_false]at hu;rcases hu with rfl|rfl|rfl|rfl|rfl<;>rfl
theorem ZZ (a b:Int):((a==b)=true∧a=b)∨((a==b)=false∧a≠b):=by
 by_cases h:a=b
 ·exact .inl ⟨by simpa using h,h⟩
 ·exact .inr ⟨by simpa using h,h⟩
theorem zm {a b:Bool}(h:b=a):Ending.returned (.bool a)= .returned (.bool b):=by rw[h]
theorem zq {k:IntKind}{a b:Int}(h:b=a):Ending.returned (.int k a)= .returned (.int k b):=by rw[h]
theorem ym {a b:ByteArray}(h:b=a):Ending.returned (.string a)= .returned (.string b):=by rw[h]
def zv (L:List (R.Br×Value)):List Value:=L.flatMap fun p=> [.string ⟨p.1.name.toArray⟩,.int .i64 (p.1.head:Int),p.2]
def Yj (L:List (R.Cm×Value×Value)):List Value:=L.flatMap fun p=> [p.2.1,p.2.2]
def fI (w:World)(M:Nat→Prop)(B:Nat)(cms:List R.Cm)(a b:Nat):Prop:=
 ∃(kn:Int) (tv:Value) (e:Int),w.cell? ⟨B,3+(a*61+b),none⟩=some (.int .i64 kn)∧w.cell? ⟨B,3724+(a*61+b),none⟩=some tv∧w.cell? ⟨B,7445+(a*61+b),none⟩=some (.int .i64 e)∧
  (kn=0∨(kn=1∧∃t,Tr w M tv t∧∀ext,R.baseC (cms++ext) a b=(t,e)))
def UJ (w:World)(M:Nat→Prop)(B:Nat)(cms:List R.Cm):Prop:=∀a b,a≤60→b≤60→fI w M B cms a b
theorem UJ.step {w w' :World}{M M' Z:Nat→Prop}{B:Nat}{cms:List R.Cm}(h:UJ w M B cms)(a0:List R.Cm)(hc:∀o,3≤o→w'.cell? ⟨B,o,none⟩=w.cell? ⟨B,o,none⟩)(hk:zj Z w w')(hZ:∀b,Z b→M b)(hM:∀b,M' b→M b∨w.heap.size≤b):UJ w' M' B (cms++a0):=by
 intro a b ha hb;obtain⟨kn,tv,e,h1,h2,h3,h4⟩:=h a b ha hb;refine⟨kn,tv,e,by rw[hc _ (by omega)];exact h1,by rw[hc _ (by omega)];exact h2,by rw[hc _ (by omega)];exact h3,?_⟩;rcases h4 with h4|⟨h4,t,h5,h6⟩
 ·exact .inl h4
 ·exact .inr ⟨h4,t,h5.step hk hZ hM,fun ext=>by rw[List.append_assoc];exact h6 _⟩
theorem UJ.keep {w w' :World}{M M' Z:Nat→Prop}{B:Nat}{cms:List R.Cm}(h:UJ w M B cms)(hc:∀o,3≤o→w'.cell? ⟨B,o,none⟩=w.cell? ⟨B,o,none⟩)(hk:zj Z w w')(hZ:∀b,Z b→M b)(hM:∀b,M' b→M b∨w.heap.size≤b):UJ w' M' B cms:=by
 have:=h.step [] hc hk hZ hM;rwa[List.append_nil]at this
structure ZC (C:Array Value):Prop where
 c0:C[0]? =some (.slice none 0 0)
 c1:C[1]? =some (.slice none 0 0)
 c2:C[2]? =some (.string ⟨#[]⟩)
 kn:∀k,k<3721→C[3+k]? =some (.int .i64 0)
 bs:∀k,k<3721→C[3724+k]? =some (.slice none 0 0)
 er:∀k,k<3721→C[7445+k]? =some (.int .i64 0)
structure RSx (w:World)(M O:Nat→Prop)(B:Nat)(st:R.St)(cv bv:Value)(LB:List (R.Br×Value))(LCm:List (R.Cm×Value×Value)):Prop where
 sub:∀b,O b→M b
 lt:∀b,O b→b<w.heap.size
 own:O B
 c0:w.cell? ⟨B,0,none⟩=some cv
 c1:w.cell? ⟨B,1,none⟩=some bv
 c2:w.cell? ⟨B,2,none⟩=some (.string ⟨st.packed.toArray⟩)
 fr:∀o,w.frozen? ⟨B,o,none⟩=false
 brs:LB.map (·.1)=st.brs
 row:w.ownsRow 0 87 3 bv LB.length (zv LB)
 rowO:∀g,bv.ownBlock=some g→O g∧g≠B
 work:∀p∈LB,Tr w M p.2 p.1.work
 cms:LCm.map (·.1)=st.cms
 crow:w.ownsRow 0 210 2 cv LCm.length (Yj LCm)
 crowO:∀g,cv.ownBlock=some g→O g∧g≠B∧bv.ownBlock≠some g
 ctree:∀p∈LCm,Tr w M p.2.1 p.1.tree
 cpar:∀p∈LCm,Rd w M p.2.2 p.1.parents.length (p.1.parents.map fun(n:Nat)=>Value.int .i64 (n:Int))
 memo:UJ w M B st.cms
def RS (w:World)(M O:Nat→Prop)(B:Nat)(st:R.St):Prop:=∃cv bv LB LCm,RSx w M O B st cv bv LB LCm
theorem zW (L:List (R.Br×Value)):(zv L).length=L.length*3:=by
 unfold zv;induction L with
 |nil=>rfl
 |cons p r ih=>rw[List.flatMap_cons,List.length_append,ih];simp;omega
theorem Qh:∀(L:List (R.Br×Value)) (i j:Nat) (h:i<L.length) (_:j<3),(zv L)[i*3+j]? =[Value.string ⟨(L[i]'h).1.name.toArray⟩,.int .i64 ((L[i]'h).1.head:Int),(L[i]'h).2][j]?
 |p::r,0,j,_,hj=>by
  unfold zv;rw[List.flatMap_cons,Nat.zero_mul,Nat.zero_add,List.getElem?_append_left (by simp;omega)];rfl
 |p::r,i+1,j,h,hj=>by
  have ih:=Qh r i j (by simpa using h) hj;unfold zv at ih⊢;rw[List.flatMap_cons,List.getElem?_append_right (by simp;omega)];rw[show(i+1)*3+j- [Value.string ⟨p.1.name.toArray⟩,.int .i64 (p.1.head:Int),p.2].length=i*3+j from by simp;omega];simpa using ih
theorem za {w:World}{base:Nat}{e:TypeId}{size:Nat}{v:Value}{n:Nat}{xs:List Value}(h:w.ownsRow base e size v n xs):
  ∃a cap,v= .slice a n cap∧n≤cap∧cap≤maxLen∧(a=none→n=0∧cap=0)∧∀ad,a=some ad→∃g,ad=⟨g,0,none⟩∧base≤g∧g<w.heap.size∧(∀o,w.frozen? ⟨g,o,none⟩=false)∧(∀j u,xs[j]? =some u→w.cell? ⟨g,j,none⟩=some u):=by
 obtain⟨h1,h2⟩:=h;rcases h2 with⟨rfl,rfl⟩|⟨g,cap,a1,rfl,hg,hh,hn,a0,hs,ht⟩
 ·exact⟨none,0,rfl,j0a _,by unfold maxLen;omega,fun _=>⟨rfl,rfl⟩,fun ad e=>by cases e⟩
 ·refine⟨_,cap,rfl,hn,a0,fun e=>by(cases e),fun ad e=> ?_⟩
  simp only[Option.some.injEq]at e;subst e;refine⟨g,rfl,hg,(Array.getElem?_eq_some_iff.1 hh).1,fun o=> ?_,fun j u hu=> ?_⟩
  ·simp[World.frozen?,hh]
  ·simp only[World.cell?,hh]
   rw[←ht,List.getElem?_take]at hu;split at hu
   ·simpa using hu
   ·cases hu
theorem Zb {P:Program}(w:World){ops:Array Oper}{rest:List Oper}{o:Oper}{a:Act}{Q:Exit→Act→World→Prop}
  (hg:o.guard=none)(s x:Operand)(t:TypeId)(a6:o.op=Op.call {callee:=Callee.builtin Builtin.append,args:= #[s,x],argTypes:= #[t,t]})
  (base:Nat)(e:TypeId)(z:Value)(size a1:Nat)(h1:P.underlying t=some (.slice e))(h2:(P.info? e).map (fun i=>(i.zero,i.size,i.bytes))=some (some z,size,a1))(h6:z.cells.size=size)(h7:0<size)
  {v:Value}{n:Nat}{xs:List Value}(a2:w.ownsRow base e size v n xs)(ao:Option Addr)(m c:Nat)(a0:List Value)(hn:a0.length=m*size)(a4:ao=none→m=0∧c=0)
  (hc:∀ad,ao=some ad→∀j u,a0[j]? =some u→w.cell? (ad.add j)=some u)(hs:a.eval s=v)
  (hx:a.eval x= .slice ao m c)(a7:∀u∈a0,u.oneCell' =true)(b1:n+m≤maxLen)(b2:(n+m)*a1≤140737488355328)(hB:base≤w.heap.size)
  (hK:∀v' w',w'.ownsRow base e size v' (n+m) (xs++a0)→w.grownBy w' v.ownBlock→wpList P ops Q rest (a.put o.dst v') w'):
  wpList P ops Q (o::rest) a w:=by
 obtain⟨i0,hi,b0,b3,b4⟩:=info_parts h2
 cases ao with
 |some ad=>
  refine wpList_append_own _ hg s x t a6 base e i0 z size a1 h1 hi b0 b3 b4 h6 h7 v n xs hs a2 ad m c a0 hx hn (hc ad rfl) a7 b1 b2 hB ?_;intro v' w' ho a9 _;exact hK v' w' ho a9
 |none=>
  obtain⟨rfl,rfl⟩:=a4 rfl;have a3:a0=[]:=List.eq_nil_of_length_eq_zero (by simpa using hn);subst a3;refine wpList_plain hg fun K a8 => ?_
  have a5:=run_append_owned_none (P:=P) w base t o.type e i0 size h1 hi _ n xs a2;unfold Oper.wp;simp[execOp,a6,resolve,invoke,builtin,hs,hx,a5,Result.andThen];refine a8 _ _ (hK _ w (by simpa using a2) (World.grownBy.refl _ _))
theorem Tryz.info87:(Tryz.prog.info? 87).map (fun i=>(i.zero,i.size,i.bytes))=some (some (.agg #[.string ⟨#[]⟩,.int .i64 0,.slice none 0 0]),3,48):=by kernel_rfl
def pk (x:R.Leaf):Int:=if x.kind=35 then 1 else if x.kind=61 then 2 else if x.kind=42 then 3 else 0
def PC (x:R.Leaf)(iv:Value):List Value:=[.string ⟨x.path.toArray⟩,.int .i64 (pk x),.int .i64 x.n,.string ⟨x.text.toArray⟩,iv]
def zY (L:List (R.Leaf×Value)):List Value:=L.flatMap fun p=>PC p.1 p.2
def PT (w:World)(M:Nat→Prop)(v:Value)(t:List R.Leaf):Prop:=∃L:List (R.Leaf×Value),L.map (·.1)=t∧Rd w M v L.length (zY L)∧∀p∈L,It w M p
theorem PT.kept {w w' :World}{M:Nat→Prop}{v:Value}{t:List R.Leaf}(h:PT w M v t)(hk:zj M w w'):PT w' M v t:=by
 obtain⟨L,h1,h2,h3⟩:=h;exact⟨L,h1,h2.kept hk,fun p hp=>Rd.kept (h3 p hp) hk⟩
theorem PT.step {w w' :World}{M M' O:Nat→Prop}{v:Value}{t:List R.Leaf}(h:PT w M v t)(hk:zj O w w')(hO:∀b,O b→M b)(hM:∀b,M' b→M b∨w.heap.size≤b):PT w' M' v t:=by
 obtain⟨L,h1,h2,h3⟩:=h;exact⟨L,h1,h2.step hk hO hM,fun p hp=>Rd.step (h3 p hp) hk hO hM⟩
theorem PT.below {w w' :World}{M:Nat→Prop}{v:Value}{t:List R.Leaf}(h:PT w M v t)(hb:Below w.heap.size w w'):PT w' M v t:=h.kept (zj.of_below hb)
theorem QE (L:List (R.Leaf×Value)):(zY L).length=L.length*5:=by
 unfold zY;induction L with
 |nil=>rfl
 |cons p r ih=>rw[List.flatMap_cons,List.length_append,ih];simp[PC];omega
theorem jx:∀(L:List (R.Leaf×Value)) (i j:Nat) (h:i<L.length) (_:j<5),(zY L)[i*5+j]? =(PC (L[i]'h).1 (L[i]'h).2)[j]?
 |p::r,0,j,_,hj=>by
  unfold zY;rw[List.flatMap_cons,Nat.zero_mul,Nat.zero_add,List.getElem?_append_left (by simp[PC];omega)];rfl
 |p::r,i+1,j,h,hj=>by
  have ih:=jx r i j (by simpa using h) hj;unfold zY at ih⊢;rw[List.flatMap_cons,List.getElem?_append_right (by simp[PC];omega)];rw[show(i+1)*5+j-(PC p.1 p.2).length=i*5+j from by simp[PC];omega];simpa using ih
theorem GF {w:World}{b off:Nat}{L:List (R.Leaf×Value)}(hc:∀j u,(zY L)[j]? =some u→w.cell? ⟨b,off+j,none⟩=some u)(i:Nat)(h:i<L.length):
  w.cell? ⟨b,off+i*5,none⟩=some (.string ⟨(L[i]'h).1.path.toArray⟩)∧w.cell? ⟨b,off+i*5+1,none⟩=some (.int .i64 (pk (L[i]'h).1))∧w.cell? ⟨b,off+i*5+2,none⟩=some (.int .i64 (L[i]'h).1.n)∧
  w.cell? ⟨b,off+i*5+3,none⟩=some (.string ⟨(L[i]'h).1.text.toArray⟩)∧w.cell? ⟨b,off+i*5+4,none⟩=some (L[i]'h).2:=by
 have g:∀j u,j<5→(PC (L[i]'h).1 (L[i]'h).2)[j]? =some u→w.cell? ⟨b,off+i*5+j,none⟩=some u:=by
  intro j u hj hu;rw[Nat.add_assoc];exact hc _ _ (by rw[jx L i j h hj];exact hu)
 exact⟨g 0 _ (by omega) rfl,g 1 _ (by omega) rfl,g 2 _ (by omega) rfl,g 3 _ (by omega) rfl,g 4 _ (by omega) rfl⟩
theorem v9 {w:World}{M:Nat→Prop}{b off:Nat}{L:List (R.Leaf×Value)}(hI:∀p∈L,It w M p)(hc:∀j u,(zY L)[j]? =some u→w.cell? ⟨b,off+j,none⟩=some u)(i:Nat)(h:i<L.length):
  ∃(x:R.Leaf) (ia:Option Addr) (ic:Nat),Hid (L[i]'h=(x,.slice ia x.items.length ic))∧It w M (x,.slice ia x.items.length ic)∧w.cell? ⟨b,off+i*5,none⟩=some (.string ⟨x.path.toArray⟩)∧w.cell? ⟨b,off+i*5+1,none⟩=some (.int .i64 (pk x))∧w.cell? ⟨b,off+i*5+2,none⟩=some (.int .i64 x.n)∧
  w.cell? ⟨b,off+i*5+3,none⟩=some (.string ⟨x.text.toArray⟩)∧w.cell? ⟨b,off+i*5+4,none⟩=some (.slice ia x.items.length ic):=by
 obtain⟨c0,c1,c2,c3,c4⟩:=GF hc i h;have hi:=hI _ (j0c h);obtain⟨ia,ic,hv,h1,h2,h3⟩:=hi;refine⟨(L[i]'h).1,ia,ic,?_,⟨ia,ic,rfl,h1,h2,h3⟩,c0,c1,c2,c3,by rw[c4,hv]⟩;show L[i]'h=_;rw[←hv]
theorem Q7 {P:Program}(w:World)(dT sT ty a1:TypeId)(g o a0 a4 size:Nat)(a:Addr)(a2 a7:Nat)(a3:Array Value)(t:TypeId)(cs:List Value)
  (hu:P.underlying dT=some (.slice a1))(hs:(P.info? a1).map (·.size)=some size)
  (hg:w.heap[g]? =some (.cells a3 t (0,0)))(hn:cs.length=Nat.min a2 a0*size)
  (a6:∀j v,cs[j]? =some v→w.cell? (a.add j)=some v)(a5:o+cs.length≤a3.size)(h1:∀v∈cs,v.oneCell' =true):
  (Builtin.copy_ #[dT,sT] ty #[.slice (some ⟨g,o,none⟩) a0 a4,.slice (some a) a2 a7]).run P w=
   .ok (goInt (Nat.min a2 a0)) (w.setRow g (a3.toList.take o++cs++a3.toList.drop (o+cs.length)).toArray):=by
 have hl:=run_loadCells_list (P:=P) w a cs a6;have a8:=run_storeCells_at P g o t cs 0 a3 w hg (by simpa using a5) h1
 cases hq:P.info? a1 with
 |none=>simp[hq]at hs
 |some i=>
  have hi:i.size=size:=by simpa[hq]using hs
  rw[hn]at hl;simp only[Nat.add_zero]at a8;simp only[Nat.min_def]at hl hn⊢;simp[Builtin.copy_,run_underlying hu,Builtin.lenOf,Builtin.firstCells,sizeOf,typeInfo,hq,hi,Nat.min_def,hl,a8]
theorem G1 (a0:List Value)(xs C:List Value)(n i size:Nat)(hi:i≤n)(hx:xs.length=n*size)(hC:C.length=size)(hc:(n+1)*size≤a0.length)(ht:a0.take (n*size)=xs):
  let c1:=a0.take ((i+1)*size)++xs.drop (i*size)++a0.drop ((i+1)*size+(xs.drop (i*size)).length)
  let c2:=c1.take (i*size)++C++c1.drop (i*size+C.length)
  c1.length=a0.length∧c2.length=a0.length∧c2.take ((n+1)*size)=xs.take (i*size)++(C++xs.drop (i*size)):=by
 have e1:(i+1)*size=i*size+size:=by rw[Nat.add_mul,Nat.one_mul]
 have e2:(n+1)*size=n*size+size:=by rw[Nat.add_mul,Nat.one_mul]
 have a4:i*size≤n*size:=Nat.mul_le_mul_right _ hi;rw[e2]at hc;rw[e1,e2];generalize i*size=p at*;generalize n*size=q at*;have a3:xs.take p=a0.take p:=by rw[←ht,List.take_take];congr 1;omega
 intro c1 c2;have l1:c1.length=a0.length:=by
  show(a0.take (p+size)++xs.drop p++a0.drop (p+size+(xs.drop p).length)).length=_;simp only[List.length_append,List.length_take,List.length_drop];omega
 have a2:c1.take p=a0.take p:=by
  show(a0.take (p+size)++xs.drop p++a0.drop (p+size+(xs.drop p).length)).take p=_;rw[List.append_assoc,List.take_append_of_le_length (by rw[List.length_take];omega),List.take_take];congr 1;omega
 have a1:c1.drop (p+C.length)=xs.drop p++a0.drop (q+size):=by
  show(a0.take (p+size)++xs.drop p++a0.drop (p+size+(xs.drop p).length)).drop (p+C.length)=_;have hl:(a0.take (p+size)).length=p+C.length:=by rw[List.length_take];omega
  rw[List.append_assoc,←hl,List.drop_left];congr 2
  rw[List.length_drop];omega
 refine⟨l1,?_,?_⟩
 ·show(c1.take p++C++c1.drop (p+C.length)).length=_
  simp only[List.length_append,List.length_take,List.length_drop];omega
 ·show(c1.take p++C++c1.drop (p+C.length)).take (q+size)=_
  rw[a2,a1,a3,List.append_assoc,←List.append_assoc C,←List.append_assoc (a0.take p),List.take_append_of_le_length (by simp only[List.length_append,List.length_take,List.length_drop];omega),List.take_of_length_le (by simp only[List.length_append,List.length_take,List.length_drop];omega)]
theorem G0 (row:List Value)(xs C:List Value)(n i size:Nat)(hi:i≤n)(hx:xs.length=n*size)(hC:C.length=size)(hc:(n+1)*size≤row.length)(ht:row.take (i*size)=xs.take (i*size)):
  let c1:=row.take (i*size)++C++row.drop (i*size+C.length)
  let c2:=c1.take ((i+1)*size)++xs.drop (i*size)++c1.drop ((i+1)*size+(xs.drop (i*size)).length)
  c1.length=row.length∧c2.length=row.length∧c2.take ((n+1)*size)=xs.take (i*size)++(C++xs.drop (i*size)):=by
 have e1:(i+1)*size=i*size+size:=by rw[Nat.add_mul,Nat.one_mul]
 have e2:(n+1)*size=n*size+size:=by rw[Nat.add_mul,Nat.one_mul]
 have a0:i*size≤n*size:=Nat.mul_le_mul_right _ hi;rw[e2]at hc;rw[e1,e2];generalize i*size=p at*;generalize n*size=q at*;intro c1 c2;have l1:c1.length=row.length:=by
  show(row.take p++C++row.drop (p+C.length)).length=_;simp only[List.length_append,List.length_take,List.length_drop];omega
 have h1:c1.take (p+size)=xs.take p++C:=by
  show(row.take p++C++row.drop (p+C.length)).take (p+size)=_;rw[List.take_append_of_le_length (by simp only[List.length_append,List.length_take];omega),List.take_of_length_le (by simp only[List.length_append,List.length_take];omega),ht]
 refine⟨l1,?_,?_⟩
 ·show(c1.take (p+size)++xs.drop p++c1.drop (p+size+(xs.drop p).length)).length=_
  simp only[List.length_append,List.length_take,List.length_drop];omega
 ·show(c1.take (p+size)++xs.drop p++c1.drop (p+size+(xs.drop p).length)).take (q+size)=_
  rw[h1,List.take_append_of_le_length (by simp only[List.length_append,List.length_take,List.length_drop];omega),List.take_of_length_le (by simp only[List.length_append,List.length_take,List.length_drop];omega),List.append_assoc]
theorem yH (g o j:Nat):(⟨g,o,none⟩:Addr).add j=⟨g,o+j,none⟩:=by unfold Addr.add;split<;>simp_all
theorem UH {P:Program}{t t' e e' ty:TypeId}{i:TypeInfo}{v x:Value}{w:World}(ht:P.underlying t=some (.slice e))(a0 :P.underlying t' =some (.slice e'))(hi:P.info? e=some i):
  (Builtin.append_ #[t,t'] ty #[v,x]).run P w=(Builtin.append_ #[t,t] ty #[v,x]).run P w:=by
 cases v<;>simp[Builtin.append_,run_underlying ht,run_underlying a0,sizeOf,typeInfo,hi]
theorem kF {P:Program}(w:World){ops:Array Oper}{rest:List Oper}{o:Oper}{a:Act}{Q:Exit→Act→World→Prop}
  (hg:o.guard=none)(s x:Operand)(t t' e' :TypeId)(a5:o.op=Op.call {callee:=Callee.builtin Builtin.append,args:= #[s,x],argTypes:= #[t,t']})
  (base:Nat)(e:TypeId)(z:Value)(size a0:Nat)(h1:P.underlying t=some (.slice e))(a3 :P.underlying t' =some (.slice e'))(h2:(P.info? e).map (fun i=>(i.zero,i.size,i.bytes))=some (some z,size,a0))(h6:z.cells.size=size)(h7:0<size)
  {v:Value}{n:Nat}{xs:List Value}(a2:w.ownsRow base e size v n xs)(ad:Addr)(m c:Nat)(a1:List Value)(hn:a1.length=m*size)
  (hc:∀j u,a1[j]? =some u→w.cell? (ad.add j)=some u)(hs:a.eval s=v)
  (hx:a.eval x= .slice (some ad) m c)(a4:∀u∈a1,u.oneCell' =true)(b1:n+m≤maxLen)(b2:(n+m)*a0≤140737488355328)(hB:base≤w.heap.size)
  (hK:∀v' w',w'.ownsRow base e size v' (n+m) (xs++a1)→w.grownBy w' v.ownBlock→(∀g,v'.ownBlock=some g→v.ownBlock=some g∨w.heap.size≤g)→wpList P ops Q rest (a.put o.dst v') w'):
  wpList P ops Q (o::rest) a w:=by
 obtain⟨i0,hi,a6,a7,a8⟩:=info_parts h2;obtain⟨v',w',hr,h3,h4,_,h5⟩:=run_append_own_at (P:=P) w base t o.type e i0 z size a0 h1 hi a6 a7 a8 h6 h7 v n xs a2 ad m c a1 hn hc a4 b1 b2 hB;exact Lib.wpList_append_run w hg s x t t' a5 v (.slice (some ad) m c) hs hx v' w' (by rw[UH h1 a3 hi];exact hr) (hK v' w' h3 h4 (fun g hg=>by
  rcases h5 with h5|h5
  ·exact .inl (by rw[←h5];exact hg)
  ·right;rw[h5]at hg;injection hg with hg;omega))
theorem Jy {P:Program}(w:World)(t ty e:TypeId)(i:TypeInfo)(size g a0 a2:Nat)(a:Addr)(m c:Nat)(a3:Array Value)(t0:TypeId)(a1:List Value)(ht:P.underlying t=some (.slice e))(hi:P.info? e=some i)(hs:i.size=size)
  (hg:w.heap[g]? =some (.cells a3 t0 (0,0)))(hn:a1.length=m*size)(a6:∀j v,a1[j]? =some v→w.cell? (a.add j)=some v)(h1:∀v∈a1,v.oneCell' =true)(a4:a0+m≤a2)(a5:a0*size+a1.length≤a3.size):
  (Builtin.append_ #[t,t] ty #[.slice (some ⟨g,0,none⟩) a0 a2,.slice (some a) m c]).run P w= .ok (.slice (some ⟨g,0,none⟩) (a0+m) a2) (w.setRow g (a3.toList.take (a0*size)++a1++a3.toList.drop (a0*size+a1.length)).toArray):=by
 have hl:=run_loadCells_list (P:=P) w a a1 a6;have a7:=run_storeCells_at P g (a0*size) t0 a1 0 a3 w hg (by simpa using a5) h1;rw[hn]at hl;simp only[Nat.add_zero]at a7;have ha:(⟨g,0,none⟩:Addr).add (a0*size)=⟨g,a0*size,none⟩:=by rw[yH,Nat.zero_add]
 simp[Builtin.append_,run_underlying ht,sizeOf,typeInfo,hi,hs,Builtin.lenOf,a4,Builtin.firstCells,hl,ha,a7]
theorem Ua {P:Program}(w:World)(t ty e:TypeId)(i:TypeInfo)(z:Value)(size g o k c:Nat)(a0:Array Value)(t0:TypeId)(ht:P.underlying t=some (.slice e))(hi:P.info? e=some i)(hz:i.zero=some z)(a5:z.cells.size=size)(a3:∀v∈z.cells.toList,v.oneCell' =true)
  (hg:w.heap[g]? =some (.cells a0 t0 (0,0)))(a2:o+size≤a0.size)(_hsz:0<size)(hk:k=1):
  (Builtin.clear_ #[t] ty #[.slice (some ⟨g,o,none⟩) k c]).run P w= .ok (.tuple #[]) (w.setRow g (a0.toList.take o++z.cells.toList++a0.toList.drop (o+z.cells.toList.length)).toArray):=by
 subst hk;have a4:(Builtin.zeroCells z.cells 1).toList=z.cells.toList:=by
  apply List.ext_getElem?;intro j;simp only[Builtin.zeroCells,Array.getElem?_toList,Array.getElem?_map,Nat.one_mul];by_cases hj:j<z.cells.size
  ·simp[hj,Nat.mod_eq_of_lt hj]
  ·simp[hj]
 have a1:=run_storeCells_at P g o t0 z.cells.toList 0 a0 w hg (by simp only[Array.length_toList,Nat.add_zero];omega) a3;simp only[Nat.add_zero]at a1;simp[Builtin.clear_,run_underlying ht,zeroValue,typeInfo,hi,hz,a4,a1]
theorem XP {P:Program}{ops:Array Oper}{o:Oper}{a:Act}{w:World}{K:Act→World→Prop}{Q:Exit→Act→World→Prop}{E:Prop}
  (hg:o.guard=none)(d x:Operand)(dT sT:TypeId)(a0:o.op=Op.call {callee:=Callee.builtin Builtin.append,args:= #[d,x],argTypes:= #[dT,sT]})
  (v u:Value)(hd:a.eval d=v)(hx:a.eval x=u){v' :Value}{w' :World}(hr:(Builtin.append_ #[dT,sT] o.type #[v,u]).run P w= .ok v' w')(hK:K (a.put o.dst v') w'):
  if Region.wanted o (yielded ops a.tmps)=true then Oper.wp P o a w K Q else E:=by
 have hw:Region.wanted o (yielded ops a.tmps)=true:=by simp[Region.wanted,hg]
 rw[if_pos hw];unfold Oper.wp;simp[execOp,a0,resolve,invoke,builtin,hd,hx,hr,Result.andThen];exact hK
theorem G2 (a0 xs Z:List Value)(m i size:Nat)(hi:i≤m)(hx:xs.length=(m+1)*size)(hZ:Z.length=size)(hc:(m+1)*size≤a0.length)(ht:a0.take ((m+1)*size)=xs):
  let c1:=a0.take (i*size)++xs.drop ((i+1)*size)++a0.drop (i*size+(xs.drop ((i+1)*size)).length)
  let c2:=c1.take (m*size)++Z++c1.drop (m*size+Z.length)
  c1.length=a0.length∧c2.length=a0.length∧c2.take (m*size)=xs.take (i*size)++xs.drop ((i+1)*size):=by
 have e1:(i+1)*size=i*size+size:=by rw[Nat.add_mul,Nat.one_mul]
 have e2:(m+1)*size=m*size+size:=by rw[Nat.add_mul,Nat.one_mul]
 have a3:i*size≤m*size:=Nat.mul_le_mul_right _ hi;rw[e2]at hc hx ht;rw[e1];generalize i*size=p at*;generalize m*size=q at*;have a2:xs.take p=a0.take p:=by rw[←ht,List.take_take];congr 1;omega
 intro c1 c2;have l1:c1.length=a0.length:=by
  show(a0.take p++xs.drop (p+size)++a0.drop (p+(xs.drop (p+size)).length)).length=_;simp only[List.length_append,List.length_take,List.length_drop];omega
 have a1:c1.take q=a0.take p++xs.drop (p+size):=by
  show(a0.take p++xs.drop (p+size)++a0.drop (p+(xs.drop (p+size)).length)).take q=_;rw[List.take_append_of_le_length (by simp only[List.length_append,List.length_take,List.length_drop];omega),List.take_of_length_le (by simp only[List.length_append,List.length_take,List.length_drop];omega)]
 refine⟨l1,?_,?_⟩
 ·show(c1.take q++Z++c1.drop (q+Z.length)).length=_
  simp only[List.length_append,List.length_take,List.length_drop];omega
 ·show(c1.take q++Z++c1.drop (q+Z.length)).take q=_
  rw[List.append_assoc,List.take_append_of_le_length (by simp only[List.length_take];omega),List.take_take,Nat.min_self,a1,a2]
theorem qc {P:Program}(w:World)(base:Nat)(t ty e:TypeId)(i:TypeInfo)(z:Value)(size a2:Nat)(ht:P.underlying t=some (.slice e))(hi:P.info? e=some i)(hz:i.zero=some z)(a1:i.size=size)(b2:i.bytes=a2)(b8:z.cells.size=size)(b5:0<size)
  (v:Value)(n:Nat)(xs:List Value)(a7:w.ownsRow base e size v n xs)(a:Addr)(m c:Nat)(a0:List Value)(hl:a0.length=m*size)(a4:∀j u,a0[j]? =some u→w.cell? (a.add j)=some u)(h1:∀u∈a0,u.oneCell' =true)
  (b1:n+m≤maxLen)(a3:(n+m)*a2≤140737488355328)(a8:base≤w.heap.size):
  ∃v' w',(Builtin.append_ #[t,t] ty #[v,.slice (some a) m c]).run P w= .ok v' w' ∧w'.ownsRow base e size v' (n+m) (xs++a0)∧((v'.ownBlock=v.ownBlock∧w.grownBy w' v.ownBlock)∨(v'.ownBlock=some w.heap.size∧w.grownBy w' none)):=by
 obtain⟨v',w',hr,h2,h3,_,h5⟩:=run_append_own_at (P:=P) w base t ty e i z size a2 ht hi hz a1 b2 b8 b5 v n xs a7 a m c a0 hl a4 h1 b1 a3 a8;refine⟨v',w',hr,h2,?_⟩;have b3 :=a7;obtain⟨b7,ho⟩:=a7;rcases ho with⟨rfl,rfl⟩|⟨g,cap,b4,rfl,hg,hh,hn,b9,hs,b6⟩
 ·have e0:(Value.slice none 0 0).ownBlock=none:=rfl
  rw[e0]at h3 h5⊢;rcases h5 with h5|h5
  ·exact .inl ⟨h5,h3⟩
  ·exact .inr ⟨h5,h3⟩
 ·by_cases a6:n+m≤cap
  ·have a5:=Jy (P:=P) w t ty e i size g n cap a m c b4 e a0 ht hi a1 hh hl a4 h1 a6 (by
    rw[hl,hs,←Nat.add_mul];exact Nat.mul_le_mul_right _ a6)
   rw[hr]at a5;injection a5 with e1 e2
   subst e1;exact .inl ⟨rfl,h3⟩
  ·unfold maxLen at b1
   have a9:(Builtin.firstCells i.size n (.slice (some ⟨g,0,none⟩) n cap)).run P w.drew= .ok xs.toArray w.drew:=by
    rw[a1];refine run_firstCells_some w.drew size n ⟨g,0,none⟩ n cap xs b7 (fun j u hj=> ?_);rw[yH,Nat.zero_add];rw[←b6,List.getElem?_take]at hj;split at hj
    ·show w.cell? _=_
     simp only[World.cell?,hh];simpa using hj
    ·cases hj
   have b0:Src P i.size t (.slice (some a) m c) m a0 w:=by
    rw[a1];exact Src.ofSlice w ht a m c a0 hl a4 h1
   have a5:=run_append_grow_src (P:=P) w t t ty e i z ht hi hz (some ⟨g,0,none⟩) n cap xs a9 (.slice (some a) m c) m a0 b0 (by omega) (by omega) (by rw[b2];exact growslice_fits (by omega) a3);rw[hr]at a5;injection a5 with e1 e2
   subst e1 e2;refine .inr ⟨rfl,⟨rfl,rfl,rfl,by simp,fun k hk _=> ?_⟩⟩;exact heap_alloc_old w.drew _ hk
theorem yw {P:Program}(w:World){ops:Array Oper}{rest:List Oper}{o:Oper}{a:Act}{Q:Exit→Act→World→Prop}
  (hg:o.guard=none)(s x:Operand)(t:TypeId)(a4:o.op=Op.call {callee:=Callee.builtin Builtin.append,args:= #[s,x],argTypes:= #[t,t]})
  (base:Nat)(e:TypeId)(z:Value)(size a0:Nat)(h1:P.underlying t=some (.slice e))(h2:(P.info? e).map (fun i=>(i.zero,i.size,i.bytes))=some (some z,size,a0))(h6:z.cells.size=size)(h7:0<size)
  {v:Value}{n:Nat}{xs:List Value}(a2:w.ownsRow base e size v n xs)(ad:Addr)(m c:Nat)(a1:List Value)(hn:a1.length=m*size)
  (hc:∀j u,a1[j]? =some u→w.cell? (ad.add j)=some u)(hs:a.eval s=v)
  (hx:a.eval x= .slice (some ad) m c)(a3:∀u∈a1,u.oneCell' =true)(b1:n+m≤maxLen)(b2:(n+m)*a0≤140737488355328)(hB:base≤w.heap.size)
  (hK:∀v' w',w'.ownsRow base e size v' (n+m) (xs++a1)→((v'.ownBlock=v.ownBlock∧w.grownBy w' v.ownBlock)∨(v'.ownBlock=some w.heap.size∧w.grownBy w' none))→wpList P ops Q rest (a.put o.dst v') w'):
  wpList P ops Q (o::rest) a w:=by
 obtain⟨i0,hi,a5,a6,a7⟩:=info_parts h2;obtain⟨v',w',hr,h3,h4⟩:=qc (P:=P) w base t o.type e i0 z size a0 h1 hi a5 a6 a7 h6 h7 v n xs a2 ad m c a1 hn hc a3 b1 b2 hB;exact Lib.wpList_append_run w hg s x t t a4 v (.slice (some ad) m c) hs hx v' w' hr (hK v' w' h3 h4)
def zf (k:Nat):Value→Bool
 | .slice none 0 0=>Nat.blt k 2||(Nat.ble 3724 k&&Nat.blt k 7445)
 | .string b=>Nat.beq k 2&&Nat.beq b.data.size 0
 | .int .i64 (.ofNat 0)=>(Nat.ble 3 k&&Nat.blt k 3724)||Nat.ble 7445 k
 |_=>false
def gM (i:Nat):List Value→Bool
 |[]=>true
 |v::r=>zf i v&&gM (i+1) r
def Qv (i:Nat)(L:List Value)(n:Nat):Prop:=L.length=n∧∀(k:Nat) (v:Value),L[k]? =some v→zf (i+k) v=true
theorem Qv.app {i n m:Nat}{A B:List Value}(h:Qv i A n)(k:Qv (i+n) B m):Qv i (List.append A B) (n+m):=by
 obtain⟨h1,h2⟩:=h;obtain⟨k1,k2⟩:=k;show Qv i (A++B) (n+m);refine⟨by rw[List.length_append,h1,k1],fun j v hj=> ?_⟩;rcases Nat.lt_or_ge j n with a1|a0
 ·rw[List.getElem?_append_left (by omega)]at hj;exact h2 j v hj
 ·rw[List.getElem?_append_right (by omega),h1]at hj
  have:=k2 _ v hj;rwa[show i+n+(j-n)=i+j by omega]at this
theorem uG:∀(L:List Value) (i:Nat),gM i L=true→∀(k:Nat) (v:Value),L[k]? =some v→zf (i+k) v=true
 |[],_,_,k,v,h=>by simp at h
 |a::r,i,h,0,v,hk=>by
  rw[gM,Bool.and_eq_true]at h;simp at hk;subst hk;exact h.1
 |a::r,i,h,k+1,v,hk=>by
  rw[gM,Bool.and_eq_true]at h;have:=uG r (i+1) h.2 k v (by simpa using hk);rwa[show i+1+k=i+(k+1)by omega]at this
theorem Qv.leaf {i n:Nat}{L:List Value}(h:Nat.beq L.length n=true)(h2:gM i L=true):Qv i L n:=⟨Nat.eq_of_beq_eq_true h,uG L i h2⟩
theorem Qv.fin {L:List Value}{n:Nat}(h:Qv 0 L n)(hn:Nat.beq n 11166=true):Qv 0 L 11166:=by
 have:=Nat.eq_of_beq_eq_true hn;subst this;exact h
theorem KA:Qv 0 Tryz.zeroCells82.toList 11166:=by
 unfold Tryz.zeroCells82;apply Qv.fin
 case h=>
  show Qv 0 (List.append _ _) _;repeat' (first|apply Qv.app|exact Qv.leaf (n:=43) rfl (by kernel_rfl)|exact Qv.leaf (n:=44) rfl (by kernel_rfl))
 case hn=>kernel_rfl
theorem Oi {k:Nat}{v:Value}(h:zf k v=true)(hk:(3≤k∧k<3724)∨7445≤k):v= .int .i64 0:=by
 unfold zf at h;split at h
 ·simp at h;omega
 ·simp at h;omega
 ·rfl
 ·cases h
theorem Oh {k:Nat}{v:Value}(h:zf k v=true)(hk:k<2∨(3724≤k∧k<7445)):v= .slice none 0 0:=by
 unfold zf at h;split at h
 ·rfl
 ·simp at h;omega
 ·simp at h;omega
 ·cases h
theorem GN {v:Value}(h:zf 2 v=true):v= .string ⟨#[]⟩:=by
 unfold zf at h;split at h
 ·simp at h
 ·rename_i b
  obtain⟨d⟩:=b;have:d= #[]:=Array.eq_empty_of_size_eq_zero (by simpa using h);rw[this]
 ·simp at h
 ·cases h
theorem oe:ZC Tryz.zeroCells82:=by
 obtain⟨h1,h2⟩:=KA;generalize Tryz.zeroCells82=C at h1 h2;have g:∀k:Nat,k<11166→∃v,C[k]? =some v∧zf k v=true:=fun k hk=>by
  have a0 :k<C.toList.length:=by omega
  refine⟨C.toList[k],by simp,?_⟩;have:=h2 k _ (j0d a0);rwa[Nat.zero_add]at this
 refine⟨?_,?_,?_,fun k hk=> ?_,fun k hk=> ?_,fun k hk=> ?_⟩
 ·obtain⟨v,e,hz⟩:=g 0 (by omega);rw[e,Oh hz (by omega)]
 ·obtain⟨v,e,hz⟩:=g 1 (by omega);rw[e,Oh hz (by omega)]
 ·obtain⟨v,e,hz⟩:=g 2 (by omega);rw[e,GN hz]
 ·obtain⟨v,e,hz⟩:=g (3+k) (by omega);rw[e,Oi hz (by omega)]
 ·obtain⟨v,e,hz⟩:=g (3724+k) (by omega);rw[e,Oh hz (by omega)]
 ·obtain⟨v,e,hz⟩:=g (7445+k) (by omega);rw[e,Oi hz (by omega)]
