import Derived.Test.YtolgebdmffcemaaGreatDoorQ10
import Derived.Lib.ItoaLen
import Derived.Lib.SlicesCompact
import Derived.Sort.Walk0
set_option linter.all false
set_option maxHeartbeats 20000000
set_option maxRecDepth 1000000
namespace Go.Proofs.YtolgebdmffcemaaGreatDoor
theorem uK (c:UInt8):∀(a b r s:List UInt8),(∀z∈a,z≠c)→(∀z∈b,z≠c)→a++c::r=b++c::s→a=b∧r=s
 |[],[],r,s,_,_,h=>⟨rfl,by simpa using h⟩
 |[],y::b,r,s,_,hb,h=>by
  simp at h;exact absurd h.1.symm (hb y (by simp))
 |x::a,[],r,s,ha,_,h=>by
  simp at h;exact absurd h.1 (ha x (by simp))
 |x::a,y::b,r,s,ha,hb,h=>by
  simp only[List.cons_append,List.cons.injEq]at h;obtain⟨h1,h2⟩:=uK c a b r s (fun z hz=>ha z (by simp[hz])) (fun z hz=>hb z (by simp[hz])) h.2;exact⟨by rw[h.1,h1],h2⟩
theorem XT (l:List UInt8)(h:R.isText l=true):∀c∈l,32≤c.toNat∧c≠59:=by
 simp only[R.isText,Bool.and_eq_true,List.all_eq_true]at h;intro c hc;have h1:=h.2 c hc;simp only[R.tb,Bool.and_eq_true,decide_eq_true_eq,Bool.not_eq_true',decide_eq_false_iff_not]at h1;exact⟨h1.1,fun e=>h1.2.2 (by rw[e];rfl)⟩
theorem UX:∀(l:List (List UInt8)),(∀x∈l,R.isText x=true)→∀c∈R.joinF l,32≤c.toNat
 |[],_,c,hc=>by simp[R.joinF]at hc
 |x::r,h,c,hc=>by
  simp only[R.joinF,List.cons_append,List.mem_cons,List.mem_append]at hc;rcases hc with rfl|hc|hc
  ·decide
  ·exact(XT x (h x (by simp)) c hc).1
  ·exact UX r (fun z hz=>h z (by simp[hz])) c hc
theorem Jt:∀(l m:List (List UInt8)) (x y:List UInt8),(∀z∈l,R.isText z=true)→(∀z∈m,R.isText z=true)→R.isText x=true→R.isText y=true→x++R.joinF l=y++R.joinF m→x=y∧l=m
 |[],[],x,y,_,_,_,_,h=>⟨by simpa[R.joinF]using h,rfl⟩
 |[],b::m,x,y,_,_,hx,_,h=>by
  simp only[R.joinF,List.append_nil]at h;have:(59:UInt8)∈x:=by rw[h];simp
  exact absurd rfl (XT x hx _ this).2
 |a::l,[],x,y,_,_,_,hy,h=>by
  simp only[R.joinF,List.append_nil]at h;have:(59:UInt8)∈y:=by rw[←h];simp
  exact absurd rfl (XT y hy _ this).2
 |a::l,b::m,x,y,hl,hm,hx,hy,h=>by
  simp only[R.joinF,List.cons_append]at h;obtain⟨h1,h2⟩:=uK 59 x y _ _ (fun z hz=>(XT x hx z hz).2) (fun z hz=>(XT y hy z hz).2) h;obtain⟨h3,h4⟩:=Jt l m a b (fun z hz=>hl z (by simp[hz])) (fun z hz=>hm z (by simp[hz])) (hl a (by simp)) (hm b (by simp)) h2;exact⟨h1,by rw[h3,h4]⟩
theorem GB (l m:List (List UInt8))(hl:∀z∈l,R.isText z=true)(hm:∀z∈m,R.isText z=true)(h1:l≠ [])(h2:m≠ [])(h:R.joinI l=R.joinI m):l=m:=by
 cases l with
 |nil=>exact absurd rfl h1
 |cons a l=>
  cases m with
  |nil=>exact absurd rfl h2
  |cons b m=>
   rw[R.joinI_eq,R.joinI_eq]at h;obtain⟨h3,h4⟩:=Jt l m a b (fun z hz=>hl z (by simp[hz])) (fun z hz=>hm z (by simp[hz])) (hl a (by simp)) (hm b (by simp)) h;rw[h3,h4]
theorem XL (n:Nat)(h:¬n<10):Lib.decDigits n=Lib.decDigits (n/10)++ [UInt8.ofNat (48+n % 10)]:=by rw[Lib.decDigits,dif_neg h]
theorem Ft (a b:Nat)(ha:a<10)(hb:b<10)(h:UInt8.ofNat (48+a)=UInt8.ofNat (48+b)):a=b:=by
 have:=congrArg UInt8.toNat h;rw[UInt8.toNat_ofNat',UInt8.toNat_ofNat']at this;omega
theorem oP (n:Nat):1≤(Lib.decDigits n).length:=by rw[Lib.decDigits_length];exact Lib.nDigits_pos n
theorem oQ:∀(a b:Nat),Lib.decDigits a=Lib.decDigits b→a=b:=by
 intro a;induction a using Nat.strongRecOn with
 |_ a ih=>
  intro b h;by_cases ha:a<10
  ·by_cases hb:b<10
   ·rw[Lib.decDigits_one ha,Lib.decDigits_one hb]at h
    exact Ft a b ha hb (by simpa using h)
   ·rw[Lib.decDigits_one ha,XL b hb]at h
    have h1:=congrArg List.length h;have:=oP (b/10);simp only[List.length_append,List.length_singleton]at h1;omega
  ·by_cases hb:b<10
   ·rw[Lib.decDigits_one hb,XL a ha]at h
    have h1:=congrArg List.length h;have:=oP (a/10);simp only[List.length_append,List.length_singleton]at h1;omega
   ·rw[XL a ha,XL b hb]at h
    obtain⟨h1,h2⟩:=List.append_inj' h rfl;have:=ih (a/10) (by omega) (b/10) h1;have:=Ft (a % 10) (b % 10) (by omega) (by omega) (by simpa using h2);omega
theorem Vy:∀(n:Nat),∀c∈Lib.decDigits n,48≤c.toNat:=by
 intro n;induction n using Nat.strongRecOn with
 |_ n ih=>
  intro c hc;by_cases h:n<10
  ·rw[Lib.decDigits_one h]at hc
   rw[List.mem_singleton.1 hc,UInt8.toNat_ofNat'];omega
  ·rw[XL n h]at hc
   rcases List.mem_append.1 hc with hc|hc
   ·exact ih (n/10) (by omega) c hc
   ·rw[List.mem_singleton.1 hc,UInt8.toNat_ofNat'];omega
theorem F2 (n:Int):∀c∈Lib.itoa n,45≤c.toNat:=by
 intro c hc;unfold Lib.itoa at hc;split at hc
 ·rcases List.mem_cons.1 hc with rfl|hc
  ·decide
  ·have:=Vy _ c hc;omega
 ·have:=Vy _ c hc;omega
theorem F1 (a b:Int)(h:Lib.itoa a=Lib.itoa b):a=b:=by
 unfold Lib.itoa at h;split at h<;>split at h
 ·have:=oQ _ _ (List.cons.inj h).2;omega
 ·have:=Vy b.toNat 45 (by rw[←h];simp);exact absurd this (by decide)
 ·have:=Vy a.toNat 45 (by rw[h];simp);exact absurd this (by decide)
 ·have:=oQ _ _ h;omega
theorem F0 (l:List (List UInt8))(h:∀x∈l,R.isText x=true):∀c∈R.joinI l,32≤c.toNat:=by
 cases l with
 |nil=>intro c hc;simp[R.joinI]at hc
 |cons a l=>
  intro c hc;rw[R.joinI_eq]at hc;rcases List.mem_append.1 hc with hc|hc
  ·exact(XT a (h a (by simp)) c hc).1
  ·exact UX l (fun z hz=>h z (by simp[hz])) c hc
theorem OkL.no10 {x:R.Leaf}(h:OkL x):∀c∈R.written x,c≠10:=by
 intro c hc e;subst e;unfold R.written at hc;split at hc
 ·rcases List.mem_cons.1 hc with hc|hc
  ·exact absurd hc (by decide)
  ·exact absurd (F2 _ _ hc) (by decide)
 ·split at hc
  ·rcases List.mem_cons.1 hc with hc|hc
   ·exact absurd hc (by decide)
   ·exact absurd (XT _ h.text _ hc).1 (by decide)
  ·rcases List.mem_cons.1 hc with hc|hc
   ·exact absurd hc (by decide)
   ·exact absurd (F0 _ (fun i hi=>(h.item i hi).1) _ hc) (by decide)
theorem OkL.no32 {x:R.Leaf}(h:OkL x):∀c∈x.path,c≠32∧c≠10:=by
 intro c hc;have:=yx _ h.path c hc;constructor<;>(intro e;rw[e]at this;exact absurd this (by decide))
theorem OkL.inj {x y:R.Leaf}(hx:OkL x)(hy:OkL y)(hp:x.path=y.path)(h:R.written x=R.written y):x=y:=by
 obtain⟨p,k,n,t,it⟩:=x;obtain⟨p',k',n',t',a0⟩:=y;simp only at hp;subst hp;rcases hx.kind with⟨e1,e2,e3⟩|⟨e1,e2,e3⟩|⟨e1,e2,e3,e4⟩<;>rcases hy.kind with⟨f1,f2,f3⟩|⟨f1,f2,f3⟩|⟨f1,f2,f3,f4⟩<;>simp only at e1 e2 e3 f1 f2 f3<;>subst e1 e2 e3 f1 f2 f3<;>simp[R.written]at h
 ·rw[F1 _ _ h]
 ·rw[h]
 ·rw[GB it a0 (fun i hi=>(hx.item i hi).1) (fun i hi=>(hy.item i hi).1) e4 f4 h]
theorem K6:∀(t u:List R.Leaf),(∀x∈t,OkL x)→(∀x∈u,OkL x)→R.Written t=R.Written u→t=u
 |[],[],_,_,_=>rfl
 |[],y::u,_,_,h=>by simp[R.Written,R.line]at h
 |x::t,[],_,_,h=>by simp[R.Written,R.line]at h
 |x::t,y::u,ht,hu,h=>by
  have hx:=ht x (by simp);have hy:=hu y (by simp);simp only[R.Written,List.flatMap_cons,R.line,List.append_assoc,List.cons_append,List.nil_append]at h;obtain⟨h1,h2⟩:=uK 32 _ _ _ _ (fun z hz=>(hx.no32 z hz).1) (fun z hz=>(hy.no32 z hz).1) h;obtain⟨h3,h4⟩:=uK 10 _ _ _ _ hx.no10 hy.no10 h2;rw[hx.inj hy h1 h3,K6 t u (fun z hz=>ht z (by simp[hz])) (fun z hz=>hu z (by simp[hz])) h4]
theorem OkT.inj {t u:List R.Leaf}(ht:OkT t)(hu:OkT u):R.Written t=R.Written u↔t=u:=⟨K6 t u ht.ok hu.ok,fun h=>by rw[h]⟩
namespace R
def bodyC (c:Cm):List UInt8:=UInt8.ofNat c.parents.length::(c.parents.map UInt8.ofNat++Written c.tree)
def keepC (st:St)(c:Cm):St:={st with cms:=st.cms++ [c],packed:=st.packed++record 67 (bodyC c)}
def setHead (st:St)(name:List UInt8)(n:Nat):St:={st with brs:=st.brs.set (fnd st.brs name) {name:=name,head:=n,work:=treeOf st n},packed:=st.packed++record 66 (UInt8.ofNat n::name)}
def parsOf (h:Nat):List Nat:=if h=0 then []else [h]
def down (st:St)(name:List UInt8)(c:Cm):St:=setHead (keepC st c) name (st.cms.length+1)
def commit (st:St)(name:List UInt8):(Int×Int)×St:=
 if fndI st.brs name<0 then((0,5),st)
 else if Written (workOf st name)=Written (treeOf st (headOf st name))then((0,9),st)
 else if 60≤st.cms.length then((0,4),st)
 else((((st.cms.length+1:Nat):Int),0),down st name {tree:=workOf st name,parents:=parsOf (headOf st name)})
def treeAt (st:St)(n:Int):List UInt8×Int:=if n<1∨(st.cms.length:Int)<n then([],10)else(Written (treeOf st n.toNat),0)
def parents (st:St)(m:Nat):List Nat:=((st.cms[m-1]?).map (·.parents)).getD []
end R
theorem km {st:R.St}(h:Inv st)(c:R.Cm)(hl:st.cms.length<60)(ht:OkT c.tree)(hp:∀p∈c.parents,1≤p∧p≤st.cms.length)(h2:c.parents.length≤2):Inv (R.keepC st c):=by
 refine⟨h.many,h.names,h.sort,h.work,fun b hb=> ?_,?_,fun x hx=> ?_,fun i hi=> ?_,fun x hx=> ?_⟩
 ·have:=h.heads b hb
  simp only[R.keepC,List.length_append,List.length_singleton];omega
 ·simp only[R.keepC,List.length_append,List.length_singleton];omega
 ·simp only[R.keepC]at hx
  rcases List.mem_append.1 hx with hx|hx
  ·exact h.trees x hx
  ·rw[List.mem_singleton.1 hx];exact ht
 ·simp only[R.keepC,List.length_append,List.length_singleton]at hi
  simp only[R.keepC];by_cases e:i<st.cms.length
  ·rw[List.getElem_append_left e];exact h.pars i e
  ·rw[List.getElem_append_right (by omega)]
   intro p a1;have a0:p∈c.parents:=by simpa using a1
   have:=hp p a0;omega
 ·simp only[R.keepC]at hx
  rcases List.mem_append.1 hx with hx|hx
  ·exact h.two x hx
  ·rw[List.mem_singleton.1 hx];exact h2
theorem setHead_inv {st:R.St}(h:Inv st)(name:List UInt8)(n:Nat)(hn:n≤st.cms.length)(hf:R.fnd st.brs name<st.brs.length):Inv (R.setHead st name n):=by
 have a1:=R.fnd_name st.brs name hf;have a2:(st.brs[R.fnd st.brs name]'hf)∈st.brs:=j0c hf;have a0:∀z∈st.brs.set (R.fnd st.brs name) {name:=name,head:=n,work:=R.treeOf st n},z={name:=name,head:=n,work:=R.treeOf st n}∨z∈st.brs:=fun z hz=>(List.mem_or_eq_of_mem_set hz).symm
 refine⟨by simpa[R.setHead]using h.many,fun z hz=> ?_,?_,fun z hz=> ?_,fun z hz=> ?_,h.few,h.trees,h.pars,h.two⟩
 ·rcases a0 z hz with rfl|hz
  ·have:=h.names _ a2;rw[a1]at this;exact this
  ·exact h.names z hz
 ·show zZ R.Br.name (st.brs.set (R.fnd st.brs name) {name:=name,head:=n,work:=R.treeOf st n})
  rw[ZH];have hs:=(ZH _ _).1 h.sort;intro p q hp hq a3;have g:∀(p:Nat) (hp:p<(st.brs.set (R.fnd st.brs name) {name:=name,head:=n,work:=R.treeOf st n}).length),(st.brs.set (R.fnd st.brs name) {name:=name,head:=n,work:=R.treeOf st n})[p].name=(st.brs[p]'(by simpa using hp)).name:=by
   intro p hp;rw[List.getElem_set];split
   ·rename_i e;subst e;simp only;rw[a1]
   ·rfl
  rw[g,g];exact hs p q _ _ a3
 ·rcases a0 z hz with rfl|hz
  ·exact Xg h _
  ·exact h.work z hz
 ·rcases a0 z hz with rfl|hz
  ·exact hn
  ·exact h.heads z hz
theorem ZD {st:R.St}(h:Inv st)(n:List UInt8):R.headOf st n≤st.cms.length:=by
 unfold R.headOf
 cases e:st.brs[R.fnd st.brs n]? with
 |none=>simp
 |some b=>exact h.heads b (List.mem_of_getElem? e)
theorem oM {st:R.St}(h:Inv st)(name:List UInt8)(c:R.Cm)(hl:st.cms.length<60)(ht:OkT c.tree)(hp:∀p∈c.parents,1≤p∧p≤st.cms.length)(h2:c.parents.length≤2)(hf:R.fnd st.brs name<st.brs.length):Inv (R.down st name c):=
 setHead_inv (km h c hl ht hp h2) name _ (by simp[R.keepC]) hf
theorem Qj {st:R.St}(h:Inv st)(n:List UInt8):(∀p∈R.parsOf (R.headOf st n),1≤p∧p≤st.cms.length)∧(R.parsOf (R.headOf st n)).length≤2:=by
 have:=ZD h n;unfold R.parsOf;split
 ·simp
 ·simp;omega
theorem Yv {st:R.St}(h:Inv st)(name:List UInt8):Inv (R.commit st name).2:=by
 unfold R.commit;split
 ·exact h
 ·rename_i hf
  split
  ·exact h
  ·split
   ·exact h
   ·have:=Qj h name
    refine oM h name _ (by omega) (ZB h name) this.1 this.2 ?_;rcases R.fndI_cases st.brs name with h1|h1
    ·omega
    ·exact h1.2
theorem fS {x:R.Leaf}(h:OkL x):(R.line x).length≤9000:=by
 have h1:=xG _ h.path;have h2:=yQ _ h.text;have h3:=R.joinI_length x.items (fun i hi=>by have:=yQ _ (h.item i hi).1;omega);have h4:=h.many;have h5:=Lib.itoa_length_le x.n (by have:=h.lo;omega) (by have:=h.hi;omega);unfold R.line R.written;split
 ·simp only[List.length_append,List.length_cons,List.length_nil];omega
 ·split<;>(simp only[List.length_append,List.length_cons,List.length_nil];omega)
theorem K4:∀(t:List R.Leaf),(∀x∈t,OkL x)→(R.Written t).length≤t.length*9000
 |[],_=>by simp[R.Written]
 |x::t,h=>by
  have h1:=fS (h x (by simp));have h2:=K4 t fun z hz=>h z (by simp[hz])
  simp only[R.Written,List.flatMap_cons,List.length_append,List.length_cons]at h2⊢;omega
theorem OkT.len {t:List R.Leaf}(h:OkT t):(R.Written t).length≤216000:=by
 have:=K4 t h.ok;have:=h.few;omega
theorem jY {st:R.St}(h:Inv st)(name:List UInt8):(R.commit st name).2.packed.length≤st.packed.length+300000:=by
 unfold R.commit;split
 ·simp
 ·rename_i hf
  split
  ·simp
  ·split
   ·simp
   ·have hp:=Qj h name
    have hw:=(ZB h name).len;have a0:R.fnd st.brs name<st.brs.length:=by
     rcases R.fndI_cases st.brs name with h1|h1
     ·omega
     ·exact h1.2
    have a1:name.length≤8:=by
     have:=yn _ (h.names _ (j0c a0));rw[R.fnd_name st.brs name a0]at this;exact this
    simp only[R.down,R.setHead,R.keepC,R.record,R.recHead,R.bodyC,List.length_append,List.length_cons,List.length_nil,List.length_map];omega
def VO (p:List UInt8)(x:R.Leaf):Prop:=x=R.none p∨(OkL x∧x.path=p)
theorem VE {t:List R.Leaf}(h:∀x∈t,OkL x)(p:List UInt8):VO p (R.at_ t p):=by
 rcases kB t p with⟨_,e⟩|⟨_,h1,h2⟩
 ·exact .inl e
 ·exact .inr ⟨h _ h1,h2⟩
theorem VO.kind0 {p:List UInt8}{x:R.Leaf}(h:VO p x):x.kind=0↔x=R.none p:=by
 rcases h with rfl|⟨h,_⟩
 ·simp[R.none]
 ·exact⟨fun e=>absurd e h.nz,fun e=>by rw[e];rfl⟩
theorem VO.path {p:List UInt8}{x:R.Leaf}(h:VO p x):x.path=p:=by
 rcases h with rfl|⟨_,h⟩
 ·rfl
 ·exact h
theorem VO.ok {p:List UInt8}{x:R.Leaf}(h:VO p x)(hk:x.kind≠0):OkL x:=by
 rcases h with rfl|⟨h,_⟩
 ·exact absurd rfl hk
 ·exact h
theorem fv {p:List UInt8}{a b:R.Leaf}(ha:VO p a)(hb:VO p b):R.same a b=true↔a=b:=by
 unfold R.same;by_cases h0:a.kind=0∨b.kind=0
 ·rw[if_pos h0,decide_eq_true_eq]
  constructor
  ·intro e
   have h1:a.kind=0:=by rcases h0 with h|h;exact h;rw[e];exact h
   rw[ha.kind0.1 h1,hb.kind0.1 (by rw[←e];exact h1)]
  ·intro e;rw[e]
 ·rw[if_neg h0,beq_iff_eq]
  have h1:=ha.ok fun e=>h0 (.inl e)
  have h2:=hb.ok fun e=>h0 (.inr e)
  exact⟨fun e=>OkL.inj h1 h2 (by rw[ha.path,hb.path]) e,fun e=>by rw[e]⟩
theorem OkL.kinds {x:R.Leaf}(h:OkL x):x.kind=35∨x.kind=61∨x.kind=42:=by
 rcases h.kind with h|h|h
 ·exact .inl h.1
 ·exact .inr (.inl h.1)
 ·exact .inr (.inr h.1)
theorem VO.n_of {p:List UInt8}{x:R.Leaf}(h:VO p x)(hk:x.kind≠35):x.n=0:=by
 rcases h with rfl|⟨h,_⟩
 ·rfl
 ·rcases h.kind with h|h|h
  ·exact absurd h.1 hk
  all_goals
   exact h.2.1
theorem VO.items_of {p:List UInt8}{x:R.Leaf}(h:VO p x)(hk:x.kind≠42):x.items=[]:=by
 rcases h with rfl|⟨h,_⟩
 ·rfl
 ·rcases h.kind with h|h|h
  ·exact h.2.2
  ·exact h.2.2
  ·exact absurd h.1 hk
theorem VO.baseN {p:List UInt8}{x:R.Leaf}(h:VO p x):R.baseN x 35=x.n:=by
 unfold R.baseN;split
 ·rfl
 ·exact(h.n_of ‹_›).symm
theorem VO.baseI {p:List UInt8}{x:R.Leaf}(h:VO p x):R.baseI x 42=x.items:=by
 unfold R.baseI;split
 ·rfl
 ·exact(h.items_of ‹_›).symm
theorem VO.sort {p:List UInt8}{x:R.Leaf}(h:VO p x):Ze x.items:=by
 rcases h with rfl|⟨h,_⟩
 ·intro i j hi;simp[R.none]at hi
 ·exact h.sort
theorem VO.few {p:List UInt8}{x:R.Leaf}(h:VO p x):x.items.length≤8:=by
 rcases h with rfl|⟨h,_⟩
 ·simp[R.none]
 ·exact h.many
theorem VO.n_hi {p:List UInt8}{x:R.Leaf}(h:VO p x):x.n≤1000000000∧ -1000000000≤x.n:=by
 rcases h with rfl|⟨h,_⟩
 ·simp[R.none]
 ·exact⟨h.hi,h.lo⟩
theorem uz (l:List (List UInt8))(s:List UInt8):R.inL l s=true↔s∈l:=by
 simp[R.inL]
theorem qD:Ze []:=fun i j hi=>by simp at hi
structure OkI (l:List (List UInt8)):Prop where
 sort:Ze l
 item:∀i∈l,R.isText i=true∧i≠ []
theorem OkI.put {l:List (List UInt8)}(h:OkI l){s:List UInt8}(hs:R.isText s=true∧s≠ []):OkI (R.item l s):=
 ⟨ko h.sort s,fun i hi=>by rcases jl hi with rfl|hi;exact hs;exact h.item i hi⟩
theorem OkI.nil:OkI []:=⟨qD,by simp⟩
def Zl (c:List UInt8→Bool)(acc l:List (List UInt8)):List (List UInt8):=l.foldl (fun acc s=>if c s then R.item acc s else acc) acc
theorem qJ (c:List UInt8→Bool):∀(l a0:List (List UInt8)),OkI a0→(∀i∈l,R.isText i=true∧i≠ [])→OkI (Zl c a0 l)
 |[],a0,h,_=>h
 |s::l,a0,h,hl=>by
  show OkI (Zl c (if c s then R.item a0 s else a0) l);refine qJ c l _ ?_ fun i hi=>hl i (List.mem_cons_of_mem _ hi)
  split
  ·exact h.put (hl s (List.mem_cons_self ..))
  ·exact h
theorem Jd (c:List UInt8→Bool):∀(l a0:List (List UInt8)),(Zl c a0 l).length≤a0.length+l.length
 |[],a0=>j0a _
 |s::l,a0=>by
  have h:=Jd c l (if c s then R.item a0 s else a0);have h2:=R.item_length s a0 false;show(Zl c (if c s then R.item a0 s else a0) l).length≤_;rw[List.length_cons];split at h<;>rename_i hc
  ·rw[if_pos hc];have:(R.item a0 s).length≤a0.length+1:=h2;omega
  ·rw[if_neg hc];omega
theorem OB (c:List UInt8→Bool)(a0 l:List (List UInt8))(s:List UInt8):Zl c a0 (l++ [s])=if c s then R.item (Zl c a0 l) s else Zl c a0 l:=by
 unfold Zl;rw[List.foldl_append];rfl
theorem uc (c:List UInt8→Bool)(a0 l m:List (List UInt8)):Zl c a0 (l++m)=Zl c (Zl c a0 l) m:=by
 unfold Zl;rw[List.foldl_append]
theorem gT (b t o:List (List UInt8)):R.bagA b t o=Zl (fun s=>R.inL t s|| !R.inL b s) [] o:=rfl
theorem gS (b a0 t:List (List UInt8)):R.bagB b a0 t=Zl (fun s=> !R.inL b s) a0 t:=by
 unfold R.bagB Zl;congr 1
 funext a0 s
 cases h:R.inL b s<;>simp[h]
theorem Jv {l:List (List UInt8)}(h:OkI l)(s z:List UInt8)(hz:z∈l):z∈R.item l s:=by
 by_cases ha:(l.any fun y=>y==s)=true
 ·rw[XF h.sort s ha];exact hz
 ·rw[XE h.sort s (Bool.eq_false_iff.2 ha)]
  rw[←List.take_append_drop (xL l s) l]at hz;rcases List.mem_append.1 hz with hz|hz
  ·exact List.mem_append_left _ hz
  ·exact List.mem_append_right _ (List.mem_cons_of_mem _ hz)
theorem Qm {l:List (List UInt8)}(h:OkI l)(s:List UInt8):s∈R.item l s:=by
 by_cases ha:(l.any fun y=>y==s)=true
 ·rw[XF h.sort s ha];simpa using ha
 ·rw[XE h.sort s (Bool.eq_false_iff.2 ha)];simp
theorem KY (c:List UInt8→Bool):∀(l a0:List (List UInt8)),OkI a0→(∀i∈l,R.isText i=true∧i≠ [])→∀z∈a0,z∈Zl c a0 l
 |[],_,_,_,z,hz=>hz
 |s::l,a0,h,hl,z,hz=>by
  show z∈Zl c (if c s then R.item a0 s else a0) l;refine KY c l _ ?_ (fun i hi=>hl i (List.mem_cons_of_mem _ hi)) z ?_
  ·split
   ·exact h.put (hl s (List.mem_cons_self ..))
   ·exact h
  ·split
   ·exact Jv h s z hz
   ·exact hz
theorem Jc (c:List UInt8→Bool):∀(l a0:List (List UInt8)),OkI a0→(∀i∈l,R.isText i=true∧i≠ [])→∀z∈l,c z=true→z∈Zl c a0 l
 |[],_,_,_,z,hz,_=>by simp at hz
 |s::l,a0,h,hl,z,hz,hc=>by
  show z∈Zl c (if c s then R.item a0 s else a0) l;have a1:OkI (if c s then R.item a0 s else a0):=by
   split
   ·exact h.put (hl s (List.mem_cons_self ..))
   ·exact h
  rcases List.mem_cons.1 hz with rfl|hz
  ·refine KY c l _ a1 (fun i hi=>hl i (List.mem_cons_of_mem _ hi)) z ?_
   rw[if_pos hc];exact Qm h z
  ·exact Jc c l _ a1 (fun i hi=>hl i (List.mem_cons_of_mem _ hi)) z hz hc
theorem QY (c d:List UInt8→Bool):∀(l a0:List (List UInt8)),OkI a0→(∀i∈l,R.isText i=true∧i≠ [])→(∀z∈l,c z=d z∨z∈a0)→Zl c a0 l=Zl d a0 l
 |[],_,_,_,_=>rfl
 |s::l,a0,h,hl,hcd=>by
  show Zl c (if c s then R.item a0 s else a0) l=Zl d (if d s then R.item a0 s else a0) l;have e:(if c s then R.item a0 s else a0)=(if d s then R.item a0 s else a0):=by
   rcases hcd s (List.mem_cons_self ..)with e|e
   ·rw[e]
   ·have:R.item a0 s=a0:=XF h.sort s (by simpa using e)
    rw[this];simp
  rw[e];refine QY c d l _ ?_ (fun i hi=>hl i (List.mem_cons_of_mem _ hi)) fun z hz=> ?_
  ·split
   ·exact h.put (hl s (List.mem_cons_self ..))
   ·exact h
  ·rcases hcd z (List.mem_cons_of_mem _ hz)with e|e
   ·exact .inl e
   ·refine .inr ?_
    split
    ·exact Jv h s z e
    ·exact e
theorem FB {b o t:List (List UInt8)}(ho:∀i∈o,R.isText i=true∧i≠ [])(ht:∀i∈t,R.isText i=true∧i≠ []):
  R.bagJ b o t=Zl (fun s=>(R.inL o s&&R.inL t s)|| !R.inL b s) [] (o++t):=by
 unfold R.bagJ;rw[gT,gS,uc];have e:Zl (fun s=>(R.inL o s&&R.inL t s)|| !R.inL b s) [] o=Zl (fun s=>R.inL t s|| !R.inL b s) [] o:=
  QY _ _ o [] OkI.nil ho fun z hz=> .inl (by
   have:R.inL o z=true:=(uz o z).2 hz;simp only[this,Bool.true_and])
 rw[e];refine(QY _ _ t _ (qJ _ o [] OkI.nil ho) ht fun z hz=> ?_).symm;have h1:R.inL t z=true:=(uz t z).2 hz;by_cases h2:R.inL o z=true
 ·refine .inr (Jc _ o [] OkI.nil ho z ((uz o z).1 h2) ?_)
  simp only[h1,Bool.true_or]
 ·refine .inl ?_
  have a0 :R.inL o z=false:=by simpa using h2
  simp only[a0,Bool.false_and,Bool.false_or]
theorem cZ {b o t:List (List UInt8)}(ho:∀i∈o,R.isText i=true∧i≠ [])(ht:∀i∈t,R.isText i=true∧i≠ []):OkI (R.bagJ b o t):=by
 unfold R.bagJ;rw[gT,gS];exact qJ _ t _ (qJ _ o [] OkI.nil ho) ht
theorem fV (a b:List UInt8):R.later a b=a∨R.later a b=b:=by
 unfold R.later;split
 ·exact .inr rfl
 ·exact .inl rfl
theorem jj {p:List UInt8}{x y z:R.Leaf}(_hx:VO p x)(hy:VO p y)(hz:VO p z)(he:(R.joinedV x y z).2=0):(R.joinedV x y z).1.kind=0∨(OkL (R.joinedV x y z).1∧(R.joinedV x y z).1.path=p):=by
 have hv:∀u,VO p u→u.kind=0∨(OkL u∧u.path=p):=by
  rintro u (rfl|h)
  ·exact .inl rfl
  ·exact .inr h
 unfold R.joinedV at he⊢;by_cases h1:R.same y x=true
 ·rw[if_pos h1];exact hv _ hz
 rw[if_neg h1]at he⊢;by_cases h2:R.same z x=true
 ·rw[if_pos h2];exact hv _ hy
 rw[if_neg h2]at he⊢;by_cases h3:y.kind=0
 ·rw[if_pos h3];exact hv _ hz
 rw[if_neg h3]at he⊢;by_cases h4:z.kind=0
 ·rw[if_pos h4];exact hv _ hy
 rw[if_neg h4]at he⊢;by_cases h5:y.kind≠z.kind
 ·rw[if_pos h5]at he;exact absurd he (by simp[R.bad])
 rw[if_neg h5]at he⊢;have oy:=hy.ok h3;have oz:=hz.ok h4;have a0:R.isPath y.path=true:=oy.path;by_cases h6:y.kind=35
 ·rw[if_pos h6]at he⊢
  unfold R.counterJ at he⊢;split at he
  ·exact absurd he (by simp[R.bad])
  ·rename_i hb
   rw[if_neg hb];refine .inr ⟨⟨a0,.inl ⟨rfl,rfl,rfl⟩,?_,?_,rfl,by simp,by simp,qD⟩,hy.path⟩
   all_goals
    simp only;omega
 rw[if_neg h6]at he⊢;by_cases h7:y.kind=61
 ·rw[if_pos h7]
  refine .inr ⟨⟨a0,.inr (.inl ⟨rfl,rfl,rfl⟩),by simp,by simp,?_,by simp,by simp,qD⟩,hy.path⟩;rcases fV y.text z.text with e|e
  ·simp only[e];exact oy.text
  ·simp only[e];exact oz.text
 rw[if_neg h7]at he⊢;unfold R.bagV at he⊢;split at he
 ·exact absurd he (by simp[R.bad])
 ·rename_i hb
  rw[if_neg hb];have a1:=cZ (b:=R.baseI x y.kind) oy.item oz.item;by_cases hn:R.bagJ (R.baseI x y.kind) y.items z.items=[]
  ·exact .inl (by simp only[hn,if_true])
  ·exact .inr ⟨⟨a0,.inr (.inr ⟨by simp only[if_neg hn],rfl,rfl,hn⟩),by simp,by simp,rfl,by simp only;omega,a1.item,a1.sort⟩,hy.path⟩
theorem cI {α:Type}{k:α→List UInt8}{s:List UInt8}{x:α}(hx:k x=s){l:List α}(hl:zZ k l)(q:List UInt8):(∃z∈xf k x s false l,k z=q)↔q=s∨∃z∈l,k z=q:=by
 cases ha:l.any fun y=>k y==s with
 |true=>
  rw[Vs x hl ha];obtain⟨hp,he⟩:=YJ hl ha;constructor
  ·rintro⟨z,hz,rfl⟩
   rcases List.mem_append.1 hz with hz|hz
   ·exact .inr ⟨z,List.mem_of_mem_take hz,rfl⟩
   ·rcases List.mem_cons.1 hz with rfl|hz
    ·exact .inl hx
    ·exact .inr ⟨z,List.mem_of_mem_drop hz,rfl⟩
  ·rintro(rfl|⟨z,hz,rfl⟩)
   ·exact⟨x,by simp,hx⟩
   ·by_cases a0:k z=s
    ·exact⟨x,by simp,by rw[hx,a0]⟩
    ·refine⟨z,?_,rfl⟩
     rw[←List.take_append_drop (yE k l s) l,List.drop_eq_getElem_cons hp]at hz;rcases List.mem_append.1 hz with hz|hz
     ·exact List.mem_append_left _ hz
     ·rcases List.mem_cons.1 hz with rfl|hz
      ·exact absurd he a0
      ·exact List.mem_append_right _ (List.mem_cons_of_mem _ hz)
 |false=>
  rw[XI x hl ha];constructor
  ·rintro⟨z,hz,rfl⟩
   rcases List.mem_append.1 hz with hz|hz
   ·exact .inr ⟨z,List.mem_of_mem_take hz,rfl⟩
   ·rcases List.mem_cons.1 hz with rfl|hz
    ·exact .inl hx
    ·exact .inr ⟨z,List.mem_of_mem_drop hz,rfl⟩
  ·rintro(rfl|⟨z,hz,rfl⟩)
   ·exact⟨x,by simp,hx⟩
   ·refine⟨z,?_,rfl⟩
    rw[←List.take_append_drop (yE k l s) l]at hz;rcases List.mem_append.1 hz with hz|hz
    ·exact List.mem_append_left _ hz
    ·exact List.mem_append_right _ (List.mem_cons_of_mem _ hz)
theorem F_ {t:List R.Leaf}(hb:∀y∈t,R.isPath y.path=true)(x:R.Leaf)(hp:R.isPath x.path=true)(hk:x.kind≠0):R.set t x=xf R.Leaf.path x x.path false t:=by
 unfold R.set;rw[decide_eq_false hk];exact Qe x (yx _ hp) t false fun y hy=>yx _ (hb y hy)
theorem oC:∀(l a0:List R.Leaf),(∀x∈l,R.isPath x.path=true∧x.kind≠0)→(∀x∈a0,R.isPath x.path=true)→zZ R.Leaf.path a0→
  zZ R.Leaf.path (l.foldl R.set a0)∧(∀x∈l.foldl R.set a0,R.isPath x.path=true)∧∀q,(∃z∈l.foldl R.set a0,z.path=q)↔(∃z∈l,z.path=q)∨∃z∈a0,z.path=q
 |[],a0,_,h2,h3=>⟨h3,h2,fun q=>by simp⟩
 |x::l,a0,h1,h2,h3=>by
  obtain⟨hp,hk⟩:=h1 x (List.mem_cons_self ..);have e:=F_ h2 x hp hk;obtain⟨g1,g2,g3⟩:=oC l (R.set a0 x) (fun y hy=>h1 y (List.mem_cons_of_mem _ hy)) (by
   rw[e];intro y hy;rcases Yb hy with rfl|hy;exact hp;exact h2 y hy) (by rw[e];exact XH rfl h3)
  refine⟨g1,g2,fun q=> ?_⟩;rw[List.foldl_cons,g3 q,e,cI rfl h3 q];constructor
  ·rintro(⟨z,hz,rfl⟩|rfl|h)
   ·exact .inl ⟨z,List.mem_cons_of_mem _ hz,rfl⟩
   ·exact .inl ⟨x,List.mem_cons_self ..,rfl⟩
   ·exact .inr h
  ·rintro(⟨z,hz,rfl⟩|h)
   ·rcases List.mem_cons.1 hz with rfl|hz
    ·exact .inr (.inl rfl)
    ·exact .inl ⟨z,hz,rfl⟩
   ·exact .inr (.inr h)
structure Ps (t:List (List UInt8))(base ours theirs:List R.Leaf):Prop where
 sort:Ze t
 path:∀p∈t,R.isPath p=true
 mem:∀q,q∈t↔∃z∈base++(ours++theirs),z.path=q
theorem gV {base a1 a0:List R.Leaf}(hb:OkT base)(ho:OkT a1)(ht:OkT a0):Ps (R.allP base a1 a0) base a1 a0:=by
 have h1:∀x∈base++(a1++a0),R.isPath x.path=true∧x.kind≠0:=by
  intro x hx;rcases List.mem_append.1 hx with hx|hx
  ·exact⟨(hb.ok x hx).path,(hb.ok x hx).nz⟩
  ·rcases List.mem_append.1 hx with hx|hx
   ·exact⟨(ho.ok x hx).path,(ho.ok x hx).nz⟩
   ·exact⟨(ht.ok x hx).path,(ht.ok x hx).nz⟩
 obtain⟨g1,g2,g3⟩:=oC (base++(a1++a0)) [] h1 (by simp) List.Pairwise.nil;refine⟨zZ.i ?_,?_,?_⟩
 ·unfold R.allP
  unfold zZ at g1⊢;rw[List.pairwise_map];exact g1
 ·intro p hp
  obtain⟨z,hz,rfl⟩:=List.mem_map.1 hp;exact g2 z hz
 ·intro q
  have:=g3 q;simp only[List.not_mem_nil,false_and,exists_false,or_false]at this;rw[←this];unfold R.allP;rw[List.mem_map]
theorem sorted_eq:∀(l m:List (List UInt8)),zZ id l→zZ id m→(∀q,q∈l↔q∈m)→l=m
 |[],[],_,_,_=>rfl
 |[],y::m,_,_,h=>by have:=(h y).2 (by simp);simp at this
 |x::l,[],_,_,h=>by have:=(h x).1 (by simp);simp at this
 |x::l,y::m,hl,hm,h=>by
  have a0:∀z∈l,Op.bytesLess x z=true:=fun z hz=>List.rel_of_pairwise_cons hl hz
  have a1:∀z∈m,Op.bytesLess y z=true:=fun z hz=>List.rel_of_pairwise_cons hm hz
  have a2:∀(a b:List UInt8),Op.bytesLess a b=true→Op.bytesLess b a=true→False:=fun a b h1 h2=>by
   have:=Zi _ _ _ h1 h2;rw[zt]at this;cases this
  have e:x=y:=by
   rcases List.mem_cons.1 ((h x).1 (by simp))with e|h1
   ·exact e
   ·rcases List.mem_cons.1 ((h y).2 (by simp))with e|h2
    ·exact e.symm
    ·exact(a2 _ _ (a1 x h1) (a0 y h2)).elim
  subst e;rw[sorted_eq l m (List.Pairwise.of_cons hl) (List.Pairwise.of_cons hm) fun q=> ?_];constructor
  ·intro hq
   rcases List.mem_cons.1 ((h q).1 (List.mem_cons_of_mem _ hq))with rfl|h1
   ·have:=a0 q hq;rw[zt]at this;cases this
   ·exact h1
  ·intro hq
   rcases List.mem_cons.1 ((h q).2 (List.mem_cons_of_mem _ hq))with rfl|h1
   ·have:=a1 q hq;rw[zt]at this;cases this
   ·exact h1
theorem Ps.eq {t u:List (List UInt8)}{base a1 a0:List R.Leaf}(h:Ps t base a1 a0)(k:Ps u base a1 a0):t=u:=
 sorted_eq t u h.sort.k k.sort.k fun q=>by rw[h.mem,k.mem]
theorem GM {b o t:List R.Leaf}{ps:List (List UInt8)}(h:R.errJ b o t ps=0):∀p∈ps,(R.valJ b o t p).2=0:=by
 intro p hp;unfold R.errJ at h
 cases e:ps.find? fun p=> !decide ((R.valJ b o t p).2=0)with
 |none=>
  have:=List.find?_eq_none.1 e p hp;simpa using this
 |some q=>
  have h1:=List.find?_some e;rw[e]at h;simp only[Option.map_some,Option.getD_some]at h;rw[h]at h1;simp at h1
theorem cT {b o t:List R.Leaf}{ps:List (List UInt8)}(h:∀p∈ps,(R.valJ b o t p).2=0):R.errJ b o t ps=0:=by
 unfold R.errJ;rw[List.find?_eq_none.2 fun p hp=>by simp[h p hp]];rfl
theorem cU {b o t:List R.Leaf}{ps:List (List UInt8)}(k:Nat)(hk:k<ps.length)(h:∀p∈ps.take k,(R.valJ b o t p).2=0)(he:(R.valJ b o t ps[k]).2≠0):R.errJ b o t ps=(R.valJ b o t ps[k]).2:=by
 unfold R.errJ;have:(ps.find? fun p=> !decide ((R.valJ b o t p).2=0))=some ps[k]:=by
  have e:ps=ps.take k++ps[k]::ps.drop (k+1):=by rw[←List.drop_eq_getElem_cons hk,List.take_append_drop]
  conv=>lhs;rw[e]
  rw[List.find?_append,List.find?_eq_none.2 fun p hp=>by simp[h p hp],Option.none_or,List.find?_cons_of_pos (by simp[he])]
 rw[this];rfl
theorem Gj (b o t:List R.Leaf)(ps:List (List UInt8))(k:Nat)(hk:k<ps.length):R.outJ b o t (ps.take (k+1))=R.outJ b o t (ps.take k)++R.leafJ b o t ps[k]:=by
 unfold R.outJ;rw[List.take_succ_eq_append_getElem hk,List.flatMap_append];simp
theorem Jq {b o t:List R.Leaf}{p:List UInt8}{x:R.Leaf}(h:x∈R.leafJ b o t p):x.path=p∧(R.valJ b o t p).1.kind≠0∧x={(R.valJ b o t p).1 with path:=p}:=by
 unfold R.leafJ at h;split at h
 ·simp at h
 ·rename_i hk
  rw[List.mem_singleton]at h;subst h;exact⟨rfl,hk,rfl⟩
theorem Gs (x:R.Leaf)(p:List UInt8)(h:x.path=p):({x with path:=p}:R.Leaf)=x:=by subst h;rfl
theorem gC {b o t:List R.Leaf}(hb:OkT b)(ho:OkT o)(ht:OkT t){ps:List (List UInt8)}(he:∀p∈ps,(R.valJ b o t p).2=0):∀x∈R.outJ b o t ps,OkL x∧x.path∈ps:=by
 intro x hx;obtain⟨p,hp,hx⟩:=List.mem_flatMap.1 hx;obtain⟨h1,h2,h3⟩:=Jq hx;rcases jj (VE hb.ok p) (VE ho.ok p) (VE ht.ok p) (he p hp)with h|⟨h,hq⟩
 ·exact absurd h h2
 ·have h4:x=(R.joinedV (R.at_ b p) (R.at_ o p) (R.at_ t p)).1:=h3.trans (Gs _ _ hq)
  exact⟨by rw[h4];exact h,by rw[h1];exact hp⟩
theorem Jh {b o t:List R.Leaf}:∀{ps:List (List UInt8)},zZ id ps→zZ R.Leaf.path (R.outJ b o t ps)
 |[],_=>List.Pairwise.nil
 |p::ps,h=>by
  have ih:=Jh (b:=b) (o:=o) (t:=t) (List.Pairwise.of_cons h);have hr:∀x∈R.outJ b o t ps,Op.bytesLess p x.path=true:=by
   intro x hx;obtain⟨q,hq,hx⟩:=List.mem_flatMap.1 hx;rw[(Jq hx).1];exact List.rel_of_pairwise_cons h hq
  show zZ R.Leaf.path (R.leafJ b o t p++R.outJ b o t ps);unfold R.leafJ;split
  ·exact ih
  ·exact List.Pairwise.cons hr ih
theorem Oi {t:List R.Leaf}(h:R.tangled t=false):∀x∈t,∀y∈t,R.leads x.path y.path=false:=by
 intro x hx y hy;have h1:=List.any_eq_false.1 h y hy;exact(jD (by simpa using h1) x hx).1
theorem Vq {b o t:List R.Leaf}(hb:OkT b)(ho:OkT o)(ht:OkT t):OkT (R.joinT b o t).1:=by
 unfold R.joinT R.joinP;split
 ·exact OkT.nil
 ·rename_i he
  have a0 :R.errJ b o t (R.allP b o t)=0:=by simpa using he
  unfold R.endJ;split
  ·exact OkT.nil
  ·rename_i h1
   split
   ·exact OkT.nil
   ·rename_i h2
    refine⟨zZ.t (Jh (gV hb ho ht).sort.k),by simp only;omega,fun x hx=>(gC hb ho ht (GM a0) x hx).1,Oi (by simpa using h1)⟩
theorem ui (ps:Nat→List Nat)(hp:∀m,∀p∈ps m,p<m):∀(i:Nat) (f:Nat→Bool) (j:Nat),i≤j→mk ps i f j=f j
 |0,_,_,_=>rfl
 |i+1,f,j,h=>by
  rw[mk,ui ps hp i _ j (by omega)];split
  ·have:¬j∈ps (i+1):=fun e=>by have:=hp _ _ e;omega
   simp[this]
  ·rfl
theorem ug (ps:Nat→List Nat):∀(i:Nat) (f:Nat→Bool) (j:Nat),f j=true→mk ps i f j=true
 |0,_,_,h=>h
 |i+1,f,j,h=>by
  rw[mk];refine ug ps i _ j ?_;split
  ·simp[h]
  ·exact h
theorem j2 (ps:Nat→List Nat)(T:Nat→Prop)(hT:∀m,T m→∀p∈ps m,T p):∀(i:Nat) (f:Nat→Bool),(∀j,f j=true→T j)→∀j,mk ps i f j=true→T j
 |0,_,h,j,hj=>h j hj
 |i+1,f,h,j,hj=>by
  rw[mk]at hj;refine j2 ps T hT i _ (fun q hq=> ?_) j hj;split at hq
  ·rename_i hi
   rw[Bool.or_eq_true,decide_eq_true_eq]at hq;rcases hq with hq|hq
   ·exact h q hq
   ·exact hT _ (h _ hi) q hq
  ·exact h q hq
theorem Jl (ps:Nat→List Nat)(hp:∀m,∀p∈ps m,p<m):∀(i:Nat) (f:Nat→Bool) (m:Nat),1≤m→m≤i→mk ps i f m=true→∀p∈ps m,mk ps i f p=true
 |0,_,m,h1,h2,_,_,_=>by omega
 |i+1,f,m,h1,h2,h,p,hpm=>by
  rw[mk]at h⊢;rcases Nat.lt_or_ge i m with hm|hm
  ·have e:m=i+1:=by omega
   subst e;rw[ui ps hp i _ (i+1) (by omega)]at h;have hf:f (i+1)=true:=by
    split at h
    ·assumption
    ·exact h
   rw[if_pos hf];exact ug ps i _ p (by simp[hpm])
  ·exact Jl ps hp i _ m h1 hm h p hpm
theorem UM (ps qs:Nat→List Nat):∀(i:Nat) (f:Nat→Bool),(∀m,1≤m→m≤i→ps m=qs m)→mk ps i f=mk qs i f
 |0,_,_=>rfl
 |i+1,f,h=>by
  rw[mk,mk,h (i+1) (by omega) (j0a _)];exact UM ps qs i _ fun m h1 h2=>h m h1 (by omega)
def WfC (cms:List R.Cm):Prop:=∀(i:Nat) (h:i<cms.length),∀p∈cms[i].parents,1≤p∧p≤i
theorem WfC.par {cms:List R.Cm}(h:WfC cms):∀m,∀p∈R.parsC cms m,1≤p∧p<m:=by
 intro m p hp;unfold R.parsC at hp
 cases e:cms[m-1]? with
 |none=>rw[e]at hp;simp at hp
 |some c=>
  rw[e]at hp;obtain⟨hi,rfl⟩:=List.getElem?_eq_some_iff.1 e;have:=h (m-1) hi p (by simpa using hp);omega
theorem WfC.lt {cms:List R.Cm}(h:WfC cms):∀m,∀p∈R.parsC cms m,p<m:=fun m p hp=>(h.par m p hp).2
theorem Inv.wf {st:R.St}(h:Inv st):WfC st.cms:=h.pars
section
variable {cms:List R.Cm}
theorem Kw (h:WfC cms)(n j:Nat)(hj:R.mark cms n j=true):j≤n∧1≤j:=by
 have:=j2 (R.parsC cms) (fun j=>j≤n∧1≤j) (fun m hm p hp=>by have:=h.par m p hp;omega) cms.length (fun j=>decide (j=n∧0<n)) (fun j hj=>by rw[decide_eq_true_eq]at hj;omega) j hj;exact this
theorem XC (n:Nat)(h0:0<n):R.mark cms n n=true:=ug _ _ _ _ (by simp[h0])
theorem OL (h:WfC cms)(n k j:Nat)(hn:n≤cms.length)(h1:R.mark cms n k=true)(h2:R.mark cms k j=true):R.mark cms n j=true:=by
 refine j2 (R.parsC cms) (fun j=>R.mark cms n j=true) (fun m hm p hp=> ?_) cms.length (fun j=>decide (j=k∧0<k)) (fun j hj=> ?_) j h2
 ·have:=Kw h n m hm
  exact Jl (R.parsC cms) h.lt cms.length _ m this.2 (by omega) hm p hp
 ·rw[decide_eq_true_eq]at hj;rw[hj.1];exact h1
theorem KA (h:WfC cms){a b i:Nat}(hc:R.comm cms a b i=true):i≤a∧i≤b∧1≤i:=by
 unfold R.comm at hc;rw[Bool.and_eq_true]at hc;have h1:=Kw h _ _ hc.1;have h2:=Kw h _ _ hc.2;omega
theorem OP (a b i k:Nat):R.lastIn cms a b i k=true↔∀m,k≤m→m≤cms.length→R.comm cms a b m=true→R.mark cms m i=false:=by
 unfold R.lastIn;rw[List.all_eq_true];constructor
 ·intro h m h1 h2 h3
  have:=h m (by rw[List.mem_range'_1];omega);rw[h3]at this;simpa using this
 ·intro h m hm
  rw[List.mem_range'_1]at hm
  cases hc:R.comm cms a b m with
  |false=>simp
  |true=>rw[h m (by omega) (by omega) hc];rfl
theorem yR (a b i:Nat):R.isLast cms a b i=true↔R.comm cms a b i=true∧∀m,i<m→m≤cms.length→R.comm cms a b m=true→R.mark cms m i=false:=by
 unfold R.isLast;rw[Bool.and_eq_true,OP];exact Iff.rfl
theorem Vl (a b i:Nat):i∈R.latC cms a b↔1≤i∧i≤cms.length∧R.isLast cms a b i=true:=by
 unfold R.latC;rw[List.mem_filter,List.mem_range'_1];constructor
 ·rintro⟨h1,h2⟩;exact⟨by omega,by omega,h2⟩
 ·rintro⟨h1,h2,h3⟩;exact⟨by omega,h3⟩
theorem Gv (a b:Nat):(R.latC cms a b).Pairwise (·< ·):=List.Pairwise.filter _ List.pairwise_lt_range'
theorem gI (h:WfC cms){a b x y:Nat}{r:List Nat}(ha:a≤cms.length)(hl:R.latC cms a b=x::y::r):∀i∈x::y::r,i<a:=by
 intro i hi;have hm:=(Vl (cms:=cms) a b i).1 (by rw[hl];exact hi);have hc:=(yR a b i).1 hm.2.2;have a4:=KA h hc.1;rcases Nat.lt_or_ge i a with h1|h1
 ·exact h1
 have e:i=a:=by omega
 subst e;exfalso
 have a0:∀z∈R.latC cms i b,z=i:=by
  intro z hz;have a3 :=(Vl (cms:=cms) i b z).1 hz;have a1 :=(yR i b z).1 a3.2.2;have a2 :=KA h a1.1;rcases Nat.lt_or_ge z i with h2|h2
  ·have h3:=a1.2 i h2 ha hc.1
   have h4:=a1.1;unfold R.comm at h4;rw[Bool.and_eq_true]at h4;rw[h4.1]at h3;cases h3
  ·omega
 have hs:=Gv (cms:=cms) i b;rw[hl]at hs a0;have h1:=a0 x (by simp);have h2:=a0 y (by simp);have:=List.rel_of_pairwise_cons hs (List.mem_cons_self ..);omega
end
theorem QT (cms:List R.Cm)(f g:Nat→Nat→List R.Leaf×Int):∀(l:List Nat) (p:Nat) (t:List R.Leaf),(∀x∈p::l,∀y∈l,f x y=g x y)→R.togF f cms p t l=R.togF g cms p t l
 |[],_,_,_=>rfl
 |n::r,p,t,h=>by
  have e:=h p (List.mem_cons_self ..) n (List.mem_cons_self ..);unfold R.togF;rw[e,QT cms f g r n _ fun x hx y hy=>h x (List.mem_cons_of_mem _ hx) y (List.mem_cons_of_mem _ hy)]
theorem togL_congr {cms:List R.Cm}(hw:WfC cms)(f g:Nat→Nat→List R.Leaf×Int)(a b:Nat)(ha:a≤cms.length)(h:∀x y,x<a→y<a→f x y=g x y):R.togL f cms (R.latC cms a b)=R.togL g cms (R.latC cms a b):=by
 cases hl:R.latC cms a b with
 |nil=>rfl
 |cons x r=>
  cases r with
  |nil=>rfl
  |cons y r=>
   have a0:=gI hw ha hl;exact QT cms f g _ _ _ fun u hu v hv=>h u v (a0 u hu) (a0 v (List.mem_cons_of_mem _ hv))
theorem jF {cms:List R.Cm}(hw:WfC cms):∀(f g a b:Nat),a<f→a<g→a≤cms.length→R.baseF cms f a b=R.baseF cms g a b
 |0,_,_,_,h,_,_=>by omega
 |_,0,_,_,_,h,_=>by omega
 |f+1,g+1,a,b,h1,h2,ha=>togL_congr hw _ _ a b ha fun x y hx _=>jF hw f g x y (by omega) (by omega) (by omega)
theorem FA {cms:List R.Cm}(hw:WfC cms)(a b:Nat)(ha:a≤cms.length):R.baseC cms a b=R.togL (R.baseC cms) cms (R.latC cms a b):=
 togL_congr hw _ _ a b ha fun x y hx _=>jF hw a (x+1) x y hx (by omega) (by omega)
theorem ZV {cms:List R.Cm}(ht:∀c∈cms,OkT c.tree)(n:Nat):OkT (R.treeC cms n):=by
 unfold R.treeC;split
 ·exact OkT.nil
 ·cases e:cms[n-1]? with
  |none=>exact OkT.nil
  |some c=>exact ht c (List.mem_of_getElem? e)
theorem gr {cms:List R.Cm}(ht:∀c∈cms,OkT c.tree)(f:Nat→Nat→List R.Leaf×Int)(hf:∀x y,OkT (f x y).1):∀(l:List Nat) (p:Nat) (t:List R.Leaf),OkT t→OkT (R.togF f cms p t l).1
 |[],_,_,h=>h
 |n::r,p,t,h=>by
  unfold R.togF;split
  ·exact OkT.nil
  ·split
   ·exact OkT.nil
   ·exact gr ht f hf r n _ (Vq (hf p n) h (ZV ht n))
theorem zFS {cms:List R.Cm}(ht:∀c∈cms,OkT c.tree)(f:Nat→Nat→List R.Leaf×Int)(hf:∀x y,OkT (f x y).1)(l:List Nat):OkT (R.togL f cms l).1:=by
 cases l with
 |nil=>exact OkT.nil
 |cons n r=>exact gr ht f hf r n _ (ZV ht n)
theorem O3 {cms:List R.Cm}(ht:∀c∈cms,OkT c.tree):∀(f a b:Nat),OkT (R.baseF cms f a b).1
 |0,_,_=>OkT.nil
 |f+1,_,_=>zFS ht _ (O3 ht f) _
theorem VD {cms:List R.Cm}(ht:∀c∈cms,OkT c.tree)(a b:Nat):OkT (R.baseC cms a b).1:=O3 ht _ _ _
theorem Uj (f:Nat→Nat→List R.Leaf×Int)(cms:List R.Cm):∀(l:List Nat) (p:Nat) (t:List R.Leaf),(R.togF f cms p t l).2≠0→(R.togF f cms p t l).1=[]
 |[],_,_,h=>absurd rfl h
 |n::r,p,t,h=>by
  unfold R.togF at h⊢;split
  ·rfl
  ·rename_i h1
   rw[if_neg h1]at h;split
   ·rfl
   ·rename_i h2
    rw[if_neg h2]at h;exact Uj f cms r n _ h
theorem GV (cms:List R.Cm)(a b:Nat)(h:(R.baseC cms a b).2≠0):(R.baseC cms a b).1=[]:=by
 unfold R.baseC R.baseF R.togL at h⊢;split
 ·rfl
 ·rename_i n r hl
  rw[hl]at h;exact Uj _ _ _ _ _ h
section
variable {cms:List R.Cm}(ext:List R.Cm)
theorem ue (m:Nat)(h1:1≤m)(h:m≤cms.length):R.parsC (cms++ext) m=R.parsC cms m:=by
 unfold R.parsC;rw[List.getElem?_append_left (by omega)]
theorem vN (m:Nat)(h:m≤cms.length):R.treeC (cms++ext) m=R.treeC cms m:=by
 unfold R.treeC;split
 ·rfl
 ·rw[List.getElem?_append_left (by omega)]
theorem gG (ps:Nat→List Nat)(K:Nat)(f:Nat→Bool)(hf:∀j,K<j→f j=false):∀m,mk ps (K+m) f=mk ps K f
 |0=>rfl
 |m+1=>by
  show mk ps ((K+m)+1) f=_;rw[mk,if_neg (by rw[hf _ (by omega)];simp)];exact gG ps K f hf m
theorem xY (n:Nat)(h:n≤cms.length):R.mark (cms++ext) n=R.mark cms n:=by
 unfold R.mark;rw[List.length_append,gG _ _ _ (fun j hj=>by rw[decide_eq_false_iff_not];omega)];exact UM _ _ _ _ fun m h1 h2=>ue ext m h1 h2
theorem Q5 (a b i:Nat)(ha:a≤cms.length)(hb:b≤cms.length):R.comm (cms++ext) a b i=R.comm cms a b i:=by
 unfold R.comm;rw[xY ext a ha,xY ext b hb]
theorem QL (hw:WfC cms)(a b i:Nat)(ha:a≤cms.length)(hb:b≤cms.length):R.isLast (cms++ext) a b i=R.isLast cms a b i:=by
 rw[Bool.eq_iff_iff,yR,yR,Q5 ext a b i ha hb];refine and_congr_right fun _=>⟨fun h m h1 h2 h3=> ?_,fun h m h1 h2 h3=> ?_⟩
 ·have:=h m h1 (by simp;omega) (by rw[Q5 ext a b m ha hb];exact h3)
  rwa[xY ext m h2]at this
 ·rw[Q5 ext a b m ha hb]at h3
  have hm:=KA hw h3;rw[xY ext m (by omega)];exact h m h1 (by omega) h3
theorem UV (hw:WfC cms)(a b:Nat)(ha:a≤cms.length)(hb:b≤cms.length):R.latC (cms++ext) a b=R.latC cms a b:=by
 unfold R.latC;rw[List.length_append,←List.range'_append_1,List.filter_append];have h2:((List.range' (1+cms.length) ext.length).filter (R.isLast (cms++ext) a b))=[]:=by
  rw[List.filter_eq_nil_iff];intro i hi e;rw[List.mem_range'_1]at hi;rw[QL ext hw a b _ ha hb,yR]at e;have:=KA hw e.1;omega
 rw[h2,List.append_nil];exact List.filter_congr fun i _=>QL ext hw a b i ha hb
theorem kE (f:Nat→Nat→List R.Leaf×Int):∀(l:List Nat) (p:Nat) (t:List R.Leaf),(∀x∈l,x≤cms.length)→R.togF f (cms++ext) p t l=R.togF f cms p t l
 |[],_,_,_=>rfl
 |n::r,p,t,h=>by
  unfold R.togF;rw[vN ext n (h n (List.mem_cons_self ..)),kE f r n _ fun x hx=>h x (List.mem_cons_of_mem _ hx)]
theorem Ui (f:Nat→Nat→List R.Leaf×Int)(l:List Nat)(h:∀x∈l,x≤cms.length):R.togL f (cms++ext) l=R.togL f cms l:=by
 cases l with
 |nil=>rfl
 |cons n r=>
  show R.togF f (cms++ext) n (R.treeC (cms++ext) n) r=R.togF f cms n (R.treeC cms n) r;rw[vN ext n (h n (List.mem_cons_self ..)),kE ext f r n _ fun x hx=>h x (List.mem_cons_of_mem _ hx)]
theorem Uk (g f:Nat→Nat→List R.Leaf×Int)(l:List Nat)(h:∀x∈l,∀y∈l,f x y=g x y):R.togL f cms l=R.togL g cms l:=by
 cases l with
 |nil=>rfl
 |cons n r=>exact QT cms f g r n _ fun x hx y hy=>h x hx y (List.mem_cons_of_mem _ hy)
theorem VC (hw:WfC cms):∀(f a b:Nat),a≤cms.length→b≤cms.length→R.baseF (cms++ext) f a b=R.baseF cms f a b
 |0,_,_,_,_=>rfl
 |f+1,a,b,ha,hb=>by
  have hm:∀x∈R.latC cms a b,x≤cms.length:=fun x hx=>((Vl a b x).1 hx).2.1
  unfold R.baseF;rw[UV ext hw a b ha hb,Ui ext _ _ hm];exact Uk _ _ _ fun x hx y hy=>VC hw f x y (hm x hx) (hm y hy)
theorem uQ (hw:WfC cms)(a b:Nat)(ha:a≤cms.length)(hb:b≤cms.length):R.baseC (cms++ext) a b=R.baseC cms a b:=VC ext hw _ a b ha hb
end
def xP:Nat→List Nat
 |0=> []
 |i+1=>(i+1)::xP i
theorem Vm:∀(i j:Nat),j∈xP i↔1≤j∧j≤i
 |0,j=>by simp[xP];omega
 |i+1,j=>by rw[xP,List.mem_cons,Vm i j];omega
theorem oO:∀(i:Nat),(xP i).reverse=List.range' 1 i
 |0=>rfl
 |i+1=>by rw[xP,List.reverse_cons,oO i,List.range'_1_concat,Nat.add_comm]
def YY (mark:Nat→Nat→Bool):Nat→List Nat→List Nat
 |0,_=> []
 |_+1,[]=> []
 |f+1,x::r=>x::YY mark f ((x::r).filter fun m=> !mark x m)
theorem yT (mark:Nat→Nat→Bool)(f:Nat):YY mark f []=[]:=by cases f<;>rfl
section
variable {cms:List R.Cm}
theorem qX (hw:WfC cms)(a b:Nat):∀(i f:Nat) (F:List Nat),i≤cms.length→i≤f→
  (∀x∈F,i<x∧x≤cms.length∧R.comm cms a b x=true)→(∀k,i<k→k≤cms.length→R.comm cms a b k=true→∃x∈F,R.mark cms x k=true)→
  YY (R.mark cms) f ((xP i).filter fun j=>R.comm cms a b j&&F.all fun x=> !R.mark cms x j)=(xP i).filter (R.isLast cms a b)
 |0,f,F,_,_,_,_=>by simp only[xP,List.filter_nil,yT]
 |i+1,f,F,hi,hf,hF,hk=>by
  have hl:R.isLast cms a b (i+1)=(R.comm cms a b (i+1)&&F.all fun x=> !R.mark cms x (i+1)):=by
   rw[Bool.eq_iff_iff,yR,Bool.and_eq_true,List.all_eq_true];refine and_congr_right fun hc=>⟨fun h x hx=> ?_,fun h m h1 h2 h3=> ?_⟩
   ·obtain⟨g1,g2,g3⟩:=hF x hx
    rw[h x g1 g2 g3];rfl
   ·rw[Bool.eq_false_iff];intro e
    obtain⟨x,hx,a1⟩:=hk m h1 h2 h3;have:=h x hx;rw[OL hw x m (i+1) (hF x hx).2.1 a1 e]at this
    cases this
  rw[xP,List.filter_cons,List.filter_cons,←hl];by_cases hc:R.isLast cms a b (i+1)=true
  ·rw[if_pos hc,if_pos hc]
   obtain⟨f,rfl⟩:∃g,f=g+1:=⟨f-1,by omega⟩
   have a0:=((yR a b (i+1)).1 hc).1;rw[YY];congr 1
   rw[List.filter_cons,if_neg (by rw[XC (i+1) (by omega)];simp),List.filter_filter];rw[←qX hw a b i f ((i+1)::F) (by omega) (by omega) (fun x hx=> ?_) (fun k h1 h2 h3=> ?_)]
   ·congr 1
    refine List.filter_congr fun j _=> ?_
    rw[List.all_cons]
    cases R.comm cms a b j<;>cases R.mark cms (i+1) j<;>simp
   ·rcases List.mem_cons.1 hx with rfl|hx
    ·exact⟨by omega,hi,a0⟩
    ·obtain⟨g1,g2,g3⟩:=hF x hx
     exact⟨by omega,g2,g3⟩
   ·rcases Nat.lt_or_ge (i+1) k with h4|h4
    ·obtain⟨x,hx,hm⟩:=hk k h4 h2 h3
     exact⟨x,List.mem_cons_of_mem _ hx,hm⟩
    ·have e:k=i+1:=by omega
     subst e;exact⟨i+1,List.mem_cons_self ..,XC (i+1) (by omega)⟩
  ·rw[if_neg hc,if_neg hc]
   refine qX hw a b i f F (by omega) (by omega) (fun x hx=> ?_) (fun k h1 h2 h3=> ?_)
   ·obtain⟨g1,g2,g3⟩:=hF x hx
    exact⟨by omega,g2,g3⟩
   ·rcases Nat.lt_or_ge (i+1) k with h4|h4
    ·exact hk k h4 h2 h3
    ·have e:k=i+1:=by omega
     subst e;rw[hl,h3,Bool.true_and,List.all_eq_true]at hc;have:∃x∈F,¬(!R.mark cms x (i+1))=true:=by
      refine Classical.byContradiction fun hn=>hc fun x hx=> ?_
      exact Classical.byContradiction fun hm=>hn ⟨x,hx,hm⟩
     obtain⟨x,hx,hm⟩:=this;exact⟨x,hx,by simpa using hm⟩
theorem jU (hw:WfC cms)(a b f:Nat)(hf:cms.length≤f):(YY (R.mark cms) f ((xP cms.length).filter (R.comm cms a b))).reverse=R.latC cms a b:=by
 have h:=qX hw a b cms.length f [] (j0a _) hf (by simp) (fun k h1 h2=>by omega);have e:((xP cms.length).filter fun j=>R.comm cms a b j&&([]:List Nat).all fun x=> !R.mark cms x j)=(xP cms.length).filter (R.comm cms a b):=
  List.filter_congr fun j _=>by simp
 rw[e]at h;rw[h,←List.filter_reverse,oO];rfl
end
theorem QK {a b:List UInt8}(h:a≤b)(hn:a≠b):Op.bytesLess a b=true:=by
 cases h1:Op.bytesLess a b
 ·have h2:Op.bytesLess b a=false:=by
   rw[Go.Proofs.bytesLess_eq];exact decide_eq_false (List.not_lt.2 h)
  exact(hn (YE a b h1 h2)).elim
 ·rfl
theorem G8 (l:List (List UInt8)):(l.mergeSort fun x y=>decide (x≤y)).Pairwise (·≤ ·):=by
 have:=List.pairwise_mergeSort (le:=fun x y:List UInt8=>decide (x≤y)) (fun a b c h1 h2=>by simp only[decide_eq_true_eq]at*;exact List.le_trans h1 h2) (fun a b=>by simp only[Bool.or_eq_true,decide_eq_true_eq];exact List.le_total a b) l;exact this.imp fun h=>by simpa using h
theorem oS (s:List (List UInt8))(q:List UInt8):q∈Lib.compact s↔q∈s:=by
 unfold Lib.compact Lib.compactUpTo;simp only[List.mem_map,List.mem_filter,List.mem_range];constructor
 ·rintro⟨j,⟨hj,_⟩,rfl⟩
  simp[hj]
 ·intro h
  obtain⟨k,hk,rfl⟩:=List.getElem_of_mem h;have:∀k (hk:k<s.length),∃j,(j<s.length∧Lib.keeps s.toArray j=true)∧s.toArray[j]! =s[k]:=by
   intro k;induction k with
   |zero=>intro hk;exact⟨0,⟨hk,by simp[Lib.keeps]⟩,by simp[hk]⟩
   |succ k ih=>
    intro hk
    cases hc:Lib.keeps s.toArray (k+1)
    ·obtain⟨j,h1,h2⟩:=ih (by omega)
     refine⟨j,h1,h2.trans ?_⟩;have:s.toArray[k+1]! =s.toArray[k]! :=by simpa[Lib.keeps]using hc
     have a0 :k<s.length:=by omega
     simp only[List.getElem!_toArray,List.getElem!_eq_getElem?_getD,j0d hk,j0d a0,Option.getD_some]at this;exact this.symm
    ·exact⟨k+1,⟨hk,hc⟩,by simp[hk]⟩
  exact this k hk
theorem uL (s:List (List UInt8))(h:s.Pairwise (·≤ ·)):Ze (Lib.compact s):=by
 refine zZ.i ?_;unfold zZ Lib.compact Lib.compactUpTo;rw[List.pairwise_map,List.pairwise_filter,List.pairwise_iff_getElem];intro i j hi hj a1;simp only[List.length_range]at hi hj;simp only[List.getElem_range,id_eq];intro _ hk;have h1:s.toArray[j]! ≠s.toArray[j-1]! :=by
  have:=hk;simp only[Lib.keeps,decide_eq_true_eq]at this;rcases this with e|e
  ·omega
  ·exact e
 have a0:j-1<s.length:=by omega
 simp only[List.getElem!_toArray,List.getElem!_eq_getElem?_getD,j0d hi,j0d hj,j0d a0,Option.getD_some]at h1⊢;rw[List.pairwise_iff_getElem]at h;have h2:s[j-1]≤s[j]:=h _ _ _ _ (by omega);have h3:=QK h2 h1.symm;by_cases e:i=j-1
 ·subst e;exact h3
 ·have h4:s[i]≤s[j-1]:=h _ _ _ _ (by omega)
  by_cases e2:s[i]=s[j-1]
  ·rw[e2];exact h3
  ·exact Zi _ _ _ (QK h4 e2) h3
theorem Jg {base a1 a0:List R.Leaf}(hb:OkT base)(ho:OkT a1)(ht:OkT a0):
  Lib.compact (((base++(a1++a0)).map R.Leaf.path).mergeSort fun x y=>decide (x≤y))=R.allP base a1 a0:=by
 have hp:=gV hb ho ht;have hm:∀q,q∈Lib.compact (((base++(a1++a0)).map R.Leaf.path).mergeSort fun x y=>decide (x≤y))↔∃z∈base++(a1++a0),z.path=q:=fun q=>by
  rw[oS,List.mem_mergeSort,List.mem_map]
 refine Ps.eq ⟨uL _ (G8 _),fun p h=> ?_,hm⟩ hp;exact hp.path p ((hp.mem p).2 ((hm p).1 h))
namespace R
def joinC (cms:List Cm)(a b:Nat):List Leaf×Int:=
 if(baseC cms a b).2≠0 then([],(baseC cms a b).2)else joinT (baseC cms a b).1 (treeC cms a) (treeC cms b)
def joinN (st:St)(into:List UInt8)(a b:Nat):(Int×Int)×St:=
 if(joinC st.cms a b).2≠0 then((0,(joinC st.cms a b).2),st)
 else if 60≤st.cms.length then((0,4),st)
 else((((st.cms.length+1:Nat):Int),0),down st into {tree:=(joinC st.cms a b).1,parents:=[a,b]})
def joinH (st:St)(into:List UInt8)(a b:Nat):(Int×Int)×St:=
 if b=0∨mark st.cms a b=true then(((a:Int),0),st)
 else if a=0∨mark st.cms b a=true then(((b:Int),0),setHead st into b)
 else joinN st into a b
def joinB (st:St)(into fr:List UInt8):(Int×Int)×St:=
 if fndI st.brs into<0∨fndI st.brs fr<0 then((0,5),st)
 else if Written (workOf st into)≠Written (treeOf st (headOf st into))then((0,9),st)
 else joinH st into (headOf st into) (headOf st fr)
end R
theorem jk {st:R.St}(h:Inv st)(a b:Nat):OkT (R.joinC st.cms a b).1:=by
 unfold R.joinC;split
 ·exact OkT.nil
 ·exact Vq (VD h.trees a b) (ZV h.trees a) (ZV h.trees b)
theorem GA {st:R.St}(h:Inv st)(a0:List UInt8)(a b:Nat)(ha:1≤a∧a≤st.cms.length)(hb:1≤b∧b≤st.cms.length)(hf:R.fnd st.brs a0<st.brs.length):Inv (R.joinN st a0 a b).2:=by
 unfold R.joinN;split
 ·exact h
 ·split
  ·exact h
  ·refine oM h a0 _ (by omega) (jk h a b) (fun p hp=> ?_) (by simp) hf
   simp only[List.mem_cons,List.not_mem_nil,or_false]at hp;rcases hp with rfl|rfl
   ·exact ha
   ·exact hb
theorem GC {st:R.St}(h:Inv st)(a0:List UInt8)(a b:Nat)(ha:a≤st.cms.length)(hb:b≤st.cms.length)(hf:R.fnd st.brs a0<st.brs.length):Inv (R.joinH st a0 a b).2:=by
 unfold R.joinH;split
 ·exact h
 ·rename_i h1
  split
  ·exact setHead_inv h a0 b hb hf
  ·rename_i h2
   exact GA h a0 a b ⟨by omega,ha⟩ ⟨by omega,hb⟩ hf
theorem kq {st:R.St}{n:List UInt8}(h:¬R.fndI st.brs n<0):R.fnd st.brs n<st.brs.length:=by
 rcases R.fndI_cases st.brs n with⟨e,_⟩|⟨_,e⟩
 ·omega
 ·exact e
theorem Ju {st:R.St}(h:Inv st)(a0 fr:List UInt8):Inv (R.joinB st a0 fr).2:=by
 unfold R.joinB;split
 ·exact h
 ·rename_i h1
  split
  ·exact h
  ·exact GC h a0 _ _ (ZD h a0) (ZD h fr) (kq fun e=>h1 (.inl e))
theorem oL {st:R.St}(_h:Inv st)(name:List UInt8)(hn:name.length≤8)(c:R.Cm)(ht:OkT c.tree)(h2:c.parents.length≤2):(R.down st name c).packed.length≤st.packed.length+300000:=by
 have:=ht.len;unfold R.down R.setHead R.keepC;simp only[List.length_append,R.record,R.recHead,R.bodyC,List.length_cons,List.length_nil,List.length_map];omega
theorem KT (st:R.St)(name:List UInt8)(hn:name.length≤8)(n:Nat):(R.setHead st name n).packed.length≤st.packed.length+300000:=by
 unfold R.setHead;simp only[List.length_append,R.record,R.recHead,List.length_cons,List.length_nil];omega
theorem ux {st:R.St}(h:Inv st)(a0 fr:List UInt8):(R.joinB st a0 fr).2.packed.length≤st.packed.length+300000:=by
 unfold R.joinB;split
 ·exact Nat.le_add_right _ _
 ·rename_i h1
  have hf:=kq (st:=st) (n:=a0) fun e=>h1 (.inl e)
  have hn:a0.length≤8:=by
   have:=yn _ (h.names _ (j0c hf));rwa[R.fnd_name]at this
  split
  ·exact Nat.le_add_right _ _
  ·unfold R.joinH
   split
   ·exact Nat.le_add_right _ _
   ·split
    ·exact KT st a0 hn _
    ·unfold R.joinN
     split
     ·exact Nat.le_add_right _ _
     ·split
      ·exact Nat.le_add_right _ _
      ·exact oL h a0 hn _ (jk h _ _) (by simp)
theorem cE {cms:List R.Cm}{a b:Nat}(ha:a≠0)(h:¬R.mark cms a b=true):a≠b:=by
 intro e;subst e;exact h (XC a (by omega))
