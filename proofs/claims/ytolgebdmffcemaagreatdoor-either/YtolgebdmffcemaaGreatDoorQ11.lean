import Derived.Test.YtolgebdmffcemaaGreatDoorQ10
import Derived.Lib.ItoaLen
import Derived.Lib.SlicesCompact
import Derived.Sort.Walk0
set_option linter.all false
set_option maxHeartbeats 20000000
set_option maxRecDepth 1000000
open List renaming cons_append→lN,all_eq_true→mO,mem_cons→iC,mem_append→nJ,append_nil→lY,length→nV,length_append→mB,length_singleton→nX,mem_singleton→iE,flatMap_cons→nZ,mem_of_getElem?→iK,length_cons→mC,length_nil→mS,length_map→pA,mem_cons_of_mem→hU,mem_cons_self→eY,foldl_append→pB,take_append_drop→mH,mem_append_left→pC,mem_append_right→pD,mem_of_mem_take→pE,mem_of_mem_drop→pF,drop_eq_getElem_cons→mE,pairwise_map→pG,mem_map→pH,not_mem_nil→iI,rel_of_pairwise_cons→nC,find?_eq_none→pI,mem_flatMap→pK,mem_range'_1→pL,mem_filter→nM,filter_cons→nA,filter_congr→pM,getElem!_toArray→pQ,getElem!_eq_getElem?_getD→pR,pairwise_iff_getElem→pS
open Bool renaming and_eq_true→mR,eq_false_iff→mM,true_and→mI,or_eq_true→mT
open Go.Lib renaming decDigits→nS,decDigits_one→nU,itoa→nY,compact→pN,compactUpTo→pO,keeps→pP
open UInt8 renaming ofNat→mA,toNat_ofNat'→nT
open Nat renaming strongRecOn→lP,lt_or_ge→nR,le_add_right→pT
open Option renaming getD_some→pJ
namespace Go.Proofs.YtolgebdmffcemaaGreatDoor
theorem UF (c:UInt8):∀(a b r s:List UInt8),(∀z∈a,z≠c)→(∀z∈b,z≠c)→a++c::r=b++c::s→a=b∧r=s
 |[],[],r,s,_,_,h=>⟨rfl,by simpa using h⟩
 |[],y::b,r,s,_,hb,h=>by
  simp at h;exact absurd h.1.symm (hb y (by simp))
 |x::a,[],r,s,ha,_,h=>by
  simp at h;exact absurd h.1 (ha x (by simp))
 |x::a,y::b,r,s,ha,hb,h=>by
  simp only[lN,List.cons.injEq]at h;obtain⟨h1,h2⟩:=UF c a b r s (fun z hz=>ha z (by simp[hz])) (fun z hz=>hb z (by simp[hz])) h.2;exact⟨by rw[h.1,h1],h2⟩
theorem Xe (l:List UInt8)(h:R.isText l=true):∀c∈l,32≤c.toNat∧c≠59:=by
 simp only[R.isText,mR,mO]at h;intro c hc;have h1:=h.2 c hc;simp only[R.tb,mR,decide_eq_true_eq,Bool.not_eq_true',decide_eq_false_iff_not]at h1;exact⟨h1.1,fun e=>h1.2.2 (by rw[e];rfl)⟩
theorem O0:∀(l:List (List UInt8)),(∀x∈l,R.isText x=true)→∀c∈R.joinF l,32≤c.toNat
 |[],_,c,hc=>by simp[R.joinF]at hc
 |x::r,h,c,hc=>by
  simp only[R.joinF,lN,iC,nJ]at hc;rcases hc with rfl|hc|hc
  ·decide
  ·exact(Xe x (h x (by simp)) c hc).1
  ·exact O0 r (fun z hz=>h z (by simp[hz])) c hc
theorem ui:∀(l m:List (List UInt8)) (x y:List UInt8),(∀z∈l,R.isText z=true)→(∀z∈m,R.isText z=true)→R.isText x=true→R.isText y=true→x++R.joinF l=y++R.joinF m→x=y∧l=m
 |[],[],x,y,_,_,_,_,h=>⟨by simpa[R.joinF]using h,rfl⟩
 |[],b::m,x,y,_,_,hx,_,h=>by
  simp only[R.joinF,lY]at h;have:(59:UInt8)∈x:=by rw[h];simp
  exact absurd rfl (Xe x hx _ this).2
 |a::l,[],x,y,_,_,_,hy,h=>by
  simp only[R.joinF,lY]at h;have:(59:UInt8)∈y:=by rw[←h];simp
  exact absurd rfl (Xe y hy _ this).2
 |a::l,b::m,x,y,hl,hm,hx,hy,h=>by
  simp only[R.joinF,lN]at h;obtain⟨h1,h2⟩:=UF 59 x y _ _ (fun z hz=>(Xe x hx z hz).2) (fun z hz=>(Xe y hy z hz).2) h;obtain⟨h3,h4⟩:=ui l m a b (fun z hz=>hl z (by simp[hz])) (fun z hz=>hm z (by simp[hz])) (hl a (by simp)) (hm b (by simp)) h2;exact⟨h1,by rw[h3,h4]⟩
theorem fL (l m:List (List UInt8))(hl:∀z∈l,R.isText z=true)(hm:∀z∈m,R.isText z=true)(h1:l≠ [])(h2:m≠ [])(h:R.joinI l=R.joinI m):l=m:=by
 cases l with
 |nil=>exact absurd rfl h1
 |cons a l=>
  cases m with
  |nil=>exact absurd rfl h2
  |cons b m=>
   rw[R.joinI_eq,R.joinI_eq]at h;obtain⟨h3,h4⟩:=ui l m a b (fun z hz=>hl z (by simp[hz])) (fun z hz=>hm z (by simp[hz])) (hl a (by simp)) (hm b (by simp)) h;rw[h3,h4]
theorem XZ (n:Nat)(h:¬n<10):nS n=nS (n/10)++ [mA (48+n % 10)]:=by rw[nS,dif_neg h]
theorem cZ (a b:Nat)(ha:a<10)(hb:b<10)(h:mA (48+a)=mA (48+b)):a=b:=by
 have:=congrArg UInt8.toNat h;rw[nT,nT]at this;omega
theorem OE (n:Nat):1≤(nS n).length:=by rw[Lib.decDigits_length];exact Lib.nDigits_pos n
theorem OF:∀(a b:Nat),nS a=nS b→a=b:=by
 intro a;induction a using lP with
 |_ a ih=>
  intro b h;by_cases ha:a<10
  ·by_cases hb:b<10
   ·rw[nU ha,nU hb]at h
    exact cZ a b ha hb (by simpa using h)
   ·rw[nU ha,XZ b hb]at h
    have h1:=congrArg nV h;have:=OE (b/10);simp only[mB,nX]at h1;omega
  ·by_cases hb:b<10
   ·rw[nU hb,XZ a ha]at h
    have h1:=congrArg nV h;have:=OE (a/10);simp only[mB,nX]at h1;omega
   ·rw[XZ a ha,XZ b hb]at h
    obtain⟨h1,h2⟩:=List.append_inj' h rfl;have:=ih (a/10) (by omega) (b/10) h1;have:=cZ (a % 10) (b % 10) (by omega) (by omega) (by simpa using h2);omega
theorem kd:∀(n:Nat),∀c∈nS n,48≤c.toNat:=by
 intro n;induction n using lP with
 |_ n ih=>
  intro c hc;by_cases h:n<10
  ·rw[nU h]at hc
   rw[iE.1 hc,nT];omega
  ·rw[XZ n h]at hc
   rcases nJ.1 hc with hc|hc
   ·exact ih (n/10) (by omega) c hc
   ·rw[iE.1 hc,nT];omega
theorem cx (n:Int):∀c∈nY n,45≤c.toNat:=by
 intro c hc;unfold nY at hc;split at hc
 ·rcases iC.1 hc with rfl|hc
  ·decide
  ·have:=kd _ c hc;omega
 ·have:=kd _ c hc;omega
theorem cw (a b:Int)(h:nY a=nY b):a=b:=by
 unfold nY at h;split at h<;>split at h
 ·have:=OF _ _ (List.cons.inj h).2;omega
 ·have:=kd b.toNat 45 (by rw[←h];simp);exact absurd this (by decide)
 ·have:=kd a.toNat 45 (by rw[h];simp);exact absurd this (by decide)
 ·have:=OF _ _ h;omega
theorem cu (l:List (List UInt8))(h:∀x∈l,R.isText x=true):∀c∈R.joinI l,32≤c.toNat:=by
 cases l with
 |nil=>intro c hc;simp[R.joinI]at hc
 |cons a l=>
  intro c hc;rw[R.joinI_eq]at hc;rcases nJ.1 hc with hc|hc
  ·exact(Xe a (h a (by simp)) c hc).1
  ·exact O0 l (fun z hz=>h z (by simp[hz])) c hc
theorem OkL.no10 {x:R.Leaf}(h:OkL x):∀c∈R.written x,c≠10:=by
 intro c hc e;subst e;unfold R.written at hc;split at hc
 ·rcases iC.1 hc with hc|hc
  ·exact absurd hc (by decide)
  ·exact absurd (cx _ _ hc) (by decide)
 ·split at hc
  ·rcases iC.1 hc with hc|hc
   ·exact absurd hc (by decide)
   ·exact absurd (Xe _ h.text _ hc).1 (by decide)
  ·rcases iC.1 hc with hc|hc
   ·exact absurd hc (by decide)
   ·exact absurd (cu _ (fun i hi=>(h.item i hi).1) _ hc) (by decide)
theorem OkL.no32 {x:R.Leaf}(h:OkL x):∀c∈x.path,c≠32∧c≠10:=by
 intro c hc;have:=yE _ h.path c hc;constructor<;>(intro e;rw[e]at this;exact absurd this (by decide))
theorem OkL.inj {x y:R.Leaf}(hx:OkL x)(hy:OkL y)(hp:x.path=y.path)(h:R.written x=R.written y):x=y:=by
 obtain⟨p,k,n,t,it⟩:=x;obtain⟨p',k',n',t',a0⟩:=y;simp only at hp;subst hp;rcases hx.kind with⟨e1,e2,e3⟩|⟨e1,e2,e3⟩|⟨e1,e2,e3,e4⟩<;>rcases hy.kind with⟨f1,f2,f3⟩|⟨f1,f2,f3⟩|⟨f1,f2,f3,f4⟩<;>simp only at e1 e2 e3 f1 f2 f3<;>subst e1 e2 e3 f1 f2 f3<;>simp[R.written]at h
 ·rw[cw _ _ h]
 ·rw[h]
 ·rw[fL it a0 (fun i hi=>(hx.item i hi).1) (fun i hi=>(hy.item i hi).1) e4 f4 h]
theorem Ky:∀(t u:List R.Leaf),(∀x∈t,OkL x)→(∀x∈u,OkL x)→R.Written t=R.Written u→t=u
 |[],[],_,_,_=>rfl
 |[],y::u,_,_,h=>by simp[R.Written,R.line]at h
 |x::t,[],_,_,h=>by simp[R.Written,R.line]at h
 |x::t,y::u,ht,hu,h=>by
  have hx:=ht x (by simp);have hy:=hu y (by simp);simp only[R.Written,nZ,R.line,List.append_assoc,lN,List.nil_append]at h;obtain⟨h1,h2⟩:=UF 32 _ _ _ _ (fun z hz=>(hx.no32 z hz).1) (fun z hz=>(hy.no32 z hz).1) h;obtain⟨h3,h4⟩:=UF 10 _ _ _ _ hx.no10 hy.no10 h2;rw[hx.inj hy h1 h3,Ky t u (fun z hz=>ht z (by simp[hz])) (fun z hz=>hu z (by simp[hz])) h4]
theorem OkT.inj {t u:List R.Leaf}(ht:OkT t)(hu:OkT u):R.Written t=R.Written u↔t=u:=⟨Ky t u ht.ok hu.ok,fun h=>by rw[h]⟩
namespace R
def bodyC (c:Cm):List UInt8:=mA c.parents.length::(c.parents.map mA++Written c.tree)
def keepC (st:St)(c:Cm):St:={st with cms:=st.cms++ [c],packed:=st.packed++record 67 (bodyC c)}
def setHead (st:St)(name:List UInt8)(n:Nat):St:={st with brs:=st.brs.set (fnd st.brs name) {name:=name,head:=n,work:=treeOf st n},packed:=st.packed++record 66 (mA n::name)}
def parsOf (h:Nat):List Nat:=if h=0 then []else [h]
def down (st:St)(name:List UInt8)(c:Cm):St:=setHead (keepC st c) name (st.cms.length+1)
def commit (st:St)(name:List UInt8):(Int×Int)×St:=
 if fndI st.brs name<0 then((0,5),st)
 else if Written (workOf st name)=Written (treeOf st (headOf st name))then((0,9),st)
 else if 60≤st.cms.length then((0,4),st)
 else((((st.cms.length+1:Nat):Int),0),down st name {tree:=workOf st name,parents:=parsOf (headOf st name)})
def treeAt (st:St)(n:Int):List UInt8×Int:=if n<1∨(st.cms.length:Int)<n then([],10)else(Written (treeOf st n.toNat),0)
def parents (st:St)(m:Nat):List Nat:=((st.cms[m-1]?).map (·.parents)).getD []
end R
theorem Qz {st:R.St}(h:Inv st)(c:R.Cm)(hl:st.cms.length<60)(ht:OkT c.tree)(hp:∀p∈c.parents,1≤p∧p≤st.cms.length)(h2:c.parents.length≤2):Inv (R.keepC st c):=by
 refine⟨h.many,h.names,h.sort,h.work,fun b hb=> ?_,?_,fun x hx=> ?_,fun i hi=> ?_,fun x hx=> ?_⟩
 ·have:=h.heads b hb
  simp only[R.keepC,mB,nX];omega
 ·simp only[R.keepC,mB,nX];omega
 ·simp only[R.keepC]at hx
  rcases nJ.1 hx with hx|hx
  ·exact h.trees x hx
  ·rw[iE.1 hx];exact ht
 ·simp only[R.keepC,mB,nX]at hi
  simp only[R.keepC];by_cases e:i<st.cms.length
  ·rw[List.getElem_append_left e];exact h.pars i e
  ·rw[List.getElem_append_right (by omega)]
   intro p a1;have a0:p∈c.parents:=by simpa using a1
   have:=hp p a0;omega
 ·simp only[R.keepC]at hx
  rcases nJ.1 hx with hx|hx
  ·exact h.two x hx
  ·rw[iE.1 hx];exact h2
theorem setHead_inv {st:R.St}(h:Inv st)(name:List UInt8)(n:Nat)(hn:n≤st.cms.length)(hf:R.fnd st.brs name<st.brs.length):Inv (R.setHead st name n):=by
 have a1:=R.fnd_name st.brs name hf;have a2:(st.brs[R.fnd st.brs name]'hf)∈st.brs:=j0c hf;have a0:∀z∈st.brs.set (R.fnd st.brs name) {name:=name,head:=n,work:=R.treeOf st n},z={name:=name,head:=n,work:=R.treeOf st n}∨z∈st.brs:=fun z hz=>(List.mem_or_eq_of_mem_set hz).symm
 refine⟨by simpa[R.setHead]using h.many,fun z hz=> ?_,?_,fun z hz=> ?_,fun z hz=> ?_,h.few,h.trees,h.pars,h.two⟩
 ·rcases a0 z hz with rfl|hz
  ·have:=h.names _ a2;rw[a1]at this;exact this
  ·exact h.names z hz
 ·show zW R.Br.name (st.brs.set (R.fnd st.brs name) {name:=name,head:=n,work:=R.treeOf st n})
  rw[Zx];have hs:=(Zx _ _).1 h.sort;intro p q hp hq a3;have g:∀(p:Nat) (hp:p<(st.brs.set (R.fnd st.brs name) {name:=name,head:=n,work:=R.treeOf st n}).length),(st.brs.set (R.fnd st.brs name) {name:=name,head:=n,work:=R.treeOf st n})[p].name=(st.brs[p]'(by simpa using hp)).name:=by
   intro p hp;rw[List.getElem_set];split
   ·rename_i e;subst e;simp only;rw[a1]
   ·rfl
  rw[g,g];exact hs p q _ _ a3
 ·rcases a0 z hz with rfl|hz
  ·exact Ys h _
  ·exact h.work z hz
 ·rcases a0 z hz with rfl|hz
  ·exact hn
  ·exact h.heads z hz
theorem Zh {st:R.St}(h:Inv st)(n:List UInt8):R.headOf st n≤st.cms.length:=by
 unfold R.headOf
 cases e:st.brs[R.fnd st.brs n]? with
 |none=>simp
 |some b=>exact h.heads b (iK e)
theorem OA {st:R.St}(h:Inv st)(name:List UInt8)(c:R.Cm)(hl:st.cms.length<60)(ht:OkT c.tree)(hp:∀p∈c.parents,1≤p∧p≤st.cms.length)(h2:c.parents.length≤2)(hf:R.fnd st.brs name<st.brs.length):Inv (R.down st name c):=
 setHead_inv (Qz h c hl ht hp h2) name _ (by simp[R.keepC]) hf
theorem Qw {st:R.St}(h:Inv st)(n:List UInt8):(∀p∈R.parsOf (R.headOf st n),1≤p∧p≤st.cms.length)∧(R.parsOf (R.headOf st n)).length≤2:=by
 have:=Zh h n;unfold R.parsOf;split
 ·simp
 ·simp;omega
theorem YB {st:R.St}(h:Inv st)(name:List UInt8):Inv (R.commit st name).2:=by
 unfold R.commit;split
 ·exact h
 ·rename_i hf
  split
  ·exact h
  ·split
   ·exact h
   ·have:=Qw h name
    refine OA h name _ (by omega) (ZG h name) this.1 this.2 ?_;rcases R.fndI_cases st.brs name with h1|h1
    ·omega
    ·exact h1.2
theorem oZ {x:R.Leaf}(h:OkL x):(R.line x).length≤9000:=by
 have h1:=yZ _ h.path;have h2:=Zr _ h.text;have h3:=R.joinI_length x.items (fun i hi=>by have:=Zr _ (h.item i hi).1;omega);have h4:=h.many;have h5:=Lib.itoa_length_le x.n (by have:=h.lo;omega) (by have:=h.hi;omega);unfold R.line R.written;split
 ·simp only[mB,mC,mS];omega
 ·split<;>(simp only[mB,mC,mS];omega)
theorem Kx:∀(t:List R.Leaf),(∀x∈t,OkL x)→(R.Written t).length≤t.length*9000
 |[],_=>by simp[R.Written]
 |x::t,h=>by
  have h1:=oZ (h x (by simp));have h2:=Kx t fun z hz=>h z (by simp[hz])
  simp only[R.Written,nZ,mB,mC]at h2⊢;omega
theorem OkT.len {t:List R.Leaf}(h:OkT t):(R.Written t).length≤216000:=by
 have:=Kx t h.ok;have:=h.few;omega
theorem JF {st:R.St}(h:Inv st)(name:List UInt8):(R.commit st name).2.packed.length≤st.packed.length+300000:=by
 unfold R.commit;split
 ·simp
 ·rename_i hf
  split
  ·simp
  ·split
   ·simp
   ·have hp:=Qw h name
    have hw:=(ZG h name).len;have a0:R.fnd st.brs name<st.brs.length:=by
     rcases R.fndI_cases st.brs name with h1|h1
     ·omega
     ·exact h1.2
    have a1:name.length≤8:=by
     have:=ZK _ (h.names _ (j0c a0));rw[R.fnd_name st.brs name a0]at this;exact this
    simp only[R.down,R.setHead,R.keepC,R.record,R.recHead,R.bodyC,mB,mC,mS,pA];omega
def VO (p:List UInt8)(x:R.Leaf):Prop:=x=R.none p∨(OkL x∧x.path=p)
theorem qB {t:List R.Leaf}(h:∀x∈t,OkL x)(p:List UInt8):VO p (R.at_ t p):=by
 rcases vY t p with⟨_,e⟩|⟨_,h1,h2⟩
 ·exact .inl e
 ·exact .inr ⟨h _ h1,h2⟩
theorem VO.kind0 {p:List UInt8}{x:R.Leaf}(h:VO p x):x.kind=0↔x=R.none p:=by
 rcases h with rfl|⟨h,_⟩
 ·simp[R.none]
 ·exact⟨fun e=>absurd e h.nz,fun e=>by rw[e];rfl⟩
theorem VO.path {p:List UInt8}{x:R.Leaf}(h:VO p x):x.path=p:=by
 rcases h with rfl|⟨_,h⟩
 ·rfl
 ·exact h
theorem VO.ok {p:List UInt8}{x:R.Leaf}(h:VO p x)(hk:x.kind≠0):OkL x:=by
 rcases h with rfl|⟨h,_⟩
 ·exact absurd rfl hk
 ·exact h
theorem jt {p:List UInt8}{a b:R.Leaf}(ha:VO p a)(hb:VO p b):R.same a b=true↔a=b:=by
 unfold R.same;by_cases h0:a.kind=0∨b.kind=0
 ·rw[if_pos h0,decide_eq_true_eq]
  constructor
  ·intro e
   have h1:a.kind=0:=by rcases h0 with h|h;exact h;rw[e];exact h
   rw[ha.kind0.1 h1,hb.kind0.1 (by rw[←e];exact h1)]
  ·intro e;rw[e]
 ·rw[if_neg h0,beq_iff_eq]
  have h1:=ha.ok fun e=>h0 (.inl e)
  have h2:=hb.ok fun e=>h0 (.inr e)
  exact⟨fun e=>OkL.inj h1 h2 (by rw[ha.path,hb.path]) e,fun e=>by rw[e]⟩
theorem OkL.kinds {x:R.Leaf}(h:OkL x):x.kind=35∨x.kind=61∨x.kind=42:=by
 rcases h.kind with h|h|h
 ·exact .inl h.1
 ·exact .inr (.inl h.1)
 ·exact .inr (.inr h.1)
theorem VO.n_of {p:List UInt8}{x:R.Leaf}(h:VO p x)(hk:x.kind≠35):x.n=0:=by
 rcases h with rfl|⟨h,_⟩
 ·rfl
 ·rcases h.kind with h|h|h
  ·exact absurd h.1 hk
  all_goals
   exact h.2.1
theorem VO.items_of {p:List UInt8}{x:R.Leaf}(h:VO p x)(hk:x.kind≠42):x.items=[]:=by
 rcases h with rfl|⟨h,_⟩
 ·rfl
 ·rcases h.kind with h|h|h
  ·exact h.2.2
  ·exact h.2.2
  ·exact absurd h.1 hk
theorem VO.baseN {p:List UInt8}{x:R.Leaf}(h:VO p x):R.baseN x 35=x.n:=by
 unfold R.baseN;split
 ·rfl
 ·exact(h.n_of ‹_›).symm
theorem VO.baseI {p:List UInt8}{x:R.Leaf}(h:VO p x):R.baseI x 42=x.items:=by
 unfold R.baseI;split
 ·rfl
 ·exact(h.items_of ‹_›).symm
theorem VO.sort {p:List UInt8}{x:R.Leaf}(h:VO p x):Zb x.items:=by
 rcases h with rfl|⟨h,_⟩
 ·intro i j hi;simp[R.none]at hi
 ·exact h.sort
theorem VO.item {p:List UInt8}{x:R.Leaf}(h:VO p x):∀i∈x.items,R.isText i=true∧i≠ []:=by
 rcases h with rfl|⟨h,_⟩
 ·intro i hi;simp[R.none]at hi
 ·exact h.item
theorem VO.few {p:List UInt8}{x:R.Leaf}(h:VO p x):x.items.length≤8:=by
 rcases h with rfl|⟨h,_⟩
 ·simp[R.none]
 ·exact h.many
theorem VO.n_hi {p:List UInt8}{x:R.Leaf}(h:VO p x):x.n≤1000000000∧ -1000000000≤x.n:=by
 rcases h with rfl|⟨h,_⟩
 ·simp[R.none]
 ·exact⟨h.hi,h.lo⟩
theorem QC (l:List (List UInt8))(s:List UInt8):R.inL l s=true↔s∈l:=by
 simp[R.inL]
theorem qO:Zb []:=fun i j hi=>by simp at hi
structure OkI (l:List (List UInt8)):Prop where
 sort:Zb l
 item:∀i∈l,R.isText i=true∧i≠ []
theorem OkI.put {l:List (List UInt8)}(h:OkI l){s:List UInt8}(hs:R.isText s=true∧s≠ []):OkI (R.item l s):=
 ⟨kQ h.sort s,fun i hi=>by rcases VU hi with rfl|hi;exact hs;exact h.item i hi⟩
theorem OkI.nil:OkI []:=⟨qO,by simp⟩
def Zk (c:List UInt8→Bool)(acc l:List (List UInt8)):List (List UInt8):=l.foldl (fun acc s=>if c s then R.item acc s else acc) acc
theorem qU (c:List UInt8→Bool):∀(l a0:List (List UInt8)),OkI a0→(∀i∈l,R.isText i=true∧i≠ [])→OkI (Zk c a0 l)
 |[],a0,h,_=>h
 |s::l,a0,h,hl=>by
  show OkI (Zk c (if c s then R.item a0 s else a0) l);refine qU c l _ ?_ fun i hi=>hl i (hU _ hi)
  split
  ·exact h.put (hl s (eY ..))
  ·exact h
theorem JW (c:List UInt8→Bool):∀(l a0:List (List UInt8)),(Zk c a0 l).length≤a0.length+l.length
 |[],a0=>j0a _
 |s::l,a0=>by
  have h:=JW c l (if c s then R.item a0 s else a0);have h2:=R.item_length s a0 false;show(Zk c (if c s then R.item a0 s else a0) l).length≤_;rw[mC];split at h<;>rename_i hc
  ·rw[if_pos hc];have:(R.item a0 s).length≤a0.length+1:=h2;omega
  ·rw[if_neg hc];omega
theorem gF (c:List UInt8→Bool)(a0 l:List (List UInt8))(s:List UInt8):Zk c a0 (l++ [s])=if c s then R.item (Zk c a0 l) s else Zk c a0 l:=by
 unfold Zk;rw[pB];rfl
theorem uZ (c:List UInt8→Bool)(a0 l m:List (List UInt8)):Zk c a0 (l++m)=Zk c (Zk c a0 l) m:=by
 unfold Zk;rw[pB]
theorem GN (b t o:List (List UInt8)):R.bagA b t o=Zk (fun s=>R.inL t s|| !R.inL b s) [] o:=rfl
theorem GM (b a0 t:List (List UInt8)):R.bagB b a0 t=Zk (fun s=> !R.inL b s) a0 t:=by
 unfold R.bagB Zk;congr 1
 funext a0 s
 cases h:R.inL b s<;>simp[h]
theorem uj {l:List (List UInt8)}(h:OkI l)(s z:List UInt8)(hz:z∈l):z∈R.item l s:=by
 by_cases ha:(l.any fun y=>y==s)=true
 ·rw[XT h.sort s ha];exact hz
 ·rw[xE h.sort s (mM.2 ha)]
  rw[←mH (xq l s) l]at hz;rcases nJ.1 hz with hz|hz
  ·exact pC _ hz
  ·exact pD _ (hU _ hz)
theorem QB {l:List (List UInt8)}(h:OkI l)(s:List UInt8):s∈R.item l s:=by
 by_cases ha:(l.any fun y=>y==s)=true
 ·rw[XT h.sort s ha];simpa using ha
 ·rw[xE h.sort s (mM.2 ha)];simp
theorem jy (c:List UInt8→Bool):∀(l a0:List (List UInt8)),OkI a0→(∀i∈l,R.isText i=true∧i≠ [])→∀z∈a0,z∈Zk c a0 l
 |[],_,_,_,z,hz=>hz
 |s::l,a0,h,hl,z,hz=>by
  show z∈Zk c (if c s then R.item a0 s else a0) l;refine jy c l _ ?_ (fun i hi=>hl i (hU _ hi)) z ?_
  ·split
   ·exact h.put (hl s (eY ..))
   ·exact h
  ·split
   ·exact uj h s z hz
   ·exact hz
theorem kw (c:List UInt8→Bool):∀(l a0:List (List UInt8)),OkI a0→(∀i∈l,R.isText i=true∧i≠ [])→∀z∈l,c z=true→z∈Zk c a0 l
 |[],_,_,_,z,hz,_=>by simp at hz
 |s::l,a0,h,hl,z,hz,hc=>by
  show z∈Zk c (if c s then R.item a0 s else a0) l;have a1:OkI (if c s then R.item a0 s else a0):=by
   split
   ·exact h.put (hl s (eY ..))
   ·exact h
  rcases iC.1 hz with rfl|hz
  ·refine jy c l _ a1 (fun i hi=>hl i (hU _ hi)) z ?_
   rw[if_pos hc];exact QB h z
  ·exact kw c l _ a1 (fun i hi=>hl i (hU _ hi)) z hz hc
theorem vu (c d:List UInt8→Bool):∀(l a0:List (List UInt8)),OkI a0→(∀i∈l,R.isText i=true∧i≠ [])→(∀z∈l,c z=d z∨z∈a0)→Zk c a0 l=Zk d a0 l
 |[],_,_,_,_=>rfl
 |s::l,a0,h,hl,hcd=>by
  show Zk c (if c s then R.item a0 s else a0) l=Zk d (if d s then R.item a0 s else a0) l;have e:(if c s then R.item a0 s else a0)=(if d s then R.item a0 s else a0):=by
   rcases hcd s (eY ..)with e|e
   ·rw[e]
   ·have:R.item a0 s=a0:=XT h.sort s (by simpa using e)
    rw[this];simp
  rw[e];refine vu c d l _ ?_ (fun i hi=>hl i (hU _ hi)) fun z hz=> ?_
  ·split
   ·exact h.put (hl s (eY ..))
   ·exact h
  ·rcases hcd z (hU _ hz)with e|e
   ·exact .inl e
   ·refine .inr ?_
    split
    ·exact uj h s z e
    ·exact e
theorem OS {b o t:List (List UInt8)}(ho:∀i∈o,R.isText i=true∧i≠ [])(ht:∀i∈t,R.isText i=true∧i≠ []):
  R.bagJ b o t=Zk (fun s=>(R.inL o s&&R.inL t s)|| !R.inL b s) [] (o++t):=by
 unfold R.bagJ;rw[GN,GM,uZ];have e:Zk (fun s=>(R.inL o s&&R.inL t s)|| !R.inL b s) [] o=Zk (fun s=>R.inL t s|| !R.inL b s) [] o:=
  vu _ _ o [] OkI.nil ho fun z hz=> .inl (by
   have:R.inL o z=true:=(QC o z).2 hz;simp only[this,mI])
 rw[e];refine(vu _ _ t _ (qU _ o [] OkI.nil ho) ht fun z hz=> ?_).symm;have h1:R.inL t z=true:=(QC t z).2 hz;by_cases h2:R.inL o z=true
 ·refine .inr (kw _ o [] OkI.nil ho z ((QC o z).1 h2) ?_)
  simp only[h1,Bool.true_or]
 ·refine .inl ?_
  have a0 :R.inL o z=false:=by simpa using h2
  simp only[a0,Bool.false_and,Bool.false_or]
theorem UL {b o t:List (List UInt8)}(ho:∀i∈o,R.isText i=true∧i≠ [])(ht:∀i∈t,R.isText i=true∧i≠ []):OkI (R.bagJ b o t):=by
 unfold R.bagJ;rw[GN,GM];exact qU _ t _ (qU _ o [] OkI.nil ho) ht
theorem co (a b:List UInt8):R.later a b=a∨R.later a b=b:=by
 unfold R.later;split
 ·exact .inr rfl
 ·exact .inl rfl
theorem jT {p:List UInt8}{x y z:R.Leaf}(_hx:VO p x)(hy:VO p y)(hz:VO p z)(he:(R.joinedV x y z).2=0):(R.joinedV x y z).1.kind=0∨(OkL (R.joinedV x y z).1∧(R.joinedV x y z).1.path=p):=by
 have hv:∀u,VO p u→u.kind=0∨(OkL u∧u.path=p):=by
  rintro u (rfl|h)
  ·exact .inl rfl
  ·exact .inr h
 unfold R.joinedV at he⊢;by_cases h1:R.same y x=true
 ·rw[if_pos h1];exact hv _ hz
 rw[if_neg h1]at he⊢;by_cases h2:R.same z x=true
 ·rw[if_pos h2];exact hv _ hy
 rw[if_neg h2]at he⊢;by_cases h3:y.kind=0
 ·rw[if_pos h3];exact hv _ hz
 rw[if_neg h3]at he⊢;by_cases h4:z.kind=0
 ·rw[if_pos h4];exact hv _ hy
 rw[if_neg h4]at he⊢;by_cases h5:y.kind≠z.kind
 ·rw[if_pos h5]at he;exact absurd he (by simp[R.bad])
 rw[if_neg h5]at he⊢;have oy:=hy.ok h3;have oz:=hz.ok h4;have a0:R.isPath y.path=true:=oy.path;by_cases h6:y.kind=35
 ·rw[if_pos h6]at he⊢
  unfold R.counterJ at he⊢;split at he
  ·exact absurd he (by simp[R.bad])
  ·rename_i hb
   rw[if_neg hb];refine .inr ⟨⟨a0,.inl ⟨rfl,rfl,rfl⟩,?_,?_,rfl,by simp,by simp,qO⟩,hy.path⟩
   all_goals
    simp only;omega
 rw[if_neg h6]at he⊢;by_cases h7:y.kind=61
 ·rw[if_pos h7]
  refine .inr ⟨⟨a0,.inr (.inl ⟨rfl,rfl,rfl⟩),by simp,by simp,?_,by simp,by simp,qO⟩,hy.path⟩;rcases co y.text z.text with e|e
  ·simp only[e];exact oy.text
  ·simp only[e];exact oz.text
 rw[if_neg h7]at he⊢;unfold R.bagV at he⊢;split at he
 ·exact absurd he (by simp[R.bad])
 ·rename_i hb
  rw[if_neg hb];have a1:=UL (b:=R.baseI x y.kind) oy.item oz.item;by_cases hn:R.bagJ (R.baseI x y.kind) y.items z.items=[]
  ·exact .inl (by simp only[hn,if_true])
  ·exact .inr ⟨⟨a0,.inr (.inr ⟨by simp only[if_neg hn],rfl,rfl,hn⟩),by simp,by simp,rfl,by simp only;omega,a1.item,a1.sort⟩,hy.path⟩
theorem CX {α:Type}{k:α→List UInt8}{s:List UInt8}{x:α}(hx:k x=s){l:List α}(hl:zW k l)(q:List UInt8):(∃z∈xx k x s false l,k z=q)↔q=s∨∃z∈l,k z=q:=by
 cases ha:l.any fun y=>k y==s with
 |true=>
  rw[VW x hl ha];obtain⟨hp,he⟩:=YQ hl ha;constructor
  ·rintro⟨z,hz,rfl⟩
   rcases nJ.1 hz with hz|hz
   ·exact .inr ⟨z,pE hz,rfl⟩
   ·rcases iC.1 hz with rfl|hz
    ·exact .inl hx
    ·exact .inr ⟨z,pF hz,rfl⟩
  ·rintro(rfl|⟨z,hz,rfl⟩)
   ·exact⟨x,by simp,hx⟩
   ·by_cases a0:k z=s
    ·exact⟨x,by simp,by rw[hx,a0]⟩
    ·refine⟨z,?_,rfl⟩
     rw[←mH (yC k l s) l,mE hp]at hz;rcases nJ.1 hz with hz|hz
     ·exact pC _ hz
     ·rcases iC.1 hz with rfl|hz
      ·exact absurd he a0
      ·exact pD _ (hU _ hz)
 |false=>
  rw[XV x hl ha];constructor
  ·rintro⟨z,hz,rfl⟩
   rcases nJ.1 hz with hz|hz
   ·exact .inr ⟨z,pE hz,rfl⟩
   ·rcases iC.1 hz with rfl|hz
    ·exact .inl hx
    ·exact .inr ⟨z,pF hz,rfl⟩
  ·rintro(rfl|⟨z,hz,rfl⟩)
   ·exact⟨x,by simp,hx⟩
   ·refine⟨z,?_,rfl⟩
    rw[←mH (yC k l s) l]at hz;rcases nJ.1 hz with hz|hz
    ·exact pC _ hz
    ·exact pD _ (hU _ hz)
theorem Cr {t:List R.Leaf}(hb:∀y∈t,R.isPath y.path=true)(x:R.Leaf)(hp:R.isPath x.path=true)(hk:x.kind≠0):R.set t x=xx R.Leaf.path x x.path false t:=by
 unfold R.set;rw[decide_eq_false hk];exact Qs x (yE _ hp) t false fun y hy=>yE _ (hb y hy)
theorem Oo:∀(l a0:List R.Leaf),(∀x∈l,R.isPath x.path=true∧x.kind≠0)→(∀x∈a0,R.isPath x.path=true)→zW R.Leaf.path a0→
  zW R.Leaf.path (l.foldl R.set a0)∧(∀x∈l.foldl R.set a0,R.isPath x.path=true)∧∀q,(∃z∈l.foldl R.set a0,z.path=q)↔(∃z∈l,z.path=q)∨∃z∈a0,z.path=q
 |[],a0,_,h2,h3=>⟨h3,h2,fun q=>by simp⟩
 |x::l,a0,h1,h2,h3=>by
  obtain⟨hp,hk⟩:=h1 x (eY ..);have e:=Cr h2 x hp hk;obtain⟨g1,g2,g3⟩:=Oo l (R.set a0 x) (fun y hy=>h1 y (hU _ hy)) (by
   rw[e];intro y hy;rcases yN hy with rfl|hy;exact hp;exact h2 y hy) (by rw[e];exact xF rfl h3)
  refine⟨g1,g2,fun q=> ?_⟩;rw[List.foldl_cons,g3 q,e,CX rfl h3 q];constructor
  ·rintro(⟨z,hz,rfl⟩|rfl|h)
   ·exact .inl ⟨z,hU _ hz,rfl⟩
   ·exact .inl ⟨x,eY ..,rfl⟩
   ·exact .inr h
  ·rintro(⟨z,hz,rfl⟩|h)
   ·rcases iC.1 hz with rfl|hz
    ·exact .inr (.inl rfl)
    ·exact .inl ⟨z,hz,rfl⟩
   ·exact .inr (.inr h)
structure Ps (t:List (List UInt8))(base ours theirs:List R.Leaf):Prop where
 sort:Zb t
 path:∀p∈t,R.isPath p=true
 mem:∀q,q∈t↔∃z∈base++(ours++theirs),z.path=q
theorem QK {base a1 a0:List R.Leaf}(hb:OkT base)(ho:OkT a1)(ht:OkT a0):Ps (R.allP base a1 a0) base a1 a0:=by
 have h1:∀x∈base++(a1++a0),R.isPath x.path=true∧x.kind≠0:=by
  intro x hx;rcases nJ.1 hx with hx|hx
  ·exact⟨(hb.ok x hx).path,(hb.ok x hx).nz⟩
  ·rcases nJ.1 hx with hx|hx
   ·exact⟨(ho.ok x hx).path,(ho.ok x hx).nz⟩
   ·exact⟨(ht.ok x hx).path,(ht.ok x hx).nz⟩
 obtain⟨g1,g2,g3⟩:=Oo (base++(a1++a0)) [] h1 (by simp) List.Pairwise.nil;refine⟨zW.i ?_,?_,?_⟩
 ·unfold R.allP
  unfold zW at g1⊢;rw[pG];exact g1
 ·intro p hp
  obtain⟨z,hz,rfl⟩:=pH.1 hp;exact g2 z hz
 ·intro q
  have:=g3 q;simp only[iI,false_and,exists_false,or_false]at this;rw[←this];unfold R.allP;rw[pH]
theorem sorted_eq:∀(l m:List (List UInt8)),zW id l→zW id m→(∀q,q∈l↔q∈m)→l=m
 |[],[],_,_,_=>rfl
 |[],y::m,_,_,h=>by have:=(h y).2 (by simp);simp at this
 |x::l,[],_,_,h=>by have:=(h x).1 (by simp);simp at this
 |x::l,y::m,hl,hm,h=>by
  have a0:∀z∈l,Op.bytesLess x z=true:=fun z hz=>nC hl hz
  have a1:∀z∈m,Op.bytesLess y z=true:=fun z hz=>nC hm hz
  have a2:∀(a b:List UInt8),Op.bytesLess a b=true→Op.bytesLess b a=true→False:=fun a b h1 h2=>by
   have:=Zj _ _ _ h1 h2;rw[zm]at this;cases this
  have e:x=y:=by
   rcases iC.1 ((h x).1 (by simp))with e|h1
   ·exact e
   ·rcases iC.1 ((h y).2 (by simp))with e|h2
    ·exact e.symm
    ·exact(a2 _ _ (a1 x h1) (a0 y h2)).elim
  subst e;rw[sorted_eq l m (List.Pairwise.of_cons hl) (List.Pairwise.of_cons hm) fun q=> ?_];constructor
  ·intro hq
   rcases iC.1 ((h q).1 (hU _ hq))with rfl|h1
   ·have:=a0 q hq;rw[zm]at this;cases this
   ·exact h1
  ·intro hq
   rcases iC.1 ((h q).2 (hU _ hq))with rfl|h1
   ·have:=a1 q hq;rw[zm]at this;cases this
   ·exact h1
theorem Ps.eq {t u:List (List UInt8)}{base a1 a0:List R.Leaf}(h:Ps t base a1 a0)(k:Ps u base a1 a0):t=u:=
 sorted_eq t u h.sort.k k.sort.k fun q=>by rw[h.mem,k.mem]
theorem fY {b o t:List R.Leaf}{ps:List (List UInt8)}(h:R.errJ b o t ps=0):∀p∈ps,(R.valJ b o t p).2=0:=by
 intro p hp;unfold R.errJ at h
 cases e:ps.find? fun p=> !decide ((R.valJ b o t p).2=0)with
 |none=>
  have:=pI.1 e p hp;simpa using this
 |some q=>
  have h1:=List.find?_some e;rw[e]at h;simp only[Option.map_some,pJ]at h;rw[h]at h1;simp at h1
theorem bj {b o t:List R.Leaf}{ps:List (List UInt8)}(h:∀p∈ps,(R.valJ b o t p).2=0):R.errJ b o t ps=0:=by
 unfold R.errJ;rw[pI.2 fun p hp=>by simp[h p hp]];rfl
theorem bk {b o t:List R.Leaf}{ps:List (List UInt8)}(k:Nat)(hk:k<ps.length)(h:∀p∈ps.take k,(R.valJ b o t p).2=0)(he:(R.valJ b o t ps[k]).2≠0):R.errJ b o t ps=(R.valJ b o t ps[k]).2:=by
 unfold R.errJ;have:(ps.find? fun p=> !decide ((R.valJ b o t p).2=0))=some ps[k]:=by
  have e:ps=ps.take k++ps[k]::ps.drop (k+1):=by rw[←mE hk,mH]
  conv=>lhs;rw[e]
  rw[List.find?_append,pI.2 fun p hp=>by simp[h p hp],Option.none_or,List.find?_cons_of_pos (by simp[he])]
 rw[this];rfl
theorem fo (b o t:List R.Leaf)(ps:List (List UInt8))(k:Nat)(hk:k<ps.length):R.outJ b o t (ps.take (k+1))=R.outJ b o t (ps.take k)++R.leafJ b o t ps[k]:=by
 unfold R.outJ;rw[List.take_succ_eq_append_getElem hk,List.flatMap_append];simp
theorem ug {b o t:List R.Leaf}{p:List UInt8}{x:R.Leaf}(h:x∈R.leafJ b o t p):x.path=p∧(R.valJ b o t p).1.kind≠0∧x={(R.valJ b o t p).1 with path:=p}:=by
 unfold R.leafJ at h;split at h
 ·simp at h
 ·rename_i hk
  rw[iE]at h;subst h;exact⟨rfl,hk,rfl⟩
theorem fy (x:R.Leaf)(p:List UInt8)(h:x.path=p):({x with path:=p}:R.Leaf)=x:=by subst h;rfl
theorem Gs {b o t:List R.Leaf}(hb:OkT b)(ho:OkT o)(ht:OkT t){ps:List (List UInt8)}(he:∀p∈ps,(R.valJ b o t p).2=0):∀x∈R.outJ b o t ps,OkL x∧x.path∈ps:=by
 intro x hx;obtain⟨p,hp,hx⟩:=pK.1 hx;obtain⟨h1,h2,h3⟩:=ug hx;rcases jT (qB hb.ok p) (qB ho.ok p) (qB ht.ok p) (he p hp)with h|⟨h,hq⟩
 ·exact absurd h h2
 ·have h4:x=(R.joinedV (R.at_ b p) (R.at_ o p) (R.at_ t p)).1:=h3.trans (fy _ _ hq)
  exact⟨by rw[h4];exact h,by rw[h1];exact hp⟩
theorem J_ {b o t:List R.Leaf}:∀{ps:List (List UInt8)},zW id ps→zW R.Leaf.path (R.outJ b o t ps)
 |[],_=>List.Pairwise.nil
 |p::ps,h=>by
  have ih:=J_ (b:=b) (o:=o) (t:=t) (List.Pairwise.of_cons h);have hr:∀x∈R.outJ b o t ps,Op.bytesLess p x.path=true:=by
   intro x hx;obtain⟨q,hq,hx⟩:=pK.1 hx;rw[(ug hx).1];exact nC h hq
  show zW R.Leaf.path (R.leafJ b o t p++R.outJ b o t ps);unfold R.leafJ;split
  ·exact ih
  ·exact List.Pairwise.cons hr ih
theorem gj {t:List R.Leaf}(h:R.tangled t=false):∀x∈t,∀y∈t,R.leads x.path y.path=false:=by
 intro x hx y hy;have h1:=List.any_eq_false.1 h y hy;exact(vX (by simpa using h1) x hx).1
theorem VQ {b o t:List R.Leaf}(hb:OkT b)(ho:OkT o)(ht:OkT t):OkT (R.joinT b o t).1:=by
 unfold R.joinT R.joinP;split
 ·exact OkT.nil
 ·rename_i he
  have a0 :R.errJ b o t (R.allP b o t)=0:=by simpa using he
  unfold R.endJ;split
  ·exact OkT.nil
  ·rename_i h1
   split
   ·exact OkT.nil
   ·rename_i h2
    refine⟨zW.t (J_ (QK hb ho ht).sort.k),by simp only;omega,fun x hx=>(Gs hb ho ht (fY a0) x hx).1,gj (by simpa using h1)⟩
theorem Ud (ps:Nat→List Nat)(hp:∀m,∀p∈ps m,p<m):∀(i:Nat) (f:Nat→Bool) (j:Nat),i≤j→mk ps i f j=f j
 |0,_,_,_=>rfl
 |i+1,f,j,h=>by
  rw[mk,Ud ps hp i _ j (by omega)];split
  ·have:¬j∈ps (i+1):=fun e=>by have:=hp _ _ e;omega
   simp[this]
  ·rfl
theorem Ub (ps:Nat→List Nat):∀(i:Nat) (f:Nat→Bool) (j:Nat),f j=true→mk ps i f j=true
 |0,_,_,h=>h
 |i+1,f,j,h=>by
  rw[mk];refine Ub ps i _ j ?_;split
  ·simp[h]
  ·exact h
theorem jE (ps:Nat→List Nat)(T:Nat→Prop)(hT:∀m,T m→∀p∈ps m,T p):∀(i:Nat) (f:Nat→Bool),(∀j,f j=true→T j)→∀j,mk ps i f j=true→T j
 |0,_,h,j,hj=>h j hj
 |i+1,f,h,j,hj=>by
  rw[mk]at hj;refine jE ps T hT i _ (fun q hq=> ?_) j hj;split at hq
  ·rename_i hi
   rw[mT,decide_eq_true_eq]at hq;rcases hq with hq|hq
   ·exact h q hq
   ·exact hT _ (h _ hi) q hq
  ·exact h q hq
theorem kA (ps:Nat→List Nat)(hp:∀m,∀p∈ps m,p<m):∀(i:Nat) (f:Nat→Bool) (m:Nat),1≤m→m≤i→mk ps i f m=true→∀p∈ps m,mk ps i f p=true
 |0,_,m,h1,h2,_,_,_=>by omega
 |i+1,f,m,h1,h2,h,p,hpm=>by
  rw[mk]at h⊢;rcases nR i m with hm|hm
  ·have e:m=i+1:=by omega
   subst e;rw[Ud ps hp i _ (i+1) (by omega)]at h;have hf:f (i+1)=true:=by
    split at h
    ·assumption
    ·exact h
   rw[if_pos hf];exact Ub ps i _ p (by simp[hpm])
  ·exact kA ps hp i _ m h1 hm h p hpm
def WfC (cms:List R.Cm):Prop:=∀(i:Nat) (h:i<cms.length),∀p∈cms[i].parents,1≤p∧p≤i
theorem WfC.par {cms:List R.Cm}(h:WfC cms):∀m,∀p∈R.parsC cms m,1≤p∧p<m:=by
 intro m p hp;unfold R.parsC at hp
 cases e:cms[m-1]? with
 |none=>rw[e]at hp;simp at hp
 |some c=>
  rw[e]at hp;obtain⟨hi,rfl⟩:=List.getElem?_eq_some_iff.1 e;have:=h (m-1) hi p (by simpa using hp);omega
theorem WfC.lt {cms:List R.Cm}(h:WfC cms):∀m,∀p∈R.parsC cms m,p<m:=fun m p hp=>(h.par m p hp).2
theorem Inv.wf {st:R.St}(h:Inv st):WfC st.cms:=h.pars
section
variable {cms:List R.Cm}
theorem qn (h:WfC cms)(n j:Nat)(hj:R.mark cms n j=true):j≤n∧1≤j:=by
 have:=jE (R.parsC cms) (fun j=>j≤n∧1≤j) (fun m hm p hp=>by have:=h.par m p hp;omega) cms.length (fun j=>decide (j=n∧0<n)) (fun j hj=>by rw[decide_eq_true_eq]at hj;omega) j hj;exact this
theorem Yx (n:Nat)(h0:0<n):R.mark cms n n=true:=Ub _ _ _ _ (by simp[h0])
theorem gP (h:WfC cms)(n k j:Nat)(hn:n≤cms.length)(h1:R.mark cms n k=true)(h2:R.mark cms k j=true):R.mark cms n j=true:=by
 refine jE (R.parsC cms) (fun j=>R.mark cms n j=true) (fun m hm p hp=> ?_) cms.length (fun j=>decide (j=k∧0<k)) (fun j hj=> ?_) j h2
 ·have:=qn h n m hm
  exact kA (R.parsC cms) h.lt cms.length _ m this.2 (by omega) hm p hp
 ·rw[decide_eq_true_eq]at hj;rw[hj.1];exact h1
theorem GL (h:WfC cms){a b i:Nat}(hc:R.comm cms a b i=true):i≤a∧i≤b∧1≤i:=by
 unfold R.comm at hc;rw[mR]at hc;have h1:=qn h _ _ hc.1;have h2:=qn h _ _ hc.2;omega
theorem gU (a b i k:Nat):R.lastIn cms a b i k=true↔∀m,k≤m→m≤cms.length→R.comm cms a b m=true→R.mark cms m i=false:=by
 unfold R.lastIn;rw[mO];constructor
 ·intro h m h1 h2 h3
  have:=h m (by rw[pL];omega);rw[h3]at this;simpa using this
 ·intro h m hm
  rw[pL]at hm
  cases hc:R.comm cms a b m with
  |false=>simp
  |true=>rw[h m (by omega) (by omega) hc];rfl
theorem qp (a b i:Nat):R.isLast cms a b i=true↔R.comm cms a b i=true∧∀m,i<m→m≤cms.length→R.comm cms a b m=true→R.mark cms m i=false:=by
 unfold R.isLast;rw[mR,gU];exact Iff.rfl
theorem jO (a b i:Nat):i∈R.latC cms a b↔1≤i∧i≤cms.length∧R.isLast cms a b i=true:=by
 unfold R.latC;rw[nM,pL];constructor
 ·rintro⟨h1,h2⟩;exact⟨by omega,by omega,h2⟩
 ·rintro⟨h1,h2,h3⟩;exact⟨by omega,h3⟩
theorem fD (a b:Nat):(R.latC cms a b).Pairwise (·< ·):=List.Pairwise.filter _ List.pairwise_lt_range'
theorem Gz (h:WfC cms){a b x y:Nat}{r:List Nat}(ha:a≤cms.length)(hl:R.latC cms a b=x::y::r):∀i∈x::y::r,i<a:=by
 intro i hi;have hm:=(jO (cms:=cms) a b i).1 (by rw[hl];exact hi);have hc:=(qp a b i).1 hm.2.2;have a4:=GL h hc.1;rcases nR i a with h1|h1
 ·exact h1
 have e:i=a:=by omega
 subst e;exfalso
 have a0:∀z∈R.latC cms i b,z=i:=by
  intro z hz;have a3 :=(jO (cms:=cms) i b z).1 hz;have a1 :=(qp i b z).1 a3.2.2;have a2 :=GL h a1.1;rcases nR z i with h2|h2
  ·have h3:=a1.2 i h2 ha hc.1
   have h4:=a1.1;unfold R.comm at h4;rw[mR]at h4;rw[h4.1]at h3;cases h3
  ·omega
 have hs:=fD (cms:=cms) i b;rw[hl]at hs a0;have h1:=a0 x (by simp);have h2:=a0 y (by simp);have:=nC hs (eY ..);omega
end
theorem jo (cms:List R.Cm)(f g:Nat→Nat→List R.Leaf×Int):∀(l:List Nat) (p:Nat) (t:List R.Leaf),(∀x∈p::l,∀y∈l,f x y=g x y)→R.togF f cms p t l=R.togF g cms p t l
 |[],_,_,_=>rfl
 |n::r,p,t,h=>by
  have e:=h p (eY ..) n (eY ..);unfold R.togF;rw[e,jo cms f g r n _ fun x hx y hy=>h x (hU _ hx) y (hU _ hy)]
theorem togL_congr {cms:List R.Cm}(hw:WfC cms)(f g:Nat→Nat→List R.Leaf×Int)(a b:Nat)(ha:a≤cms.length)(h:∀x y,x<a→y<a→f x y=g x y):R.togL f cms (R.latC cms a b)=R.togL g cms (R.latC cms a b):=by
 cases hl:R.latC cms a b with
 |nil=>rfl
 |cons x r=>
  cases r with
  |nil=>rfl
  |cons y r=>
   have a0:=Gz hw ha hl;exact jo cms f g _ _ _ fun u hu v hv=>h u v (a0 u hu) (a0 v (hU _ hv))
theorem Jk {cms:List R.Cm}(hw:WfC cms):∀(f g a b:Nat),a<f→a<g→a≤cms.length→R.baseF cms f a b=R.baseF cms g a b
 |0,_,_,_,h,_,_=>by omega
 |_,0,_,_,_,h,_=>by omega
 |f+1,g+1,a,b,h1,h2,ha=>togL_congr hw _ _ a b ha fun x y hx _=>Jk hw f g x y (by omega) (by omega) (by omega)
theorem Jl {cms:List R.Cm}(hw:WfC cms)(a b:Nat)(ha:a≤cms.length):R.baseC cms a b=R.togL (R.baseC cms) cms (R.latC cms a b):=
 togL_congr hw _ _ a b ha fun x y hx _=>Jk hw a (x+1) x y hx (by omega) (by omega)
theorem ZH {cms:List R.Cm}(ht:∀c∈cms,OkT c.tree)(n:Nat):OkT (R.treeC cms n):=by
 unfold R.treeC;split
 ·exact OkT.nil
 ·cases e:cms[n-1]? with
  |none=>exact OkT.nil
  |some c=>exact ht c (iK e)
theorem Gj {cms:List R.Cm}(ht:∀c∈cms,OkT c.tree)(f:Nat→Nat→List R.Leaf×Int)(hf:∀x y,OkT (f x y).1):∀(l:List Nat) (p:Nat) (t:List R.Leaf),OkT t→OkT (R.togF f cms p t l).1
 |[],_,_,h=>h
 |n::r,p,t,h=>by
  unfold R.togF;split
  ·exact OkT.nil
  ·split
   ·exact OkT.nil
   ·exact Gj ht f hf r n _ (VQ (hf p n) h (ZH ht n))
theorem Ck {cms:List R.Cm}(ht:∀c∈cms,OkT c.tree)(f:Nat→Nat→List R.Leaf×Int)(hf:∀x y,OkT (f x y).1)(l:List Nat):OkT (R.togL f cms l).1:=by
 cases l with
 |nil=>exact OkT.nil
 |cons n r=>exact Gj ht f hf r n _ (ZH ht n)
theorem OQ {cms:List R.Cm}(ht:∀c∈cms,OkT c.tree):∀(f a b:Nat),OkT (R.baseF cms f a b).1
 |0,_,_=>OkT.nil
 |f+1,_,_=>Ck ht _ (OQ ht f) _
theorem Qm {cms:List R.Cm}(ht:∀c∈cms,OkT c.tree)(a b:Nat):OkT (R.baseC cms a b).1:=OQ ht _ _ _
theorem o9 (f:Nat→Nat→List R.Leaf×Int)(cms:List R.Cm):∀(l:List Nat) (p:Nat) (t:List R.Leaf),(R.togF f cms p t l).2≠0→(R.togF f cms p t l).1=[]
 |[],_,_,h=>absurd rfl h
 |n::r,p,t,h=>by
  unfold R.togF at h⊢;split
  ·rfl
  ·rename_i h1
   rw[if_neg h1]at h;split
   ·rfl
   ·rename_i h2
    rw[if_neg h2]at h;exact o9 f cms r n _ h
theorem F7 (cms:List R.Cm)(a b:Nat)(h:(R.baseC cms a b).2≠0):(R.baseC cms a b).1=[]:=by
 unfold R.baseC R.baseF R.togL at h⊢;split
 ·rfl
 ·rename_i n r hl
  rw[hl]at h;exact o9 _ _ _ _ _ h
section
variable {cms:List R.Cm}(ext:List R.Cm)
end
def Xb:Nat→List Nat
 |0=> []
 |i+1=>(i+1)::Xb i
theorem VI:∀(i j:Nat),j∈Xb i↔1≤j∧j≤i
 |0,j=>by simp[Xb];omega
 |i+1,j=>by rw[Xb,iC,VI i j];omega
theorem OC:∀(i:Nat),(Xb i).reverse=List.range' 1 i
 |0=>rfl
 |i+1=>by rw[Xb,List.reverse_cons,OC i,List.range'_1_concat,Nat.add_comm]
def x9 (mark:Nat→Nat→Bool):Nat→List Nat→List Nat
 |0,_=> []
 |_+1,[]=> []
 |f+1,x::r=>x::x9 mark f ((x::r).filter fun m=> !mark x m)
theorem Y1 (mark:Nat→Nat→Bool)(f:Nat):x9 mark f []=[]:=by cases f<;>rfl
section
variable {cms:List R.Cm}
theorem Q9 (hw:WfC cms)(a b:Nat):∀(i f:Nat) (F:List Nat),i≤cms.length→i≤f→
  (∀x∈F,i<x∧x≤cms.length∧R.comm cms a b x=true)→(∀k,i<k→k≤cms.length→R.comm cms a b k=true→∃x∈F,R.mark cms x k=true)→
  x9 (R.mark cms) f ((Xb i).filter fun j=>R.comm cms a b j&&F.all fun x=> !R.mark cms x j)=(Xb i).filter (R.isLast cms a b)
 |0,f,F,_,_,_,_=>by simp only[Xb,List.filter_nil,Y1]
 |i+1,f,F,hi,hf,hF,hk=>by
  have hl:R.isLast cms a b (i+1)=(R.comm cms a b (i+1)&&F.all fun x=> !R.mark cms x (i+1)):=by
   rw[Bool.eq_iff_iff,qp,mR,mO];refine and_congr_right fun hc=>⟨fun h x hx=> ?_,fun h m h1 h2 h3=> ?_⟩
   ·obtain⟨g1,g2,g3⟩:=hF x hx
    rw[h x g1 g2 g3];rfl
   ·rw[mM];intro e
    obtain⟨x,hx,a1⟩:=hk m h1 h2 h3;have:=h x hx;rw[gP hw x m (i+1) (hF x hx).2.1 a1 e]at this
    cases this
  rw[Xb,nA,nA,←hl];by_cases hc:R.isLast cms a b (i+1)=true
  ·rw[if_pos hc,if_pos hc]
   obtain⟨f,rfl⟩:∃g,f=g+1:=⟨f-1,by omega⟩
   have a0:=((qp a b (i+1)).1 hc).1;rw[x9];congr 1
   rw[nA,if_neg (by rw[Yx (i+1) (by omega)];simp),List.filter_filter];rw[←Q9 hw a b i f ((i+1)::F) (by omega) (by omega) (fun x hx=> ?_) (fun k h1 h2 h3=> ?_)]
   ·congr 1
    refine pM fun j _=> ?_
    rw[List.all_cons]
    cases R.comm cms a b j<;>cases R.mark cms (i+1) j<;>simp
   ·rcases iC.1 hx with rfl|hx
    ·exact⟨by omega,hi,a0⟩
    ·obtain⟨g1,g2,g3⟩:=hF x hx
     exact⟨by omega,g2,g3⟩
   ·rcases nR (i+1) k with h4|h4
    ·obtain⟨x,hx,hm⟩:=hk k h4 h2 h3
     exact⟨x,hU _ hx,hm⟩
    ·have e:k=i+1:=by omega
     subst e;exact⟨i+1,eY ..,Yx (i+1) (by omega)⟩
  ·rw[if_neg hc,if_neg hc]
   refine Q9 hw a b i f F (by omega) (by omega) (fun x hx=> ?_) (fun k h1 h2 h3=> ?_)
   ·obtain⟨g1,g2,g3⟩:=hF x hx
    exact⟨by omega,g2,g3⟩
   ·rcases nR (i+1) k with h4|h4
    ·exact hk k h4 h2 h3
    ·have e:k=i+1:=by omega
     subst e;rw[hl,h3,mI,mO]at hc;have:∃x∈F,¬(!R.mark cms x (i+1))=true:=by
      refine Classical.byContradiction fun hn=>hc fun x hx=> ?_
      exact Classical.byContradiction fun hm=>hn ⟨x,hx,hm⟩
     obtain⟨x,hx,hm⟩:=this;exact⟨x,hx,by simpa using hm⟩
theorem Jz (hw:WfC cms)(a b f:Nat)(hf:cms.length≤f):(x9 (R.mark cms) f ((Xb cms.length).filter (R.comm cms a b))).reverse=R.latC cms a b:=by
 have h:=Q9 hw a b cms.length f [] (j0a _) hf (by simp) (fun k h1 h2=>by omega);have e:((Xb cms.length).filter fun j=>R.comm cms a b j&&([]:List Nat).all fun x=> !R.mark cms x j)=(Xb cms.length).filter (R.comm cms a b):=
  pM fun j _=>by simp
 rw[e]at h;rw[h,←List.filter_reverse,OC];rfl
end
theorem vf {a b:List UInt8}(h:a≤b)(hn:a≠b):Op.bytesLess a b=true:=by
 cases h1:Op.bytesLess a b
 ·have h2:Op.bytesLess b a=false:=by
   rw[Go.Proofs.bytesLess_eq];exact decide_eq_false (List.not_lt.2 h)
  exact(hn (yR a b h1 h2)).elim
 ·rfl
theorem f7 (l:List (List UInt8)):(l.mergeSort fun x y=>decide (x≤y)).Pairwise (·≤ ·):=by
 have:=List.pairwise_mergeSort (le:=fun x y:List UInt8=>decide (x≤y)) (fun a b c h1 h2=>by simp only[decide_eq_true_eq]at*;exact List.le_trans h1 h2) (fun a b=>by simp only[mT,decide_eq_true_eq];exact List.le_total a b) l;exact this.imp fun h=>by simpa using h
theorem OH (s:List (List UInt8))(q:List UInt8):q∈pN s↔q∈s:=by
 unfold pN pO;simp only[pH,nM,List.mem_range];constructor
 ·rintro⟨j,⟨hj,_⟩,rfl⟩
  simp[hj]
 ·intro h
  obtain⟨k,hk,rfl⟩:=List.getElem_of_mem h;have:∀k (hk:k<s.length),∃j,(j<s.length∧pP s.toArray j=true)∧s.toArray[j]! =s[k]:=by
   intro k;induction k with
   |zero=>intro hk;exact⟨0,⟨hk,by simp[pP]⟩,by simp[hk]⟩
   |succ k ih=>
    intro hk
    cases hc:pP s.toArray (k+1)
    ·obtain⟨j,h1,h2⟩:=ih (by omega)
     refine⟨j,h1,h2.trans ?_⟩;have:s.toArray[k+1]! =s.toArray[k]! :=by simpa[pP]using hc
     have a0 :k<s.length:=by omega
     simp only[pQ,pR,j0d hk,j0d a0,pJ]at this;exact this.symm
    ·exact⟨k+1,⟨hk,hc⟩,by simp[hk]⟩
  exact this k hk
theorem UG (s:List (List UInt8))(h:s.Pairwise (·≤ ·)):Zb (pN s):=by
 refine zW.i ?_;unfold zW pN pO;rw[pG,List.pairwise_filter,pS];intro i j hi hj a1;simp only[List.length_range]at hi hj;simp only[List.getElem_range,id_eq];intro _ hk;have h1:s.toArray[j]! ≠s.toArray[j-1]! :=by
  have:=hk;simp only[pP,decide_eq_true_eq]at this;rcases this with e|e
  ·omega
  ·exact e
 have a0:j-1<s.length:=by omega
 simp only[pQ,pR,j0d hi,j0d hj,j0d a0,pJ]at h1⊢;rw[pS]at h;have h2:s[j-1]≤s[j]:=h _ _ _ _ (by omega);have h3:=vf h2 h1.symm;by_cases e:i=j-1
 ·subst e;exact h3
 ·have h4:s[i]≤s[j-1]:=h _ _ _ _ (by omega)
  by_cases e2:s[i]=s[j-1]
  ·rw[e2];exact h3
  ·exact Zj _ _ _ (vf h4 e2) h3
theorem JZ {base a1 a0:List R.Leaf}(hb:OkT base)(ho:OkT a1)(ht:OkT a0):
  pN (((base++(a1++a0)).map R.Leaf.path).mergeSort fun x y=>decide (x≤y))=R.allP base a1 a0:=by
 have hp:=QK hb ho ht;have hm:∀q,q∈pN (((base++(a1++a0)).map R.Leaf.path).mergeSort fun x y=>decide (x≤y))↔∃z∈base++(a1++a0),z.path=q:=fun q=>by
  rw[OH,List.mem_mergeSort,pH]
 refine Ps.eq ⟨UG _ (f7 _),fun p h=> ?_,hm⟩ hp;exact hp.path p ((hp.mem p).2 ((hm p).1 h))
namespace R
def joinC (cms:List Cm)(a b:Nat):List Leaf×Int:=
 if(baseC cms a b).2≠0 then([],(baseC cms a b).2)else joinT (baseC cms a b).1 (treeC cms a) (treeC cms b)
def joinN (st:St)(into:List UInt8)(a b:Nat):(Int×Int)×St:=
 if(joinC st.cms a b).2≠0 then((0,(joinC st.cms a b).2),st)
 else if 60≤st.cms.length then((0,4),st)
 else((((st.cms.length+1:Nat):Int),0),down st into {tree:=(joinC st.cms a b).1,parents:=[a,b]})
def joinH (st:St)(into:List UInt8)(a b:Nat):(Int×Int)×St:=
 if b=0∨mark st.cms a b=true then(((a:Int),0),st)
 else if a=0∨mark st.cms b a=true then(((b:Int),0),setHead st into b)
 else joinN st into a b
def joinB (st:St)(into fr:List UInt8):(Int×Int)×St:=
 if fndI st.brs into<0∨fndI st.brs fr<0 then((0,5),st)
 else if Written (workOf st into)≠Written (treeOf st (headOf st into))then((0,9),st)
 else joinH st into (headOf st into) (headOf st fr)
end R
theorem jU {st:R.St}(h:Inv st)(a b:Nat):OkT (R.joinC st.cms a b).1:=by
 unfold R.joinC;split
 ·exact OkT.nil
 ·exact VQ (Qm h.trees a b) (ZH h.trees a) (ZH h.trees b)
theorem fK {st:R.St}(h:Inv st)(a0:List UInt8)(a b:Nat)(ha:1≤a∧a≤st.cms.length)(hb:1≤b∧b≤st.cms.length)(hf:R.fnd st.brs a0<st.brs.length):Inv (R.joinN st a0 a b).2:=by
 unfold R.joinN;split
 ·exact h
 ·split
  ·exact h
  ·refine OA h a0 _ (by omega) (jU h a b) (fun p hp=> ?_) (by simp) hf
   simp only[iC,iI,or_false]at hp;rcases hp with rfl|rfl
   ·exact ha
   ·exact hb
theorem fN {st:R.St}(h:Inv st)(a0:List UInt8)(a b:Nat)(ha:a≤st.cms.length)(hb:b≤st.cms.length)(hf:R.fnd st.brs a0<st.brs.length):Inv (R.joinH st a0 a b).2:=by
 unfold R.joinH;split
 ·exact h
 ·rename_i h1
  split
  ·exact setHead_inv h a0 b hb hf
  ·rename_i h2
   exact fK h a0 a b ⟨by omega,ha⟩ ⟨by omega,hb⟩ hf
theorem kT {st:R.St}{n:List UInt8}(h:¬R.fndI st.brs n<0):R.fnd st.brs n<st.brs.length:=by
 rcases R.fndI_cases st.brs n with⟨e,_⟩|⟨_,e⟩
 ·omega
 ·exact e
theorem QA {st:R.St}(h:Inv st)(a0 fr:List UInt8):Inv (R.joinB st a0 fr).2:=by
 unfold R.joinB;split
 ·exact h
 ·rename_i h1
  split
  ·exact h
  ·exact fN h a0 _ _ (Zh h a0) (Zh h fr) (kT fun e=>h1 (.inl e))
theorem Oz {st:R.St}(_h:Inv st)(name:List UInt8)(hn:name.length≤8)(c:R.Cm)(ht:OkT c.tree)(h2:c.parents.length≤2):(R.down st name c).packed.length≤st.packed.length+300000:=by
 have:=ht.len;unfold R.down R.setHead R.keepC;simp only[mB,R.record,R.recHead,R.bodyC,mC,mS,pA];omega
theorem js (st:R.St)(name:List UInt8)(hn:name.length≤8)(n:Nat):(R.setHead st name n).packed.length≤st.packed.length+300000:=by
 unfold R.setHead;simp only[mB,R.record,R.recHead,mC,mS];omega
theorem VT {st:R.St}(h:Inv st)(a0 fr:List UInt8):(R.joinB st a0 fr).2.packed.length≤st.packed.length+300000:=by
 unfold R.joinB;split
 ·exact pT _ _
 ·rename_i h1
  have hf:=kT (st:=st) (n:=a0) fun e=>h1 (.inl e)
  have hn:a0.length≤8:=by
   have:=ZK _ (h.names _ (j0c hf));rwa[R.fnd_name]at this
  split
  ·exact pT _ _
  ·unfold R.joinH
   split
   ·exact pT _ _
   ·split
    ·exact js st a0 hn _
    ·unfold R.joinN
     split
     ·exact pT _ _
     ·split
      ·exact pT _ _
      ·exact Oz h a0 hn _ (jU h _ _) (by simp)
theorem Gx {cms:List R.Cm}{a b:Nat}(ha:a≠0)(h:¬R.mark cms a b=true):a≠b:=by
 intro e;subst e;exact h (Yx a (by omega))
