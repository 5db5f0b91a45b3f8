import Derived.Test.YtolgebdmffcemaaGreatDoorQ09
import Derived.Test.YtolgebdmffcemaaGreatDoorQ10
import Derived.Deep.OwnRows
set_option linter.all false
set_option maxHeartbeats 20000000
set_option maxRecDepth 1000000
open List renaming mem_append→iZ,filter_cons_of_neg→wC,mem_filter→pV,length_filter_le→pY,filter_congr→rV,headD_cons→wD,length_eq_zero_iff→wF,length_cons→nM
open Bool renaming eq_iff_iff→rC
namespace Go.Proofs.YtolgebdmffcemaaGreatDoor
open Go.RowKit Go
def Ym (l:List Nat):List Value:=l.map fun(n:Nat)=>Value.int .i64 (n:Int)




def kt (n:Nat)(x:Nat→Int)(e:Int):Prop:=∃j,j<n∧x j=e
theorem xb (x:Nat→Int)(i k j:Nat):swp x i k j=if j=k then x i else if j=i then x k else x j:=rfl
theorem G_ {n:Nat}{x:Nat→Int}{i k:Nat}{e:Int}(hi:i<n)(hk:k<n):kt n (swp x i k) e↔kt n x e:=by
 constructor
 ·rintro⟨j,hj,h⟩
  rw[xb]at h;split at h
  ·exact⟨i,hi,h⟩
  ·split at h
   ·exact⟨k,hk,h⟩
   ·exact⟨j,hj,h⟩
 ·rintro⟨j,hj,h⟩
  by_cases h1:j=i
  ·exact⟨k,hk,by rw[xb,if_pos rfl,←h1];exact h⟩
  ·by_cases h2:j=k
   ·refine⟨i,hi,?_⟩
    rw[xb,if_neg (by omega),if_pos rfl,←h2];exact h
   ·exact⟨j,hj,by rw[xb,if_neg h2,if_neg h1];exact h⟩
theorem cU {n:Nat}{e:Int}:∀(f:Nat) (x:Nat→Int) (i:Nat),i<n→(kt n (upF f x i) e↔kt n x e)
 |0,_,_,_=>Iff.rfl
 |f+1,x,i,hi=>by
  by_cases h0:i=0
  ·subst h0;rw[Vl]
  ·by_cases h:x i≤x ((i-1)/2)
   ·rw[jo (by omega) h]
   ·rw[gF (by omega) h,cU f _ _ (by omega),G_ hi (by omega)]
theorem j_ {n:Nat}{e:Int}:∀(f:Nat) (x:Nat→Int) (i:Nat),i<n→(kt n (qF f n x i) e↔kt n x e)
 |0,_,_,_=>Iff.rfl
 |f+1,x,i,hi=>by
  rcases B7 n x i with h|h
  ·rw[vW h]
  ·rw[Ja rfl (by omega),j_ f _ _ h.2,G_ hi h.2]
def od (n:Nat)(x:Nat→Int):Prop:=∀j,0<j→j<n→x j≤x ((j-1)/2)
theorem cx {n:Nat}:∀(f:Nat) (x:Nat→Int) (i:Nat),i<n→i≤f→(∀j,0<j→j<n→j≠i→x j≤x ((j-1)/2))→(∀j,0<j→j<n→(j-1)/2=i→0<i→x j≤x ((i-1)/2))→od n (upF f x i)
 |0,x,i,hi,hf,h1,h2=>fun j hj hn=>h1 j hj hn (by omega)
 |f+1,x,i,hi,hf,h1,h2=>by
  by_cases h0:i=0
  ·subst h0;rw[Vl]
   exact fun j hj hn=>h1 j hj hn (by omega)
  ·by_cases h:x i≤x ((i-1)/2)
   ·rw[jo (by omega) h]
    intro j hj hn;by_cases e:j=i
    ·subst e;exact h
    ·exact h1 j hj hn e
   ·rw[gF (by omega) h]
    obtain⟨p,hp⟩:∃p,p=(i-1)/2:=⟨_,rfl⟩
    rw[←hp]at h⊢;refine cx f _ p (by omega) (by omega) (fun j hj hn a0=> ?_) (fun j hj hn hq h0=> ?_)
    ·rw[xb,xb,if_neg a0]
     by_cases e:j=i
     ·subst e
      rw[if_pos rfl,if_pos hp.symm];omega
     ·rw[if_neg e]
      by_cases e1:(j-1)/2=p
      ·rw[if_pos e1]
       have:=h1 j hj hn e;rw[e1]at this;omega
      ·rw[if_neg e1]
       by_cases e2:(j-1)/2=i
       ·rw[if_pos e2,hp];exact h2 j hj hn e2 (by omega)
       ·rw[if_neg e2];exact h1 j hj hn e
    ·rw[xb,xb,if_neg (by omega),if_neg (show(p-1)/2≠p by omega),if_neg (show(p-1)/2≠i by omega)]
     have a1:=h1 p h0 (by omega) (by omega);by_cases e:j=i
     ·rw[if_pos e];exact a1
     ·rw[if_neg e]
      have:=h1 j hj hn e;rw[hq]at this;omega
theorem fL (n:Nat)(x:Nat→Int)(i:Nat):(zQ n x (zQ n x i (2*i+1)) (2*i+2)=i∨(((i<zQ n x (zQ n x i (2*i+1)) (2*i+2))∧(zQ n x (zQ n x i (2*i+1)) (2*i+2)-1)/2=i)∧zQ n x (zQ n x i (2*i+1)) (2*i+2)<n))∧
  x i≤x (zQ n x (zQ n x i (2*i+1)) (2*i+2))∧∀j,0<j→j<n→(j-1)/2=i→x j≤x (zQ n x (zQ n x i (2*i+1)) (2*i+2)):=by
 have key:∀a l,x a≤x (zQ n x a l)∧(l<n→x l≤x (zQ n x a l)):=by
  intro a l;unfold zQ;split
  ·rename_i h;exact⟨by omega,fun _=>by omega⟩
  ·rename_i h;exact⟨by omega,fun hl=>by by_cases hh:x a<x l;exact absurd ⟨hl,hh⟩ h;omega⟩
 have k1:=key i (2*i+1);have k2:=key (zQ n x i (2*i+1)) (2*i+2);refine⟨?_,by omega,fun j hj hn hp=> ?_⟩
 ·rcases Xn n x i (2*i+1)with h|h<;>rcases Xn n x (zQ n x i (2*i+1)) (2*i+2)with k|k<;>omega
 ·have:j=2*i+1∨j=2*i+2:=by omega
  rcases this with rfl|rfl
  ·have:=k1.2 hn;omega
  ·exact k2.2 hn
theorem O0 {n:Nat}:∀(f:Nat) (x:Nat→Int) (i:Nat),n≤i+f→(∀j,0<j→j<n→(j-1)/2≠i→x j≤x ((j-1)/2))→(∀j,0<j→j<n→(j-1)/2=i→0<i→x j≤x ((i-1)/2))→od n (qF f n x i)
 |0,x,i,hf,h1,h2=>fun j hj hn=>h1 j hj hn (by omega)
 |f+1,x,i,hf,h1,h2=>by
  obtain⟨ha,hb,hc⟩:=fL n x i;obtain⟨m,hm⟩:∃m,m=zQ n x (zQ n x i (2*i+1)) (2*i+2):=⟨_,rfl⟩
  rw[←hm]at ha hb hc;rcases ha with ha|ha
  ·rw[vW (by rw[←hm];exact ha)]
   intro j hj hn;by_cases e:(j-1)/2=i
   ·have:=hc j hj hn e
    rw[ha]at this;rw[e];exact this
   ·exact h1 j hj hn e
  ·rw[Ja hm.symm (by omega)]
   refine O0 f _ m (by omega) (fun j hj hn a0=> ?_) (fun j hj hn hq h0=> ?_)
   ·rw[xb,xb,if_neg a0]
    by_cases e:j=m
    ·subst e
     rw[if_pos rfl,if_pos ha.1.2];exact hb
    ·rw[if_neg e]
     by_cases e1:(j-1)/2=i
     ·rw[if_pos e1,if_neg (by omega)];exact hc j hj hn e1
     ·rw[if_neg e1]
      by_cases e2:j=i
      ·rw[if_pos e2,e2];exact h2 m (by omega) ha.2 ha.1.2 (by omega)
      ·rw[if_neg e2];exact h1 j hj hn e1
   ·rw[xb,xb,if_neg (by omega),if_neg (by omega),if_neg (by omega),if_pos ha.1.2]
    have:=h1 j hj hn (by omega);rw[hq]at this;exact this
theorem GP {n:Nat}{x:Nat→Int}(h:od n x):∀j,j<n→x j≤x 0:=by
 intro j;induction j using Nat.strongRecOn with
 |_ j ih=>
  intro hj;by_cases h0:j=0
  ·subst h0;exact Int.le_refl _
  ·have h1:=h j (by omega) hj
   have h2:=ih ((j-1)/2) (by omega) (by omega);omega
theorem xf (x:Nat→Int)(j:Nat)(v:Int)(k:Nat):YW x j v k=if k=j then v else x k:=rfl
theorem GQ {n:Nat}{x:Nat→Int}(h:od n x):od (n-1) (vx n x):=by
 refine O0 _ _ _ (by omega) (fun j hj hn a0=> ?_) (fun j hj hn hq h0=>absurd h0 (by omega));rw[xf,xf,if_neg (by omega),if_neg a0];exact h j hj (by omega)
theorem j6 {n:Nat}{x:Nat→Int}{e:Int}(he:kt (n-1) (vx n x) e):kt n x e:=by
 have h1:0<n-1:=by obtain⟨j,hj,_⟩:=he;omega
 rw[vx,j_ _ _ _ h1]at he;obtain⟨j,hj,h⟩:=he;rw[xf]at h;split at h
 ·exact⟨n-1,by omega,h⟩
 ·exact⟨j,by omega,h⟩
theorem GM {n:Nat}{x:Nat→Int}{e:Int}(he:kt n x e)(a1:e≠x 0):kt (n-1) (vx n x) e:=by
 obtain⟨j,hj,h⟩:=he;have a0:j≠0:=by rintro rfl;exact a1 h.symm
 rw[vx,j_ _ _ _ (by omega)];by_cases e1:j=n-1
 ·exact⟨0,by omega,by rw[xf,if_pos rfl,←e1];exact h⟩
 ·exact⟨j,by omega,by rw[xf,if_neg a0];exact h⟩
theorem cy {n:Nat}{x:Nat→Int}{v:Int}(h:od n x):od (n+1) (upF (n+1) (YW x n v) n):=by
 refine cx _ _ _ (by omega) (by omega) (fun j hj hn a0=> ?_) (fun j hj hn hq h0=>absurd hq (by omega));rw[xf,xf,if_neg a0,if_neg (by omega)];exact h j hj (by omega)
theorem Ol {n:Nat}{x:Nat→Int}{v e:Int}:kt (n+1) (upF (n+1) (YW x n v) n) e↔e=v∨kt n x e:=by
 rw[cU _ _ _ (by omega)];constructor
 ·rintro⟨j,hj,h⟩
  rw[xf]at h;split at h
  ·exact .inl h.symm
  ·exact .inr ⟨j,by omega,h⟩
 ·rintro(rfl|⟨j,hj,h⟩)
  ·exact⟨n,by omega,by rw[xf,if_pos rfl]⟩
  ·exact⟨j,by omega,by rw[xf,if_neg (by omega)];exact h⟩
def hist (ps:Nat→List Nat):Nat→List Nat→List Nat
 |0,_=> []
 |i+1,S=>if i+1∈S then(i+1)::hist ps i (ps (i+1)++S)else hist ps i S
theorem YF (ps:Nat→List Nat):∀(i:Nat) (S S' :List Nat),(∀e,1≤e→e≤i→(e∈S↔e∈S'))→hist ps i S=hist ps i S'
 |0,_,_,_=>rfl
 |i+1,S,S',h=>by
  have h1:=h (i+1) (by omega) (j0a _);simp only[hist];by_cases hm:i+1∈S
  ·rw[if_pos hm,if_pos (h1.1 hm),YF ps i (ps (i+1)++S) (ps (i+1)++S') fun e he a0=>by simp only[iZ];rw[h e he (by omega)]]
  ·rw[if_neg hm,if_neg (fun x=>hm (h1.2 x)),YF ps i S S' fun e he a0=>h e he (by omega)]
theorem kV (ps:Nat→List Nat)(S:List Nat)(m:Nat):∀i,m≤i→(∀e,m<e→e≤i→e∉S)→hist ps i S=hist ps m S
 |0,hm,_=>by rw[Nat.le_zero.1 hm]
 |i+1,hm,h=>by
  rcases Nat.lt_or_ge m (i+1)with h1|h1
  ·simp only[hist]
   rw[if_neg (h (i+1) h1 (j0a _)),kV ps S m i (by omega) fun e he a0=>h e he (by omega)]
  ·rw[show m=i+1 by omega]
theorem ke (ps:Nat→List Nat):∀(i:Nat) (S:List Nat),(hist ps i S).length≤i
 |0,_=>j0a _
 |i+1,S=>by
  simp only[hist];split
  ·have:=ke ps i (ps (i+1)++S);simp;omega
  ·have:=ke ps i S;omega
def Sx (n:Nat)(x:Nat→Int):List Nat:=(List.range n).map fun j=>(x j).toNat
theorem Qb {n:Nat}{x:Nat→Int}(h:∀j,j<n→1≤x j)(k:Nat):k∈Sx n x↔kt n x k:=by
 simp only[Sx,List.mem_map,List.mem_range];constructor
 ·rintro⟨j,hj,e⟩
  exact⟨j,hj,by have:=h j hj;omega⟩
 ·rintro⟨j,hj,e⟩
  exact⟨j,hj,by omega⟩
structure SI (ps:Nat→List Nat)(K n:Nat)(x:Nat→Int)(last:Int)(vs:List Nat):Prop where
 ord:od n x
 pos:∀j,j<n→1≤x j∧x j≤(K:Int)
 ex:∃i:Nat,vs=hist ps i (Sx n x)∧(∀j,j<n→x j≤(i:Int)∨x j=last)∧(last=0∨(i:Int)<last)
structure SJ (ps:Nat→List Nat)(K n:Nat)(x:Nat→Int)(m:Nat)(rest vs:List Nat):Prop where
 ord:od n x
 pos:∀j,j<n→1≤x j∧x j≤(m:Int)
 mK:1≤m∧m≤K
 rs:∀p∈rest,1≤p∧p<m
 ev:vs=hist ps (m-1) (rest++Sx n x)
section
variable {ps:Nat→List Nat}{K n:Nat}{x:Nat→Int}{last:Int}{vs:List Nat}
theorem SI.one {h:Nat}(h0:1≤h)(hK:h≤K):SI ps K 1 (upF 1 (YW x 0 h) 0) 0 (hist ps K [h]):=by
 rw[Vl];refine⟨fun j hj hn=>by omega,fun j hj=> ?_,K,?_,fun j hj=> ?_,.inl rfl⟩
 ·rw[xf,if_pos (by omega)];omega
 ·refine YF ps K _ _ fun e he a0=> ?_
  have:Sx 1 (YW x 0 h)=[h]:=by simp[Sx,YW]
  rw[this]
 ·rw[xf,if_pos (by omega)];omega
theorem SI.none:SI ps K 0 x 0 []:=by
 refine⟨fun j hj hn=>by omega,fun j hj=>by omega,0,rfl,fun j hj=>by omega,.inl rfl⟩
theorem SI.done (h:SI ps K 0 x last vs):vs=[]:=by
 obtain⟨i,rfl,_⟩:=h.ex;rw[kV ps _ 0 i (Nat.zero_le _) fun e _ _=>by simp[Sx]];rfl
theorem SI.skip (h:SI ps K n x last vs)(h0:0<n)(he:x 0=last):SI ps K (n-1) (vx n x) last vs:=by
 obtain⟨i,rfl,h1,h2⟩:=h.ex;have a0:∀j,j<n-1→∃k,k<n∧x k=vx n x j:=fun j hj=>j6 ⟨j,hj,rfl⟩
 have hp:∀j,j<n-1→1≤vx n x j∧vx n x j≤(K:Int):=fun j hj=>by obtain⟨k,hk,e⟩:=a0 j hj;rw[←e];exact h.pos k hk
 have hl:=h.pos 0 h0;refine⟨GQ h.ord,hp,i,?_,fun j hj=> ?_,h2⟩
 ·refine YF ps i _ _ fun e a1 a2=> ?_
  rw[Qb (fun j hj=>(h.pos j hj).1),Qb (fun j hj=>(hp j hj).1)];exact⟨fun hx=>GM hx (by omega),j6⟩
 ·obtain⟨k,hk,e⟩:=a0 j hj;rw[←e];exact h1 k hk
theorem SI.send (h:SI ps K n x last vs)(h0:0<n)(he:x 0≠last)(a7:∀m,1≤m→m≤K→∀p∈ps m,1≤p∧p<m):∃(m:Nat) (a3 :List Nat),x 0=(m:Int)∧(1≤m∧m≤K)∧vs=m::a3 ∧SJ ps K (n-1) (vx n x) m (ps m) a3 :=by
 obtain⟨i,rfl,h1,h2⟩:=h.ex;have hl:=h.pos 0 h0;obtain⟨m,hm⟩:∃m:Nat,x 0=m:=⟨(x 0).toNat,by omega⟩
 have a6:m≤i:=by rcases h1 0 h0 with h|h;omega;exact absurd h he
 have a0:∀j,j<n-1→∃k,k<n∧x k=vx n x j:=fun j hj=>j6 ⟨j,hj,rfl⟩
 have hp:∀j,j<n-1→1≤vx n x j∧vx n x j≤(m:Int):=fun j hj=>by
  obtain⟨k,hk,e⟩:=a0 j hj;rw[←e,←hm];exact⟨(h.pos k hk).1,GP h.ord k hk⟩
 have a2:∀j,j<n→1≤x j:=fun j hj=>(h.pos j hj).1
 obtain⟨k,rfl⟩:∃k,m=k+1:=⟨m-1,by omega⟩
 refine⟨k+1,hist ps k (ps (k+1)++Sx n x),hm,by omega,?_,GQ h.ord,hp,by omega,a7 _ (by omega) (by omega),?_⟩
 ·rw[kV ps _ (k+1) i a6 fun e a4 a5 a1=> ?_]
  ·simp only[hist]
   rw[if_pos ((Qb a2 _).2 ⟨0,h0,hm⟩)]
  ·obtain⟨j,hj,e1⟩:=(Qb a2 _).1 a1
   have:=GP h.ord j hj;omega
 ·refine YF ps _ _ _ fun e a4 a5=> ?_
  rw[iZ,iZ,Qb a2,Qb (fun j hj=>(hp j hj).1)];exact or_congr Iff.rfl ⟨fun hx=>GM hx (by omega),j6⟩
theorem SJ.push {m p:Nat}{rest:List Nat}(h:SJ ps K n x m (p::rest) vs):SJ ps K (n+1) (upF (n+1) (YW x n p) n) m rest vs:=by
 have a2:=h.rs p (by simp);have hp:∀j,j<n+1→1≤upF (n+1) (YW x n p) n j∧upF (n+1) (YW x n p) n j≤(m:Int):=fun j hj=>by
  have:kt (n+1) (upF (n+1) (YW x n p) n) (upF (n+1) (YW x n p) n j):=⟨j,hj,rfl⟩
  rcases Ol.1 this with e|⟨k,hk,e⟩
  ·rw[e];omega
  ·rw[←e];exact h.pos k hk
 refine⟨cy h.ord,hp,h.mK,fun q hq=>h.rs q (by simp[hq]),?_⟩;rw[h.ev];refine YF ps _ _ _ fun e a0 a1=> ?_
 rw[iZ,iZ,Qb (fun j hj=>(hp j hj).1),Qb (fun j hj=>(h.pos j hj).1),Ol,List.mem_cons];constructor
 ·rintro((rfl|h)|h)
  ·exact .inr (.inl rfl)
  ·exact .inl h
  ·exact .inr (.inr h)
 ·rintro(h|h|h)
  ·exact .inl (.inr h)
  ·exact .inl (.inl (by omega))
  ·exact .inr h
theorem SJ.done {m:Nat}(h:SJ ps K n x m [] vs):SI ps K n x m vs:=by
 refine⟨h.ord,fun j hj=>⟨(h.pos j hj).1,by have:=(h.pos j hj).2;have:=h.mK;omega⟩,m-1,by rw[h.ev];rfl,fun j hj=> ?_,.inr (by have:=h.mK;omega)⟩;have:=h.pos j hj;have:=h.mK;omega
end
theorem Ur (ps:Nat→List Nat)(hp:∀m,∀p∈ps m,p<m):∀(i:Nat) (f:Nat→Bool) (S:List Nat),(∀e,1≤e→e≤i→(f e=true↔e∈S))→(Xb i).filter (mk ps i f)=hist ps i S
 |0,_,_,_=>rfl
 |i+1,f,S,h=>by
  have h1:=h (i+1) (by omega) (j0a _);have hv:mk ps (i+1) f (i+1)=f (i+1):=Us ps hp (i+1) f (i+1) (j0a _);simp only[Xb,hist];by_cases hm:i+1∈S
  ·have hf:=h1.2 hm
   rw[List.filter_cons_of_pos (by rw[hv];exact hf),if_pos hm,mk,if_pos hf];congr 1
   refine Ur ps hp i _ _ fun e h2 h3=> ?_
   rw[iZ,Bool.or_eq_true,decide_eq_true_eq,h e h2 (by omega)];exact Or.comm
  ·have hf:¬f (i+1)=true:=fun e=>hm (h1.1 e)
   rw[wC (by rw[hv];exact hf),if_neg hm,mk,if_neg hf];exact Ur ps hp i _ _ fun e h2 h3=>h e h2 (by omega)
def zt (cms:List R.Cm)(n:Nat):List Nat:=(Xb cms.length).filter (R.mark cms n)
theorem ux {cms:List R.Cm}(hw:WfC cms)(n:Nat):hist (R.parsC cms) cms.length [n]=zt cms n:=by
 refine(Ur (R.parsC cms) hw.lt cms.length _ [n] fun e h1 h2=> ?_).symm;simp only[List.mem_singleton,decide_eq_true_eq];omega
theorem yK {cms:List R.Cm}(hw:WfC cms){n:Nat}(hn:n≤cms.length)(j:Nat):j∈zt cms n↔R.mark cms n j=true:=by
 unfold zt;rw[pV,Qa];constructor
 ·exact fun h=>h.2
 ·intro h
  have:=Xs hw n j h;exact⟨by omega,h⟩
theorem xL (cms:List R.Cm)(n:Nat):(zt cms n).length≤cms.length:=by
 unfold zt;refine j0f (pY _ _) ?_;have:∀i,(Xb i).length=i:=fun i=>by
  induction i with
  |zero=>rfl
  |succ i ih=>simp[Xb,ih]
 rw[this];exact j0a _
def Zx (cms:List R.Cm)(a b:Nat):List Nat:=(Xb cms.length).filter (R.comm cms a b)
theorem O_ {cms:List R.Cm}(hw:WfC cms)(a b:Nat)(hb:b≤cms.length):(zt cms a).filter (fun m=>decide (m∈zt cms b))=Zx cms a b:=by
 unfold Zx;show((Xb cms.length).filter (R.mark cms a)).filter _=_;rw[List.filter_filter];refine rV fun j _=> ?_
 have:=yK hw hb j;unfold R.comm;rw[Bool.and_comm];congr 1
 rw[rC];exact⟨fun h=>this.1 (of_decide_eq_true h),fun h=>decide_eq_true (this.2 h)⟩
def Vu (cms:List R.Cm)(l:List Nat):List Nat:=l.filter fun m=> !decide (m∈zt cms (l.headD 0))
def dw (cms:List R.Cm):Nat→List Nat→List Nat
 |0,l=>l
 |k+1,l=>dw cms k (Vu cms l)
theorem jz {cms:List R.Cm}(hw:WfC cms){l:List Nat}(h0:l≠ [])(hl:∀x∈l,1≤x∧x≤cms.length):(Vu cms l).length<l.length:=by
 cases l with
 |nil=>exact(h0 rfl).elim
 |cons x r=>
  have hx:=hl x (by simp);have:x∈zt cms x:=(yK hw hx.2 x).2 (yj x hx.1);unfold Vu;simp only[wD];rw[wC (by simp[this])];exact Nat.lt_succ_of_le (pY _ _)
theorem kB (cms:List R.Cm)(l:List Nat):∀x∈Vu cms l,x∈l:=fun _ hx=>(pV.1 hx).1
theorem Qe {cms:List R.Cm}(hw:WfC cms)(f x:Nat)(r:List Nat)(hx:x≤cms.length):xk (R.mark cms) (f+1) (x::r)=x::xk (R.mark cms) f (Vu cms (x::r)):=by
 rw[xk];congr 2
 unfold Vu;refine rV fun m _=> ?_
 simp only[wD];congr 1
 rw[rC];exact⟨fun h=>decide_eq_true ((yK hw hx m).2 h),fun h=>(yK hw hx m).1 (of_decide_eq_true h)⟩
theorem Qf {cms:List R.Cm}(hw:WfC cms):∀(f g:Nat) (l:List Nat),(∀x∈l,1≤x∧x≤cms.length)→l.length≤f→l.length≤g→xk (R.mark cms) f l=xk (R.mark cms) g l
 |0,g,l,_,h1,_=>by
  have:l=[]:=wF.1 (by omega);subst this;rw[Y9,Y9]
 |f+1,0,l,_,_,h2=>by
  have:l=[]:=wF.1 (by omega);subst this;rw[Y9,Y9]
 |f+1,g+1,[],_,_,_=>by rw[Y9,Y9]
 |f+1,g+1,x::r,hl,h1,h2=>by
  have hx:=hl x (by simp);have a0:=jz hw (l:=x::r) (by simp) hl;rw[Qe hw f x r hx.2,Qe hw g x r hx.2,Qf hw f g _ (fun y hy=>hl y (kB _ _ y hy)) (by omega) (by omega)]
def Gb (cms:List R.Cm)(l:List Nat):List Nat:=xk (R.mark cms) l.length l
theorem fZ {cms:List R.Cm}(hw:WfC cms)(x:Nat)(r:List Nat)(hl:∀y∈x::r,1≤y∧y≤cms.length):Gb cms (x::r)=x::Gb cms (Vu cms (x::r)):=by
 have hx:=hl x (by simp);have a0:=jz hw (l:=x::r) (by simp) hl;unfold Gb;rw[nM,Qe hw r.length x r hx.2,Qf hw r.length _ _ (fun y hy=>hl y (kB _ _ y hy)) (by rw[nM]at a0;omega) (j0a _)]
theorem fY {cms:List R.Cm}(hw:WfC cms)(a b:Nat):(xk (R.mark cms) (Zx cms a b).length (Zx cms a b)).reverse=R.latC cms a b:=by
 have hl:∀x∈Zx cms a b,1≤x∧x≤cms.length:=fun x hx=>(Qa _ _).1 (pV.1 hx).1
 have a0:(Zx cms a b).length≤cms.length:=by
  refine j0f (pY _ _) ?_;have:∀i,(Xb i).length=i:=fun i=>by
   induction i with
   |zero=>rfl
   |succ i ih=>simp[Xb,ih]
  rw[this];exact j0a _
 rw[←Jz hw a b cms.length (j0a _),Qf hw _ cms.length _ hl (j0a _) a0];rfl
def MKS (w:World)(g K:Nat)(f:Nat→Bool):Prop:=(∀j,j≤K→w.cell? ⟨g,j,none⟩=some (.bool (f j)))∧∀o,w.frozen? ⟨g,o,none⟩=false
def xj (st:R.St)(name:List UInt8):List Nat×Int:=if R.fndI st.brs name<0 then([],5)else(hist (R.parents st) st.cms.length [R.headOf st name],0)
theorem BK {st:R.St}(hi:Inv st):∀m,∀p∈R.parents st m,p<m:=by
 intro m p hp;unfold R.parents at hp
 cases e:st.cms[m-1]? with
 |none=>rw[e]at hp;simp at hp
 |some c=>
  rw[e]at hp;obtain⟨h1,h2⟩:=List.getElem?_eq_some_iff.1 e;have:=hi.pars (m-1) h1 p (by rw[h2];simpa using hp);omega
