import Derived.Test.YtolgebdmffcemaaGreatDoorQ21
import Derived.Deep.OwnRows
set_option linter.all false
set_option maxHeartbeats 20000000
set_option maxRecDepth 1000000
namespace Go.Proofs.YtolgebdmffcemaaGreatDoor
open Go Go.RowKit
def V4 (n:Nat)(x:Nat→Int)(e:Int):Prop:=∃j,j<n∧x j=e
theorem YH (x:Nat→Int)(i k j:Nat):swp x i k j=if j=k then x i else if j=i then x k else x j:=rfl
theorem U_ {n:Nat}{x:Nat→Int}{i k:Nat}{e:Int}(hi:i<n)(hk:k<n):V4 n (swp x i k) e↔V4 n x e:=by
 constructor
 ·rintro⟨j,hj,h⟩
  rw[YH]at h;split at h
  ·exact⟨i,hi,h⟩
  ·split at h
   ·exact⟨k,hk,h⟩
   ·exact⟨j,hj,h⟩
 ·rintro⟨j,hj,h⟩
  by_cases h1:j=i
  ·exact⟨k,hk,by rw[YH,if_pos rfl,←h1];exact h⟩
  ·by_cases h2:j=k
   ·refine⟨i,hi,?_⟩
    rw[YH,if_neg (by omega),if_pos rfl,←h2];exact h
   ·exact⟨j,hj,by rw[YH,if_neg h2,if_neg h1];exact h⟩
theorem gq {n:Nat}{e:Int}:∀(f:Nat) (x:Nat→Int) (i:Nat),i<n→(V4 n (upF f x i) e↔V4 n x e)
 |0,_,_,_=>Iff.rfl
 |f+1,x,i,hi=>by
  by_cases h0:i=0
  ·subst h0;rw[vw]
  ·by_cases h:x i≤x ((i-1)/2)
   ·rw[kM (by omega) h]
   ·rw[uZ (by omega) h,gq f _ _ (by omega),U_ hi (by omega)]
theorem Kc {n:Nat}{e:Int}:∀(f:Nat) (x:Nat→Int) (i:Nat),i<n→(V4 n (qj f n x i) e↔V4 n x e)
 |0,_,_,_=>Iff.rfl
 |f+1,x,i,hi=>by
  rcases GE n x i with h|h
  ·rw[vj h]
  ·rw[Kn rfl (by omega),Kc f _ _ h.2,U_ hi h.2]
def Jg (n:Nat)(x:Nat→Int):Prop:=∀j,0<j→j<n→x j≤x ((j-1)/2)
theorem OS {n:Nat}:∀(f:Nat) (x:Nat→Int) (i:Nat),i<n→i≤f→(∀j,0<j→j<n→j≠i→x j≤x ((j-1)/2))→(∀j,0<j→j<n→(j-1)/2=i→0<i→x j≤x ((i-1)/2))→Jg n (upF f x i)
 |0,x,i,hi,hf,h1,h2=>fun j hj hn=>h1 j hj hn (by omega)
 |f+1,x,i,hi,hf,h1,h2=>by
  by_cases h0:i=0
  ·subst h0;rw[vw]
   exact fun j hj hn=>h1 j hj hn (by omega)
  ·by_cases h:x i≤x ((i-1)/2)
   ·rw[kM (by omega) h]
    intro j hj hn;by_cases e:j=i
    ·subst e;exact h
    ·exact h1 j hj hn e
   ·rw[uZ (by omega) h]
    obtain⟨p,hp⟩:∃p,p=(i-1)/2:=⟨_,rfl⟩
    rw[←hp]at h⊢;refine OS f _ p (by omega) (by omega) (fun j hj hn a0=> ?_) (fun j hj hn hq h0=> ?_)
    ·rw[YH,YH,if_neg a0]
     by_cases e:j=i
     ·subst e
      rw[if_pos rfl,if_pos hp.symm];omega
     ·rw[if_neg e]
      by_cases e1:(j-1)/2=p
      ·rw[if_pos e1]
       have:=h1 j hj hn e;rw[e1]at this;omega
      ·rw[if_neg e1]
       by_cases e2:(j-1)/2=i
       ·rw[if_pos e2,hp];exact h2 j hj hn e2 (by omega)
       ·rw[if_neg e2];exact h1 j hj hn e
    ·rw[YH,YH,if_neg (by omega),if_neg (show(p-1)/2≠p by omega),if_neg (show(p-1)/2≠i by omega)]
     have a1:=h1 p h0 (by omega) (by omega);by_cases e:j=i
     ·rw[if_pos e];exact a1
     ·rw[if_neg e]
      have:=h1 j hj hn e;rw[hq]at this;omega
theorem oO (n:Nat)(x:Nat→Int)(i:Nat):(zS n x (zS n x i (2*i+1)) (2*i+2)=i∨(((i<zS n x (zS n x i (2*i+1)) (2*i+2))∧(zS n x (zS n x i (2*i+1)) (2*i+2)-1)/2=i)∧zS n x (zS n x i (2*i+1)) (2*i+2)<n))∧
  x i≤x (zS n x (zS n x i (2*i+1)) (2*i+2))∧∀j,0<j→j<n→(j-1)/2=i→x j≤x (zS n x (zS n x i (2*i+1)) (2*i+2)):=by
 have a0:∀a l,x a≤x (zS n x a l)∧(l<n→x l≤x (zS n x a l)):=by
  intro a l;unfold zS;split
  ·rename_i h;exact⟨by omega,fun _=>by omega⟩
  ·rename_i h;exact⟨by omega,fun hl=>by by_cases hh:x a<x l;exact absurd ⟨hl,hh⟩ h;omega⟩
 have k1:=a0 i (2*i+1);have k2:=a0 (zS n x i (2*i+1)) (2*i+2);refine⟨?_,by omega,fun j hj hn hp=> ?_⟩
 ·rcases xR n x i (2*i+1)with h|h<;>rcases xR n x (zS n x i (2*i+1)) (2*i+2)with k|k<;>omega
 ·have:j=2*i+1∨j=2*i+2:=by omega
  rcases this with rfl|rfl
  ·have:=k1.2 hn;omega
  ·exact k2.2 hn
theorem JF {n:Nat}:∀(f:Nat) (x:Nat→Int) (i:Nat),n≤i+f→(∀j,0<j→j<n→(j-1)/2≠i→x j≤x ((j-1)/2))→(∀j,0<j→j<n→(j-1)/2=i→0<i→x j≤x ((i-1)/2))→Jg n (qj f n x i)
 |0,x,i,hf,h1,h2=>fun j hj hn=>h1 j hj hn (by omega)
 |f+1,x,i,hf,h1,h2=>by
  obtain⟨ha,hb,hc⟩:=oO n x i;obtain⟨m,hm⟩:∃m,m=zS n x (zS n x i (2*i+1)) (2*i+2):=⟨_,rfl⟩
  rw[←hm]at ha hb hc;rcases ha with ha|ha
  ·rw[vj (by rw[←hm];exact ha)]
   intro j hj hn;by_cases e:(j-1)/2=i
   ·have:=hc j hj hn e
    rw[ha]at this;rw[e];exact this
   ·exact h1 j hj hn e
  ·rw[Kn hm.symm (by omega)]
   refine JF f _ m (by omega) (fun j hj hn a0=> ?_) (fun j hj hn hq h0=> ?_)
   ·rw[YH,YH,if_neg a0]
    by_cases e:j=m
    ·subst e
     rw[if_pos rfl,if_pos ha.1.2];exact hb
    ·rw[if_neg e]
     by_cases e1:(j-1)/2=i
     ·rw[if_pos e1,if_neg (by omega)];exact hc j hj hn e1
     ·rw[if_neg e1]
      by_cases e2:j=i
      ·rw[if_pos e2,e2];exact h2 m (by omega) ha.2 ha.1.2 (by omega)
      ·rw[if_neg e2];exact h1 j hj hn e1
   ·rw[YH,YH,if_neg (by omega),if_neg (by omega),if_neg (by omega),if_pos ha.1.2]
    have:=h1 j hj hn (by omega);rw[hq]at this;exact this
theorem UU {n:Nat}{x:Nat→Int}(h:Jg n x):∀j,j<n→x j≤x 0:=by
 intro j;induction j using Nat.strongRecOn with
 |_ j ih=>
  intro hj;by_cases h0:j=0
  ·subst h0;exact Int.le_refl _
  ·have h1:=h j (by omega) hj
   have h2:=ih ((j-1)/2) (by omega) (by omega);omega
theorem YK (x:Nat→Int)(j:Nat)(v:Int)(k:Nat):Yu x j v k=if k=j then v else x k:=rfl
theorem UV {n:Nat}{x:Nat→Int}(h:Jg n x):Jg (n-1) (QL n x):=by
 refine JF _ _ _ (by omega) (fun j hj hn a0=> ?_) (fun j hj hn hq h0=>absurd h0 (by omega));rw[YK,YK,if_neg (by omega),if_neg a0];exact h j hj (by omega)
theorem kC {n:Nat}{x:Nat→Int}{e:Int}(he:V4 (n-1) (QL n x) e):V4 n x e:=by
 have h1:0<n-1:=by obtain⟨j,hj,_⟩:=he;omega
 rw[QL,Kc _ _ _ h1]at he;obtain⟨j,hj,h⟩:=he;rw[YK]at h;split at h
 ·exact⟨n-1,by omega,h⟩
 ·exact⟨j,by omega,h⟩
theorem US {n:Nat}{x:Nat→Int}{e:Int}(he:V4 n x e)(a1:e≠x 0):V4 (n-1) (QL n x) e:=by
 obtain⟨j,hj,h⟩:=he;have a0:j≠0:=by rintro rfl;exact a1 h.symm
 rw[QL,Kc _ _ _ (by omega)];by_cases e1:j=n-1
 ·exact⟨0,by omega,by rw[YK,if_pos rfl,←e1];exact h⟩
 ·exact⟨j,by omega,by rw[YK,if_neg a0];exact h⟩
theorem OT {n:Nat}{x:Nat→Int}{v:Int}(h:Jg n x):Jg (n+1) (upF (n+1) (Yu x n v) n):=by
 refine OS _ _ _ (by omega) (by omega) (fun j hj hn a0=> ?_) (fun j hj hn hq h0=>absurd hq (by omega));rw[YK,YK,if_neg a0,if_neg (by omega)];exact h j hj (by omega)
theorem JZ {n:Nat}{x:Nat→Int}{v e:Int}:V4 (n+1) (upF (n+1) (Yu x n v) n) e↔e=v∨V4 n x e:=by
 rw[gq _ _ _ (by omega)];constructor
 ·rintro⟨j,hj,h⟩
  rw[YK]at h;split at h
  ·exact .inl h.symm
  ·exact .inr ⟨j,by omega,h⟩
 ·rintro(rfl|⟨j,hj,h⟩)
  ·exact⟨n,by omega,by rw[YK,if_pos rfl]⟩
  ·exact⟨j,by omega,by rw[YK,if_neg (by omega)];exact h⟩
def yp (ps:Nat→List Nat):Nat→List Nat→List Nat
 |0,_=> []
 |i+1,S=>if i+1∈S then(i+1)::yp ps i (ps (i+1)++S)else yp ps i S
theorem Yh (ps:Nat→List Nat):∀(i:Nat) (S S' :List Nat),(∀e,1≤e→e≤i→(e∈S↔e∈S'))→yp ps i S=yp ps i S'
 |0,_,_,_=>rfl
 |i+1,S,S',h=>by
  have h1:=h (i+1) (by omega) (j0a _);simp only[yp];by_cases hm:i+1∈S
  ·rw[if_pos hm,if_pos (h1.1 hm),Yh ps i (ps (i+1)++S) (ps (i+1)++S') fun e he a0=>by simp only[List.mem_append];rw[h e he (by omega)]]
  ·rw[if_neg hm,if_neg (fun x=>hm (h1.2 x)),Yh ps i S S' fun e he a0=>h e he (by omega)]
theorem Vt (ps:Nat→List Nat)(S:List Nat)(m:Nat):∀i,m≤i→(∀e,m<e→e≤i→e∉S)→yp ps i S=yp ps m S
 |0,hm,_=>by rw[Nat.le_zero.1 hm]
 |i+1,hm,h=>by
  rcases Nat.lt_or_ge m (i+1)with h1|h1
  ·simp only[yp]
   rw[if_neg (h (i+1) h1 (j0a _)),Vt ps S m i (by omega) fun e he a0=>h e he (by omega)]
  ·rw[show m=i+1 by omega]
theorem qP (ps:Nat→List Nat):∀(i:Nat) (S:List Nat),(yp ps i S).length≤i
 |0,_=>j0a _
 |i+1,S=>by
  simp only[yp];split
  ·have:=qP ps i (ps (i+1)++S);simp;omega
  ·have:=qP ps i S;omega
def Sx (n:Nat)(x:Nat→Int):List Nat:=(List.range n).map fun j=>(x j).toNat
theorem qO {n:Nat}{x:Nat→Int}(h:∀j,j<n→1≤x j)(k:Nat):k∈Sx n x↔V4 n x k:=by
 simp only[Sx,List.mem_map,List.mem_range];constructor
 ·rintro⟨j,hj,e⟩
  exact⟨j,hj,by have:=h j hj;omega⟩
 ·rintro⟨j,hj,e⟩
  exact⟨j,hj,by omega⟩
structure SI (ps:Nat→List Nat)(K n:Nat)(x:Nat→Int)(last:Int)(vs:List Nat):Prop where
 ord:Jg n x
 pos:∀j,j<n→1≤x j∧x j≤(K:Int)
 ex:∃i:Nat,vs=yp ps i (Sx n x)∧(∀j,j<n→x j≤(i:Int)∨x j=last)∧(last=0∨(i:Int)<last)
structure SJ (ps:Nat→List Nat)(K n:Nat)(x:Nat→Int)(m:Nat)(rest vs:List Nat):Prop where
 ord:Jg n x
 pos:∀j,j<n→1≤x j∧x j≤(m:Int)
 mK:1≤m∧m≤K
 rs:∀p∈rest,1≤p∧p<m
 ev:vs=yp ps (m-1) (rest++Sx n x)
section
variable {ps:Nat→List Nat}{K n:Nat}{x:Nat→Int}{last:Int}{vs:List Nat}
theorem SI.one {h:Nat}(h0:1≤h)(hK:h≤K):SI ps K 1 (upF 1 (Yu x 0 h) 0) 0 (yp ps K [h]):=by
 rw[vw];refine⟨fun j hj hn=>by omega,fun j hj=> ?_,K,?_,fun j hj=> ?_,.inl rfl⟩
 ·rw[YK,if_pos (by omega)];omega
 ·refine Yh ps K _ _ fun e he a0=> ?_
  have:Sx 1 (Yu x 0 h)=[h]:=by simp[Sx,Yu]
  rw[this]
 ·rw[YK,if_pos (by omega)];omega
theorem SI.none:SI ps K 0 x 0 []:=by
 refine⟨fun j hj hn=>by omega,fun j hj=>by omega,0,rfl,fun j hj=>by omega,.inl rfl⟩
theorem SI.done (h:SI ps K 0 x last vs):vs=[]:=by
 obtain⟨i,rfl,_⟩:=h.ex;rw[Vt ps _ 0 i (Nat.zero_le _) fun e _ _=>by simp[Sx]];rfl
theorem SI.skip (h:SI ps K n x last vs)(h0:0<n)(he:x 0=last):SI ps K (n-1) (QL n x) last vs:=by
 obtain⟨i,rfl,h1,h2⟩:=h.ex;have a0:∀j,j<n-1→∃k,k<n∧x k=QL n x j:=fun j hj=>kC ⟨j,hj,rfl⟩
 have hp:∀j,j<n-1→1≤QL n x j∧QL n x j≤(K:Int):=fun j hj=>by obtain⟨k,hk,e⟩:=a0 j hj;rw[←e];exact h.pos k hk
 have hl:=h.pos 0 h0;refine⟨UV h.ord,hp,i,?_,fun j hj=> ?_,h2⟩
 ·refine Yh ps i _ _ fun e a1 a2=> ?_
  rw[qO (fun j hj=>(h.pos j hj).1),qO (fun j hj=>(hp j hj).1)];exact⟨fun hx=>US hx (by omega),kC⟩
 ·obtain⟨k,hk,e⟩:=a0 j hj;rw[←e];exact h1 k hk
theorem SI.send (h:SI ps K n x last vs)(h0:0<n)(he:x 0≠last)(a7:∀m,1≤m→m≤K→∀p∈ps m,1≤p∧p<m):∃(m:Nat) (a3 :List Nat),x 0=(m:Int)∧(1≤m∧m≤K)∧vs=m::a3 ∧SJ ps K (n-1) (QL n x) m (ps m) a3 :=by
 obtain⟨i,rfl,h1,h2⟩:=h.ex;have hl:=h.pos 0 h0;obtain⟨m,hm⟩:∃m:Nat,x 0=m:=⟨(x 0).toNat,by omega⟩
 have a6:m≤i:=by rcases h1 0 h0 with h|h;omega;exact absurd h he
 have a0:∀j,j<n-1→∃k,k<n∧x k=QL n x j:=fun j hj=>kC ⟨j,hj,rfl⟩
 have hp:∀j,j<n-1→1≤QL n x j∧QL n x j≤(m:Int):=fun j hj=>by
  obtain⟨k,hk,e⟩:=a0 j hj;rw[←e,←hm];exact⟨(h.pos k hk).1,UU h.ord k hk⟩
 have a2:∀j,j<n→1≤x j:=fun j hj=>(h.pos j hj).1
 obtain⟨k,rfl⟩:∃k,m=k+1:=⟨m-1,by omega⟩
 refine⟨k+1,yp ps k (ps (k+1)++Sx n x),hm,by omega,?_,UV h.ord,hp,by omega,a7 _ (by omega) (by omega),?_⟩
 ·rw[Vt ps _ (k+1) i a6 fun e a4 a5 a1=> ?_]
  ·simp only[yp]
   rw[if_pos ((qO a2 _).2 ⟨0,h0,hm⟩)]
  ·obtain⟨j,hj,e1⟩:=(qO a2 _).1 a1
   have:=UU h.ord j hj;omega
 ·refine Yh ps _ _ _ fun e a4 a5=> ?_
  rw[List.mem_append,List.mem_append,qO a2,qO (fun j hj=>(hp j hj).1)];exact or_congr Iff.rfl ⟨fun hx=>US hx (by omega),kC⟩
theorem SJ.push {m p:Nat}{rest:List Nat}(h:SJ ps K n x m (p::rest) vs):SJ ps K (n+1) (upF (n+1) (Yu x n p) n) m rest vs:=by
 have a2:=h.rs p (by simp);have hp:∀j,j<n+1→1≤upF (n+1) (Yu x n p) n j∧upF (n+1) (Yu x n p) n j≤(m:Int):=fun j hj=>by
  have:V4 (n+1) (upF (n+1) (Yu x n p) n) (upF (n+1) (Yu x n p) n j):=⟨j,hj,rfl⟩
  rcases JZ.1 this with e|⟨k,hk,e⟩
  ·rw[e];omega
  ·rw[←e];exact h.pos k hk
 refine⟨OT h.ord,hp,h.mK,fun q hq=>h.rs q (by simp[hq]),?_⟩;rw[h.ev];refine Yh ps _ _ _ fun e a0 a1=> ?_
 rw[List.mem_append,List.mem_append,qO (fun j hj=>(hp j hj).1),qO (fun j hj=>(h.pos j hj).1),JZ,List.mem_cons];constructor
 ·rintro((rfl|h)|h)
  ·exact .inr (.inl rfl)
  ·exact .inl h
  ·exact .inr (.inr h)
 ·rintro(h|h|h)
  ·exact .inl (.inr h)
  ·exact .inl (.inl (by omega))
  ·exact .inr h
theorem SJ.done {m:Nat}(h:SJ ps K n x m [] vs):SI ps K n x m vs:=by
 refine⟨h.ord,fun j hj=>⟨(h.pos j hj).1,by have:=(h.pos j hj).2;have:=h.mK;omega⟩,m-1,by rw[h.ev];rfl,fun j hj=> ?_,.inr (by have:=h.mK;omega)⟩;have:=h.pos j hj;have:=h.mK;omega
end
theorem mk_hist (ps:Nat→List Nat)(hp:∀m,∀p∈ps m,p<m):∀(i:Nat) (f:Nat→Bool) (S:List Nat),(∀e,1≤e→e≤i→(f e=true↔e∈S))→(uB i).filter (mk ps i f)=yp ps i S
 |0,_,_,_=>rfl
 |i+1,f,S,h=>by
  have h1:=h (i+1) (by omega) (j0a _);have hv:mk ps (i+1) f (i+1)=f (i+1):=UX ps hp (i+1) f (i+1) (j0a _);simp only[uB,yp];by_cases hm:i+1∈S
  ·have hf:=h1.2 hm
   rw[List.filter_cons_of_pos (by rw[hv];exact hf),if_pos hm,mk,if_pos hf];congr 1
   refine mk_hist ps hp i _ _ fun e h2 h3=> ?_
   rw[List.mem_append,Bool.or_eq_true,decide_eq_true_eq,h e h2 (by omega)];exact Or.comm
  ·have hf:¬f (i+1)=true:=fun e=>hm (h1.1 e)
   rw[List.filter_cons_of_neg (by rw[hv];exact hf),if_neg hm,mk,if_neg hf];exact mk_hist ps hp i _ _ fun e h2 h3=>h e h2 (by omega)
def MKS (w:World)(g K:Nat)(f:Nat→Bool):Prop:=(∀j,j≤K→w.cell? ⟨g,j,none⟩=some (.bool (f j)))∧∀o,w.frozen? ⟨g,o,none⟩=false
theorem MKS.set {w:World}{g K:Nat}{f:Nat→Bool}(h:MKS w g K f)(p:Nat)(hp:p≤K)(b:Bool):MKS (w.setCell ⟨g,p,none⟩ (.bool b)) g K (fun j=>if j=p then b else f j):=by
 refine⟨fun j hj=> ?_,fun o=>by rw[World.frozen?_setCell];exact h.2 o⟩;by_cases e:j=p
 ·subst e
  show _=some (Value.bool (if j=j then b else f j));rw[if_pos rfl];exact zD _ _ _ _ _ (h.1 j hj)
 ·show _=some (Value.bool (if j=p then b else f j))
  rw[if_neg e,z9 _ _ _ _ _ e];exact h.1 j hj
theorem MKS.congr {w:World}{g K:Nat}{f f' :Nat→Bool}(h:MKS w g K f)(hf:∀j,f j=f' j):MKS w g K f' :=⟨fun j hj=>by rw[←hf];exact h.1 j hj,h.2⟩
theorem Ku:∀(L:List (R.Cm×Value×Value)) (i:Nat) (h:i<L.length),(Yj L)[i*2+1]? =some (L[i]'h).2.2
 |p::r,0,_=>by simp[Yj]
 |p::r,i+1,h=>by
  have ih:=Ku r i (by simpa using h);unfold Yj at ih⊢;rw[List.flatMap_cons,List.getElem?_append_right (by simp;omega)];rw[show(i+1)*2+1- [p.2.1,p.2.2].length=i*2+1 from by simp;omega];simpa using ih
theorem RS.par {w:World}{M O:Nat→Prop}{B:Nat}{st:R.St}(h:RS w M O B st)(q:Nat)(hq:q<st.cms.length):
  ∃g0 cc pa pc,w.cell? ⟨B,0,none⟩=some (.slice (some ⟨g0,0,none⟩) st.cms.length cc)∧st.cms.length≤cc∧cc≤maxLen∧g0<w.heap.size∧w.cell? ⟨g0,q*2+1,none⟩=some (.slice pa (R.parents st (q+1)).length pc)∧Rd w M (.slice pa (R.parents st (q+1)).length pc) (R.parents st (q+1)).length (yt (R.parents st (q+1))):=by
 obtain⟨cv,bv,LB,a0,hR⟩:=h;obtain⟨a,c,hv,h1,h2,h3,h4⟩:=za hR.crow;have hl:a0.length=st.cms.length:=by rw[←hR.cms,List.length_map]
 have a1:q<a0.length:=by omega
 have a2:R.parents st (q+1)=(a0[q]'a1).1.parents:=by
  have e:(a0[q]'a1).1=st.cms[q]:=by simp[←hR.cms]
  rw[R.parents,Nat.add_sub_cancel,j0d hq,e];rfl
 cases a with
 |none=>have:=(h3 rfl).1;omega
 |some ad=>
  obtain⟨g0,rfl,_,hg,_,hc⟩:=h4 ad rfl;have a3:=hR.cpar _ (j0c a1);rw[←a2]at a3;obtain⟨pa,pc,a4,hp⟩:=a3;refine⟨g0,c,pa,pc,by rw[←hl,←hv];exact hR.c0,by omega,h2,hg,?_,⟨pa,pc,rfl,hp⟩⟩;rw[←a4];refine hc _ _ ?_;exact Ku a0 q a1
theorem oU (f:Nat→Bool)(P:List Nat)(x:Nat)(h:x<P.length)(j:Nat):(if j=P[x]then true else(f j||decide (j∈P.take x)))=(f j||decide (j∈P.take (x+1))):=by
 have this:j∈P.take (x+1)↔j∈P.take x∨j=P[x]:=by rw[List.take_succ_eq_append_getElem h,List.mem_append,List.mem_singleton]
 by_cases e:j=P[x]
 ·rw[if_pos e,decide_eq_true (this.2 (.inr e)),Bool.or_true]
 ·rw[if_neg e];congr 1;exact decide_eq_decide.2 ⟨fun h=>this.2 (.inl h),fun h=>(this.1 h).resolve_right e⟩
theorem Tryz.info4:(Tryz.prog.info? 4).map (fun i=>(i.zero,i.size,i.bytes))=some (some (.bool false),1,1):=by kernel_rfl
theorem oM (B:Nat)(st:R.St)(n:Nat)(w:World)(M O:Nat→Prop)(h:RS w M O B st)(hi:Inv st)(hn:n≤st.cms.length):
  Calls Tryz.prog 178 #[.pointer (some ⟨B,0,none⟩),.int .i64 (n:Int)] w fun e w' =>e= .returned (.slice (some ⟨w.heap.size,0,none⟩) (st.cms.length+1) (st.cms.length+1))∧MKS w' w.heap.size st.cms.length (mk (R.parents st) st.cms.length (fun j=>decide (j=n∧0<n)))∧Below w.heap.size w w' ∧w.heap.size<w'.heap.size:=by
 obtain⟨ca,cc,e0,f3,f4⟩:=h.cms0;have b2:=hi.few;have c6:B<w.heap.size:=by obtain⟨_,_,_,_,hR⟩:=h;exact hR.lt B hR.own
 have HH:=zd h;have HI:=zd hi;unfold maxLen at f4;obtain⟨K,hK⟩:∃K,K=st.cms.length:=⟨_,rfl⟩
 rw[←hK]at e0 f3 b2 hn⊢;have HK:=zd hK;clear h hi hK;go_enter Tryz.func178,Tryz.ntmps178;have a1:=run_make_row' (P:=Tryz.prog) 225 4 (.bool false) 1 Tryz.underlying225 Tryz.info4 rfl .i64 .i64 (K+1) (by omega) (by omega) w;rw[show(((K+1:Nat)):Int)=(K:Int)+1 from by omega]at a1;obtain⟨wM,a4⟩:∃wM,wM=w.alloc (.cells (madeCells #[Value.bool false] (K+1)) 4):=⟨_,rfl⟩
 rw[←a4]at a1;have a6:MKS wM w.heap.size K (fun _=>false):=by
  refine⟨fun j hj=> ?_,fun o=>by rw[a4];exact World.frozen?_alloc_at _ _ _ _ rfl⟩;rw[a4,World.cell?_alloc_at _ _ _ _ rfl,←Array.getElem?_toList,toList_madeCells_one,List.getElem?_replicate,if_pos (by omega)]
 have b1:Below w.heap.size w wM:=by rw[a4];exact(j0g _ _).alloc (j0a _) _
 have e1:wM.heap.size=w.heap.size+1:=by rw[a4];simp
 have d0:=a6.1 n hn;have f0:=a6.2 n;have eM:=(b1.cell (p:=⟨B,0,none⟩) c6).trans e0;have e3:=zd (a6.set n hn (decide (0<n)));have e2:=zd (b1.setCell (p:=⟨w.heap.size,n,none⟩) (j0a _) (.bool (decide (0<n))));have e8:Hid ((wM.setCell ⟨w.heap.size,n,none⟩ (.bool (decide (0<n)))).heap.size=w.heap.size+1):=by show _=_;rw[World.size_setCell];exact e1
 clear a4 a6 b1;go_wp2;have b9:Hid (∀W,Below w.heap.size w W→W.cell? ⟨B,0,none⟩=some (.slice ca K cc)):=fun W hW=>(hW.cell (p:=⟨B,0,none⟩) c6).trans e0
 generalize wM.setCell ⟨w.heap.size,n,none⟩ (.bool (decide (0<n)))=wN at*;clear a1 e1 d0 f0 eM;go_loopw [6] (fun i wr=>∃(m:Nat) (f:Nat→Bool),m≤K∧i= .int .i64 m∧MKS wr w.heap.size K f∧(∀j,mk (R.parents st) m f j=mk (R.parents st) K (fun j=>decide (j=n∧0<n)) j)∧Below w.heap.size w wr∧w.heap.size<wr.heap.size) (fun i _=>(intOf i).toNat)
 case atStart=>
  refine⟨K,_,j0a _,rfl,e3.out,fun j=> ?_,e2.out,by have:=e8.out;omega⟩;congr 1
  funext j
  by_cases e:j=n
  ·subst e;simp
  ·simp[e]
 case round=>
  obtain⟨m,f,hm,rfl,c9,d3,hb,hs⟩:=hrel;have a9:=zd d3;have a5:=zd c9;have HB:=zd hb;have eB:=b9.out _ hb;clear d3 hb;by_cases hz:m=0
  ·subst hz
   go_wp2;go_ret;exact⟨rfl,a5.out.congr a9.out,HB.out,hs⟩
  ·obtain⟨q,rfl⟩:∃q,m=q+1:=⟨m-1,by omega⟩
   have d0:=a5.out.1 (q+1) hm;obtain⟨b,b0⟩:∃b,b=f (q+1):=⟨_,rfl⟩
   rw[←b0]at d0;have b8:=zd b0;clear b0 c9
   cases b
   ·go_wp2
    go_roundw
    case rel=>exact⟨q,f,by omega,by go_num,a5.out,fun j=>by rw[←a9.out j,mk,if_neg (by rw[←b8.out];decide)],HB.out,hs⟩
    case measure=>simp[intOf]
   ·obtain⟨g0,e9,pa,pc,b6,g3,g4,f7,b4,d7⟩:=HH.out.par q (by rw[←HK.out];omega)
    rw[e0,←HK.out]at b6;have b7 :(Value.slice ca K cc)= .slice (some ⟨g0,0,none⟩) K e9:=Option.some.inj b6;injection b7 with f5 _ f6
    subst f5;obtain⟨P,hP⟩:∃P,P=R.parents st (q+1):=⟨_,rfl⟩
    rw[←hP]at b4 d7;have HP:=zd hP;have c7:∀p∈P,1≤p∧p≤K:=fun p hp=>by
     rw[hP]at hp;have d6:q<st.cms.length:=by rw[←HK.out];omega
     unfold R.parents at hp;rw[Nat.add_sub_cancel,j0d d6]at hp;have:=HI.out.pars q d6 p (by simpa using hp);omega
    obtain⟨g7,g8,g2,g6,f8,d4⟩:=d7;injection g2 with f9 _ b5
    subst f9 b5;unfold maxLen at f8;have e6:=zd c7;have e4:=zd d4;have e5:=zd b4;clear b6 g3 g4 hP c7 d4 b4 f6;go_wp2;go_loopw [7] (fun i wr2=>∃x:Nat,x≤P.length∧i= .int .i64 x∧MKS wr2 w.heap.size K (fun j=>f j||decide (j∈P.take x))∧Below w.heap.size w wr2∧w.heap.size<wr2.heap.size) (fun i _=>P.length-(intOf i).toNat)
    case atStart=>exact⟨0,Nat.zero_le _,rfl,a5.out.congr (fun j=>by simp),HB.out,hs⟩
    case round=>
     obtain⟨x,hx,rfl,a0,a3,d8⟩:=hrel;have g5:=b9.out _ a3;have ec:=(a3.cell (p:=⟨g0,q*2+1,none⟩) f7).trans e5.out;by_cases b3:x<P.length
     ·obtain⟨pb,off,rfl,g1,_,a2⟩:=e4.out (by omega)
      have d5:=e6.out P[x] (j0c b3);have ex:wr.cell? ⟨pb,off+x,none⟩=some (.int .i64 (P[x]:Nat)):=by
       rw[a3.cell (p:=⟨pb,off+x,none⟩) g1];exact a2 x _ (by simp[yt,b3])
      have em:=a0.1 P[x] d5.2;have ef:=a0.2 P[x];have HN:=zd ((a0.set P[x] d5.2 true).congr (f' :=fun j=>f j||decide (j∈P.take (x+1))) (fun j=>oU f P x b3 j));have a7:=zd (a3.setCell (p:=⟨w.heap.size,P[x],none⟩) (j0a _) (.bool true));generalize P[x]=y at*;obtain⟨bq,c8⟩:∃bq,bq=(f y||decide (y∈P.take x)):=⟨_,rfl⟩
      dsimp only at em;rw[←c8]at em;clear a2 a0 a3 c8;have d9:w.heap.size<(wr.setCell ⟨w.heap.size,y,none⟩ (.bool true)).heap.size:=by rw[World.size_setCell];exact d8
      have e7:=zd d9;clear d9;go_wp2;go_roundw
      case rel=>exact⟨x+1,by omega,by go_num,HN.out,a7.out,e7.out⟩
      case measure=>simp[intOf];omega
     ·obtain rfl:x=P.length:=by omega
      have a8:=zd a0;have a7:=zd a3;clear a0 a3;go_wp2;go_roundw
      case rel=>
       refine⟨q,_,by omega,by go_num,a8.out,fun j=> ?_,a7.out,d8⟩;rw[←a9.out j,mk,if_pos b8.out.symm,List.take_length,HP.out]
      case measure=>simp[intOf]
def yh (st:R.St)(name:List UInt8):List Nat×Int:=if R.fndI st.brs name<0 then([],5)else(yp (R.parents st) st.cms.length [R.headOf st name],0)
theorem OQ {st:R.St}(hi:Inv st):∀m,∀p∈R.parents st m,p<m:=by
 intro m p hp;unfold R.parents at hp
 cases e:st.cms[m-1]? with
 |none=>rw[e]at hp;simp at hp
 |some c=>
  rw[e]at hp;obtain⟨h1,h2⟩:=List.getElem?_eq_some_iff.1 e;have:=hi.pars (m-1) h1 p (by rw[h2];simpa using hp);omega
theorem Ul {st:R.St}(hi:Inv st)(K n:Nat):(uB K).filter (mk (R.parents st) K (fun j=>decide (j=n∧0<n)))=yp (R.parents st) K [n]:=
 mk_hist (R.parents st) (OQ hi) K _ _ fun e h1 h2=>by
  simp only[decide_eq_true_eq,List.mem_singleton];omega
theorem fa (B:Nat)(st:R.St)(n:Int)(w:World)(M O:Nat→Prop)(h:RS w M O B st)(hi:Inv st)(b1:n≤9223372036854775807)(b2: -9223372036854775808≤n):
  Calls Tryz.prog 126 #[.pointer (some ⟨B,0,none⟩),.int .i64 n] w fun e w' =>e= .returned (.tuple #[.string ⟨(R.treeAt st n).1.toArray⟩,.int .i64 (R.treeAt st n).2])∧Below w.heap.size w w' :=by
 obtain⟨ca,cc,e0,b0,a6⟩:=h.cms0;have a7:=hi.few;unfold maxLen at a6;by_cases hc:n<1∨(st.cms.length:Int)<n
 ·have HS:Hid (R.treeAt st n=([],10)):=by show _=_;rw[R.treeAt,if_pos hc]
  rcases hc with hc|hc
  ·go_enter Tryz.func126,Tryz.ntmps126
   go_wp2;go_ret2;rw[HS.out];exact⟨rfl,j0g _ _⟩
  ·have a9 :¬n<1:=by omega
   go_enter Tryz.func126,Tryz.ntmps126;go_wp2;go_ret2;rw[HS.out];exact⟨rfl,j0g _ _⟩
 ·obtain⟨m,rfl⟩:∃m:Nat,n=(m:Int):=⟨n.toNat,by omega⟩
  have HS:Hid (R.treeAt st (m:Int)=(R.Written (R.treeOf st m),0)):=by show _=_;rw[R.treeAt,if_neg hc];rfl
  obtain⟨tv,a1,a2⟩:=JA B st m w M O h (by omega) (by omega);have a0:=Yb hi m;obtain⟨ta,tn,tc,a8⟩:∃a n k,tv= .slice a n k:=by obtain⟨L,_,⟨a,k,e,_⟩,_⟩:=a1;exact⟨a,_,k,e⟩
  subst a8;have HW:Hid (∀W,Below w.heap.size w W→Calls Tryz.prog 175 #[.slice ta tn tc] W fun e w' =>e= .returned (.string ⟨(R.Written (R.treeOf st m)).toArray⟩)∧Below W.heap.size W w'):=fun W hW=>Xc _ _ W M (a1.kept (zj.of_below hW)) (fun x hx=>(a0.ok x hx).good) (by have:=a0.few;omega)
  have a4:=zd a2;have h1:¬(m:Int)<1:=by omega
  have h2:¬(st.cms.length:Int)<(m:Int):=by omega
  clear a1 a2 a0 hc;go_enter Tryz.func126,Tryz.ntmps126;go_wp2_with fail
  refine(a4.out _ (j0g _ _)).mono ?_;rintro e w1 ⟨rfl,rfl⟩;go_wp2_with fail
  refine(HW.out _ (j0g _ _)).mono ?_;rintro e w2 ⟨rfl,a3⟩;have a5:=zd a3;clear a3;go_wp2;go_ret2;rw[HS.out];exact⟨rfl,a5.out⟩
theorem oN (B:Nat)(st:R.St)(name:List UInt8)(w:World)(M O:Nat→Prop)(h:RS w M O B st)(hi:Inv st):
  Calls Tryz.prog 128 #[.pointer (some ⟨B,0,none⟩),.string ⟨name.toArray⟩] w fun e w' =>∃v,e= .returned (.tuple #[v,.int .i64 (yh st name).2])∧w'.ownsRow w.heap.size 3 1 v (yh st name).1.length (yt (yh st name).1)∧Below w.heap.size w w' :=by
 have b1:=h;have a4:=yJ B st name w M O b1;obtain⟨cv,bv,LB,e9,hR⟩:=h;have c1:=hR.c1;obtain⟨a,cap,rfl,f4,hm,b6,b8⟩:=za hR.row;have HL:Hid (LB.length=st.brs.length):=by show _=_;rw[←hR.brs,List.length_map]
 unfold maxLen at hm;rcases R.fndI_cases st.brs name with⟨f1,f2⟩|⟨f1,f2⟩
 ·have HS:Hid (yh st name=([],5)):=by show _=_;rw[yh,if_pos (by omega)]
  rw[f1]at a4;clear b8 b6 f1 f2;go_enter Tryz.func128,Tryz.ntmps128;go_wp2_with fail
  refine a4.mono ?_;rintro e w1 ⟨rfl,rfl⟩;go_wp2;go_ret2;rw[HS.out];exact⟨_,rfl,World.ownsRow_nil _ _ _ _,j0g _ _⟩
 ·have b4:R.fnd st.brs name<LB.length:=by rw[HL.out];exact f2
  have c8:(LB[R.fnd st.brs name]'b4).1=st.brs[R.fnd st.brs name]:=by simp[←hR.brs]
  have hh:R.headOf st name=(LB[R.fnd st.brs name]'b4).1.head:=by
   rw[R.headOf,j0d f2,c8];rfl
  have d4:=Qc hi name;have b3:=hi.few;have HS:Hid (yh st name=(yp (R.parents st) st.cms.length [R.headOf st name],0)):=by show _=_;rw[yh,if_neg (by omega)]
  obtain⟨hd,a6⟩:∃hd,hd=R.headOf st name:=⟨_,rfl⟩
  obtain⟨i,b5⟩:∃i,i=R.fnd st.brs name:=⟨_,rfl⟩
  obtain⟨g,e5,d3⟩:∃g,a=some ⟨g,0,none⟩∧(∀j u,(zv LB)[j]? =some u→w.cell? ⟨g,j,none⟩=some u):=by
   cases a with
   |none=>exact absurd (b6 rfl).1 (by omega)
   |some ad=>
    obtain⟨g,rfl,_,_,_,h2⟩:=b8 ad rfl;exact⟨g,rfl,h2⟩
  subst e5;obtain⟨-,d1, -⟩:=ZS d3 _ b4;rw[←hh,←a6]at d1;rw[←b5]at d1;have f3:i<LB.length:=by omega
  have a5 :hd≤st.cms.length:=by rw[a6];exact d4
  obtain⟨K,hK⟩:∃K,K=st.cms.length:=⟨_,rfl⟩
  have c6:Hid (Calls Tryz.prog 178 #[.pointer (some ⟨B,0,none⟩),.int .i64 (hd:Int)] w fun e w' =>e= .returned (.slice (some ⟨w.heap.size,0,none⟩) (K+1) (K+1))∧MKS w' w.heap.size K (mk (R.parents st) K (fun j=>decide (j=hd∧0<hd)))∧Below w.heap.size w w' ∧w.heap.size<w'.heap.size):=by rw[hK];exact oM B st hd w M O b1 hi a5
  rw[f1,←b5]at a4;have d8:=zd a4;have a9:=zd (Ul hi K hd);rw[←a6,←hK]at HS;obtain⟨F,hF⟩:∃F,F=mk (R.parents st) K (fun j=>decide (j=hd∧0<hd)):=⟨_,rfl⟩
  rw[←hF]at c6 a9;obtain⟨H,hH⟩:∃H,H=yp (R.parents st) K [hd]:=⟨_,rfl⟩
  rw[←hH]at a9 HS;have e4:K≤60:=by omega
  clear a4 b6 b8 d3 hh c8 b1 hR a6 hi f1 f2 b5 d4 b3 a5 hK hF hH;go_enter Tryz.func128,Tryz.ntmps128;go_wp2_with fail
  refine d8.out.mono ?_;rintro e w1 ⟨rfl,rfl⟩;go_wp2_with fail
  refine c6.out.mono ?_;rintro e w2 ⟨rfl,d5,c7,f6⟩;have e1:=zd d5;have d7:=zd c7;clear d5 c7;go_wp2;go_loopw [8,9] (fun o i wr=>∃(m:Nat) (a1:List Nat),m≤K∧i= .int .i64 m∧wr.ownsRow (w1.heap.size+1) 3 1 o a1.length (yt a1)∧a1++(uB m).filter F=H∧a1.length+m≤K∧Below (w1.heap.size+1) w2 wr) (fun _ i _=>(intOf i).toNat)
  case atStart=>exact⟨K,[],j0a _,by first|rfl|(simp;omega),World.ownsRow_nil _ _ _ _,by rw[List.nil_append];exact a9.out,by simp,j0g _ _⟩
  case round=>
   obtain⟨m,a1,e6,rfl,a0,a3,f0,hb⟩:=hrel;obtain⟨oa,oc,rfl,f5,e7,_⟩:=za a0;have a2:=zd a3;have a7:=zd hb;have f7:=hb.size;unfold maxLen at e7;by_cases hz:m=0
   ·subst hz
    have a8:Hid (wr.ownsRow w1.heap.size 3 1 (.slice oa a1.length oc) a1.length (yt a1)):=by
     obtain⟨h1,h2⟩:=a0;refine⟨h1,?_⟩;rcases h2 with h2|⟨g',b0,e3,h3,h4,h5⟩
     ·exact .inl h2
     ·exact .inr ⟨g',b0,e3,h3,by omega,h5⟩
    have d6:Hid (H=a1):=by
     have:=a2.out;simp only[uB,List.filter_nil,List.append_nil]at this;exact this.symm
    clear a0 a3 hb;go_wp2;go_ret2;rw[HS.out,d6.out];exact⟨_,rfl,a8.out,d7.out.trans (a7.out.mono (Nat.le_succ _))⟩
   ·obtain⟨q,rfl⟩:∃q,m=q+1:=⟨m-1,by omega⟩
    have d0:wr.cell? ⟨w1.heap.size,q+1,none⟩=some (.bool (F (q+1))):=(hb.cell (p:=⟨w1.heap.size,q+1,none⟩) (Nat.lt_succ_self _)).trans (e1.out.1 (q+1) e6);obtain⟨b,b2⟩:∃b,b=F (q+1):=⟨_,rfl⟩
    rw[←b2]at d0;have b9:=zd b2;clear b2 a3 hb
    cases b
    ·go_wp2
     go_roundw
     case rel=>exact⟨q,a1,by omega,by go_num,a0,by rw[←a2.out,uB,List.filter_cons_of_neg (by rw[←b9.out];decide)],by omega,a7.out⟩
     case measure=>simp[intOf]
    ·go_wp2_with (at_builtin;go_loud (refine Zi wr rfl _ _ 39 rfl (w1.heap.size+1) 3 (.int .i64 0) 1 8 Tryz.underlying39 yB rfl (by decide) a0 _ rfl (by rfl) (by rfl) (by intro u hu;simp at hu;subst hu;rfl) (by unfold maxLen;omega) (by omega) (by omega) ?_))
     intro v2 w3 b7 c9;have e2:=zd b7;have d9:Hid (Below (w1.heap.size+1) w2 w3):=a7.out.grown c9 (by omega) (fun j hj=>(a0.lt j hj).1);obtain⟨f8,f9,e8,_⟩:=za b7;subst e8;clear b7 c9 a0;go_wp2;go_roundw
     case rel=>
      refine⟨q,a1++ [q+1],by omega,by go_num,?_,by rw[←a2.out,uB,List.filter_cons_of_pos b9.out.symm];simp,by simp;omega,d9.out⟩;have:=e2.out;simpa[yt]using this
     case measure=>simp[intOf]
