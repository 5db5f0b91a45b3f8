import Derived.Test.YtolgebdmffcemaaGreatDoorQ21
set_option linter.all false
set_option maxHeartbeats 20000000
set_option maxRecDepth 1000000
namespace Go.Proofs.YtolgebdmffcemaaGreatDoor
namespace R
def SumA (v0 sum:Int)(na nd nl:Nat)(st:St):Prop:=∃l hd κ w pk,st=ym l hd w pk∧YE l hd κ v0 (fun j=>j<5)∧(∀j,j<nd→w j=val l (hd j))∧sum=w 0+(w 1-v0)+(w 2-v0)+(w 3-v0)+(w 4-v0)∧(∀j,j<5→ -(1000*(na:Int))-2000≤w j∧w j≤2000+1000*(na:Int))∧l.length≤nl
theorem sumA0 (v0:Int)(h0: -2000≤v0)(h1:v0≤2000)(pk:List UInt8):SumA v0 v0 0 0 1 (forkS v0 5 pk):=
 ⟨[(v0,[])],fun _=>1,fun i=>i,fun _=>v0,pk,rfl,cS v0,fun j hj=>by omega,by show v0=v0+(v0-v0)+(v0-v0)+(v0-v0)+(v0-v0);omega,fun j _=>by show _≤v0∧v0≤_;omega,j0a _⟩
theorem sumA_more {v0 a1:Int}{na nd nl a0 :Nat}{st:St}(h:SumA v0 a1 na nd nl st)(hl:nl≤a0):SumA v0 a1 na nd a0 st:=by
 obtain⟨l,hd,κ,w,pk,h1,h2,h3,h4,h5,h6⟩:=h;exact⟨l,hd,κ,w,pk,h1,h2,h3,h4,h5,by omega⟩
theorem Oc {α:Type}(f:Nat→α)(i:Nat)(v:α):y8 f i v i=v:=if_pos rfl
theorem Ob {α:Type}(f:Nat→α){i j:Nat}(v:α)(h:j≠i):y8 f i v j=f j:=if_neg h
theorem sumA_add {v0 a1:Int}{na nl:Nat}{st:St}(h:SumA v0 a1 na 0 nl st)(a2:na≤1000){i:Nat}(hi:i<5)(n:Int)(h1: -1000≤n)(h2:n≤1000):(change st 35 (bgItem i) [110] n []).1=0∧SumA v0 (a1+n) (na+1) 0 nl (change st 35 (bgItem i) [110] n []).2:=by
 obtain⟨l,hd,κ,w,pk,rfl,hS,_,hs,hb,hl⟩:=h;have b:=hb i hi;have e:=Fq l hd w pk hi n (by omega) (by omega);rw[e];refine⟨rfl,l,hd,κ,y8 w i (w i+n),pk,rfl,hS,fun j hj=>by omega,?_,fun j hj=> ?_,hl⟩
 ·rcases lt5 hi with rfl|rfl|rfl|rfl|rfl<;>simp[y8]<;>omega
 ·have:=hb j hj
  by_cases a0:j=i
  ·subst a0
   rw[Oc];omega
  ·rw[Ob _ _ a0];omega
theorem sumA_commit {v0 a4:Int}{na nd nl:Nat}{st:St}(h:SumA v0 a4 na nd nl st)(a9:nl<60){i:Nat}(hi:i<5):((commit st (bgItem i)).1.2=0∨(commit st (bgItem i)).1.2=9)∧SumA v0 a4 na nd (nl+1) (commit st (bgItem i)).2∧(i=nd→SumA v0 a4 na (nd+1) (nl+1) (commit st (bgItem i)).2):=by
 obtain⟨l,hd,κ,w,pk,rfl,hS,hD,hs,hb,hl⟩:=h;obtain⟨a1,a2,_⟩:=hS.head i hi;rcases Fp l hd w pk hi a1 a2 (by omega)with⟨e1,e2⟩|⟨e1,a6,e2⟩
 ·rw[e2]
  refine⟨.inr rfl,⟨l,hd,κ,w,pk,rfl,hS,hD,hs,hb,by omega⟩,fun a7=>⟨l,hd,κ,w,pk,rfl,hS,fun j hj=> ?_,hs,hb,by omega⟩⟩;by_cases a0:j=i
  ·rw[a0];exact e1
  ·exact hD j (by omega)
 ·rw[e2]
  obtain⟨κ',a5⟩:=hS.commit hi (w i);have a3:(l++ [(w i,[hd i])]).length≤nl+1:=by simp;omega
  have key:∀j,(j=i∨(j<5∧w j=val l (hd j)))→w j=val (l++ [(w i,[hd i])]) (y8 hd i (l.length+1) j):=fun j hj=>by
   by_cases a0:j=i
   ·subst a0
    rw[Oc,K7]
   ·rw[Ob _ _ a0]
    obtain⟨h5,h6⟩:=hj.resolve_left a0;have b:=hS.head j h5;rw[ua l _ b.1 b.2.1];exact h6
  by_cases a8:nd≤5
  ·exact⟨.inl rfl,⟨_,_,κ',w,a6,rfl,a5,fun j hj=>key j (.inr ⟨by omega,hD j hj⟩),hs,hb,a3⟩,fun a7=>⟨_,_,κ',w,a6,rfl,a5,fun j hj=>key j (by
    by_cases a0:j=i
    ·exact .inl a0
    ·exact .inr ⟨by omega,hD j (by omega)⟩),hs,hb,a3⟩⟩
  ·exfalso
   exact e1 (hD i (by omega))
def j1 (w:Nat→Int)(v0:Int)(L:List Nat):Int:=(L.map fun j=>w j-v0).sum
theorem Ke (w:Nat→Int)(v0:Int):∀(L:List Nat) (k:Nat) (h:k<L.length),j1 w v0 L=(w L[k]-v0)+j1 w v0 (L.eraseIdx k)
 |x::r,0,_=>by simp[j1]
 |x::r,k+1,h=>by
  have ih:=Ke w v0 r k (by simpa using h);simp only[j1,List.map_cons,List.sum_cons,List.eraseIdx_cons_succ,List.getElem_cons_succ]at ih⊢;omega
theorem UZ (w w' :Nat→Int)(v0:Int)(L:List Nat)(h:∀j∈L,w j=w' j):j1 w v0 L=j1 w' v0 L:=by
 unfold j1;congr 1
 exact List.map_congr_left fun j hj=>by rw[h j hj]
def SumB (v0 sum:Int)(L:List Nat)(nl:Nat)(st:St):Prop:=∃l hd κ w pk,st=ym l hd w pk∧YE l hd κ v0 (fun j=>j=0∨j∈L)∧cP l hd w (fun j=>j=0∨j∈L)∧sum=w 0+j1 w v0 L∧(∀j,j<5→j≠0→ -30000≤w j∧w j≤30000)∧(-30000-40000*(4-(L.length:Int))≤w 0∧w 0≤30000+40000*(4-(L.length:Int)))∧(-2000≤v0∧v0≤2000)∧l.length≤nl
theorem sumB_of {v0 a0:Int}{na nl:Nat}{st:St}(h:SumA v0 a0 na 5 nl st)(a1:na≤20)(h0: -2000≤v0)(h1:v0≤2000):SumB v0 a0 [1,2,3,4] nl st:=by
 obtain⟨l,hd,κ,w,pk,rfl,hS,hD,hs,hb,hl⟩:=h;refine⟨l,hd,κ,w,pk,rfl,hS.less _ fun i hi=> ?_,fun i hi=>hD i ?_,?_,fun j hj _=> ?_,?_,⟨h0,h1⟩,hl⟩
 ·simp at hi;omega
 ·simp at hi;omega
 ·simp[j1];omega
 ·have:=hb j hj;omega
 ·have:=hb 0 (by decide);simp;omega
theorem jD {L:List Nat}(hL:L.Nodup){k:Nat}(hk:k<L.length){j:Nat}(hj:j∈L.eraseIdx k):j∈L∧j≠L[k]:=by
 refine⟨List.mem_of_mem_eraseIdx hj,fun e=> ?_⟩;obtain⟨i,hi,h1,h2⟩:=List.mem_eraseIdx_iff_getElem.1 hj;exact h1 ((List.getElem_inj hL).1 (h2.trans e))
theorem sumB_join {v0 a3:Int}{L:List Nat}{nl:Nat}{st:St}(h:SumB v0 a3 L nl st)(hL:L.Nodup)(a1:∀j∈L,1≤j∧j<5)(b0:L.length≤4){k:Nat}(hk:k<L.length)(b1:nl<60):
  (joinB st (bgItem 0) (bgItem L[k])).1.2=0∧SumB v0 a3 (L.eraseIdx k) (nl+1) (joinB st (bgItem 0) (bgItem L[k])).2:=by
 obtain⟨l,hd,κ,w,pk,rfl,hS,hD,hs,hb,a8,hv,hl⟩:=h;have hm:=j0c hk;have hr:=a1 _ hm;have bi:=hb _ hr.2 (by omega);have a0:(L.eraseIdx k).length=L.length-1:=List.length_eraseIdx_of_lt hk;obtain⟨n,l',a6,κ',a7,e,a5,a4,a9⟩:=cZ hS w pk hD (.inl rfl) (.inr hm) (by omega) hr.2 (by omega) (by omega) (by omega);rw[e];refine⟨rfl,l',a6,κ',_,a7,rfl,a5.less _ fun j hj=> ?_,fun j hj=>a4 j ?_,?_,fun j hj a2=> ?_,?_,hv,by omega⟩
 ·rcases hj with rfl|hj
  ·exact⟨.inl rfl,by omega⟩
  ·have:=jD hL hk hj
   exact⟨.inr this.1,this.2⟩
 ·rcases hj with rfl|hj
  ·exact⟨.inl rfl,by omega⟩
  ·have:=jD hL hk hj
   exact⟨.inr this.1,this.2⟩
 ·rw[Oc,UZ (y8 w 0 _) w v0 _ fun j hj=>Ob _ _ (by have:=a1 j (List.mem_of_mem_eraseIdx hj);omega),hs,Ke w v0 L k hk]
  omega
 ·rw[Ob _ _ a2];exact hb j hj a2
 ·rw[Oc,a0]
  have:(((L.length-1:Nat)):Int)=(L.length:Int)-1:=by omega
  rw[this];omega
theorem sumB_show {v0 a0:Int}{nl:Nat}{st:St}(h:SumB v0 a0 [] nl st):shown st [97]=(110::32::35::(Lib.itoa a0++ [10]),0)∧ -1000000≤a0∧a0≤1000000:=by
 obtain⟨l,hd,κ,w,pk,rfl,hS,hD,hs,hb,a1,hv,hl⟩:=h;have e:a0=w 0:=by rw[hs];simp[j1]
 simp at a1;refine⟨?_,by omega,by omega⟩;unfold shown;rw[show([97]:List UInt8)=bgItem 0 from rfl,Ul l hd w pk (i:=0) (by decide),if_neg (by decide),Oa l hd w pk (i:=0) (by decide),vH,e]
end R
