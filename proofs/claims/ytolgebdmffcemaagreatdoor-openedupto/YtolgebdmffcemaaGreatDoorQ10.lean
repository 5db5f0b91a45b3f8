import Derived.Test.YtolgebdmffcemaaGreatDoorQ05
import Derived.Test.YtolgebdmffcemaaGreatDoorRows
import Derived.Conc.CompanyMem
import Derived.RowKit
import Derived.Conc.AppendWalk
import Derived.Maps.AppendAt
import Derived.OwnWalk
set_option linter.all false
set_option maxHeartbeats 20000000
set_option maxRecDepth 1000000
open Go renaming World→eX,Value→eB,Event→eS,undef→lS
open Go.World renaming cell?→sE,frozen?→tN,setCell→tP
open Array renaming getElem?_modify→lO,replicate_succ→tT,replicate_zero→tU
open Go.Proofs.Tryz renaming prog→sU,underlying202→tZ
open List renaming size_toArray→tQ,length_cons→nM,length_nil→pC,push_toArray→tV,append_toArray→tX,nil_append→nV,cons_append→mJ,range→mO,mem_cons→iT,not_mem_nil→lA,getElem?_map→sZ,getElem?_range→wA,getElem?_take→nH
open Nat renaming reduceAdd→tR,reduceSub→tS,zero_add→lQ,zero_le→wB
open Bool renaming false_eq_true→eU
open Go.IntKind renaming wrap_i64→tY
namespace Go.Proofs.YtolgebdmffcemaaGreatDoor
open Go Go.Conc Go.RowKit
def oh (A O:Blk)(g:Nat):Prop:=A g∧∀b,O b→A b∧b≠g
structure HB (O:Blk)(H:Nat→Option Obj)(g n cap:Nat)(x:Nat→Int)(w:eX):Prop where
 oth:∀b,O b→w.heap[b]? =H b
 ex:∃cs,w.heap[g]? =some (.cells cs 3 (0,0))∧(cs.size=cap∧n≤cap)∧∀j,j<n→cs[j]? =some (.int .i64 (x j))
section
variable {Old A O:Blk}{H:Nat→Option Obj}{g n cap:Nat}{x:Nat→Int}{w w1:eX}
theorem HB.rely (hA:oh A O g)(h:HB O H g n cap x w)(r:RA Old A w w1):HB O H g n cap x w1:=⟨fun b hb=>(r.own b (.inl (hA.2 b hb).1)).trans (h.oth b hb),by obtain⟨cs,h1,h2⟩:=h.ex;exact⟨cs,(r.own g (.inl hA.1)).trans h1,h2⟩⟩
theorem HB.cell (h:HB O H g n cap x w){j:Nat}(hj:j<n):w.cell? ⟨g,j,none⟩=some (.int .i64 (x j)):=by
 obtain⟨cs,h1,h2,h3⟩:=h.ex;simp[sE,h1,h3 j hj]
theorem HB.fr (h:HB O H g n cap x w)(o:Nat):w.frozen? ⟨g,o,none⟩=false:=by
 obtain⟨cs,h1,h2,h3⟩:=h.ex;simp[tN,h1]
theorem HB.less (h:HB O H g n cap x w){m:Nat}(hm:m≤n):HB O H g m cap x w:=⟨h.oth,by
 obtain⟨cs,h1,h2,h3⟩:=h.ex;exact⟨cs,h1,⟨h2.1,by omega⟩,fun j hj=>h3 j (by omega)⟩⟩
def YW (x:Nat→Int)(j:Nat)(v:Int):Nat→Int:=fun k=>if k=j then v else x k
theorem HB.set (h:HB O H g n cap x w)(hA:oh A O g){j:Nat}(hj:j<n)(v:Int):HB O H g n cap (YW x j v) (w.setCell ⟨g,j,none⟩ (.int .i64 v)):=⟨fun b hb=>by
  have a1:g≠b:=fun e=>(hA.2 b hb).2 e.symm
  simpa[tP,lO,a1]using h.oth b hb,by
 obtain⟨cs,h1,h2,h3⟩:=h.ex;refine⟨cs.setIfInBounds j (.int .i64 v),?_,⟨by simpa using h2.1,h2.2⟩,fun k hk=> ?_⟩
 ·simp[tP,lO,h1]
 ·unfold YW
  by_cases a0:k=j
  ·subst a0
   rw[if_pos rfl,Array.getElem?_setIfInBounds_self_of_lt (by have:=h2.1;have:=h2.2;omega)]
  ·rw[if_neg a0,Array.getElem?_setIfInBounds_ne (fun e=>a0 e.symm)]
   exact h3 k hk⟩
theorem Y8 (hA:A g)(w:eX)(j:Nat)(v:eB){es:Array eS}(h:∀e∈es,EvO Old A e):DA Old A w (w.setCell ⟨g,j,none⟩ v) es:=
 ⟨rfl,rfl,rfl,by simp[tP],fun _ h=>h,fun _ h=> .inl h,fun b hb hn=>by
  have a0:g≠b:=by rintro rfl;exact hn hA
  simp[tP,lO,a0],h⟩
theorem zD (w:eX){es:Array eS}(h:∀e∈es,EvO Old A e):DA Old A w w es:=yQ.look w h
theorem zV (hA:A g)(j:Nat)(wr:Bool):EvO Old A ⟨.cell ⟨g,j,none⟩,wr,false⟩:= .inl ⟨⟨g,j,none⟩,rfl,.inl hA⟩
end
def swp (x:Nat→Int)(i j:Nat):Nat→Int:=YW (YW x i (x j)) j (x i)
def upF:Nat→(Nat→Int)→Nat→(Nat→Int)
 |0,x,_=>x
 |f+1,x,i=>if i=0 then x else if x i≤x ((i-1)/2)then x else upF f (swp x i ((i-1)/2)) ((i-1)/2)
theorem Vl (f:Nat)(x:Nat→Int):upF f x 0=x:=by cases f<;>simp[upF]
theorem jo {f:Nat}{x:Nat→Int}{i:Nat}(h0:0<i)(h:x i≤x ((i-1)/2)):upF f x i=x:=by
 cases f with
 |zero=>rfl
 |succ f=>simp only[upF];rw[if_neg (by omega),if_pos h]
theorem gF {f:Nat}{x:Nat→Int}{i:Nat}(h0:0<i)(h:¬x i≤x ((i-1)/2)):upF (f+1) x i=upF f (swp x i ((i-1)/2)) ((i-1)/2):=by
 simp only[upF];rw[if_neg (by omega),if_neg h]
section
variable {main:Bool}{Old A O:Blk}{H:Nat→Option Obj}
theorem gd (g n cap:Nat)(hA:oh A O g)(x:Nat→Int)(i:Nat)(hi:i<n)(hn:n≤1000)(w:eX)(hF:HB O H g n cap x w):
  yH sU main Old 207 #[.slice (some ⟨g,0,none⟩) n cap,.int .i64 i] A w fun A' v w' =>A' =A∧v= .tuple #[]∧HB O H g n cap (upF n x i) w' :=by
 refine yZ Tryz.func207 (by rfl) rfl ?_;simp only[Tryz.ntmps207,tQ,nM,pC,tR,tS,tT,tU,tV,tX,nV,mJ];refine Yz ?_;refine jk (fun A' a w=>A' =A∧∃(y:Nat→Int) (j f:Nat) (t2 t3 t4 t5 t6 t7 t8 t9 c9 d3 d4 d5 d6 d7 d8 d9 e1 a6 a7 a8 a9 b3 b4 b5 b6 b7 b8 b9 c6 c7 c8 a4:eB),j<n∧j≤f∧upF f y j=upF n x i∧HB O H g n cap y w∧a=⟨#[.slice (some ⟨g,0,none⟩) n cap,.int .i64 j,t2,t3,t4,t5,t6,t7,t8,t9,c9,d3,d4,d5,d6,d7,d8,d9,e1,a6,a7,a8,a9,b3,b4,b5,b6,b7,b8,b9,c6,c7,c8,a4],[]⟩) (fun _ a _=>(intOf (a.tmps.getD 1 lS)).toNat) ⟨rfl,x,i,n,_,_,_,_,_,_,_,_,_,_,_,_,_,_,_,_,_,_,_,_,_,_,_,_,_,_,_,_,_,_,_,_,hi,by omega,rfl,hF,rfl⟩ ?_;clear hF;rintro A' a w ⟨rfl,y,j,f,t2,t3,t4,t5,t6,t7,t8,t9,c9,d3,d4,d5,d6,d7,d8,d9,e1,a6,a7,a8,a9,b3,b4,b5,b6,b7,b8,b9,c6,c7,c8,a4,hj,e3,a5,hF,rfl⟩;refine wpO_seq ?_;refine wpO_seq ?_;refine zl ?_;simp only[tQ,nM,pC,tR,lQ,mO,List.range.loop];co_applyP z8 rfl (by rfl)
 case hv=>intro W K hK;go_simp;exact hK
 case he=>intro W;simp[go_sem, *]
 try walk_nrm
 co_applyP z8 rfl (by rfl)
 case hv=>intro W K hK;go_simp;exact hK
 case he=>intro W;simp[go_sem, *]
 try walk_nrm
 refine zp ?_;simp only[zM];by_cases a1:0<j
 case neg=>
  refine Zm (t:=false) (by simp[Act.eval,a1]) ?_;simp only[eU,if_false];refine jl ?_;simp only[zM,ZD,if_true];obtain rfl:j=0:=by omega
  refine⟨rfl,_,resultsC_none (by rfl) _,rfl,rfl,?_⟩;rw[←a5,Vl];exact hF
 case pos=>
  refine Zm (t:=true) (by simp[Act.eval,a1]) ?_;simp only[if_true];refine yu ?_;simp only[zM];obtain⟨p,HP⟩:∃p,Hid (p=(j-1)/2):=⟨_,rfl⟩
  have e6:p<j:=by have:=HP.out;omega
  have h1:(j:Int)-1=((j-1:Nat):Int):=by omega
  have h2:IntKind.i64.wrap ((j-1:Nat):Int)=((j-1:Nat):Int):=by rw[tY];omega
  have h3:((j-1:Nat):Int)/2=(p:Int):=by have:=HP.out;omega
  have h4:IntKind.i64.wrap (p:Int)=(p:Int):=by rw[tY];omega
  refine Yz ?_;refine wpO_seq ?_;refine zl ?_;simp only[tQ,nM,pC,tR,lQ,mO,List.range.loop];co_applyP z8 rfl (by rfl)
  case hv=>intro W K hK;go_simp;exact hK
  case he=>intro W;simp[go_sem, *]
  try walk_nrm
  co_applyP z8 rfl (by rfl)
  case hv=>intro W K hK;go_simp;exact hK
  case he=>intro W;simp[go_sem, *]
  try walk_nrm
  co_applyP z8 rfl (by rfl)
  case hv=>intro W K hK;go_simp;exact hK
  case he=>intro W;simp[go_sem, *]
  try walk_nrm
  co_applyP z8 rfl (by rfl)
  case hv=>intro W K hK;go_simp;exact hK
  case he=>intro W;simp[go_sem, *]
  try walk_nrm
  refine zp ?_;simp only[zM];clear h1 h2 h3 h4;have b1:(j:Int)<(n:Int):=by omega
  have b2:(p:Int)<(n:Int):=by omega
  refine wpO_seq ?_;refine Vj (fun A2 a2 w2=>A2=A' ∧HB O H g n cap y w2∧a2=⟨#[.slice (some ⟨g,0,none⟩) n cap,.int .i64 (j:Int),t2,t3,.int .i64 (p:Int),.int .i64 (j:Int),.bool true,.int .i64 (j:Int),.int .i64 ((j-1:Nat):Int),.int .i64 (p:Int),.slice (some ⟨g,0,none⟩) n cap,.int .i64 (j:Int),.pointer (some ⟨g,j,none⟩),.int .i64 (y j),.slice (some ⟨g,0,none⟩) n cap,.int .i64 (p:Int),.pointer (some ⟨g,p,none⟩),.int .i64 (y p),.bool (decide (y j≤y p)),a6,a7,a8,a9,b3,b4,b5,b6,b7,b8,b9,c6,c7,c8,a4],[]⟩) ?_ ?_
  ·refine Xk (by kernel_rfl) ?_
   intro _ hR;replace hF:=HB.rely (Old:=Old) hA (HB.rely (Old:=Old) hA hF hR) (Xp _);clear hR;simp only[tQ,nM,pC,tR,lQ];co_applyP zd (i:=0) rfl (by kernel_rfl) (by kernel_rfl) (by kernel_rfl) (by rfl)
   case hv=>intro W K hK;go_simp;exact hK
   case he=>intro W;simp[go_sem, *]
   try walk_nrm
   co_applyP zd (i:=1) rfl (by kernel_rfl) (by kernel_rfl) (by kernel_rfl) (by rfl)
   case hv=>intro W K hK;go_simp;exact hK
   case he=>intro W;simp[go_sem, *]
   try walk_nrm
   co_applyP zd (i:=2) rfl (by kernel_rfl) (by kernel_rfl) (by kernel_rfl) (by rfl)
   case hv=>intro W K hK;go_simp;exact hK
   case he=>intro W;simp[go_sem, *]
   try walk_nrm
   co_applyP zd (i:=4) rfl (by kernel_rfl) (by kernel_rfl) (by kernel_rfl) (by rfl)
   case hv=>intro W K hK;go_simp;exact hK
   case he=>intro W;simp[go_sem, *]
   try walk_nrm
   co_applyP zd (i:=5) rfl (by kernel_rfl) (by kernel_rfl) (by kernel_rfl) (by rfl)
   case hv=>intro W K hK;go_simp;exact hK
   case he=>intro W;simp[go_sem, *]
   try walk_nrm
   co_applyP zd (i:=6) rfl (by kernel_rfl) (by kernel_rfl) (by kernel_rfl) (by rfl)
   case hv=>intro W K hK;go_simp;exact hK
   case he=>intro W;simp[go_sem, *]
   try walk_nrm
   refine any_all (rs:=[3,7]) (by kernel_rfl) (by decide) ?_;intro _ hR i hi;replace hF:=HB.rely (Old:=Old) hA hF hR;clear hR;simp only[iT,lA,or_false]at hi;rcases hi with rfl|rfl
   ·refine qn rfl (by rfl) ?_
    intro _ hR K hK;replace hF:=HB.rely (Old:=Old) hA hF hR;clear hR;have hc:=hF.cell hj;go_simp
    refine hK _ _ ?_ ?_
    ·exact zD _ (by co_evs (exact zV hA.1 _ _))
    clear hK K hc;try walk_nrm
    refine zR (i:=7) (by kernel_rfl) rfl (by rfl) ?_;intro _ hR K hK;replace hF:=HB.rely (Old:=Old) hA hF hR;clear hR;have hc:=hF.cell (j:=p) (by omega);go_simp
    refine hK _ _ ?_ ?_
    ·exact zD _ (by co_evs (exact zV hA.1 _ _))
    clear hK K hc;try walk_nrm
    refine zR (i:=8) (by kernel_rfl) rfl (by rfl) ?_;intro _ hR K hK;replace hF:=HB.rely (Old:=Old) hA hF hR;clear hR;go_simp
    refine hK _ _ ?_ ?_
    ·co_still (Xm Old _)
    clear hK K;try walk_nrm
    refine y_ (by kernel_rfl) ?_ _;intro _ hR;replace hF:=HB.rely (Old:=Old) hA hF hR;clear hR;simp only[zM];exact⟨by first|rfl|trivial,hF,by first|rfl|trivial⟩
   ·refine qn rfl (by rfl) ?_
    intro _ hR K hK;replace hF:=HB.rely (Old:=Old) hA hF hR;clear hR;have hc:=hF.cell (j:=p) (by omega);go_simp
    refine hK _ _ ?_ ?_
    ·exact zD _ (by co_evs (exact zV hA.1 _ _))
    clear hK K hc;try walk_nrm
    refine zR (i:=3) (by kernel_rfl) rfl (by rfl) ?_;intro _ hR K hK;replace hF:=HB.rely (Old:=Old) hA hF hR;clear hR;have hc:=hF.cell hj;go_simp
    refine hK _ _ ?_ ?_
    ·exact zD _ (by co_evs (exact zV hA.1 _ _))
    clear hK K hc;try walk_nrm
    refine zR (i:=8) (by kernel_rfl) rfl (by rfl) ?_;intro _ hR K hK;replace hF:=HB.rely (Old:=Old) hA hF hR;clear hR;go_simp
    refine hK _ _ ?_ ?_
    ·co_still (Xm Old _)
    clear hK K;try walk_nrm
    refine y_ (by kernel_rfl) ?_ _;intro _ hR;replace hF:=HB.rely (Old:=Old) hA hF hR;clear hR;simp only[zM];exact⟨by first|rfl|trivial,hF,by first|rfl|trivial⟩
  ·rintro A2 a2 w2 ⟨rfl,hF,rfl⟩
   by_cases a0:y j≤y p
   ·refine Zm (t:=true) (by simp[Act.eval,a0]) ?_
    simp only[if_true];refine KX ?_;simp only[zM,ZD];refine⟨rfl,_,resultsC_none (by rfl) _,rfl,rfl,?_⟩;rw[←a5,jo a1 (by rw[←HP.out];exact a0)];exact hF
   ·refine Zm (t:=false) (by simp[Act.eval,a0]) ?_
    simp only[eU,if_false];refine yu ?_;simp only[zM];have e2:decide (y j≤y p)=false:=by simpa using a0
    rw[e2];refine Vj (fun B2 a2 w2=>B2=A2∧HB O H g n cap (swp y j p) w2∧a2=⟨#[.slice (some ⟨g,0,none⟩) n cap,.int .i64 (j:Int),t2,t3,.int .i64 (p:Int),.int .i64 (j:Int),.bool true,.int .i64 (j:Int),.int .i64 ((j-1:Nat):Int),.int .i64 (p:Int),.slice (some ⟨g,0,none⟩) n cap,.int .i64 (j:Int),.pointer (some ⟨g,j,none⟩),.int .i64 (y j),.slice (some ⟨g,0,none⟩) n cap,.int .i64 (p:Int),.pointer (some ⟨g,p,none⟩),.int .i64 (y p),.bool false,.slice (some ⟨g,0,none⟩) n cap,.int .i64 (j:Int),.slice (some ⟨g,0,none⟩) n cap,.int .i64 (p:Int),.slice (some ⟨g,0,none⟩) n cap,.int .i64 (p:Int),.pointer (some ⟨g,p,none⟩),.int .i64 (y p),.slice (some ⟨g,0,none⟩) n cap,.int .i64 (j:Int),.pointer (some ⟨g,j,none⟩),.int .i64 (y j),.pointer (some ⟨g,j,none⟩),.pointer (some ⟨g,p,none⟩),a4],[]⟩) ?_ ?_
    ·refine Xk (by kernel_rfl) ?_
     intro _ hR;replace hF:=HB.rely (Old:=Old) hA (HB.rely (Old:=Old) hA hF hR) (Xp _);clear hR;simp only[tQ,nM,pC,tR,lQ];co_applyP zd (i:=0) rfl (by kernel_rfl) (by kernel_rfl) (by kernel_rfl) (by rfl)
     case hv=>intro W K hK;go_simp;exact hK
     case he=>intro W;simp[go_sem, *]
     try walk_nrm
     co_applyP zd (i:=1) rfl (by kernel_rfl) (by kernel_rfl) (by kernel_rfl) (by rfl)
     case hv=>intro W K hK;go_simp;exact hK
     case he=>intro W;simp[go_sem, *]
     try walk_nrm
     co_applyP zd (i:=2) rfl (by kernel_rfl) (by kernel_rfl) (by kernel_rfl) (by rfl)
     case hv=>intro W K hK;go_simp;exact hK
     case he=>intro W;simp[go_sem, *]
     try walk_nrm
     co_applyP zd (i:=3) rfl (by kernel_rfl) (by kernel_rfl) (by kernel_rfl) (by rfl)
     case hv=>intro W K hK;go_simp;exact hK
     case he=>intro W;simp[go_sem, *]
     try walk_nrm
     co_applyP zd (i:=4) rfl (by kernel_rfl) (by kernel_rfl) (by kernel_rfl) (by rfl)
     case hv=>intro W K hK;go_simp;exact hK
     case he=>intro W;simp[go_sem, *]
     try walk_nrm
     co_applyP zd (i:=5) rfl (by kernel_rfl) (by kernel_rfl) (by kernel_rfl) (by rfl)
     case hv=>intro W K hK;go_simp;exact hK
     case he=>intro W;simp[go_sem, *]
     try walk_nrm
     co_applyP zd (i:=6) rfl (by kernel_rfl) (by kernel_rfl) (by kernel_rfl) (by rfl)
     case hv=>intro W K hK;go_simp;exact hK
     case he=>intro W;simp[go_sem, *]
     try walk_nrm
     co_applyP zd (i:=8) rfl (by kernel_rfl) (by kernel_rfl) (by kernel_rfl) (by rfl)
     case hv=>intro W K hK;go_simp;exact hK
     case he=>intro W;simp[go_sem, *]
     try walk_nrm
     co_applyP zd (i:=9) rfl (by kernel_rfl) (by kernel_rfl) (by kernel_rfl) (by rfl)
     case hv=>intro W K hK;go_simp;exact hK
     case he=>intro W;simp[go_sem, *]
     try walk_nrm
     co_applyP zd (i:=10) rfl (by kernel_rfl) (by kernel_rfl) (by kernel_rfl) (by rfl)
     case hv=>intro W K hK;go_simp;exact hK
     case he=>intro W;simp[go_sem, *]
     try walk_nrm
     refine any_all (rs:=[7,11]) (by kernel_rfl) (by decide) ?_;intro _ hR i hi;replace hF:=HB.rely (Old:=Old) hA hF hR;clear hR;simp only[iT,lA,or_false]at hi;rcases hi with rfl|rfl
     all_goals
      refine qn rfl (by rfl) ?_;intro _ hR K hK;replace hF:=HB.rely (Old:=Old) hA hF hR;clear hR;have hc:=hF.cell (j:=p) (by omega);have hd:=hF.cell hj;go_simp
      refine hK _ _ ?_ ?_
      ·exact zD _ (by co_evs (exact zV hA.1 _ _))
      clear hK K hc hd;try walk_nrm
      first|refine zR (i:=11) (by decide+kernel) rfl (by rfl) ?_|refine zR (i:=7) (by decide+kernel) rfl (by rfl) ?_
      intro _ hR K hK;replace hF:=HB.rely (Old:=Old) hA hF hR;clear hR;have hc:=hF.cell hj;have hd:=hF.cell (j:=p) (by omega);go_simp
      refine hK _ _ ?_ ?_
      ·exact zD _ (by co_evs (exact zV hA.1 _ _))
      clear hK K hc hd;try walk_nrm
      refine zR (i:=12) (by kernel_rfl) rfl (by rfl) ?_;intro _ hR K hK;replace hF:=HB.rely (Old:=Old) hA hF hR;clear hR;go_simp
      refine hK _ _ ?_ ?_
      ·co_still (Xm Old _)
      clear hK K;try walk_nrm
      refine zR (i:=13) (by kernel_rfl) rfl (by rfl) ?_;intro _ hR K hK;replace hF:=HB.rely (Old:=Old) hA hF hR;clear hR;have hc:=hF.cell hj;have hz:=hF.fr j;go_simp
      try(unfold stored;go_simp)
      refine hK _ _ ?_ ?_
      ·exact Y8 hA.1 _ _ _ (by co_evs (exact zV hA.1 _ _))
      replace hF:=hF.set hA hj (y p);clear hK K hc hz;try walk_nrm
      refine zR (i:=14) (by kernel_rfl) rfl (by rfl) ?_;intro _ hR K hK;replace hF:=HB.rely (Old:=Old) hA hF hR;clear hR;go_simp
      refine hK _ _ ?_ ?_
      ·co_still (Xm Old _)
      clear hK K;try walk_nrm
      refine zR (i:=15) (by kernel_rfl) rfl (by rfl) ?_;intro _ hR K hK;replace hF:=HB.rely (Old:=Old) hA hF hR;clear hR;have hc:=hF.cell (j:=p) (by omega);have hz:=hF.fr p;go_simp
      try(unfold stored;go_simp)
      refine hK _ _ ?_ ?_
      ·exact Y8 hA.1 _ _ _ (by co_evs (exact zV hA.1 _ _))
      replace hF:=hF.set hA (j:=p) (by omega) (y j);clear hK K hc hz;try walk_nrm
      refine y_ (by kernel_rfl) ?_ _;intro _ hR;replace hF:=HB.rely (Old:=Old) hA hF hR;clear hR;simp only[zM];exact⟨by first|rfl|trivial,hF,by first|rfl|trivial⟩
    ·rintro A3 a3 w3 ⟨rfl,hF,rfl⟩
     refine zl ?_;simp only[tQ,nM,pC,tR,lQ,mO,List.range.loop];co_applyP z8 rfl (by rfl)
     case hv=>intro W K hK;go_simp;exact hK
     case he=>intro W;simp[go_sem, *]
     try walk_nrm
     co_applyP z8 rfl (by rfl)
     case hv=>intro W K hK;go_simp;exact hK
     case he=>intro W;simp[go_sem, *]
     try walk_nrm
     refine zp ?_;simp only[zM,ZD];obtain⟨f',rfl⟩:∃f',f=f' +1:=⟨f-1,by omega⟩
     refine⟨⟨by first|rfl|trivial,swp y j p,p,f',_,_,_,_,_,_,_,_,_,_,_,_,_,_,_,_,_,_,_,_,_,_,_,_,_,_,_,_,_,_,_,_,by omega,by omega,?_,hF,rfl⟩,by simp[intOf];omega⟩;rw[←a5,gF a1 (by rw[←HP.out];exact a0),←HP.out]
end
def zQ (n:Nat)(x:Nat→Int)(i l:Nat):Nat:=if l<n∧x i<x l then l else i
theorem J_ {n:Nat}{x:Nat→Int}{i l:Nat}(h:l<n)(h' :x i<x l):zQ n x i l=l:=if_pos ⟨h,h'⟩
theorem oZ {n:Nat}{x:Nat→Int}{i l:Nat}(_h:l<n)(h' :¬x i<x l):zQ n x i l=i:=if_neg fun e=>h' e.2
theorem u4 {n:Nat}{x:Nat→Int}{i l:Nat}(h:¬l<n):zQ n x i l=i:=if_neg fun e=>h e.1
theorem cu {n:Nat}{x:Nat→Int}{i l:Nat}(h:i<n∨n=0):zQ n x i l<n∨n=0:=by unfold zQ;split<;>omega
section
variable {main:Bool}{Old A O:Blk}{H:Nat→Option Obj}
theorem Gy (g n cap:Nat)(hA:oh A O g)(x:Nat→Int)(i l r:Nat)(hi:i<n∨n=0)(w:eX)(hF:HB O H g n cap x w):
  yH sU main Old 236 #[.slice (some ⟨g,0,none⟩) n cap,.int .i64 i,.int .i64 l,.int .i64 r] A w fun A' v w' =>A' =A∧v= .int .i64 (zQ n x (zQ n x i l) r:Nat)∧HB O H g n cap x w' :=by
 refine yZ Tryz.func236 (by rfl) rfl ?_;simp only[Tryz.ntmps236,tQ,nM,pC,tR,tS,tT,tU,tV,tX,nV,mJ];refine wpO_seq ?_;refine zl ?_;simp only[tQ,nM,pC,tR,lQ,mO,List.range.loop];co_applyP z8 rfl (by rfl)
 case hv=>intro W K hK;go_simp;exact hK
 case he=>intro W;simp[go_sem, *]
 try walk_nrm
 refine zp ?_;simp only[zM];refine Vj (fun A2 a2 w2=>A2=A∧HB O H g n cap x w2∧∃(t9 a4 a5 a6 a7 a8 a9 b3 b4 b5 b6 b7 b8 b9 c6 c7:eB),a2=⟨#[.slice (some ⟨g,0,none⟩) n cap,.int .i64 (zQ n x i l:Int),.int .i64 (l:Int),.int .i64 (r:Int),lS,lS,lS,lS,.int .i64 0,t9,a4,a5,a6,a7,a8,a9,b3,b4,b5,b6,b7,b8,b9,c6,c7,lS,lS,lS,lS,lS,lS,lS,lS,lS,lS,lS,lS,lS,lS,lS,lS,lS],[]⟩) ?_ ?_
 ·refine wpO_seq ?_
  by_cases a0:l<n
  ·have b1:(l:Int)<(n:Int):=by omega
   have b2:(i:Int)<(n:Int):=by omega
   refine Xk (by kernel_rfl) ?_;intro _ hR;replace hF:=HB.rely (Old:=Old) hA (HB.rely (Old:=Old) hA hF hR) (Xp _);clear hR;simp only[tQ,nM,pC,tR,lQ];co_applyP zd (i:=0) rfl (by kernel_rfl) (by kernel_rfl) (by kernel_rfl) (by rfl)
   case hv=>intro W K hK;go_simp;exact hK
   case he=>intro W;simp[go_sem, *]
   try walk_nrm
   co_applyP zd (i:=1) rfl (by kernel_rfl) (by kernel_rfl) (by kernel_rfl) (by rfl)
   case hv=>intro W K hK;go_simp;exact hK
   case he=>intro W;simp[go_sem, *]
   try walk_nrm
   co_applyP zd (i:=2) rfl (by kernel_rfl) (by kernel_rfl) (by kernel_rfl) (by rfl)
   case hv=>intro W K hK;go_simp;exact hK
   case he=>intro W;simp[go_sem, *]
   try walk_nrm
   co_applyP zd (i:=3) rfl (by kernel_rfl) (by kernel_rfl) (by kernel_rfl) (by rfl)
   case hv=>intro W K hK;go_simp;exact hK
   case he=>intro W;simp[go_sem, *]
   try walk_nrm
   co_applyP zd (i:=4) rfl (by kernel_rfl) (by kernel_rfl) (by kernel_rfl) (by rfl)
   case hv=>intro W K hK;go_simp;exact hK
   case he=>intro W;simp[go_sem, *]
   try walk_nrm
   co_applyP zd (i:=5) rfl (by kernel_rfl) (by kernel_rfl) (by kernel_rfl) (by rfl)
   case hv=>intro W K hK;go_simp;exact hK
   case he=>intro W;simp[go_sem, *]
   try walk_nrm
   co_applyP zd (i:=6) rfl (by kernel_rfl) (by kernel_rfl) (by kernel_rfl) (by rfl)
   case hv=>intro W K hK;go_simp;exact hK
   case he=>intro W;simp[go_sem, *]
   try walk_nrm
   co_applyP zd (i:=7) rfl (by kernel_rfl) (by kernel_rfl) (by kernel_rfl) (by rfl)
   case hv=>intro W K hK;go_simp;exact hK
   case he=>intro W;simp[go_sem, *]
   try walk_nrm
   co_applyP zd (i:=9) rfl (by kernel_rfl) (by kernel_rfl) (by kernel_rfl) (by rfl)
   case hv=>intro W K hK;go_simp;exact hK
   case he=>intro W;simp[go_sem, *]
   try walk_nrm
   co_applyP zd (i:=10) rfl (by kernel_rfl) (by kernel_rfl) (by kernel_rfl) (by rfl)
   case hv=>intro W K hK;go_simp;exact hK
   case he=>intro W;simp[go_sem, *]
   try walk_nrm
   co_applyP zd (i:=11) rfl (by kernel_rfl) (by kernel_rfl) (by kernel_rfl) (by rfl)
   case hv=>intro W K hK;go_simp;exact hK
   case he=>intro W;simp[go_sem, *]
   try walk_nrm
   refine any_all (rs:=[8,12]) (by kernel_rfl) (by decide) ?_;intro _ hR i hi;replace hF:=HB.rely (Old:=Old) hA hF hR;clear hR;simp only[iT,lA,or_false]at hi;rcases hi with rfl|rfl
   all_goals
    refine qn rfl (by rfl) ?_;intro _ hR K hK;replace hF:=HB.rely (Old:=Old) hA hF hR;clear hR;have hc:=hF.cell a0;have hd:=hF.cell (j:=i) (by omega);go_simp
    refine hK _ _ ?_ ?_
    ·exact zD _ (by co_evs (exact zV hA.1 _ _))
    clear hK K hc hd;try walk_nrm
    first|refine zR (i:=12) (by decide+kernel) rfl (by rfl) ?_|refine zR (i:=8) (by decide+kernel) rfl (by rfl) ?_
    intro _ hR K hK;replace hF:=HB.rely (Old:=Old) hA hF hR;clear hR;have hc:=hF.cell (j:=i) (by omega);have hd:=hF.cell a0;go_simp
    refine hK _ _ ?_ ?_
    ·exact zD _ (by co_evs (exact zV hA.1 _ _))
    clear hK K hc hd;try walk_nrm
    refine zR (i:=13) (by kernel_rfl) rfl (by rfl) ?_;intro _ hR K hK;replace hF:=HB.rely (Old:=Old) hA hF hR;clear hR;go_simp
    refine hK _ _ ?_ ?_
    ·co_still (Xm Old _)
    clear hK K;try walk_nrm
    refine zR (i:=14) (by kernel_rfl) rfl (by rfl) ?_;intro _ hR K hK;replace hF:=HB.rely (Old:=Old) hA hF hR;clear hR;go_simp
    refine hK _ _ ?_ ?_
    ·co_still (Xm Old _)
    clear hK K;try walk_nrm
    refine y_ (by kernel_rfl) ?_ _;intro _ hR;replace hF:=HB.rely (Old:=Old) hA hF hR;clear hR;simp only[zM];by_cases a1:x i<x l
    ·refine Zm (t:=true) (by simp[Act.eval, *]) ?_
     simp only[if_true];refine zl ?_;simp only[tQ,nM,pC,tR,lQ,mO,List.range.loop];co_applyP z8 rfl (by rfl)
     case hv=>intro W K hK;go_simp;exact hK
     case he=>intro W;simp[go_sem, *]
     try walk_nrm
     co_applyP z8 rfl (by rfl)
     case hv=>intro W K hK;go_simp;exact hK
     case he=>intro W;simp[go_sem, *]
     try walk_nrm
     refine zp ?_;exact⟨rfl,hF,_,_,_,_,_,_,_,_,_,_,_,_,_,_,_,_,by rw[J_ a0 a1]⟩
    ·refine Zm (t:=false) (by simp[Act.eval, *]) ?_
     simp only[eU,if_false];refine yu ?_;exact⟨rfl,hF,_,_,_,_,_,_,_,_,_,_,_,_,_,_,_,_,by rw[oZ a0 a1]⟩
  ·have b1:¬(l:Int)<(n:Int):=by omega
   refine Xk (by kernel_rfl) ?_;intro _ hR;replace hF:=HB.rely (Old:=Old) hA (HB.rely (Old:=Old) hA hF hR) (Xp _);clear hR;simp only[tQ,nM,pC,tR,lQ];co_applyP zd (i:=0) rfl (by kernel_rfl) (by kernel_rfl) (by kernel_rfl) (by rfl)
   case hv=>intro W K hK;go_simp;exact hK
   case he=>intro W;simp[go_sem, *]
   try walk_nrm
   co_applyP zd (i:=1) rfl (by kernel_rfl) (by kernel_rfl) (by kernel_rfl) (by rfl)
   case hv=>intro W K hK;go_simp;exact hK
   case he=>intro W;simp[go_sem, *]
   try walk_nrm
   co_applyP zd (i:=2) rfl (by kernel_rfl) (by kernel_rfl) (by kernel_rfl) (by rfl)
   case hv=>intro W K hK;go_simp;exact hK
   case he=>intro W;simp[go_sem, *]
   try walk_nrm
   co_applyP zd (i:=3) rfl (by kernel_rfl) (by kernel_rfl) (by kernel_rfl) (by rfl)
   case hv=>intro W K hK;go_simp;exact hK
   case he=>intro W;simp[go_sem, *]
   try walk_nrm
   co_applyP zd (i:=4) rfl (by kernel_rfl) (by kernel_rfl) (by kernel_rfl) (by rfl)
   case hv=>intro W K hK;go_simp;exact hK
   case he=>intro W;simp[go_sem, *]
   try walk_nrm
   refine z_ (i:=5) rfl (by kernel_rfl) (by kernel_rfl) (by kernel_rfl) (by rfl) ?_;try walk_nrm
   refine z_ (i:=6) rfl (by kernel_rfl) (by kernel_rfl) (by kernel_rfl) (by rfl) ?_;try walk_nrm
   refine z_ (i:=7) rfl (by kernel_rfl) (by kernel_rfl) (by kernel_rfl) (by rfl) ?_;try walk_nrm
   refine z_ (i:=8) rfl (by kernel_rfl) (by kernel_rfl) (by kernel_rfl) (by rfl) ?_;try walk_nrm
   refine z_ (i:=9) rfl (by kernel_rfl) (by kernel_rfl) (by kernel_rfl) (by rfl) ?_;try walk_nrm
   refine z_ (i:=10) rfl (by kernel_rfl) (by kernel_rfl) (by kernel_rfl) (by rfl) ?_;try walk_nrm
   refine z_ (i:=11) rfl (by kernel_rfl) (by kernel_rfl) (by kernel_rfl) (by rfl) ?_;try walk_nrm
   refine z_ (i:=12) rfl (by kernel_rfl) (by kernel_rfl) (by kernel_rfl) (by rfl) ?_;try walk_nrm
   refine z_ (i:=13) rfl (by kernel_rfl) (by kernel_rfl) (by kernel_rfl) (by rfl) ?_;try walk_nrm
   refine zR (i:=14) (by kernel_rfl) rfl (by rfl) ?_;intro _ hR K hK;replace hF:=HB.rely (Old:=Old) hA hF hR;clear hR;go_simp
   refine hK _ _ ?_ ?_
   ·co_still (Xm Old _)
   clear hK K;try walk_nrm
   refine y_ (by kernel_rfl) ?_ _;intro _ hR;replace hF:=HB.rely (Old:=Old) hA hF hR;clear hR;simp only[zM];refine Zm (t:=false) (by simp[Act.eval, *]) ?_;simp only[eU,if_false];refine yu ?_;exact⟨rfl,hF,_,_,_,_,_,_,_,_,_,_,_,_,_,_,_,_,by rw[u4 a0]⟩
 ·rintro A2 a2 w2 ⟨rfl,hF,t9,a4,a5,a6,a7,a8,a9,b3,b4,b5,b6,b7,b8,b9,c6,c7,rfl⟩
  have f0:=cu (x:=x) (l:=l) hi;generalize zQ n x i l=i1 at*;refine Vj (fun B2 a2 w2=>B2=A2∧HB O H g n cap x w2∧∃(c8 c9 d3 d4 d5 d6 d7 d8 d9 e1 e2 e3 e6 e7 e8 e9:eB),a2=⟨#[.slice (some ⟨g,0,none⟩) n cap,.int .i64 (zQ n x i1 r:Int),.int .i64 (l:Int),.int .i64 (r:Int),lS,lS,lS,lS,.int .i64 0,t9,a4,a5,a6,a7,a8,a9,b3,b4,b5,b6,b7,b8,b9,c6,c7,c8,c9,d3,d4,d5,d6,d7,d8,d9,e1,e2,e3,e6,e7,e8,e9,lS],[]⟩) ?_ ?_
  ·refine wpO_seq ?_
   by_cases a0:r<n
   ·have b1:(r:Int)<(n:Int):=by omega
    have b2:(i1:Int)<(n:Int):=by omega
    refine Xk (by kernel_rfl) ?_;intro _ hR;replace hF:=HB.rely (Old:=Old) hA (HB.rely (Old:=Old) hA hF hR) (Xp _);clear hR;simp only[tQ,nM,pC,tR,lQ];co_applyP zd (i:=0) rfl (by kernel_rfl) (by kernel_rfl) (by kernel_rfl) (by rfl)
    case hv=>intro W K hK;go_simp;exact hK
    case he=>intro W;simp[go_sem, *]
    try walk_nrm
    co_applyP zd (i:=1) rfl (by kernel_rfl) (by kernel_rfl) (by kernel_rfl) (by rfl)
    case hv=>intro W K hK;go_simp;exact hK
    case he=>intro W;simp[go_sem, *]
    try walk_nrm
    co_applyP zd (i:=2) rfl (by kernel_rfl) (by kernel_rfl) (by kernel_rfl) (by rfl)
    case hv=>intro W K hK;go_simp;exact hK
    case he=>intro W;simp[go_sem, *]
    try walk_nrm
    co_applyP zd (i:=3) rfl (by kernel_rfl) (by kernel_rfl) (by kernel_rfl) (by rfl)
    case hv=>intro W K hK;go_simp;exact hK
    case he=>intro W;simp[go_sem, *]
    try walk_nrm
    co_applyP zd (i:=4) rfl (by kernel_rfl) (by kernel_rfl) (by kernel_rfl) (by rfl)
    case hv=>intro W K hK;go_simp;exact hK
    case he=>intro W;simp[go_sem, *]
    try walk_nrm
    co_applyP zd (i:=5) rfl (by kernel_rfl) (by kernel_rfl) (by kernel_rfl) (by rfl)
    case hv=>intro W K hK;go_simp;exact hK
    case he=>intro W;simp[go_sem, *]
    try walk_nrm
    co_applyP zd (i:=6) rfl (by kernel_rfl) (by kernel_rfl) (by kernel_rfl) (by rfl)
    case hv=>intro W K hK;go_simp;exact hK
    case he=>intro W;simp[go_sem, *]
    try walk_nrm
    co_applyP zd (i:=7) rfl (by kernel_rfl) (by kernel_rfl) (by kernel_rfl) (by rfl)
    case hv=>intro W K hK;go_simp;exact hK
    case he=>intro W;simp[go_sem, *]
    try walk_nrm
    co_applyP zd (i:=9) rfl (by kernel_rfl) (by kernel_rfl) (by kernel_rfl) (by rfl)
    case hv=>intro W K hK;go_simp;exact hK
    case he=>intro W;simp[go_sem, *]
    try walk_nrm
    co_applyP zd (i:=10) rfl (by kernel_rfl) (by kernel_rfl) (by kernel_rfl) (by rfl)
    case hv=>intro W K hK;go_simp;exact hK
    case he=>intro W;simp[go_sem, *]
    try walk_nrm
    co_applyP zd (i:=11) rfl (by kernel_rfl) (by kernel_rfl) (by kernel_rfl) (by rfl)
    case hv=>intro W K hK;go_simp;exact hK
    case he=>intro W;simp[go_sem, *]
    try walk_nrm
    refine any_all (rs:=[8,12]) (by kernel_rfl) (by decide) ?_;intro _ hR i hi;replace hF:=HB.rely (Old:=Old) hA hF hR;clear hR;simp only[iT,lA,or_false]at hi;rcases hi with rfl|rfl
    all_goals
     refine qn rfl (by rfl) ?_;intro _ hR K hK;replace hF:=HB.rely (Old:=Old) hA hF hR;clear hR;have hc:=hF.cell a0;have hd:=hF.cell (j:=i1) (by omega);go_simp
     refine hK _ _ ?_ ?_
     ·exact zD _ (by co_evs (exact zV hA.1 _ _))
     clear hK K hc hd;try walk_nrm
     first|refine zR (i:=12) (by decide+kernel) rfl (by rfl) ?_|refine zR (i:=8) (by decide+kernel) rfl (by rfl) ?_
     intro _ hR K hK;replace hF:=HB.rely (Old:=Old) hA hF hR;clear hR;have hc:=hF.cell (j:=i1) (by omega);have hd:=hF.cell a0;go_simp
     refine hK _ _ ?_ ?_
     ·exact zD _ (by co_evs (exact zV hA.1 _ _))
     clear hK K hc hd;try walk_nrm
     refine zR (i:=13) (by kernel_rfl) rfl (by rfl) ?_;intro _ hR K hK;replace hF:=HB.rely (Old:=Old) hA hF hR;clear hR;go_simp
     refine hK _ _ ?_ ?_
     ·co_still (Xm Old _)
     clear hK K;try walk_nrm
     refine zR (i:=14) (by kernel_rfl) rfl (by rfl) ?_;intro _ hR K hK;replace hF:=HB.rely (Old:=Old) hA hF hR;clear hR;go_simp
     refine hK _ _ ?_ ?_
     ·co_still (Xm Old _)
     clear hK K;try walk_nrm
     refine y_ (by kernel_rfl) ?_ _;intro _ hR;replace hF:=HB.rely (Old:=Old) hA hF hR;clear hR;simp only[zM];by_cases a1:x i1<x r
     ·refine Zm (t:=true) (by simp[Act.eval, *]) ?_
      simp only[if_true];refine zl ?_;simp only[tQ,nM,pC,tR,lQ,mO,List.range.loop];co_applyP z8 rfl (by rfl)
      case hv=>intro W K hK;go_simp;exact hK
      case he=>intro W;simp[go_sem, *]
      try walk_nrm
      co_applyP z8 rfl (by rfl)
      case hv=>intro W K hK;go_simp;exact hK
      case he=>intro W;simp[go_sem, *]
      try walk_nrm
      refine zp ?_;exact⟨rfl,hF,_,_,_,_,_,_,_,_,_,_,_,_,_,_,_,_,by rw[J_ a0 a1]⟩
     ·refine Zm (t:=false) (by simp[Act.eval, *]) ?_
      simp only[eU,if_false];refine yu ?_;exact⟨rfl,hF,_,_,_,_,_,_,_,_,_,_,_,_,_,_,_,_,by rw[oZ a0 a1]⟩
   ·have b1:¬(r:Int)<(n:Int):=by omega
    refine Xk (by kernel_rfl) ?_;intro _ hR;replace hF:=HB.rely (Old:=Old) hA (HB.rely (Old:=Old) hA hF hR) (Xp _);clear hR;simp only[tQ,nM,pC,tR,lQ];co_applyP zd (i:=0) rfl (by kernel_rfl) (by kernel_rfl) (by kernel_rfl) (by rfl)
    case hv=>intro W K hK;go_simp;exact hK
    case he=>intro W;simp[go_sem, *]
    try walk_nrm
    co_applyP zd (i:=1) rfl (by kernel_rfl) (by kernel_rfl) (by kernel_rfl) (by rfl)
    case hv=>intro W K hK;go_simp;exact hK
    case he=>intro W;simp[go_sem, *]
    try walk_nrm
    co_applyP zd (i:=2) rfl (by kernel_rfl) (by kernel_rfl) (by kernel_rfl) (by rfl)
    case hv=>intro W K hK;go_simp;exact hK
    case he=>intro W;simp[go_sem, *]
    try walk_nrm
    co_applyP zd (i:=3) rfl (by kernel_rfl) (by kernel_rfl) (by kernel_rfl) (by rfl)
    case hv=>intro W K hK;go_simp;exact hK
    case he=>intro W;simp[go_sem, *]
    try walk_nrm
    co_applyP zd (i:=4) rfl (by kernel_rfl) (by kernel_rfl) (by kernel_rfl) (by rfl)
    case hv=>intro W K hK;go_simp;exact hK
    case he=>intro W;simp[go_sem, *]
    try walk_nrm
    refine z_ (i:=5) rfl (by kernel_rfl) (by kernel_rfl) (by kernel_rfl) (by rfl) ?_;try walk_nrm
    refine z_ (i:=6) rfl (by kernel_rfl) (by kernel_rfl) (by kernel_rfl) (by rfl) ?_;try walk_nrm
    refine z_ (i:=7) rfl (by kernel_rfl) (by kernel_rfl) (by kernel_rfl) (by rfl) ?_;try walk_nrm
    refine z_ (i:=8) rfl (by kernel_rfl) (by kernel_rfl) (by kernel_rfl) (by rfl) ?_;try walk_nrm
    refine z_ (i:=9) rfl (by kernel_rfl) (by kernel_rfl) (by kernel_rfl) (by rfl) ?_;try walk_nrm
    refine z_ (i:=10) rfl (by kernel_rfl) (by kernel_rfl) (by kernel_rfl) (by rfl) ?_;try walk_nrm
    refine z_ (i:=11) rfl (by kernel_rfl) (by kernel_rfl) (by kernel_rfl) (by rfl) ?_;try walk_nrm
    refine z_ (i:=12) rfl (by kernel_rfl) (by kernel_rfl) (by kernel_rfl) (by rfl) ?_;try walk_nrm
    refine z_ (i:=13) rfl (by kernel_rfl) (by kernel_rfl) (by kernel_rfl) (by rfl) ?_;try walk_nrm
    refine zR (i:=14) (by kernel_rfl) rfl (by rfl) ?_;intro _ hR K hK;replace hF:=HB.rely (Old:=Old) hA hF hR;clear hR;go_simp
    refine hK _ _ ?_ ?_
    ·co_still (Xm Old _)
    clear hK K;try walk_nrm
    refine y_ (by kernel_rfl) ?_ _;intro _ hR;replace hF:=HB.rely (Old:=Old) hA hF hR;clear hR;simp only[zM];refine Zm (t:=false) (by simp[Act.eval, *]) ?_;simp only[eU,if_false];refine yu ?_;exact⟨rfl,hF,_,_,_,_,_,_,_,_,_,_,_,_,_,_,_,_,by rw[u4 a0]⟩
  ·rintro A3 a3 w3 ⟨rfl,hF,c8,c9,d3,d4,d5,d6,d7,d8,d9,e1,e2,e3,e6,e7,e8,e9,rfl⟩
   refine wpO_seq ?_;refine zl ?_;simp only[tQ,nM,pC,tR,lQ,mO,List.range.loop];co_applyP z8 rfl (by rfl)
   case hv=>intro W K hK;go_simp;exact hK
   case he=>intro W;simp[go_sem, *]
   try walk_nrm
   co_applyP z8 rfl (by rfl)
   case hv=>intro W K hK;go_simp;exact hK
   case he=>intro W;simp[go_sem, *]
   try walk_nrm
   refine zp ?_;simp only[zM];refine KX ?_;exact⟨rfl,_,resultsC_tmp (by rfl) _,rfl,rfl,hF⟩
end
def qF:Nat→Nat→(Nat→Int)→Nat→(Nat→Int)
 |0,_,x,_=>x
 |f+1,n,x,i=>if zQ n x (zQ n x i (2*i+1)) (2*i+2)=i then x else qF f n (swp x i (zQ n x (zQ n x i (2*i+1)) (2*i+2))) (zQ n x (zQ n x i (2*i+1)) (2*i+2))
theorem Xn (n:Nat)(x:Nat→Int)(i l:Nat):zQ n x i l=i∨(zQ n x i l=l∧l<n):=by
 unfold zQ;split
 ·rename_i h;exact .inr ⟨rfl,h.1⟩
 ·exact .inl rfl
theorem B7 (n:Nat)(x:Nat→Int)(i:Nat):zQ n x (zQ n x i (2*i+1)) (2*i+2)=i∨(i<zQ n x (zQ n x i (2*i+1)) (2*i+2)∧zQ n x (zQ n x i (2*i+1)) (2*i+2)<n):=by
 rcases Xn n x i (2*i+1)with h|h<;>rcases Xn n x (zQ n x i (2*i+1)) (2*i+2)with k|k<;>omega
theorem vW {f n:Nat}{x:Nat→Int}{i:Nat}(h:zQ n x (zQ n x i (2*i+1)) (2*i+2)=i):qF f n x i=x:=by
 cases f with
 |zero=>rfl
 |succ f=>simp only[qF];rw[if_pos h]
theorem Ja {f n:Nat}{x:Nat→Int}{i p:Nat}(hp:zQ n x (zQ n x i (2*i+1)) (2*i+2)=p)(h:p≠i):qF (f+1) n x i=qF f n (swp x i p) p:=by
 simp only[qF];rw[hp,if_neg h]
section
variable {main:Bool}{Old A O:Blk}{H:Nat→Option Obj}
theorem Gx (g n cap:Nat)(hA:oh A O g)(x:Nat→Int)(i:Nat)(hi:i<n∨(n=0∧i=0))(hn:n≤1000)(w:eX)(hF:HB O H g n cap x w):
  yH sU main Old 208 #[.slice (some ⟨g,0,none⟩) n cap,.int .i64 i] A w fun A' v w' =>A' =A∧v= .tuple #[]∧HB O H g n cap (qF (n+1) n x i) w' :=by
 refine yZ Tryz.func208 (by rfl) rfl ?_;simp only[Tryz.ntmps208,tQ,nM,pC,tR,tS,tT,tU,tV,tX,nV,mJ];refine Yz ?_;refine jk (fun A' a w=>A' =A∧∃(y:Nat→Int) (j f:Nat) (t2 t3 t4 t5 t6 t7 t8 t9 a8 a9 b3 b4 b5 b6 b7 b8 b9 c6 c7 c8 c9 d3 d4 d5 d6 d7 d8 d9 e3 a6:eB),(j<n∨n=0)∧j≤n∧n<j+f+1∧0<f∧qF f n y j=qF (n+1) n x i∧HB O H g n cap y w∧a=⟨#[.slice (some ⟨g,0,none⟩) n cap,.int .i64 j,t2,t3,t4,t5,t6,t7,t8,t9,a8,a9,b3,b4,b5,b6,b7,b8,b9,c6,c7,c8,c9,d3,d4,d5,d6,d7,d8,d9,e3,a6],[]⟩) (fun _ a _=>n-(intOf (a.tmps.getD 1 lS)).toNat) ⟨rfl,x,i,n+1,_,_,_,_,_,_,_,_,_,_,_,_,_,_,_,_,_,_,_,_,_,_,_,_,_,_,_,_,_,_,by omega,by omega,by omega,by omega,rfl,hF,rfl⟩ ?_;clear hF;rintro A' a w ⟨rfl,y,j,f,t2,t3,t4,t5,t6,t7,t8,t9,a8,a9,b3,b4,b5,b6,b7,b8,b9,c6,c7,c8,c9,d3,d4,d5,d6,d7,d8,d9,e3,a6,hj,i3,i2,i1,a7,hF,rfl⟩;refine Yz ?_;refine wpO_seq ?_;refine zl ?_;simp only[tQ,nM,pC,tR,lQ,mO,List.range.loop];have h1:IntKind.i64.wrap (2*(j:Int))=2*(j:Int):=by rw[tY];omega
 have h2:IntKind.i64.wrap (2*(j:Int)+1)=2*(j:Int)+1:=by rw[tY];omega
 have h3:IntKind.i64.wrap (2*(j:Int)+2)=2*(j:Int)+2:=by rw[tY];omega
 co_applyP z8 rfl (by rfl)
 case hv=>intro W K hK;go_simp;exact hK
 case he=>intro W;simp[go_sem, *]
 try walk_nrm
 co_applyP z8 rfl (by rfl)
 case hv=>intro W K hK;go_simp;exact hK
 case he=>intro W;simp[go_sem, *]
 try walk_nrm
 co_applyP z8 rfl (by rfl)
 case hv=>intro W K hK;go_simp;exact hK
 case he=>intro W;simp[go_sem, *]
 try walk_nrm
 co_applyP z8 rfl (by rfl)
 case hv=>intro W K hK;go_simp;exact hK
 case he=>intro W;simp[go_sem, *]
 try walk_nrm
 co_applyP z8 rfl (by rfl)
 case hv=>intro W K hK;go_simp;exact hK
 case he=>intro W;simp[go_sem, *]
 try walk_nrm
 co_applyP z8 rfl (by rfl)
 case hv=>intro W K hK;go_simp;exact hK
 case he=>intro W;simp[go_sem, *]
 try walk_nrm
 co_applyP z8 rfl (by rfl)
 case hv=>intro W K hK;go_simp;exact hK
 case he=>intro W;simp[go_sem, *]
 try walk_nrm
 co_applyP z8 rfl (by rfl)
 case hv=>intro W K hK;go_simp;exact hK
 case he=>intro W;simp[go_sem, *]
 try walk_nrm
 have a1:=Gy (main:=main) (Old:=Old) g n cap hA y j (2*j+1) (2*j+2) hj w hF;have e1:((2*j+1:Nat):Int)=2*(j:Int)+1:=by omega
 have e2:((2*j+2:Nat):Int)=2*(j:Int)+2:=by omega
 rw[e1,e2]at a1;clear e1 e2 h1 h2 h3;refine xR rfl (by rfl) rfl (by simp[Act.eval]) a1 ?_;clear hF a1;rintro A2 v w2 ⟨rfl,rfl,hF⟩;obtain⟨p,HP⟩:∃p,Hid (zQ n y (zQ n y j (2*j+1)) (2*j+2)=p):=⟨_,rfl⟩
 rw[HP.out];try walk_nrm
 co_applyP z8 rfl (by rfl)
 case hv=>intro W K hK;go_simp;exact hK
 case he=>intro W;simp[go_sem, *]
 try walk_nrm
 refine zp ?_;simp only[zM];refine wpO_seq ?_;refine wpO_seq ?_;refine zl ?_;simp only[tQ,nM,pC,tR,lQ,mO,List.range.loop];co_applyP z8 rfl (by rfl)
 case hv=>intro W K hK;go_simp;exact hK
 case he=>intro W;simp[go_sem, *]
 try walk_nrm
 co_applyP z8 rfl (by rfl)
 case hv=>intro W K hK;go_simp;exact hK
 case he=>intro W;simp[go_sem, *]
 try walk_nrm
 co_applyP z8 rfl (by rfl)
 case hv=>intro W K hK;go_simp;exact hK
 case he=>intro W;simp[go_sem, *]
 try walk_nrm
 refine zp ?_;simp only[zM];have a5:=B7 n y j;rw[HP.out]at a5;have g9:Hid (p=j∨(j<p∧p<n)):=a5;clear a5;by_cases a4:p=j
 ·subst a4
  refine Zm (t:=true) (by simp[Act.eval]) ?_;simp only[if_true];refine KX ?_;simp only[zM,ZD];refine⟨rfl,_,resultsC_none (by rfl) _,by first|rfl|trivial,by first|rfl|trivial,?_⟩;rw[←a7,vW HP.out];exact hF
 ·refine Zm (t:=false) (by simp[Act.eval];omega) ?_
  simp only[eU,if_false];refine yu ?_;simp only[zM];have h0:j<p∧p<n:=g9.out.resolve_left a4;obtain⟨i0,i4⟩:=h0;have a0 :j<n:=by omega
  have b1:(j:Int)<(n:Int):=by omega
  have b2:(p:Int)<(n:Int):=by omega
  refine Vj (fun B2 a2 w2=>B2=A2∧HB O H g n cap (swp y j p) w2∧∃(u5 u6 u7 u8 u9 e6 e7 e8 e9 f0 f3 f4 f5 f6 f7 f8 f9 g0 g1 g2 g3 g4 g5 g6 g7 g8:eB),a2=⟨#[.slice (some ⟨g,0,none⟩) n cap,.int .i64 (j:Int),t2,t3,.int .i64 (p:Int),u5,u6,u7,u8,u9,e6,e7,e8,e9,f0,f3,f4,f5,f6,f7,f8,f9,g0,g1,g2,g3,g4,g5,g6,g7,g8,a6],[]⟩) ?_ ?_
  ·refine Xk (by kernel_rfl) ?_
   intro _ hR;replace hF:=HB.rely (Old:=Old) hA (HB.rely (Old:=Old) hA hF hR) (Xp _);clear hR;simp only[tQ,nM,pC,tR,lQ];co_applyP zd (i:=0) rfl (by kernel_rfl) (by kernel_rfl) (by kernel_rfl) (by rfl)
   case hv=>intro W K hK;go_simp;exact hK
   case he=>intro W;simp[go_sem, *]
   try walk_nrm
   co_applyP zd (i:=1) rfl (by kernel_rfl) (by kernel_rfl) (by kernel_rfl) (by rfl)
   case hv=>intro W K hK;go_simp;exact hK
   case he=>intro W;simp[go_sem, *]
   try walk_nrm
   co_applyP zd (i:=2) rfl (by kernel_rfl) (by kernel_rfl) (by kernel_rfl) (by rfl)
   case hv=>intro W K hK;go_simp;exact hK
   case he=>intro W;simp[go_sem, *]
   try walk_nrm
   co_applyP zd (i:=3) rfl (by kernel_rfl) (by kernel_rfl) (by kernel_rfl) (by rfl)
   case hv=>intro W K hK;go_simp;exact hK
   case he=>intro W;simp[go_sem, *]
   try walk_nrm
   co_applyP zd (i:=4) rfl (by kernel_rfl) (by kernel_rfl) (by kernel_rfl) (by rfl)
   case hv=>intro W K hK;go_simp;exact hK
   case he=>intro W;simp[go_sem, *]
   try walk_nrm
   co_applyP zd (i:=5) rfl (by kernel_rfl) (by kernel_rfl) (by kernel_rfl) (by rfl)
   case hv=>intro W K hK;go_simp;exact hK
   case he=>intro W;simp[go_sem, *]
   try walk_nrm
   co_applyP zd (i:=6) rfl (by kernel_rfl) (by kernel_rfl) (by kernel_rfl) (by rfl)
   case hv=>intro W K hK;go_simp;exact hK
   case he=>intro W;simp[go_sem, *]
   try walk_nrm
   co_applyP zd (i:=8) rfl (by kernel_rfl) (by kernel_rfl) (by kernel_rfl) (by rfl)
   case hv=>intro W K hK;go_simp;exact hK
   case he=>intro W;simp[go_sem, *]
   try walk_nrm
   co_applyP zd (i:=9) rfl (by kernel_rfl) (by kernel_rfl) (by kernel_rfl) (by rfl)
   case hv=>intro W K hK;go_simp;exact hK
   case he=>intro W;simp[go_sem, *]
   try walk_nrm
   co_applyP zd (i:=10) rfl (by kernel_rfl) (by kernel_rfl) (by kernel_rfl) (by rfl)
   case hv=>intro W K hK;go_simp;exact hK
   case he=>intro W;simp[go_sem, *]
   try walk_nrm
   refine any_all (rs:=[7,11]) (by kernel_rfl) (by decide) ?_;intro _ hR i hi;replace hF:=HB.rely (Old:=Old) hA hF hR;clear hR;simp only[iT,lA,or_false]at hi;rcases hi with rfl|rfl
   all_goals
    refine qn rfl (by rfl) ?_;intro _ hR K hK;replace hF:=HB.rely (Old:=Old) hA hF hR;clear hR;have hc:=hF.cell (j:=p) (by omega);have hd:=hF.cell a0;go_simp
    refine hK _ _ ?_ ?_
    ·exact zD _ (by co_evs (exact zV hA.1 _ _))
    clear hK K hc hd;try walk_nrm
    first|refine zR (i:=11) (by decide+kernel) rfl (by rfl) ?_|refine zR (i:=7) (by decide+kernel) rfl (by rfl) ?_
    intro _ hR K hK;replace hF:=HB.rely (Old:=Old) hA hF hR;clear hR;have hc:=hF.cell a0;have hd:=hF.cell (j:=p) (by omega);go_simp
    refine hK _ _ ?_ ?_
    ·exact zD _ (by co_evs (exact zV hA.1 _ _))
    clear hK K hc hd;try walk_nrm
    refine zR (i:=12) (by kernel_rfl) rfl (by rfl) ?_;intro _ hR K hK;replace hF:=HB.rely (Old:=Old) hA hF hR;clear hR;go_simp
    refine hK _ _ ?_ ?_
    ·co_still (Xm Old _)
    clear hK K;try walk_nrm
    refine zR (i:=13) (by kernel_rfl) rfl (by rfl) ?_;intro _ hR K hK;replace hF:=HB.rely (Old:=Old) hA hF hR;clear hR;have hc:=hF.cell a0;have hz:=hF.fr j;go_simp
    try(unfold stored;go_simp)
    refine hK _ _ ?_ ?_
    ·exact Y8 hA.1 _ _ _ (by co_evs (exact zV hA.1 _ _))
    replace hF:=hF.set hA a0 (y p);clear hK K hc hz;try walk_nrm
    refine zR (i:=14) (by kernel_rfl) rfl (by rfl) ?_;intro _ hR K hK;replace hF:=HB.rely (Old:=Old) hA hF hR;clear hR;go_simp
    refine hK _ _ ?_ ?_
    ·co_still (Xm Old _)
    clear hK K;try walk_nrm
    refine zR (i:=15) (by kernel_rfl) rfl (by rfl) ?_;intro _ hR K hK;replace hF:=HB.rely (Old:=Old) hA hF hR;clear hR;have hc:=hF.cell (j:=p) (by omega);have hz:=hF.fr p;go_simp
    try(unfold stored;go_simp)
    refine hK _ _ ?_ ?_
    ·exact Y8 hA.1 _ _ _ (by co_evs (exact zV hA.1 _ _))
    replace hF:=hF.set hA (j:=p) (by omega) (y j);clear hK K hc hz;try walk_nrm
    refine y_ (by kernel_rfl) ?_ _;intro _ hR;replace hF:=HB.rely (Old:=Old) hA hF hR;clear hR;simp only[zM];exact⟨by first|rfl|trivial,hF,_,_,_,_,_,_,_,_,_,_,_,_,_,_,_,_,_,_,_,_,_,_,_,_,_,_,rfl⟩
  ·rintro A3 a3 w3 ⟨rfl,hF,u5,u6,u7,u8,u9,e6,e7,e8,e9,f0,f3,f4,f5,f6,f7,f8,f9,g0,g1,g2,g3,g4,g5,g6,g7,g8,rfl⟩
   refine zl ?_;simp only[tQ,nM,pC,tR,lQ,mO,List.range.loop];co_applyP z8 rfl (by rfl)
   case hv=>intro W K hK;go_simp;exact hK
   case he=>intro W;simp[go_sem, *]
   try walk_nrm
   co_applyP z8 rfl (by rfl)
   case hv=>intro W K hK;go_simp;exact hK
   case he=>intro W;simp[go_sem, *]
   try walk_nrm
   refine zp ?_;simp only[zM,ZD];obtain⟨f',rfl⟩:∃f',f=f' +1:=⟨f-1,by omega⟩
   refine⟨⟨by first|rfl|trivial,swp y j p,p,f',_,_,_,_,_,_,_,_,_,_,_,_,_,_,_,_,_,_,_,_,_,_,_,_,_,_,_,_,_,_,by omega,by omega,by omega,by omega,?_,hF,rfl⟩,by simp[intOf];omega⟩;rw[←a7,Ja HP.out a4]
end
section
abbrev HH (nb:Nat)(v:eB)(g n cap:Nat)(x:Nat→Int)(w:eX):Prop:=HB (fun b=>b=nb) (fun _=>some (.cells #[v] 202 (0,0))) g n cap x w
section
variable {nb g n cap:Nat}{v:eB}{x:Nat→Int}{w:eX}
theorem HB.cellv (h:HH nb v g n cap x w):w.cell? ⟨nb,0,none⟩=some v:=by simp[sE,h.oth nb rfl]
theorem HB.frv (h:HH nb v g n cap x w):w.frozen? ⟨nb,0,none⟩=false:=by simp[tN,h.oth nb rfl]
theorem HB.setv (h:HH nb v g n cap x w)(a0:nb≠g)(v' :eB):HH nb v' g n cap x (w.setCell ⟨nb,0,none⟩ v'):=by
 refine⟨fun b hb=> ?_,?_⟩
 ·subst hb
  simp[tP,lO,h.oth b rfl]
 ·obtain⟨cs,h1,h2⟩:=h.ex
  exact⟨cs,by simpa[tP,lO,a0]using h1,h2⟩
end
theorem FZ (W:eX)(a:Addr)(n cap m:Nat)(h:m≤cap):(Instr.sliceAt 202 (.slice (some a) n cap) none (some (.int .i64 (m:Int))) none).run sU W= .ok (.slice (some a) m cap) W:=by
 have hu:=tZ;simp[Instr.sliceAt,run_underlying hu,Instr.slice,Instr.sliceBounds,Instr.sliceBound,go_sem];intro h';omega
theorem fD (W:eX)(a:Addr)(n cap m:Nat)(h:m≤cap)(es:Array eS):(Instr.sliceAt 202 (.slice (some a) n cap) none (some (.int .i64 (m:Int))) none).events sU W es=es:=by
 have hu:=tZ;simp[Instr.sliceAt,run_underlying hu,Instr.slice,Instr.sliceBounds,Instr.sliceBound,go_sem];rw[if_pos h,if_pos h]
theorem Qj (P:Program)(w:eX)(es:Array eS)(a:Addr)(m:Mode)(b:Option Addr)(l c:Nat):(store a (.slice b l c) m).events P w es=storedEv P w es a (.slice b l c) m:=events_store P w es a _ m rfl
attribute [local go_sem] Qj
def vx (n:Nat)(x:Nat→Int):Nat→Int:=qF n (n-1) (YW x 0 (x (n-1))) 0
section
variable {main:Bool}{Old A:Blk}
theorem dJ (nb g n cap:Nat)(hA:oh A (fun b=>b=nb) g)(x:Nat→Int)(h0:0<n)(hn:n≤1000)(a2:n≤cap)(a1:cap≤9223372036854775807)(w:eX)(hF:HH nb (.slice (some ⟨g,0,none⟩) n cap) g n cap x w):
  yH sU main Old 156 #[.pointer (some ⟨nb,0,none⟩)] A w fun A' v w' =>A' =A∧v= .int .i64 (x 0)∧HH nb (.slice (some ⟨g,0,none⟩) (n-1) cap) g (n-1) cap (vx n x) w' :=by
 refine yZ Tryz.func156 (by rfl) rfl ?_;simp only[Tryz.ntmps156,tQ,nM,pC,tR,tS,tT,tU,tV,tX,nV,mJ];have h1:(n:Int)-1=((n-1:Nat):Int):=by omega
 have h2:IntKind.i64.wrap ((n-1:Nat):Int)=((n-1:Nat):Int):=by rw[tY];omega
 have b1:((n-1:Nat):Int)<(n:Int):=by omega
 have a3:=fun W=>FZ W ⟨g,0,none⟩ n cap (n-1) (by omega)
 have a4:=fun W es=>fD W ⟨g,0,none⟩ n cap (n-1) (by omega) es
 refine wpO_seq ?_;refine zl ?_;simp only[tQ,nM,pC,tR,lQ,mO,List.range.loop];co_applyP z8 rfl (by rfl)
 case hv=>intro W K hK;go_simp;exact hK
 case he=>intro W;simp[go_sem, *]
 try walk_nrm
 refine zp ?_;simp only[zM];refine wpO_seq ?_;refine zl ?_;simp only[tQ,nM,pC,tR,lQ,mO,List.range.loop];co_applyP z8 rfl (by rfl)
 case hv=>intro W K hK;go_simp;exact hK
 case he=>intro W;simp[go_sem, *]
 try walk_nrm
 co_applyP z8 rfl (by rfl)
 case hv=>intro W K hK;go_simp;exact hK
 case he=>intro W;simp[go_sem, *]
 try walk_nrm
 refine zJ rfl (by rfl) ?_;intro _ hR K hK;replace hF:=HB.rely (Old:=Old) hA hF hR;clear hR;have hc:=hF.cellv;go_simp
 refine hK _ _ A ?_ ?_
 ·exact zD _ (by co_evs (exact zV (hA.2 nb rfl).1 _ _))
 clear hK K hc;try walk_nrm
 co_applyP z8 rfl (by rfl)
 case hv=>intro W K hK;go_simp;exact hK
 case he=>intro W;simp[go_sem, *]
 try walk_nrm
 refine zp ?_;simp only[zM];refine wpO_seq ?_;refine zl ?_;simp only[tQ,nM,pC,tR,lQ,mO,List.range.loop];co_applyP z8 rfl (by rfl)
 case hv=>intro W K hK;go_simp;exact hK
 case he=>intro W;simp[go_sem, *]
 try walk_nrm
 co_applyP z8 rfl (by rfl)
 case hv=>intro W K hK;go_simp;exact hK
 case he=>intro W;simp[go_sem, *]
 try walk_nrm
 refine zJ rfl (by rfl) ?_;intro _ hR K hK;replace hF:=HB.rely (Old:=Old) hA hF hR;clear hR;have hc:=hF.cell (j:=0) h0;go_simp
 refine hK _ _ A ?_ ?_
 ·exact zD _ (by co_evs (exact zV hA.1 _ _))
 clear hK K hc;try walk_nrm
 co_applyP z8 rfl (by rfl)
 case hv=>intro W K hK;go_simp;exact hK
 case he=>intro W;simp[go_sem, *]
 try walk_nrm
 co_applyP z8 rfl (by rfl)
 case hv=>intro W K hK;go_simp;exact hK
 case he=>intro W;simp[go_sem, *]
 try walk_nrm
 co_applyP z8 rfl (by rfl)
 case hv=>intro W K hK;go_simp;exact hK
 case he=>intro W;simp[go_sem, *]
 try walk_nrm
 co_applyP z8 rfl (by rfl)
 case hv=>intro W K hK;go_simp;exact hK
 case he=>intro W;simp[go_sem, *]
 try walk_nrm
 co_applyP z8 rfl (by rfl)
 case hv=>intro W K hK;go_simp;exact hK
 case he=>intro W;simp[go_sem, *]
 try walk_nrm
 refine zp ?_;simp only[zM];refine wpO_seq ?_;refine zl ?_;simp only[tQ,nM,pC,tR,lQ,mO,List.range.loop];co_applyP z8 rfl (by rfl)
 case hv=>intro W K hK;go_simp;exact hK
 case he=>intro W;simp[go_sem, *]
 try walk_nrm
 co_applyP z8 rfl (by rfl)
 case hv=>intro W K hK;go_simp;exact hK
 case he=>intro W;simp[go_sem, *]
 try walk_nrm
 co_applyP z8 rfl (by rfl)
 case hv=>intro W K hK;go_simp;exact hK
 case he=>intro W;simp[go_sem, *]
 try walk_nrm
 co_applyP z8 rfl (by rfl)
 case hv=>intro W K hK;go_simp;exact hK
 case he=>intro W;simp[go_sem, *]
 try walk_nrm
 refine zJ rfl (by rfl) ?_;intro _ hR K hK;replace hF:=HB.rely (Old:=Old) hA hF hR;clear hR;have hc:=hF.cell (j:=n-1) (by omega);go_simp
 refine hK _ _ A ?_ ?_
 ·exact zD _ (by co_evs (exact zV hA.1 _ _))
 clear hK K hc;try walk_nrm
 co_applyP z8 rfl (by rfl)
 case hv=>intro W K hK;go_simp;exact hK
 case he=>intro W;simp[go_sem, *]
 try walk_nrm
 refine zJ rfl (by rfl) ?_;intro _ hR K hK;replace hF:=HB.rely (Old:=Old) hA hF hR;clear hR;have hc:=hF.cell (j:=0) h0;have hz:=hF.fr 0;go_simp
 try(unfold stored;go_simp)
 refine hK _ _ A ?_ ?_
 ·exact Y8 hA.1 _ _ _ (by co_evs (exact zV hA.1 _ _))
 replace hF:=hF.set hA (j:=0) h0 (x (n-1));clear hK K hc hz;try walk_nrm
 refine zp ?_;simp only[zM];refine wpO_seq ?_;refine zl ?_;simp only[tQ,nM,pC,tR,lQ,mO,List.range.loop];co_applyP z8 rfl (by rfl)
 case hv=>intro W K hK;go_simp;exact hK
 case he=>intro W;simp[go_sem, *]
 try walk_nrm
 co_applyP z8 rfl (by rfl)
 case hv=>intro W K hK;go_simp;exact hK
 case he=>intro W;simp[go_sem, *]
 try walk_nrm
 co_applyP z8 rfl (by rfl)
 case hv=>intro W K hK;go_simp;exact hK
 case he=>intro W;simp[go_sem, *]
 try walk_nrm
 co_applyP z8 rfl (by rfl)
 case hv=>intro W K hK;go_simp;exact hK
 case he=>intro W;simp[go_sem, *]
 try walk_nrm
 co_applyP z8 rfl (by rfl)
 case hv=>intro W K hK;go_simp;exact hK
 case he=>intro W;simp[go_sem, *]
 try walk_nrm
 refine zJ rfl (by rfl) ?_;intro _ hR K hK;replace hF:=HB.rely (Old:=Old) hA hF hR;clear hR;have hc:=hF.cellv;have hz:=hF.frv;go_simp
 try(unfold stored;go_simp)
 refine hK _ _ A ?_ ?_
 ·exact Y8 (hA.2 nb rfl).1 _ _ _ (by co_evs (exact zV (hA.2 nb rfl).1 _ _))
 replace hF:=hF.setv (hA.2 nb rfl).2 (.slice (some ⟨g,0,none⟩) (n-1) cap);clear hK K hc hz;try walk_nrm
 refine zp ?_;simp only[zM];refine wpO_seq ?_;refine zl ?_;simp only[tQ,nM,pC,tR,lQ,mO,List.range.loop];co_applyP z8 rfl (by rfl)
 case hv=>intro W K hK;go_simp;exact hK
 case he=>intro W;simp[go_sem, *]
 try walk_nrm
 co_applyP z8 rfl (by rfl)
 case hv=>intro W K hK;go_simp;exact hK
 case he=>intro W;simp[go_sem, *]
 try walk_nrm
 refine zJ rfl (by rfl) ?_;intro _ hR K hK;replace hF:=HB.rely (Old:=Old) hA hF hR;clear hR;have hc:=hF.cellv;go_simp
 refine hK _ _ A ?_ ?_
 ·exact zD _ (by co_evs (exact zV (hA.2 nb rfl).1 _ _))
 clear hK K hc;try walk_nrm
 replace hF:=hF.less (m:=n-1) (by omega);have a0:=Gx (main:=main) (Old:=Old) (A:=A) g (n-1) cap hA (YW x 0 (x (n-1))) 0 (by omega) (by omega) _ hF;refine xR rfl (by rfl) rfl (by simp[Act.eval]) a0 ?_;clear hF a0;rintro A2 v w2 ⟨rfl,rfl,hF⟩;try walk_nrm
 refine zp ?_;simp only[zM];refine wpO_seq ?_;refine zl ?_;simp only[tQ,nM,pC,tR,lQ,mO,List.range.loop];co_applyP z8 rfl (by rfl)
 case hv=>intro W K hK;go_simp;exact hK
 case he=>intro W;simp[go_sem, *]
 try walk_nrm
 co_applyP z8 rfl (by rfl)
 case hv=>intro W K hK;go_simp;exact hK
 case he=>intro W;simp[go_sem, *]
 try walk_nrm
 refine zp ?_;simp only[zM];refine KX ?_;refine⟨rfl,_,resultsC_tmp (by rfl) _,rfl,rfl,?_⟩;have e:n-1+1=n:=by omega
 rw[e]at hF;exact hF
end
end
section
structure HR (A:Blk)(nb:Nat)(v:eB)(n:Nat)(x:Nat→Int)(w:eX):Prop where
 var:w.heap[nb]? =some (.cells #[v] 202 (0,0))
 row:w.ownsRow 0 3 1 v n ((mO n).map fun j=>Value.int .i64 (x j))
 own:∀g,v.ownBlock=some g→A g∧g≠nb
 mine:A nb
theorem ZQ {w w' :eX}{base:Nat}{e:TypeId}{size:Nat}{v:eB}{n:Nat}{xs:List eB}(h:w.ownsRow base e size v n xs)(hb:∀g,v.ownBlock=some g→w'.heap[g]? =w.heap[g]?):w'.ownsRow base e size v n xs:=by
 obtain⟨h1,h2⟩:=h;refine⟨h1,?_⟩;rcases h2 with h2|⟨g,cap,a0,rfl,a1,hg,h3⟩
 ·exact .inl h2
 ·exact .inr ⟨g,cap,a0,rfl,a1,by rw[hb g (by simp[Value.ownBlock])];exact hg,h3⟩
section
variable {Old A:Blk}{nb n:Nat}{v:eB}{x:Nat→Int}{w w1:eX}
theorem HR.rely (h:HR A nb v n x w)(r:Rel Old A w w1):HR A nb v n x w1:=⟨(r.own nb (.inl h.mine)).trans h.var,ZQ h.row fun g hg=>r.own g (.inl (h.own g hg).1),h.own,h.mine⟩
theorem HR.cellv (h:HR A nb v n x w):w.cell? ⟨nb,0,none⟩=some v:=by simp[sE,h.var]
end
theorem qa:(Tryz.prog.info? 3).map (fun i=>(i.zero,i.size,i.bytes))=some (some (.int .i64 0),1,8):=by kernel_rfl
theorem Xa {Old A:Blk}(w:eX)(o:Obj){es:Array eS}(h:∀e∈es,EvO Old (fun b=>A b∨b=w.heap.size) e):yQ Old A (fun b=>A b∨b=w.heap.size) w (w.alloc o) es:=
 ⟨rfl,rfl,rfl,by simp,fun _ h=> .inl h,fun b hb=>hb.imp id fun e=>by subst e;simp,fun b hb _=>Below.heap_alloc _ _ _ hb,h⟩
section
variable {A:Blk}{nb n:Nat}{v:eB}{x:Nat→Int}{w:eX}
theorem HR.lt (h:HR A nb v n x w):nb<w.heap.size:=(Array.getElem?_eq_some_iff.1 h.var).1
theorem HR.alloc (h:HR A nb v n x w)(o:Obj):HR (fun b=>A b∨b=w.heap.size) nb v n x (w.alloc o):=
 ⟨by rw[Below.heap_alloc _ _ _ h.lt];exact h.var,h.row.alloc o,fun g hg=>⟨.inl (h.own g hg).1,(h.own g hg).2⟩,.inl h.mine⟩
theorem BG (n:Nat)(x:Nat→Int)(val:Int):((mO n).map fun j=>Value.int .i64 (x j))++ [.int .i64 val]=(mO (n+1)).map fun j=>Value.int .i64 (YW x n val j):=by
 rw[List.range_succ,List.map_append];congr 1
 ·apply List.map_congr_left
  intro j hj;have:j≠n:=by have:=List.mem_range.1 hj;omega
  simp[YW,this]
 ·simp[YW]
theorem HR.grown {w' :eX}{v' :eB}{val:Int}(h:HR A nb v n x w)(hg:w.grownBy w' v.ownBlock)(ho:w'.ownsRow 0 3 1 v' (n+1) (((mO n).map fun j=>Value.int .i64 (x j))++ [.int .i64 val]))(a0:v'.ownBlock=v.ownBlock∨v'.ownBlock=some w.heap.size):
  w'.heap[nb]? =some (.cells #[v] 202 (0,0))∧w'.ownsRow 0 3 1 v' (n+1) ((mO (n+1)).map fun j=>Value.int .i64 (YW x n val j))∧(∀g,v'.ownBlock=some g→(A g∨(w.heap.size≤g∧g<w'.heap.size))∧g≠nb):=by
 refine⟨?_,by rw[←BG];exact ho,fun g e=> ?_⟩
 ·rw[hg.block nb h.lt fun e=>(h.own nb e.symm).2 rfl];exact h.var
 ·rcases a0 with h1|h1
  ·exact⟨.inl (h.own g (h1▸e)).1,(h.own g (h1▸e)).2⟩
  ·rw[h1]at e
   obtain rfl:=Option.some.inj e;exact⟨.inr ⟨Nat.le_refl _,(ho.lt _ h1).2⟩,by have:=h.lt;omega⟩
end
theorem co {nb n:Nat}{v v' :eB}{x:Nat→Int}{w:eX}(hv:w.heap[nb]? =some (.cells #[v] 202 (0,0)))(hr:w.ownsRow 0 3 1 v' (n+1) ((mO (n+1)).map fun j=>Value.int .i64 (x j))):
  ∃g cap,v' = .slice (some ⟨g,0,none⟩) (n+1) cap∧cap≤maxLen∧HH nb v g (n+1) cap x w:=by
 rcases hr.2 with⟨_,h⟩|⟨g,cap,a0,rfl,a5,hg,a3,a1,a2,a4⟩
 ·exact absurd h (by omega)
 ·refine⟨g,cap,rfl,a1,⟨fun b hb=>by subst hb;exact hv,a0,hg,⟨by simpa using a2,a3⟩,fun j hj=> ?_⟩⟩
  have h1:(a0.toList.take ((n+1)*1))[j]? =some (.int .i64 (x j)):=by rw[a4,sZ,wA hj];rfl
  rw[nH]at h1;split at h1
  ·simpa using h1
  ·cases h1
theorem GD {A:Blk}{nb g n cap:Nat}{x:Nat→Int}{w:eX}(hA:oh A (fun b=>b=nb) g)(a0:cap≤maxLen)(h:HH nb (.slice (some ⟨g,0,none⟩) n cap) g n cap x w):HR A nb (.slice (some ⟨g,0,none⟩) n cap) n x w:=by
 obtain⟨cs,h1,⟨h2,h3⟩,h4⟩:=h.ex;refine⟨h.oth nb rfl,⟨by simp,.inr ⟨g,cap,cs,rfl,wB _,h1,h3,a0,by simpa using h2,?_⟩⟩,fun g' a1 => ?_,(hA.2 nb rfl).1⟩
 ·apply List.ext_getElem?
  intro j;rw[nH,sZ];by_cases hj:j<n
  ·rw[if_pos (by omega),wA hj]
   simpa using h4 j hj
  ·rw[if_neg (by omega),List.getElem?_eq_none (by simpa using hj)]
   rfl
 ·have:g=g' :=by simpa[Value.ownBlock]using a1
  subst this;exact⟨hA.1,fun e=>(hA.2 nb rfl).2 e.symm⟩
section
variable {main:Bool}{Old A:Blk}
attribute [local go_sem]Qj
theorem Cl (nb n:Nat)(v:eB)(x:Nat→Int)(val:Int)(hn:n≤900)(w:eX)(hF:HR A nb v n x w):
  yH sU main Old 155 #[.pointer (some ⟨nb,0,none⟩),.int .i64 val] A w fun A' r w' =>(∀b,A b→A' b)∧r= .tuple #[]∧∃v',HR A' nb v' (n+1) (upF (n+1) (YW x n val) n) w' :=by
 refine yZ Tryz.func155 (by rfl) rfl ?_;simp only[Tryz.ntmps155,tQ,nM,pC,tR,tS,tT,tU,tV,tX,nV,mJ];refine wpO_seq ?_;refine zl ?_;simp only[tQ,nM,pC,tR,lQ,mO,List.range.loop];co_applyP z8 rfl (by rfl)
 case hv=>intro W K hK;go_simp;exact hK
 case he=>intro W;simp[go_sem, *]
 try walk_nrm
 co_applyP z8 rfl (by rfl)
 case hv=>intro W K hK;go_simp;exact hK
 case he=>intro W;simp[go_sem, *]
 try walk_nrm
 co_applyP z8 rfl (by rfl)
 case hv=>intro W K hK;go_simp;exact hK
 case he=>intro W;simp[go_sem, *]
 try walk_nrm
 refine zJ rfl (by rfl) ?_;intro _ hR K hK;replace hF:=HR.rely (Old:=Old) hF hR;clear hR;have hc:=hF.cellv;go_simp
 refine hK _ _ A ?_ ?_
 ·exact zD _ (by co_evs (exact zV hF.mine _ _))
 clear hK K hc;try walk_nrm
 co_applyP z8 rfl (by rfl)
 case hv=>intro W K hK;go_simp;exact hK
 case he=>intro W;simp[go_sem, *]
 try walk_nrm
 refine zJ rfl (by rfl) ?_;intro w1 hR K hK;replace hF:=HR.rely (Old:=Old) hF hR;clear hR;go_simp
 refine hK _ _ (fun b=>A b∨b=w1.heap.size) (Xa w1 _ (by co_evs (skip))) ?_;clear hK K;have hX:(w1.alloc (.cells #[.int .i64 val] 3)).heap[w1.heap.size]? =some (.cells #[.int .i64 val] 3 (0,0)):=heap_alloc_new w1 _;have c9:∀g,v.ownBlock=some g→g≠w1.heap.size:=fun g hg=>by have:=(hF.row.lt g hg).2;omega
 have a5:nb≠w1.heap.size:=by have:=hF.lt;omega
 replace hF:=hF.alloc (.cells #[.int .i64 val] 3);obtain⟨A2,a3⟩:∃A2:Blk,A2=fun b=>A b∨b=w1.heap.size:=⟨_,rfl⟩
 rw[←a3]at hF⊢;have b3:∀b,A b→A2 b:=fun b h=>by rw[a3];exact .inl h
 have a0:A2 w1.heap.size:=by rw[a3];exact .inr rfl
 clear a3;generalize w1.alloc (.cells #[.int .i64 val] 3)=w2 at*;generalize w1.heap.size=ab at*;try walk_nrm
 refine zJ rfl (by rfl) ?_;intro w3 hR K hK;replace hX:w3.heap[ab]? =some (.cells #[.int .i64 val] 3 (0,0)):=(hR.own ab (.inl a0)).trans hX;replace hF:=HR.rely (Old:=Old) hF hR;clear hR;obtain⟨i0,a4,a8,a9,b1⟩:=info_parts qa;have a1:∀j u,[Value.int .i64 val][j]? =some u→w3.cell? ((⟨ab,0,none⟩:Addr).add j)=some u:=fun j u hu=>by
  match j,hu with
  |0,hu=>simp at hu;subst hu;simp[Addr.add,sE,hX]
 obtain⟨v2,w4,hr,ho,hg,_,b5⟩:=run_append_own_at (P:=sU) w3 0 202 202 3 i0 (.int .i64 0) 1 8 tZ a4 a8 a9 b1 rfl (by decide) v n _ hF.row ⟨ab,0,none⟩ 1 1 [.int .i64 val] rfl a1 (by intro u hu;simp at hu;subst hu;rfl) (by unfold maxLen;omega) (by omega) (wB _);have b7:=events_append_where (P:=sU) w3 0 202 202 3 i0 (.int .i64 0) 1 8 tZ a4 a8 a9 b1 v n _ hF.row ⟨ab,0,none⟩ 1 1 [.int .i64 val] rfl a1 (by intro u hu;simp at hu;subst hu;rfl) (by unfold maxLen;omega) (by omega);refine uponK_append (.tmp 7) (.tmp 9) 202 rfl (by simp[Act.eval]) (by simp[Act.eval]) hr ?_;refine hK _ _ (fun b=>A2 b∨(w3.heap.size≤b∧b<w4.heap.size)) ?_ ?_
 ·refine⟨hg.tape,hg.os,hg.output,hg.size,fun _ h=> .inl h,fun _ h=>h,fun b hb hn=>hg.block b hb fun e=>hn (hF.own b e.symm).1,fun e he=> ?_⟩
  have hm:=mem_listed he;rw[events_append_op (v:=v) (xv:= .slice (some ⟨ab,0,none⟩) 1 1) (.tmp 7) (.tmp 9) 202 rfl (by simp[Act.eval]) (by simp[Act.eval])]at hm;rcases b7 e hm with⟨ad,h1,h2⟩|⟨mk,rfl,a6⟩
  ·refine .inl ⟨ad,h1,.inl ?_⟩
   rcases h2 with h2|h2
   ·rw[h2.2];exact .inl a0
   ·exact .inl (hF.own _ h2.symm).1
  ·exact .inr (.inl ⟨mk,rfl,a6⟩)
 clear hK K b7 a1;have b8:=hF.mine;obtain⟨c8,c6,b9⟩:=hF.grown hg ho b5;clear ho b5 hr hg hX;obtain⟨g,cap,c7,b6,b4⟩:=co c8 c6;have a7:=b9 g (by rw[c7];rfl);obtain⟨A3,a2⟩:∃A3:Blk,A3=fun b=>A2 b∨(w3.heap.size≤b∧b<w4.heap.size):=⟨_,rfl⟩
 rw[←a2];have hA:oh A3 (fun b=>b=nb) g:=⟨by rw[a2];exact a7.1,fun b hb=>by subst hb;exact⟨by rw[a2];exact .inl b8,fun e=>a7.2 e.symm⟩⟩
 have b2:∀b,A b→A3 b:=fun b hb=>by rw[a2];exact .inl (b3 b hb)
 clear a2 a7 b9 c6 c8 hF b8 b3 a0 c9 a5 a4 a8 a9 b1;subst c7;have hF:=b4;clear b4;try walk_nrm
 co_applyP z8 rfl (by rfl)
 case hv=>intro W K hK;go_simp;exact hK
 case he=>intro W;simp[go_sem, *]
 try walk_nrm
 refine zJ rfl (by rfl) ?_;intro _ hR K hK;replace hF:=HB.rely (Old:=Old) hA hF hR;clear hR;have hc:=hF.cellv;have hz:=hF.frv;go_simp
 try(unfold stored;go_simp)
 refine hK _ _ A3 ?_ ?_
 ·exact Y8 (hA.2 nb rfl).1 _ _ _ (by co_evs (exact zV (hA.2 nb rfl).1 _ _))
 replace hF:=hF.setv (hA.2 nb rfl).2 (.slice (some ⟨g,0,none⟩) (n+1) cap);clear hK K hc hz;try walk_nrm
 refine zp ?_;simp only[zM];refine Xk (by kernel_rfl) ?_;intro _ hR;replace hF:=HB.rely (Old:=Old) hA (HB.rely (Old:=Old) hA hF hR) (Xp _);clear hR;simp only[tQ,nM,pC,tR,lQ];co_applyP zd (i:=0) rfl (by kernel_rfl) (by kernel_rfl) (by kernel_rfl) (by rfl)
 case hv=>intro W K hK;go_simp;exact hK
 case he=>intro W;simp[go_sem, *]
 try walk_nrm
 co_applyP zd (i:=1) rfl (by kernel_rfl) (by kernel_rfl) (by kernel_rfl) (by rfl)
 case hv=>intro W K hK;go_simp;exact hK
 case he=>intro W;simp[go_sem, *]
 try walk_nrm
 co_applyP zd (i:=3) rfl (by kernel_rfl) (by kernel_rfl) (by kernel_rfl) (by rfl)
 case hv=>intro W K hK;go_simp;exact hK
 case he=>intro W;simp[go_sem, *]
 try walk_nrm
 co_applyP zd (i:=4) rfl (by kernel_rfl) (by kernel_rfl) (by kernel_rfl) (by rfl)
 case hv=>intro W K hK;go_simp;exact hK
 case he=>intro W;simp[go_sem, *]
 try walk_nrm
 have h1:((n+1:Nat):Int)-1=(n:Int):=by omega
 have h2:IntKind.i64.wrap (n:Int)=(n:Int):=by rw[tY];omega
 have h3:(n:Int)+1-1=(n:Int):=by omega
 refine any_all (rs:=[2,5]) (by kernel_rfl) (by decide) ?_;intro _ hR i hi;replace hF:=HB.rely (Old:=Old) hA hF hR;clear hR;simp only[iT,lA,or_false]at hi;rcases hi with rfl|rfl
 ·refine qn rfl (by rfl) ?_
  intro _ hR K hK;replace hF:=HB.rely (Old:=Old) hA hF hR;clear hR;have hc:=hF.cellv;go_simp
  refine hK _ _ ?_ ?_
  ·exact zD _ (by co_evs (exact zV (hA.2 nb rfl).1 _ _))
  clear hK K hc;try walk_nrm
  refine zR (i:=5) (by kernel_rfl) rfl (by rfl) ?_;intro _ hR K hK;replace hF:=HB.rely (Old:=Old) hA hF hR;clear hR;have hc:=hF.cellv;go_simp
  refine hK _ _ ?_ ?_
  ·exact zD _ (by co_evs (exact zV (hA.2 nb rfl).1 _ _))
  clear hK K hc;try walk_nrm
  refine zR (i:=6) (by kernel_rfl) rfl (by rfl) ?_;intro _ hR K hK;replace hF:=HB.rely (Old:=Old) hA hF hR;clear hR;go_simp
  refine hK _ _ ?_ ?_
  ·co_still (Xm Old _)
  clear hK K;try walk_nrm
  refine zR (i:=7) (by kernel_rfl) rfl (by rfl) ?_;intro _ hR K hK;replace hF:=HB.rely (Old:=Old) hA hF hR;clear hR;go_simp
  refine hK _ _ ?_ ?_
  ·co_still (Xm Old _)
  clear hK K;try walk_nrm
  refine uT (i:=8) (Post:=fun r w' =>r= .tuple #[]∧HH nb (.slice (some ⟨g,0,none⟩) (n+1) cap) g (n+1) cap (upF (n+1) (YW x n val) n) w') (by kernel_rfl) rfl (by rfl) rfl (vals:= #[.slice (some ⟨g,0,none⟩) (n+1) cap,.int .i64 (n:Int)]) (by simp[Act.eval]) ?_ ?_
  ·intro w9 hR
   replace hF:=HB.rely (Old:=Old) hA hF hR;exact gd (main:=main) (Old:=Old) (A:=A3) g (n+1) cap hA (YW x n val) n (by omega) (by omega) _ hF
  ·rintro r w9 ⟨rfl,hF⟩
   refine y_ (by kernel_rfl) ?_ _;intro _ hR;replace hF:=HB.rely (Old:=Old) hA hF hR;refine⟨rfl,_,resultsC_none (by rfl) _,b2,rfl,_,GD hA b6 hF⟩
 ·refine qn rfl (by rfl) ?_
  intro _ hR K hK;replace hF:=HB.rely (Old:=Old) hA hF hR;clear hR;have hc:=hF.cellv;go_simp
  refine hK _ _ ?_ ?_
  ·exact zD _ (by co_evs (exact zV (hA.2 nb rfl).1 _ _))
  clear hK K hc;try walk_nrm
  co_applyP zd (i:=6) rfl (by kernel_rfl) (by kernel_rfl) (by kernel_rfl) (by rfl)
  case hv=>intro W K hK;go_simp;exact hK
  case he=>intro W;simp[go_sem, *]
  try walk_nrm
  co_applyP zd (i:=7) rfl (by kernel_rfl) (by kernel_rfl) (by kernel_rfl) (by rfl)
  case hv=>intro W K hK;go_simp;exact hK
  case he=>intro W;simp[go_sem, *]
  try walk_nrm
  refine zR (i:=2) (by kernel_rfl) rfl (by rfl) ?_;intro _ hR K hK;replace hF:=HB.rely (Old:=Old) hA hF hR;clear hR;have hc:=hF.cellv;go_simp
  refine hK _ _ ?_ ?_
  ·exact zD _ (by co_evs (exact zV (hA.2 nb rfl).1 _ _))
  clear hK K hc;try walk_nrm
  refine uT (i:=8) (Post:=fun r w' =>r= .tuple #[]∧HH nb (.slice (some ⟨g,0,none⟩) (n+1) cap) g (n+1) cap (upF (n+1) (YW x n val) n) w') (by kernel_rfl) rfl (by rfl) rfl (vals:= #[.slice (some ⟨g,0,none⟩) (n+1) cap,.int .i64 (n:Int)]) (by simp[Act.eval]) ?_ ?_
  ·intro w9 hR
   replace hF:=HB.rely (Old:=Old) hA hF hR;exact gd (main:=main) (Old:=Old) (A:=A3) g (n+1) cap hA (YW x n val) n (by omega) (by omega) _ hF
  ·rintro r w9 ⟨rfl,hF⟩
   refine y_ (by kernel_rfl) ?_ _;intro _ hR;replace hF:=HB.rely (Old:=Old) hA hF hR;refine⟨rfl,_,resultsC_none (by rfl) _,b2,rfl,_,GD hA b6 hF⟩
end
end
