import Derived.Test.YtolgebdmffcemaaGreatDoorQ08
import Derived.Test.YtolgebdmffcemaaGreatDoorRows
import Derived.Conc.CompanyMem
import Derived.RowKit
set_option linter.all false
set_option maxHeartbeats 20000000
set_option maxRecDepth 1000000
open Go.World renaming cell?→pV,frozen?→sC,setCell→sD
open Array renaming getElem?_modify→iV,replicate_succ→sH,replicate_zero→sI
open Go.Proofs.Tryz renaming prog→rJ,underlying202→sN
open List renaming size_toArray→sE,length_cons→mC,length_nil→mS,push_toArray→sJ,append_toArray→sL,nil_append→mJ,cons_append→lN,range→lQ,mem_cons→iC,not_mem_nil→iI
open Nat renaming reduceAdd→sF,reduceSub→sG,zero_add→iX
open Bool renaming false_eq_true→eL
open Go.IntKind renaming wrap_i64→sM
namespace Go.Proofs.YtolgebdmffcemaaGreatDoor
open Go Go.Conc Go.RowKit
def UR (A O:Blk)(g:Nat):Prop:=A g∧∀b,O b→A b∧b≠g
structure HB (O:Blk)(H:Nat→Option Obj)(g n cap:Nat)(x:Nat→Int)(w:World):Prop where
 oth:∀b,O b→w.heap[b]? =H b
 ex:∃cs,w.heap[g]? =some (.cells cs 3 (0,0))∧(cs.size=cap∧n≤cap)∧∀j,j<n→cs[j]? =some (.int .i64 (x j))
section
variable {Old A O:Blk}{H:Nat→Option Obj}{g n cap:Nat}{x:Nat→Int}{w w1:World}
theorem HB.rely (hA:UR A O g)(h:HB O H g n cap x w)(r:RA Old A w w1):HB O H g n cap x w1:=⟨fun b hb=>(r.own b (.inl (hA.2 b hb).1)).trans (h.oth b hb),by obtain⟨cs,h1,h2⟩:=h.ex;exact⟨cs,(r.own g (.inl hA.1)).trans h1,h2⟩⟩
theorem HB.cell (h:HB O H g n cap x w){j:Nat}(hj:j<n):w.cell? ⟨g,j,none⟩=some (.int .i64 (x j)):=by
 obtain⟨cs,h1,h2,h3⟩:=h.ex;simp[pV,h1,h3 j hj]
theorem HB.fr (h:HB O H g n cap x w)(o:Nat):w.frozen? ⟨g,o,none⟩=false:=by
 obtain⟨cs,h1,h2,h3⟩:=h.ex;simp[sC,h1]
theorem HB.less (h:HB O H g n cap x w){m:Nat}(hm:m≤n):HB O H g m cap x w:=⟨h.oth,by
 obtain⟨cs,h1,h2,h3⟩:=h.ex;exact⟨cs,h1,⟨h2.1,by omega⟩,fun j hj=>h3 j (by omega)⟩⟩
def YP (x:Nat→Int)(j:Nat)(v:Int):Nat→Int:=fun k=>if k=j then v else x k
theorem HB.set (h:HB O H g n cap x w)(hA:UR A O g){j:Nat}(hj:j<n)(v:Int):HB O H g n cap (YP x j v) (w.setCell ⟨g,j,none⟩ (.int .i64 v)):=⟨fun b hb=>by
  have a1:g≠b:=fun e=>(hA.2 b hb).2 e.symm
  simpa[sD,iV,a1]using h.oth b hb,by
 obtain⟨cs,h1,h2,h3⟩:=h.ex;refine⟨cs.setIfInBounds j (.int .i64 v),?_,⟨by simpa using h2.1,h2.2⟩,fun k hk=> ?_⟩
 ·simp[sD,iV,h1]
 ·unfold YP
  by_cases a0:k=j
  ·subst a0
   rw[if_pos rfl,Array.getElem?_setIfInBounds_self_of_lt (by have:=h2.1;have:=h2.2;omega)]
  ·rw[if_neg a0,Array.getElem?_setIfInBounds_ne (fun e=>a0 e.symm)]
   exact h3 k hk⟩
theorem y_ (hA:A g)(w:World)(j:Nat)(v:Value){es:Array Event}(h:∀e∈es,EvO Old A e):DA Old A w (w.setCell ⟨g,j,none⟩ v) es:=
 ⟨rfl,rfl,rfl,by simp[sD],fun _ h=>h,fun _ h=> .inl h,fun b hb hn=>by
  have a0:g≠b:=by rintro rfl;exact hn hA
  simp[sD,iV,a0],h⟩
theorem zD (w:World){es:Array Event}(h:∀e∈es,EvO Old A e):DA Old A w w es:=yK.look w h
theorem zV (hA:A g)(j:Nat)(wr:Bool):EvO Old A ⟨.cell ⟨g,j,none⟩,wr,false⟩:= .inl ⟨⟨g,j,none⟩,rfl,.inl hA⟩
end
def swp (x:Nat→Int)(i j:Nat):Nat→Int:=YP (YP x i (x j)) j (x i)
def upF:Nat→(Nat→Int)→Nat→(Nat→Int)
 |0,x,_=>x
 |f+1,x,i=>if i=0 then x else if x i≤x ((i-1)/2)then x else upF f (swp x i ((i-1)/2)) ((i-1)/2)
theorem Vf (f:Nat)(x:Nat→Int):upF f x 0=x:=by cases f<;>simp[upF]
theorem jk {f:Nat}{x:Nat→Int}{i:Nat}(h0:0<i)(h:x i≤x ((i-1)/2)):upF f x i=x:=by
 cases f with
 |zero=>rfl
 |succ f=>simp only[upF];rw[if_neg (by omega),if_pos h]
theorem gh {f:Nat}{x:Nat→Int}{i:Nat}(h0:0<i)(h:¬x i≤x ((i-1)/2)):upF (f+1) x i=upF f (swp x i ((i-1)/2)) ((i-1)/2):=by
 simp only[upF];rw[if_neg (by omega),if_neg h]
section
variable {main:Bool}{Old A O:Blk}{H:Nat→Option Obj}
theorem OO (g n cap:Nat)(hA:UR A O g)(x:Nat→Int)(i:Nat)(hi:i<n)(hn:n≤1000)(w:World)(hF:HB O H g n cap x w):
  yB rJ main Old 207 #[.slice (some ⟨g,0,none⟩) n cap,.int .i64 i] A w fun A' v w' =>A' =A∧v= .tuple #[]∧HB O H g n cap (upF n x i) w' :=by
 refine yQ Tryz.func207 (by rfl) rfl ?_;simp only[Tryz.ntmps207,sE,mC,mS,sF,sG,sH,sI,sJ,sL,mJ,lN];refine Yr ?_;refine jg (fun A' a w=>A' =A∧∃(y:Nat→Int) (j f:Nat) (t2 t3 t4 t5 t6 t7 t8 t9 c9 d3 d4 d5 d6 d7 d8 d9 e1 a6 a7 a8 a9 b3 b4 b5 b6 b7 b8 b9 c6 c7 c8 a4:Value),j<n∧j≤f∧upF f y j=upF n x i∧HB O H g n cap y w∧a=⟨#[.slice (some ⟨g,0,none⟩) n cap,.int .i64 j,t2,t3,t4,t5,t6,t7,t8,t9,c9,d3,d4,d5,d6,d7,d8,d9,e1,a6,a7,a8,a9,b3,b4,b5,b6,b7,b8,b9,c6,c7,c8,a4],[]⟩) (fun _ a _=>(intOf (a.tmps.getD 1 undef)).toNat) ⟨rfl,x,i,n,_,_,_,_,_,_,_,_,_,_,_,_,_,_,_,_,_,_,_,_,_,_,_,_,_,_,_,_,_,_,_,_,hi,by omega,rfl,hF,rfl⟩ ?_;clear hF;rintro A' a w ⟨rfl,y,j,f,t2,t3,t4,t5,t6,t7,t8,t9,c9,d3,d4,d5,d6,d7,d8,d9,e1,a6,a7,a8,a9,b3,b4,b5,b6,b7,b8,b9,c6,c7,c8,a4,hj,e3,a5,hF,rfl⟩;refine wpO_seq ?_;refine wpO_seq ?_;refine zk ?_;simp only[sE,mC,mS,sF,iX,lQ,List.range.loop];co_applyP z8 rfl (by rfl)
 case hv=>intro W K hK;go_simp;exact hK
 case he=>intro W;simp[go_sem, *]
 try walk_nrm
 co_applyP z8 rfl (by rfl)
 case hv=>intro W K hK;go_simp;exact hK
 case he=>intro W;simp[go_sem, *]
 try walk_nrm
 refine zn ?_;simp only[zK];by_cases a1:0<j
 case neg=>
  refine Zn (t:=false) (by simp[Act.eval,a1]) ?_;simp only[eL,if_false];refine jh ?_;simp only[zK,ZA,if_true];obtain rfl:j=0:=by omega
  refine⟨rfl,_,resultsC_none (by rfl) _,rfl,rfl,?_⟩;rw[←a5,Vf];exact hF
 case pos=>
  refine Zn (t:=true) (by simp[Act.eval,a1]) ?_;simp only[if_true];refine yk ?_;simp only[zK];obtain⟨p,HP⟩:∃p,Hid (p=(j-1)/2):=⟨_,rfl⟩
  have e6:p<j:=by have:=HP.out;omega
  have h1:(j:Int)-1=((j-1:Nat):Int):=by omega
  have h2:IntKind.i64.wrap ((j-1:Nat):Int)=((j-1:Nat):Int):=by rw[sM];omega
  have h3:((j-1:Nat):Int)/2=(p:Int):=by have:=HP.out;omega
  have h4:IntKind.i64.wrap (p:Int)=(p:Int):=by rw[sM];omega
  refine Yr ?_;refine wpO_seq ?_;refine zk ?_;simp only[sE,mC,mS,sF,iX,lQ,List.range.loop];co_applyP z8 rfl (by rfl)
  case hv=>intro W K hK;go_simp;exact hK
  case he=>intro W;simp[go_sem, *]
  try walk_nrm
  co_applyP z8 rfl (by rfl)
  case hv=>intro W K hK;go_simp;exact hK
  case he=>intro W;simp[go_sem, *]
  try walk_nrm
  co_applyP z8 rfl (by rfl)
  case hv=>intro W K hK;go_simp;exact hK
  case he=>intro W;simp[go_sem, *]
  try walk_nrm
  co_applyP z8 rfl (by rfl)
  case hv=>intro W K hK;go_simp;exact hK
  case he=>intro W;simp[go_sem, *]
  try walk_nrm
  refine zn ?_;simp only[zK];clear h1 h2 h3 h4;have b1:(j:Int)<(n:Int):=by omega
  have b2:(p:Int)<(n:Int):=by omega
  refine wpO_seq ?_;refine Vd (fun A2 a2 w2=>A2=A' ∧HB O H g n cap y w2∧a2=⟨#[.slice (some ⟨g,0,none⟩) n cap,.int .i64 (j:Int),t2,t3,.int .i64 (p:Int),.int .i64 (j:Int),.bool true,.int .i64 (j:Int),.int .i64 ((j-1:Nat):Int),.int .i64 (p:Int),.slice (some ⟨g,0,none⟩) n cap,.int .i64 (j:Int),.pointer (some ⟨g,j,none⟩),.int .i64 (y j),.slice (some ⟨g,0,none⟩) n cap,.int .i64 (p:Int),.pointer (some ⟨g,p,none⟩),.int .i64 (y p),.bool (decide (y j≤y p)),a6,a7,a8,a9,b3,b4,b5,b6,b7,b8,b9,c6,c7,c8,a4],[]⟩) ?_ ?_
  ·refine Xd (by kernel_rfl) ?_
   intro _ hR;replace hF:=HB.rely (Old:=Old) hA (HB.rely (Old:=Old) hA hF hR) (Xi _);clear hR;simp only[sE,mC,mS,sF,iX];co_applyP zd (i:=0) rfl (by kernel_rfl) (by kernel_rfl) (by kernel_rfl) (by rfl)
   case hv=>intro W K hK;go_simp;exact hK
   case he=>intro W;simp[go_sem, *]
   try walk_nrm
   co_applyP zd (i:=1) rfl (by kernel_rfl) (by kernel_rfl) (by kernel_rfl) (by rfl)
   case hv=>intro W K hK;go_simp;exact hK
   case he=>intro W;simp[go_sem, *]
   try walk_nrm
   co_applyP zd (i:=2) rfl (by kernel_rfl) (by kernel_rfl) (by kernel_rfl) (by rfl)
   case hv=>intro W K hK;go_simp;exact hK
   case he=>intro W;simp[go_sem, *]
   try walk_nrm
   co_applyP zd (i:=4) rfl (by kernel_rfl) (by kernel_rfl) (by kernel_rfl) (by rfl)
   case hv=>intro W K hK;go_simp;exact hK
   case he=>intro W;simp[go_sem, *]
   try walk_nrm
   co_applyP zd (i:=5) rfl (by kernel_rfl) (by kernel_rfl) (by kernel_rfl) (by rfl)
   case hv=>intro W K hK;go_simp;exact hK
   case he=>intro W;simp[go_sem, *]
   try walk_nrm
   co_applyP zd (i:=6) rfl (by kernel_rfl) (by kernel_rfl) (by kernel_rfl) (by rfl)
   case hv=>intro W K hK;go_simp;exact hK
   case he=>intro W;simp[go_sem, *]
   try walk_nrm
   refine any_all (rs:=[3,7]) (by kernel_rfl) (by decide) ?_;intro _ hR i hi;replace hF:=HB.rely (Old:=Old) hA hF hR;clear hR;simp only[iC,iI,or_false]at hi;rcases hi with rfl|rfl
   ·refine qi rfl (by rfl) ?_
    intro _ hR K hK;replace hF:=HB.rely (Old:=Old) hA hF hR;clear hR;have hc:=hF.cell hj;go_simp
    refine hK _ _ ?_ ?_
    ·exact zD _ (by co_evs (exact zV hA.1 _ _))
    clear hK K hc;try walk_nrm
    refine zQ (i:=7) (by kernel_rfl) rfl (by rfl) ?_;intro _ hR K hK;replace hF:=HB.rely (Old:=Old) hA hF hR;clear hR;have hc:=hF.cell (j:=p) (by omega);go_simp
    refine hK _ _ ?_ ?_
    ·exact zD _ (by co_evs (exact zV hA.1 _ _))
    clear hK K hc;try walk_nrm
    refine zQ (i:=8) (by kernel_rfl) rfl (by rfl) ?_;intro _ hR K hK;replace hF:=HB.rely (Old:=Old) hA hF hR;clear hR;go_simp
    refine hK _ _ ?_ ?_
    ·co_still (Xf Old _)
    clear hK K;try walk_nrm
    refine yS (by kernel_rfl) ?_ _;intro _ hR;replace hF:=HB.rely (Old:=Old) hA hF hR;clear hR;simp only[zK];exact⟨by first|rfl|trivial,hF,by first|rfl|trivial⟩
   ·refine qi rfl (by rfl) ?_
    intro _ hR K hK;replace hF:=HB.rely (Old:=Old) hA hF hR;clear hR;have hc:=hF.cell (j:=p) (by omega);go_simp
    refine hK _ _ ?_ ?_
    ·exact zD _ (by co_evs (exact zV hA.1 _ _))
    clear hK K hc;try walk_nrm
    refine zQ (i:=3) (by kernel_rfl) rfl (by rfl) ?_;intro _ hR K hK;replace hF:=HB.rely (Old:=Old) hA hF hR;clear hR;have hc:=hF.cell hj;go_simp
    refine hK _ _ ?_ ?_
    ·exact zD _ (by co_evs (exact zV hA.1 _ _))
    clear hK K hc;try walk_nrm
    refine zQ (i:=8) (by kernel_rfl) rfl (by rfl) ?_;intro _ hR K hK;replace hF:=HB.rely (Old:=Old) hA hF hR;clear hR;go_simp
    refine hK _ _ ?_ ?_
    ·co_still (Xf Old _)
    clear hK K;try walk_nrm
    refine yS (by kernel_rfl) ?_ _;intro _ hR;replace hF:=HB.rely (Old:=Old) hA hF hR;clear hR;simp only[zK];exact⟨by first|rfl|trivial,hF,by first|rfl|trivial⟩
  ·rintro A2 a2 w2 ⟨rfl,hF,rfl⟩
   by_cases a0:y j≤y p
   ·refine Zn (t:=true) (by simp[Act.eval,a0]) ?_
    simp only[if_true];refine KT ?_;simp only[zK,ZA];refine⟨rfl,_,resultsC_none (by rfl) _,rfl,rfl,?_⟩;rw[←a5,jk a1 (by rw[←HP.out];exact a0)];exact hF
   ·refine Zn (t:=false) (by simp[Act.eval,a0]) ?_
    simp only[eL,if_false];refine yk ?_;simp only[zK];have e2:decide (y j≤y p)=false:=by simpa using a0
    rw[e2];refine Vd (fun B2 a2 w2=>B2=A2∧HB O H g n cap (swp y j p) w2∧a2=⟨#[.slice (some ⟨g,0,none⟩) n cap,.int .i64 (j:Int),t2,t3,.int .i64 (p:Int),.int .i64 (j:Int),.bool true,.int .i64 (j:Int),.int .i64 ((j-1:Nat):Int),.int .i64 (p:Int),.slice (some ⟨g,0,none⟩) n cap,.int .i64 (j:Int),.pointer (some ⟨g,j,none⟩),.int .i64 (y j),.slice (some ⟨g,0,none⟩) n cap,.int .i64 (p:Int),.pointer (some ⟨g,p,none⟩),.int .i64 (y p),.bool false,.slice (some ⟨g,0,none⟩) n cap,.int .i64 (j:Int),.slice (some ⟨g,0,none⟩) n cap,.int .i64 (p:Int),.slice (some ⟨g,0,none⟩) n cap,.int .i64 (p:Int),.pointer (some ⟨g,p,none⟩),.int .i64 (y p),.slice (some ⟨g,0,none⟩) n cap,.int .i64 (j:Int),.pointer (some ⟨g,j,none⟩),.int .i64 (y j),.pointer (some ⟨g,j,none⟩),.pointer (some ⟨g,p,none⟩),a4],[]⟩) ?_ ?_
    ·refine Xd (by kernel_rfl) ?_
     intro _ hR;replace hF:=HB.rely (Old:=Old) hA (HB.rely (Old:=Old) hA hF hR) (Xi _);clear hR;simp only[sE,mC,mS,sF,iX];co_applyP zd (i:=0) rfl (by kernel_rfl) (by kernel_rfl) (by kernel_rfl) (by rfl)
     case hv=>intro W K hK;go_simp;exact hK
     case he=>intro W;simp[go_sem, *]
     try walk_nrm
     co_applyP zd (i:=1) rfl (by kernel_rfl) (by kernel_rfl) (by kernel_rfl) (by rfl)
     case hv=>intro W K hK;go_simp;exact hK
     case he=>intro W;simp[go_sem, *]
     try walk_nrm
     co_applyP zd (i:=2) rfl (by kernel_rfl) (by kernel_rfl) (by kernel_rfl) (by rfl)
     case hv=>intro W K hK;go_simp;exact hK
     case he=>intro W;simp[go_sem, *]
     try walk_nrm
     co_applyP zd (i:=3) rfl (by kernel_rfl) (by kernel_rfl) (by kernel_rfl) (by rfl)
     case hv=>intro W K hK;go_simp;exact hK
     case he=>intro W;simp[go_sem, *]
     try walk_nrm
     co_applyP zd (i:=4) rfl (by kernel_rfl) (by kernel_rfl) (by kernel_rfl) (by rfl)
     case hv=>intro W K hK;go_simp;exact hK
     case he=>intro W;simp[go_sem, *]
     try walk_nrm
     co_applyP zd (i:=5) rfl (by kernel_rfl) (by kernel_rfl) (by kernel_rfl) (by rfl)
     case hv=>intro W K hK;go_simp;exact hK
     case he=>intro W;simp[go_sem, *]
     try walk_nrm
     co_applyP zd (i:=6) rfl (by kernel_rfl) (by kernel_rfl) (by kernel_rfl) (by rfl)
     case hv=>intro W K hK;go_simp;exact hK
     case he=>intro W;simp[go_sem, *]
     try walk_nrm
     co_applyP zd (i:=8) rfl (by kernel_rfl) (by kernel_rfl) (by kernel_rfl) (by rfl)
     case hv=>intro W K hK;go_simp;exact hK
     case he=>intro W;simp[go_sem, *]
     try walk_nrm
     co_applyP zd (i:=9) rfl (by kernel_rfl) (by kernel_rfl) (by kernel_rfl) (by rfl)
     case hv=>intro W K hK;go_simp;exact hK
     case he=>intro W;simp[go_sem, *]
     try walk_nrm
     co_applyP zd (i:=10) rfl (by kernel_rfl) (by kernel_rfl) (by kernel_rfl) (by rfl)
     case hv=>intro W K hK;go_simp;exact hK
     case he=>intro W;simp[go_sem, *]
     try walk_nrm
     refine any_all (rs:=[7,11]) (by kernel_rfl) (by decide) ?_;intro _ hR i hi;replace hF:=HB.rely (Old:=Old) hA hF hR;clear hR;simp only[iC,iI,or_false]at hi;rcases hi with rfl|rfl
     all_goals
      refine qi rfl (by rfl) ?_;intro _ hR K hK;replace hF:=HB.rely (Old:=Old) hA hF hR;clear hR;have hc:=hF.cell (j:=p) (by omega);have hd:=hF.cell hj;go_simp
      refine hK _ _ ?_ ?_
      ·exact zD _ (by co_evs (exact zV hA.1 _ _))
      clear hK K hc hd;try walk_nrm
      first|refine zQ (i:=11) (by decide+kernel) rfl (by rfl) ?_|refine zQ (i:=7) (by decide+kernel) rfl (by rfl) ?_
      intro _ hR K hK;replace hF:=HB.rely (Old:=Old) hA hF hR;clear hR;have hc:=hF.cell hj;have hd:=hF.cell (j:=p) (by omega);go_simp
      refine hK _ _ ?_ ?_
      ·exact zD _ (by co_evs (exact zV hA.1 _ _))
      clear hK K hc hd;try walk_nrm
      refine zQ (i:=12) (by kernel_rfl) rfl (by rfl) ?_;intro _ hR K hK;replace hF:=HB.rely (Old:=Old) hA hF hR;clear hR;go_simp
      refine hK _ _ ?_ ?_
      ·co_still (Xf Old _)
      clear hK K;try walk_nrm
      refine zQ (i:=13) (by kernel_rfl) rfl (by rfl) ?_;intro _ hR K hK;replace hF:=HB.rely (Old:=Old) hA hF hR;clear hR;have hc:=hF.cell hj;have hz:=hF.fr j;go_simp
      try(unfold stored;go_simp)
      refine hK _ _ ?_ ?_
      ·exact y_ hA.1 _ _ _ (by co_evs (exact zV hA.1 _ _))
      replace hF:=hF.set hA hj (y p);clear hK K hc hz;try walk_nrm
      refine zQ (i:=14) (by kernel_rfl) rfl (by rfl) ?_;intro _ hR K hK;replace hF:=HB.rely (Old:=Old) hA hF hR;clear hR;go_simp
      refine hK _ _ ?_ ?_
      ·co_still (Xf Old _)
      clear hK K;try walk_nrm
      refine zQ (i:=15) (by kernel_rfl) rfl (by rfl) ?_;intro _ hR K hK;replace hF:=HB.rely (Old:=Old) hA hF hR;clear hR;have hc:=hF.cell (j:=p) (by omega);have hz:=hF.fr p;go_simp
      try(unfold stored;go_simp)
      refine hK _ _ ?_ ?_
      ·exact y_ hA.1 _ _ _ (by co_evs (exact zV hA.1 _ _))
      replace hF:=hF.set hA (j:=p) (by omega) (y j);clear hK K hc hz;try walk_nrm
      refine yS (by kernel_rfl) ?_ _;intro _ hR;replace hF:=HB.rely (Old:=Old) hA hF hR;clear hR;simp only[zK];exact⟨by first|rfl|trivial,hF,by first|rfl|trivial⟩
    ·rintro A3 a3 w3 ⟨rfl,hF,rfl⟩
     refine zk ?_;simp only[sE,mC,mS,sF,iX,lQ,List.range.loop];co_applyP z8 rfl (by rfl)
     case hv=>intro W K hK;go_simp;exact hK
     case he=>intro W;simp[go_sem, *]
     try walk_nrm
     co_applyP z8 rfl (by rfl)
     case hv=>intro W K hK;go_simp;exact hK
     case he=>intro W;simp[go_sem, *]
     try walk_nrm
     refine zn ?_;simp only[zK,ZA];obtain⟨f',rfl⟩:∃f',f=f' +1:=⟨f-1,by omega⟩
     refine⟨⟨by first|rfl|trivial,swp y j p,p,f',_,_,_,_,_,_,_,_,_,_,_,_,_,_,_,_,_,_,_,_,_,_,_,_,_,_,_,_,_,_,_,_,by omega,by omega,?_,hF,rfl⟩,by simp[intOf];omega⟩;rw[←a5,gh a1 (by rw[←HP.out];exact a0),←HP.out]
end
def zP (n:Nat)(x:Nat→Int)(i l:Nat):Nat:=if l<n∧x i<x l then l else i
theorem JX {n:Nat}{x:Nat→Int}{i l:Nat}(h:l<n)(h' :x i<x l):zP n x i l=l:=if_pos ⟨h,h'⟩
theorem oL {n:Nat}{x:Nat→Int}{i l:Nat}(_h:l<n)(h' :¬x i<x l):zP n x i l=i:=if_neg fun e=>h' e.2
theorem JY {n:Nat}{x:Nat→Int}{i l:Nat}(h:¬l<n):zP n x i l=i:=if_neg fun e=>h e.1
theorem FT {n:Nat}{x:Nat→Int}{i l:Nat}(h:i<n∨n=0):zP n x i l<n∨n=0:=by unfold zP;split<;>omega
section
variable {main:Bool}{Old A O:Blk}{H:Nat→Option Obj}
theorem Gc (g n cap:Nat)(hA:UR A O g)(x:Nat→Int)(i l r:Nat)(hi:i<n∨n=0)(w:World)(hF:HB O H g n cap x w):
  yB rJ main Old 236 #[.slice (some ⟨g,0,none⟩) n cap,.int .i64 i,.int .i64 l,.int .i64 r] A w fun A' v w' =>A' =A∧v= .int .i64 (zP n x (zP n x i l) r:Nat)∧HB O H g n cap x w' :=by
 refine yQ Tryz.func236 (by rfl) rfl ?_;simp only[Tryz.ntmps236,sE,mC,mS,sF,sG,sH,sI,sJ,sL,mJ,lN];refine wpO_seq ?_;refine zk ?_;simp only[sE,mC,mS,sF,iX,lQ,List.range.loop];co_applyP z8 rfl (by rfl)
 case hv=>intro W K hK;go_simp;exact hK
 case he=>intro W;simp[go_sem, *]
 try walk_nrm
 refine zn ?_;simp only[zK];refine Vd (fun A2 a2 w2=>A2=A∧HB O H g n cap x w2∧∃(t9 a4 a5 a6 a7 a8 a9 b3 b4 b5 b6 b7 b8 b9 c6 c7:Value),a2=⟨#[.slice (some ⟨g,0,none⟩) n cap,.int .i64 (zP n x i l:Int),.int .i64 (l:Int),.int .i64 (r:Int),undef,undef,undef,undef,.int .i64 0,t9,a4,a5,a6,a7,a8,a9,b3,b4,b5,b6,b7,b8,b9,c6,c7,undef,undef,undef,undef,undef,undef,undef,undef,undef,undef,undef,undef,undef,undef,undef,undef,undef],[]⟩) ?_ ?_
 ·refine wpO_seq ?_
  by_cases a0:l<n
  ·have b1:(l:Int)<(n:Int):=by omega
   have b2:(i:Int)<(n:Int):=by omega
   refine Xd (by kernel_rfl) ?_;intro _ hR;replace hF:=HB.rely (Old:=Old) hA (HB.rely (Old:=Old) hA hF hR) (Xi _);clear hR;simp only[sE,mC,mS,sF,iX];co_applyP zd (i:=0) rfl (by kernel_rfl) (by kernel_rfl) (by kernel_rfl) (by rfl)
   case hv=>intro W K hK;go_simp;exact hK
   case he=>intro W;simp[go_sem, *]
   try walk_nrm
   co_applyP zd (i:=1) rfl (by kernel_rfl) (by kernel_rfl) (by kernel_rfl) (by rfl)
   case hv=>intro W K hK;go_simp;exact hK
   case he=>intro W;simp[go_sem, *]
   try walk_nrm
   co_applyP zd (i:=2) rfl (by kernel_rfl) (by kernel_rfl) (by kernel_rfl) (by rfl)
   case hv=>intro W K hK;go_simp;exact hK
   case he=>intro W;simp[go_sem, *]
   try walk_nrm
   co_applyP zd (i:=3) rfl (by kernel_rfl) (by kernel_rfl) (by kernel_rfl) (by rfl)
   case hv=>intro W K hK;go_simp;exact hK
   case he=>intro W;simp[go_sem, *]
   try walk_nrm
   co_applyP zd (i:=4) rfl (by kernel_rfl) (by kernel_rfl) (by kernel_rfl) (by rfl)
   case hv=>intro W K hK;go_simp;exact hK
   case he=>intro W;simp[go_sem, *]
   try walk_nrm
   co_applyP zd (i:=5) rfl (by kernel_rfl) (by kernel_rfl) (by kernel_rfl) (by rfl)
   case hv=>intro W K hK;go_simp;exact hK
   case he=>intro W;simp[go_sem, *]
   try walk_nrm
   co_applyP zd (i:=6) rfl (by kernel_rfl) (by kernel_rfl) (by kernel_rfl) (by rfl)
   case hv=>intro W K hK;go_simp;exact hK
   case he=>intro W;simp[go_sem, *]
   try walk_nrm
   co_applyP zd (i:=7) rfl (by kernel_rfl) (by kernel_rfl) (by kernel_rfl) (by rfl)
   case hv=>intro W K hK;go_simp;exact hK
   case he=>intro W;simp[go_sem, *]
   try walk_nrm
   co_applyP zd (i:=9) rfl (by kernel_rfl) (by kernel_rfl) (by kernel_rfl) (by rfl)
   case hv=>intro W K hK;go_simp;exact hK
   case he=>intro W;simp[go_sem, *]
   try walk_nrm
   co_applyP zd (i:=10) rfl (by kernel_rfl) (by kernel_rfl) (by kernel_rfl) (by rfl)
   case hv=>intro W K hK;go_simp;exact hK
   case he=>intro W;simp[go_sem, *]
   try walk_nrm
   co_applyP zd (i:=11) rfl (by kernel_rfl) (by kernel_rfl) (by kernel_rfl) (by rfl)
   case hv=>intro W K hK;go_simp;exact hK
   case he=>intro W;simp[go_sem, *]
   try walk_nrm
   refine any_all (rs:=[8,12]) (by kernel_rfl) (by decide) ?_;intro _ hR i hi;replace hF:=HB.rely (Old:=Old) hA hF hR;clear hR;simp only[iC,iI,or_false]at hi;rcases hi with rfl|rfl
   all_goals
    refine qi rfl (by rfl) ?_;intro _ hR K hK;replace hF:=HB.rely (Old:=Old) hA hF hR;clear hR;have hc:=hF.cell a0;have hd:=hF.cell (j:=i) (by omega);go_simp
    refine hK _ _ ?_ ?_
    ·exact zD _ (by co_evs (exact zV hA.1 _ _))
    clear hK K hc hd;try walk_nrm
    first|refine zQ (i:=12) (by decide+kernel) rfl (by rfl) ?_|refine zQ (i:=8) (by decide+kernel) rfl (by rfl) ?_
    intro _ hR K hK;replace hF:=HB.rely (Old:=Old) hA hF hR;clear hR;have hc:=hF.cell (j:=i) (by omega);have hd:=hF.cell a0;go_simp
    refine hK _ _ ?_ ?_
    ·exact zD _ (by co_evs (exact zV hA.1 _ _))
    clear hK K hc hd;try walk_nrm
    refine zQ (i:=13) (by kernel_rfl) rfl (by rfl) ?_;intro _ hR K hK;replace hF:=HB.rely (Old:=Old) hA hF hR;clear hR;go_simp
    refine hK _ _ ?_ ?_
    ·co_still (Xf Old _)
    clear hK K;try walk_nrm
    refine zQ (i:=14) (by kernel_rfl) rfl (by rfl) ?_;intro _ hR K hK;replace hF:=HB.rely (Old:=Old) hA hF hR;clear hR;go_simp
    refine hK _ _ ?_ ?_
    ·co_still (Xf Old _)
    clear hK K;try walk_nrm
    refine yS (by kernel_rfl) ?_ _;intro _ hR;replace hF:=HB.rely (Old:=Old) hA hF hR;clear hR;simp only[zK];by_cases a1:x i<x l
    ·refine Zn (t:=true) (by simp[Act.eval, *]) ?_
     simp only[if_true];refine zk ?_;simp only[sE,mC,mS,sF,iX,lQ,List.range.loop];co_applyP z8 rfl (by rfl)
     case hv=>intro W K hK;go_simp;exact hK
     case he=>intro W;simp[go_sem, *]
     try walk_nrm
     co_applyP z8 rfl (by rfl)
     case hv=>intro W K hK;go_simp;exact hK
     case he=>intro W;simp[go_sem, *]
     try walk_nrm
     refine zn ?_;exact⟨rfl,hF,_,_,_,_,_,_,_,_,_,_,_,_,_,_,_,_,by rw[JX a0 a1]⟩
    ·refine Zn (t:=false) (by simp[Act.eval, *]) ?_
     simp only[eL,if_false];refine yk ?_;exact⟨rfl,hF,_,_,_,_,_,_,_,_,_,_,_,_,_,_,_,_,by rw[oL a0 a1]⟩
  ·have b1:¬(l:Int)<(n:Int):=by omega
   refine Xd (by kernel_rfl) ?_;intro _ hR;replace hF:=HB.rely (Old:=Old) hA (HB.rely (Old:=Old) hA hF hR) (Xi _);clear hR;simp only[sE,mC,mS,sF,iX];co_applyP zd (i:=0) rfl (by kernel_rfl) (by kernel_rfl) (by kernel_rfl) (by rfl)
   case hv=>intro W K hK;go_simp;exact hK
   case he=>intro W;simp[go_sem, *]
   try walk_nrm
   co_applyP zd (i:=1) rfl (by kernel_rfl) (by kernel_rfl) (by kernel_rfl) (by rfl)
   case hv=>intro W K hK;go_simp;exact hK
   case he=>intro W;simp[go_sem, *]
   try walk_nrm
   co_applyP zd (i:=2) rfl (by kernel_rfl) (by kernel_rfl) (by kernel_rfl) (by rfl)
   case hv=>intro W K hK;go_simp;exact hK
   case he=>intro W;simp[go_sem, *]
   try walk_nrm
   co_applyP zd (i:=3) rfl (by kernel_rfl) (by kernel_rfl) (by kernel_rfl) (by rfl)
   case hv=>intro W K hK;go_simp;exact hK
   case he=>intro W;simp[go_sem, *]
   try walk_nrm
   co_applyP zd (i:=4) rfl (by kernel_rfl) (by kernel_rfl) (by kernel_rfl) (by rfl)
   case hv=>intro W K hK;go_simp;exact hK
   case he=>intro W;simp[go_sem, *]
   try walk_nrm
   refine z_ (i:=5) rfl (by kernel_rfl) (by kernel_rfl) (by kernel_rfl) (by rfl) ?_;try walk_nrm
   refine z_ (i:=6) rfl (by kernel_rfl) (by kernel_rfl) (by kernel_rfl) (by rfl) ?_;try walk_nrm
   refine z_ (i:=7) rfl (by kernel_rfl) (by kernel_rfl) (by kernel_rfl) (by rfl) ?_;try walk_nrm
   refine z_ (i:=8) rfl (by kernel_rfl) (by kernel_rfl) (by kernel_rfl) (by rfl) ?_;try walk_nrm
   refine z_ (i:=9) rfl (by kernel_rfl) (by kernel_rfl) (by kernel_rfl) (by rfl) ?_;try walk_nrm
   refine z_ (i:=10) rfl (by kernel_rfl) (by kernel_rfl) (by kernel_rfl) (by rfl) ?_;try walk_nrm
   refine z_ (i:=11) rfl (by kernel_rfl) (by kernel_rfl) (by kernel_rfl) (by rfl) ?_;try walk_nrm
   refine z_ (i:=12) rfl (by kernel_rfl) (by kernel_rfl) (by kernel_rfl) (by rfl) ?_;try walk_nrm
   refine z_ (i:=13) rfl (by kernel_rfl) (by kernel_rfl) (by kernel_rfl) (by rfl) ?_;try walk_nrm
   refine zQ (i:=14) (by kernel_rfl) rfl (by rfl) ?_;intro _ hR K hK;replace hF:=HB.rely (Old:=Old) hA hF hR;clear hR;go_simp
   refine hK _ _ ?_ ?_
   ·co_still (Xf Old _)
   clear hK K;try walk_nrm
   refine yS (by kernel_rfl) ?_ _;intro _ hR;replace hF:=HB.rely (Old:=Old) hA hF hR;clear hR;simp only[zK];refine Zn (t:=false) (by simp[Act.eval, *]) ?_;simp only[eL,if_false];refine yk ?_;exact⟨rfl,hF,_,_,_,_,_,_,_,_,_,_,_,_,_,_,_,_,by rw[JY a0]⟩
 ·rintro A2 a2 w2 ⟨rfl,hF,t9,a4,a5,a6,a7,a8,a9,b3,b4,b5,b6,b7,b8,b9,c6,c7,rfl⟩
  have f0:=FT (x:=x) (l:=l) hi;generalize zP n x i l=i1 at*;refine Vd (fun B2 a2 w2=>B2=A2∧HB O H g n cap x w2∧∃(c8 c9 d3 d4 d5 d6 d7 d8 d9 e1 e2 e3 e6 e7 e8 e9:Value),a2=⟨#[.slice (some ⟨g,0,none⟩) n cap,.int .i64 (zP n x i1 r:Int),.int .i64 (l:Int),.int .i64 (r:Int),undef,undef,undef,undef,.int .i64 0,t9,a4,a5,a6,a7,a8,a9,b3,b4,b5,b6,b7,b8,b9,c6,c7,c8,c9,d3,d4,d5,d6,d7,d8,d9,e1,e2,e3,e6,e7,e8,e9,undef],[]⟩) ?_ ?_
  ·refine wpO_seq ?_
   by_cases a0:r<n
   ·have b1:(r:Int)<(n:Int):=by omega
    have b2:(i1:Int)<(n:Int):=by omega
    refine Xd (by kernel_rfl) ?_;intro _ hR;replace hF:=HB.rely (Old:=Old) hA (HB.rely (Old:=Old) hA hF hR) (Xi _);clear hR;simp only[sE,mC,mS,sF,iX];co_applyP zd (i:=0) rfl (by kernel_rfl) (by kernel_rfl) (by kernel_rfl) (by rfl)
    case hv=>intro W K hK;go_simp;exact hK
    case he=>intro W;simp[go_sem, *]
    try walk_nrm
    co_applyP zd (i:=1) rfl (by kernel_rfl) (by kernel_rfl) (by kernel_rfl) (by rfl)
    case hv=>intro W K hK;go_simp;exact hK
    case he=>intro W;simp[go_sem, *]
    try walk_nrm
    co_applyP zd (i:=2) rfl (by kernel_rfl) (by kernel_rfl) (by kernel_rfl) (by rfl)
    case hv=>intro W K hK;go_simp;exact hK
    case he=>intro W;simp[go_sem, *]
    try walk_nrm
    co_applyP zd (i:=3) rfl (by kernel_rfl) (by kernel_rfl) (by kernel_rfl) (by rfl)
    case hv=>intro W K hK;go_simp;exact hK
    case he=>intro W;simp[go_sem, *]
    try walk_nrm
    co_applyP zd (i:=4) rfl (by kernel_rfl) (by kernel_rfl) (by kernel_rfl) (by rfl)
    case hv=>intro W K hK;go_simp;exact hK
    case he=>intro W;simp[go_sem, *]
    try walk_nrm
    co_applyP zd (i:=5) rfl (by kernel_rfl) (by kernel_rfl) (by kernel_rfl) (by rfl)
    case hv=>intro W K hK;go_simp;exact hK
    case he=>intro W;simp[go_sem, *]
    try walk_nrm
    co_applyP zd (i:=6) rfl (by kernel_rfl) (by kernel_rfl) (by kernel_rfl) (by rfl)
    case hv=>intro W K hK;go_simp;exact hK
    case he=>intro W;simp[go_sem, *]
    try walk_nrm
    co_applyP zd (i:=7) rfl (by kernel_rfl) (by kernel_rfl) (by kernel_rfl) (by rfl)
    case hv=>intro W K hK;go_simp;exact hK
    case he=>intro W;simp[go_sem, *]
    try walk_nrm
    co_applyP zd (i:=9) rfl (by kernel_rfl) (by kernel_rfl) (by kernel_rfl) (by rfl)
    case hv=>intro W K hK;go_simp;exact hK
    case he=>intro W;simp[go_sem, *]
    try walk_nrm
    co_applyP zd (i:=10) rfl (by kernel_rfl) (by kernel_rfl) (by kernel_rfl) (by rfl)
    case hv=>intro W K hK;go_simp;exact hK
    case he=>intro W;simp[go_sem, *]
    try walk_nrm
    co_applyP zd (i:=11) rfl (by kernel_rfl) (by kernel_rfl) (by kernel_rfl) (by rfl)
    case hv=>intro W K hK;go_simp;exact hK
    case he=>intro W;simp[go_sem, *]
    try walk_nrm
    refine any_all (rs:=[8,12]) (by kernel_rfl) (by decide) ?_;intro _ hR i hi;replace hF:=HB.rely (Old:=Old) hA hF hR;clear hR;simp only[iC,iI,or_false]at hi;rcases hi with rfl|rfl
    all_goals
     refine qi rfl (by rfl) ?_;intro _ hR K hK;replace hF:=HB.rely (Old:=Old) hA hF hR;clear hR;have hc:=hF.cell a0;have hd:=hF.cell (j:=i1) (by omega);go_simp
     refine hK _ _ ?_ ?_
     ·exact zD _ (by co_evs (exact zV hA.1 _ _))
     clear hK K hc hd;try walk_nrm
     first|refine zQ (i:=12) (by decide+kernel) rfl (by rfl) ?_|refine zQ (i:=8) (by decide+kernel) rfl (by rfl) ?_
     intro _ hR K hK;replace hF:=HB.rely (Old:=Old) hA hF hR;clear hR;have hc:=hF.cell (j:=i1) (by omega);have hd:=hF.cell a0;go_simp
     refine hK _ _ ?_ ?_
     ·exact zD _ (by co_evs (exact zV hA.1 _ _))
     clear hK K hc hd;try walk_nrm
     refine zQ (i:=13) (by kernel_rfl) rfl (by rfl) ?_;intro _ hR K hK;replace hF:=HB.rely (Old:=Old) hA hF hR;clear hR;go_simp
     refine hK _ _ ?_ ?_
     ·co_still (Xf Old _)
     clear hK K;try walk_nrm
     refine zQ (i:=14) (by kernel_rfl) rfl (by rfl) ?_;intro _ hR K hK;replace hF:=HB.rely (Old:=Old) hA hF hR;clear hR;go_simp
     refine hK _ _ ?_ ?_
     ·co_still (Xf Old _)
     clear hK K;try walk_nrm
     refine yS (by kernel_rfl) ?_ _;intro _ hR;replace hF:=HB.rely (Old:=Old) hA hF hR;clear hR;simp only[zK];by_cases a1:x i1<x r
     ·refine Zn (t:=true) (by simp[Act.eval, *]) ?_
      simp only[if_true];refine zk ?_;simp only[sE,mC,mS,sF,iX,lQ,List.range.loop];co_applyP z8 rfl (by rfl)
      case hv=>intro W K hK;go_simp;exact hK
      case he=>intro W;simp[go_sem, *]
      try walk_nrm
      co_applyP z8 rfl (by rfl)
      case hv=>intro W K hK;go_simp;exact hK
      case he=>intro W;simp[go_sem, *]
      try walk_nrm
      refine zn ?_;exact⟨rfl,hF,_,_,_,_,_,_,_,_,_,_,_,_,_,_,_,_,by rw[JX a0 a1]⟩
     ·refine Zn (t:=false) (by simp[Act.eval, *]) ?_
      simp only[eL,if_false];refine yk ?_;exact⟨rfl,hF,_,_,_,_,_,_,_,_,_,_,_,_,_,_,_,_,by rw[oL a0 a1]⟩
   ·have b1:¬(r:Int)<(n:Int):=by omega
    refine Xd (by kernel_rfl) ?_;intro _ hR;replace hF:=HB.rely (Old:=Old) hA (HB.rely (Old:=Old) hA hF hR) (Xi _);clear hR;simp only[sE,mC,mS,sF,iX];co_applyP zd (i:=0) rfl (by kernel_rfl) (by kernel_rfl) (by kernel_rfl) (by rfl)
    case hv=>intro W K hK;go_simp;exact hK
    case he=>intro W;simp[go_sem, *]
    try walk_nrm
    co_applyP zd (i:=1) rfl (by kernel_rfl) (by kernel_rfl) (by kernel_rfl) (by rfl)
    case hv=>intro W K hK;go_simp;exact hK
    case he=>intro W;simp[go_sem, *]
    try walk_nrm
    co_applyP zd (i:=2) rfl (by kernel_rfl) (by kernel_rfl) (by kernel_rfl) (by rfl)
    case hv=>intro W K hK;go_simp;exact hK
    case he=>intro W;simp[go_sem, *]
    try walk_nrm
    co_applyP zd (i:=3) rfl (by kernel_rfl) (by kernel_rfl) (by kernel_rfl) (by rfl)
    case hv=>intro W K hK;go_simp;exact hK
    case he=>intro W;simp[go_sem, *]
    try walk_nrm
    co_applyP zd (i:=4) rfl (by kernel_rfl) (by kernel_rfl) (by kernel_rfl) (by rfl)
    case hv=>intro W K hK;go_simp;exact hK
    case he=>intro W;simp[go_sem, *]
    try walk_nrm
    refine z_ (i:=5) rfl (by kernel_rfl) (by kernel_rfl) (by kernel_rfl) (by rfl) ?_;try walk_nrm
    refine z_ (i:=6) rfl (by kernel_rfl) (by kernel_rfl) (by kernel_rfl) (by rfl) ?_;try walk_nrm
    refine z_ (i:=7) rfl (by kernel_rfl) (by kernel_rfl) (by kernel_rfl) (by rfl) ?_;try walk_nrm
    refine z_ (i:=8) rfl (by kernel_rfl) (by kernel_rfl) (by kernel_rfl) (by rfl) ?_;try walk_nrm
    refine z_ (i:=9) rfl (by kernel_rfl) (by kernel_rfl) (by kernel_rfl) (by rfl) ?_;try walk_nrm
    refine z_ (i:=10) rfl (by kernel_rfl) (by kernel_rfl) (by kernel_rfl) (by rfl) ?_;try walk_nrm
    refine z_ (i:=11) rfl (by kernel_rfl) (by kernel_rfl) (by kernel_rfl) (by rfl) ?_;try walk_nrm
    refine z_ (i:=12) rfl (by kernel_rfl) (by kernel_rfl) (by kernel_rfl) (by rfl) ?_;try walk_nrm
    refine z_ (i:=13) rfl (by kernel_rfl) (by kernel_rfl) (by kernel_rfl) (by rfl) ?_;try walk_nrm
    refine zQ (i:=14) (by kernel_rfl) rfl (by rfl) ?_;intro _ hR K hK;replace hF:=HB.rely (Old:=Old) hA hF hR;clear hR;go_simp
    refine hK _ _ ?_ ?_
    ·co_still (Xf Old _)
    clear hK K;try walk_nrm
    refine yS (by kernel_rfl) ?_ _;intro _ hR;replace hF:=HB.rely (Old:=Old) hA hF hR;clear hR;simp only[zK];refine Zn (t:=false) (by simp[Act.eval, *]) ?_;simp only[eL,if_false];refine yk ?_;exact⟨rfl,hF,_,_,_,_,_,_,_,_,_,_,_,_,_,_,_,_,by rw[JY a0]⟩
  ·rintro A3 a3 w3 ⟨rfl,hF,c8,c9,d3,d4,d5,d6,d7,d8,d9,e1,e2,e3,e6,e7,e8,e9,rfl⟩
   refine wpO_seq ?_;refine zk ?_;simp only[sE,mC,mS,sF,iX,lQ,List.range.loop];co_applyP z8 rfl (by rfl)
   case hv=>intro W K hK;go_simp;exact hK
   case he=>intro W;simp[go_sem, *]
   try walk_nrm
   co_applyP z8 rfl (by rfl)
   case hv=>intro W K hK;go_simp;exact hK
   case he=>intro W;simp[go_sem, *]
   try walk_nrm
   refine zn ?_;simp only[zK];refine KT ?_;exact⟨rfl,_,resultsC_tmp (by rfl) _,rfl,rfl,hF⟩
end
def qA:Nat→Nat→(Nat→Int)→Nat→(Nat→Int)
 |0,_,x,_=>x
 |f+1,n,x,i=>if zP n x (zP n x i (2*i+1)) (2*i+2)=i then x else qA f n (swp x i (zP n x (zP n x i (2*i+1)) (2*i+2))) (zP n x (zP n x i (2*i+1)) (2*i+2))
theorem Xg (n:Nat)(x:Nat→Int)(i l:Nat):zP n x i l=i∨(zP n x i l=l∧l<n):=by
 unfold zP;split
 ·rename_i h;exact .inr ⟨rfl,h.1⟩
 ·exact .inl rfl
theorem bD (n:Nat)(x:Nat→Int)(i:Nat):zP n x (zP n x i (2*i+1)) (2*i+2)=i∨(i<zP n x (zP n x i (2*i+1)) (2*i+2)∧zP n x (zP n x i (2*i+1)) (2*i+2)<n):=by
 rcases Xg n x i (2*i+1)with h|h<;>rcases Xg n x (zP n x i (2*i+1)) (2*i+2)with k|k<;>omega
theorem vS {f n:Nat}{x:Nat→Int}{i:Nat}(h:zP n x (zP n x i (2*i+1)) (2*i+2)=i):qA f n x i=x:=by
 cases f with
 |zero=>rfl
 |succ f=>simp only[qA];rw[if_pos h]
theorem Ja {f n:Nat}{x:Nat→Int}{i p:Nat}(hp:zP n x (zP n x i (2*i+1)) (2*i+2)=p)(h:p≠i):qA (f+1) n x i=qA f n (swp x i p) p:=by
 simp only[qA];rw[hp,if_neg h]
section
variable {main:Bool}{Old A O:Blk}{H:Nat→Option Obj}
theorem Gb (g n cap:Nat)(hA:UR A O g)(x:Nat→Int)(i:Nat)(hi:i<n∨(n=0∧i=0))(hn:n≤1000)(w:World)(hF:HB O H g n cap x w):
  yB rJ main Old 208 #[.slice (some ⟨g,0,none⟩) n cap,.int .i64 i] A w fun A' v w' =>A' =A∧v= .tuple #[]∧HB O H g n cap (qA (n+1) n x i) w' :=by
 refine yQ Tryz.func208 (by rfl) rfl ?_;simp only[Tryz.ntmps208,sE,mC,mS,sF,sG,sH,sI,sJ,sL,mJ,lN];refine Yr ?_;refine jg (fun A' a w=>A' =A∧∃(y:Nat→Int) (j f:Nat) (t2 t3 t4 t5 t6 t7 t8 t9 a8 a9 b3 b4 b5 b6 b7 b8 b9 c6 c7 c8 c9 d3 d4 d5 d6 d7 d8 d9 e3 a6:Value),(j<n∨n=0)∧j≤n∧n<j+f+1∧0<f∧qA f n y j=qA (n+1) n x i∧HB O H g n cap y w∧a=⟨#[.slice (some ⟨g,0,none⟩) n cap,.int .i64 j,t2,t3,t4,t5,t6,t7,t8,t9,a8,a9,b3,b4,b5,b6,b7,b8,b9,c6,c7,c8,c9,d3,d4,d5,d6,d7,d8,d9,e3,a6],[]⟩) (fun _ a _=>n-(intOf (a.tmps.getD 1 undef)).toNat) ⟨rfl,x,i,n+1,_,_,_,_,_,_,_,_,_,_,_,_,_,_,_,_,_,_,_,_,_,_,_,_,_,_,_,_,_,_,by omega,by omega,by omega,by omega,rfl,hF,rfl⟩ ?_;clear hF;rintro A' a w ⟨rfl,y,j,f,t2,t3,t4,t5,t6,t7,t8,t9,a8,a9,b3,b4,b5,b6,b7,b8,b9,c6,c7,c8,c9,d3,d4,d5,d6,d7,d8,d9,e3,a6,hj,i3,i2,i1,a7,hF,rfl⟩;refine Yr ?_;refine wpO_seq ?_;refine zk ?_;simp only[sE,mC,mS,sF,iX,lQ,List.range.loop];have h1:IntKind.i64.wrap (2*(j:Int))=2*(j:Int):=by rw[sM];omega
 have h2:IntKind.i64.wrap (2*(j:Int)+1)=2*(j:Int)+1:=by rw[sM];omega
 have h3:IntKind.i64.wrap (2*(j:Int)+2)=2*(j:Int)+2:=by rw[sM];omega
 co_applyP z8 rfl (by rfl)
 case hv=>intro W K hK;go_simp;exact hK
 case he=>intro W;simp[go_sem, *]
 try walk_nrm
 co_applyP z8 rfl (by rfl)
 case hv=>intro W K hK;go_simp;exact hK
 case he=>intro W;simp[go_sem, *]
 try walk_nrm
 co_applyP z8 rfl (by rfl)
 case hv=>intro W K hK;go_simp;exact hK
 case he=>intro W;simp[go_sem, *]
 try walk_nrm
 co_applyP z8 rfl (by rfl)
 case hv=>intro W K hK;go_simp;exact hK
 case he=>intro W;simp[go_sem, *]
 try walk_nrm
 co_applyP z8 rfl (by rfl)
 case hv=>intro W K hK;go_simp;exact hK
 case he=>intro W;simp[go_sem, *]
 try walk_nrm
 co_applyP z8 rfl (by rfl)
 case hv=>intro W K hK;go_simp;exact hK
 case he=>intro W;simp[go_sem, *]
 try walk_nrm
 co_applyP z8 rfl (by rfl)
 case hv=>intro W K hK;go_simp;exact hK
 case he=>intro W;simp[go_sem, *]
 try walk_nrm
 co_applyP z8 rfl (by rfl)
 case hv=>intro W K hK;go_simp;exact hK
 case he=>intro W;simp[go_sem, *]
 try walk_nrm
 have a1:=Gc (main:=main) (Old:=Old) g n cap hA y j (2*j+1) (2*j+2) hj w hF;have e1:((2*j+1:Nat):Int)=2*(j:Int)+1:=by omega
 have e2:((2*j+2:Nat):Int)=2*(j:Int)+2:=by omega
 rw[e1,e2]at a1;clear e1 e2 h1 h2 h3;refine xL rfl (by rfl) rfl (by simp[Act.eval]) a1 ?_;clear hF a1;rintro A2 v w2 ⟨rfl,rfl,hF⟩;obtain⟨p,HP⟩:∃p,Hid (zP n y (zP n y j (2*j+1)) (2*j+2)=p):=⟨_,rfl⟩
 rw[HP.out];try walk_nrm
 co_applyP z8 rfl (by rfl)
 case hv=>intro W K hK;go_simp;exact hK
 case he=>intro W;simp[go_sem, *]
 try walk_nrm
 refine zn ?_;simp only[zK];refine wpO_seq ?_;refine wpO_seq ?_;refine zk ?_;simp only[sE,mC,mS,sF,iX,lQ,List.range.loop];co_applyP z8 rfl (by rfl)
 case hv=>intro W K hK;go_simp;exact hK
 case he=>intro W;simp[go_sem, *]
 try walk_nrm
 co_applyP z8 rfl (by rfl)
 case hv=>intro W K hK;go_simp;exact hK
 case he=>intro W;simp[go_sem, *]
 try walk_nrm
 co_applyP z8 rfl (by rfl)
 case hv=>intro W K hK;go_simp;exact hK
 case he=>intro W;simp[go_sem, *]
 try walk_nrm
 refine zn ?_;simp only[zK];have a5:=bD n y j;rw[HP.out]at a5;have g9:Hid (p=j∨(j<p∧p<n)):=a5;clear a5;by_cases a4:p=j
 ·subst a4
  refine Zn (t:=true) (by simp[Act.eval]) ?_;simp only[if_true];refine KT ?_;simp only[zK,ZA];refine⟨rfl,_,resultsC_none (by rfl) _,by first|rfl|trivial,by first|rfl|trivial,?_⟩;rw[←a7,vS HP.out];exact hF
 ·refine Zn (t:=false) (by simp[Act.eval];omega) ?_
  simp only[eL,if_false];refine yk ?_;simp only[zK];have h0:j<p∧p<n:=g9.out.resolve_left a4;obtain⟨i0,i4⟩:=h0;have a0 :j<n:=by omega
  have b1:(j:Int)<(n:Int):=by omega
  have b2:(p:Int)<(n:Int):=by omega
  refine Vd (fun B2 a2 w2=>B2=A2∧HB O H g n cap (swp y j p) w2∧∃(u5 u6 u7 u8 u9 e6 e7 e8 e9 f0 f3 f4 f5 f6 f7 f8 f9 g0 g1 g2 g3 g4 g5 g6 g7 g8:Value),a2=⟨#[.slice (some ⟨g,0,none⟩) n cap,.int .i64 (j:Int),t2,t3,.int .i64 (p:Int),u5,u6,u7,u8,u9,e6,e7,e8,e9,f0,f3,f4,f5,f6,f7,f8,f9,g0,g1,g2,g3,g4,g5,g6,g7,g8,a6],[]⟩) ?_ ?_
  ·refine Xd (by kernel_rfl) ?_
   intro _ hR;replace hF:=HB.rely (Old:=Old) hA (HB.rely (Old:=Old) hA hF hR) (Xi _);clear hR;simp only[sE,mC,mS,sF,iX];co_applyP zd (i:=0) rfl (by kernel_rfl) (by kernel_rfl) (by kernel_rfl) (by rfl)
   case hv=>intro W K hK;go_simp;exact hK
   case he=>intro W;simp[go_sem, *]
   try walk_nrm
   co_applyP zd (i:=1) rfl (by kernel_rfl) (by kernel_rfl) (by kernel_rfl) (by rfl)
   case hv=>intro W K hK;go_simp;exact hK
   case he=>intro W;simp[go_sem, *]
   try walk_nrm
   co_applyP zd (i:=2) rfl (by kernel_rfl) (by kernel_rfl) (by kernel_rfl) (by rfl)
   case hv=>intro W K hK;go_simp;exact hK
   case he=>intro W;simp[go_sem, *]
   try walk_nrm
   co_applyP zd (i:=3) rfl (by kernel_rfl) (by kernel_rfl) (by kernel_rfl) (by rfl)
   case hv=>intro W K hK;go_simp;exact hK
   case he=>intro W;simp[go_sem, *]
   try walk_nrm
   co_applyP zd (i:=4) rfl (by kernel_rfl) (by kernel_rfl) (by kernel_rfl) (by rfl)
   case hv=>intro W K hK;go_simp;exact hK
   case he=>intro W;simp[go_sem, *]
   try walk_nrm
   co_applyP zd (i:=5) rfl (by kernel_rfl) (by kernel_rfl) (by kernel_rfl) (by rfl)
   case hv=>intro W K hK;go_simp;exact hK
   case he=>intro W;simp[go_sem, *]
   try walk_nrm
   co_applyP zd (i:=6) rfl (by kernel_rfl) (by kernel_rfl) (by kernel_rfl) (by rfl)
   case hv=>intro W K hK;go_simp;exact hK
   case he=>intro W;simp[go_sem, *]
   try walk_nrm
   co_applyP zd (i:=8) rfl (by kernel_rfl) (by kernel_rfl) (by kernel_rfl) (by rfl)
   case hv=>intro W K hK;go_simp;exact hK
   case he=>intro W;simp[go_sem, *]
   try walk_nrm
   co_applyP zd (i:=9) rfl (by kernel_rfl) (by kernel_rfl) (by kernel_rfl) (by rfl)
   case hv=>intro W K hK;go_simp;exact hK
   case he=>intro W;simp[go_sem, *]
   try walk_nrm
   co_applyP zd (i:=10) rfl (by kernel_rfl) (by kernel_rfl) (by kernel_rfl) (by rfl)
   case hv=>intro W K hK;go_simp;exact hK
   case he=>intro W;simp[go_sem, *]
   try walk_nrm
   refine any_all (rs:=[7,11]) (by kernel_rfl) (by decide) ?_;intro _ hR i hi;replace hF:=HB.rely (Old:=Old) hA hF hR;clear hR;simp only[iC,iI,or_false]at hi;rcases hi with rfl|rfl
   all_goals
    refine qi rfl (by rfl) ?_;intro _ hR K hK;replace hF:=HB.rely (Old:=Old) hA hF hR;clear hR;have hc:=hF.cell (j:=p) (by omega);have hd:=hF.cell a0;go_simp
    refine hK _ _ ?_ ?_
    ·exact zD _ (by co_evs (exact zV hA.1 _ _))
    clear hK K hc hd;try walk_nrm
    first|refine zQ (i:=11) (by decide+kernel) rfl (by rfl) ?_|refine zQ (i:=7) (by decide+kernel) rfl (by rfl) ?_
    intro _ hR K hK;replace hF:=HB.rely (Old:=Old) hA hF hR;clear hR;have hc:=hF.cell a0;have hd:=hF.cell (j:=p) (by omega);go_simp
    refine hK _ _ ?_ ?_
    ·exact zD _ (by co_evs (exact zV hA.1 _ _))
    clear hK K hc hd;try walk_nrm
    refine zQ (i:=12) (by kernel_rfl) rfl (by rfl) ?_;intro _ hR K hK;replace hF:=HB.rely (Old:=Old) hA hF hR;clear hR;go_simp
    refine hK _ _ ?_ ?_
    ·co_still (Xf Old _)
    clear hK K;try walk_nrm
    refine zQ (i:=13) (by kernel_rfl) rfl (by rfl) ?_;intro _ hR K hK;replace hF:=HB.rely (Old:=Old) hA hF hR;clear hR;have hc:=hF.cell a0;have hz:=hF.fr j;go_simp
    try(unfold stored;go_simp)
    refine hK _ _ ?_ ?_
    ·exact y_ hA.1 _ _ _ (by co_evs (exact zV hA.1 _ _))
    replace hF:=hF.set hA a0 (y p);clear hK K hc hz;try walk_nrm
    refine zQ (i:=14) (by kernel_rfl) rfl (by rfl) ?_;intro _ hR K hK;replace hF:=HB.rely (Old:=Old) hA hF hR;clear hR;go_simp
    refine hK _ _ ?_ ?_
    ·co_still (Xf Old _)
    clear hK K;try walk_nrm
    refine zQ (i:=15) (by kernel_rfl) rfl (by rfl) ?_;intro _ hR K hK;replace hF:=HB.rely (Old:=Old) hA hF hR;clear hR;have hc:=hF.cell (j:=p) (by omega);have hz:=hF.fr p;go_simp
    try(unfold stored;go_simp)
    refine hK _ _ ?_ ?_
    ·exact y_ hA.1 _ _ _ (by co_evs (exact zV hA.1 _ _))
    replace hF:=hF.set hA (j:=p) (by omega) (y j);clear hK K hc hz;try walk_nrm
    refine yS (by kernel_rfl) ?_ _;intro _ hR;replace hF:=HB.rely (Old:=Old) hA hF hR;clear hR;simp only[zK];exact⟨by first|rfl|trivial,hF,_,_,_,_,_,_,_,_,_,_,_,_,_,_,_,_,_,_,_,_,_,_,_,_,_,_,rfl⟩
  ·rintro A3 a3 w3 ⟨rfl,hF,u5,u6,u7,u8,u9,e6,e7,e8,e9,f0,f3,f4,f5,f6,f7,f8,f9,g0,g1,g2,g3,g4,g5,g6,g7,g8,rfl⟩
   refine zk ?_;simp only[sE,mC,mS,sF,iX,lQ,List.range.loop];co_applyP z8 rfl (by rfl)
   case hv=>intro W K hK;go_simp;exact hK
   case he=>intro W;simp[go_sem, *]
   try walk_nrm
   co_applyP z8 rfl (by rfl)
   case hv=>intro W K hK;go_simp;exact hK
   case he=>intro W;simp[go_sem, *]
   try walk_nrm
   refine zn ?_;simp only[zK,ZA];obtain⟨f',rfl⟩:∃f',f=f' +1:=⟨f-1,by omega⟩
   refine⟨⟨by first|rfl|trivial,swp y j p,p,f',_,_,_,_,_,_,_,_,_,_,_,_,_,_,_,_,_,_,_,_,_,_,_,_,_,_,_,_,_,_,by omega,by omega,by omega,by omega,?_,hF,rfl⟩,by simp[intOf];omega⟩;rw[←a7,Ja HP.out a4]
end
section
abbrev HH (nb:Nat)(v:Value)(g n cap:Nat)(x:Nat→Int)(w:World):Prop:=HB (fun b=>b=nb) (fun _=>some (.cells #[v] 202 (0,0))) g n cap x w
section
variable {nb g n cap:Nat}{v:Value}{x:Nat→Int}{w:World}
theorem HB.cellv (h:HH nb v g n cap x w):w.cell? ⟨nb,0,none⟩=some v:=by simp[pV,h.oth nb rfl]
theorem HB.frv (h:HH nb v g n cap x w):w.frozen? ⟨nb,0,none⟩=false:=by simp[sC,h.oth nb rfl]
theorem HB.setv (h:HH nb v g n cap x w)(a0:nb≠g)(v' :Value):HH nb v' g n cap x (w.setCell ⟨nb,0,none⟩ v'):=by
 refine⟨fun b hb=> ?_,?_⟩
 ·subst hb
  simp[sD,iV,h.oth b rfl]
 ·obtain⟨cs,h1,h2⟩:=h.ex
  exact⟨cs,by simpa[sD,iV,a0]using h1,h2⟩
end
theorem FC (W:World)(a:Addr)(n cap m:Nat)(h:m≤cap):(Instr.sliceAt 202 (.slice (some a) n cap) none (some (.int .i64 (m:Int))) none).run rJ W= .ok (.slice (some a) m cap) W:=by
 have hu:=sN;simp[Instr.sliceAt,run_underlying hu,Instr.slice,Instr.sliceBounds,Instr.sliceBound,go_sem];intro h';omega
theorem f8 (W:World)(a:Addr)(n cap m:Nat)(h:m≤cap)(es:Array Event):(Instr.sliceAt 202 (.slice (some a) n cap) none (some (.int .i64 (m:Int))) none).events rJ W es=es:=by
 have hu:=sN;simp[Instr.sliceAt,run_underlying hu,Instr.slice,Instr.sliceBounds,Instr.sliceBound,go_sem];rw[if_pos h,if_pos h]
theorem Qd (P:Program)(w:World)(es:Array Event)(a:Addr)(m:Mode)(b:Option Addr)(l c:Nat):(store a (.slice b l c) m).events P w es=storedEv P w es a (.slice b l c) m:=events_store P w es a _ m rfl
attribute [local go_sem] Qd
def vv (n:Nat)(x:Nat→Int):Nat→Int:=qA n (n-1) (YP x 0 (x (n-1))) 0
section
variable {main:Bool}{Old A:Blk}
theorem d8 (nb g n cap:Nat)(hA:UR A (fun b=>b=nb) g)(x:Nat→Int)(h0:0<n)(hn:n≤1000)(a2:n≤cap)(a1:cap≤9223372036854775807)(w:World)(hF:HH nb (.slice (some ⟨g,0,none⟩) n cap) g n cap x w):
  yB rJ main Old 156 #[.pointer (some ⟨nb,0,none⟩)] A w fun A' v w' =>A' =A∧v= .int .i64 (x 0)∧HH nb (.slice (some ⟨g,0,none⟩) (n-1) cap) g (n-1) cap (vv n x) w' :=by
 refine yQ Tryz.func156 (by rfl) rfl ?_;simp only[Tryz.ntmps156,sE,mC,mS,sF,sG,sH,sI,sJ,sL,mJ,lN];have h1:(n:Int)-1=((n-1:Nat):Int):=by omega
 have h2:IntKind.i64.wrap ((n-1:Nat):Int)=((n-1:Nat):Int):=by rw[sM];omega
 have b1:((n-1:Nat):Int)<(n:Int):=by omega
 have a3:=fun W=>FC W ⟨g,0,none⟩ n cap (n-1) (by omega)
 have a4:=fun W es=>f8 W ⟨g,0,none⟩ n cap (n-1) (by omega) es
 refine wpO_seq ?_;refine zk ?_;simp only[sE,mC,mS,sF,iX,lQ,List.range.loop];co_applyP z8 rfl (by rfl)
 case hv=>intro W K hK;go_simp;exact hK
 case he=>intro W;simp[go_sem, *]
 try walk_nrm
 refine zn ?_;simp only[zK];refine wpO_seq ?_;refine zk ?_;simp only[sE,mC,mS,sF,iX,lQ,List.range.loop];co_applyP z8 rfl (by rfl)
 case hv=>intro W K hK;go_simp;exact hK
 case he=>intro W;simp[go_sem, *]
 try walk_nrm
 co_applyP z8 rfl (by rfl)
 case hv=>intro W K hK;go_simp;exact hK
 case he=>intro W;simp[go_sem, *]
 try walk_nrm
 refine zI rfl (by rfl) ?_;intro _ hR K hK;replace hF:=HB.rely (Old:=Old) hA hF hR;clear hR;have hc:=hF.cellv;go_simp
 refine hK _ _ A ?_ ?_
 ·exact zD _ (by co_evs (exact zV (hA.2 nb rfl).1 _ _))
 clear hK K hc;try walk_nrm
 co_applyP z8 rfl (by rfl)
 case hv=>intro W K hK;go_simp;exact hK
 case he=>intro W;simp[go_sem, *]
 try walk_nrm
 refine zn ?_;simp only[zK];refine wpO_seq ?_;refine zk ?_;simp only[sE,mC,mS,sF,iX,lQ,List.range.loop];co_applyP z8 rfl (by rfl)
 case hv=>intro W K hK;go_simp;exact hK
 case he=>intro W;simp[go_sem, *]
 try walk_nrm
 co_applyP z8 rfl (by rfl)
 case hv=>intro W K hK;go_simp;exact hK
 case he=>intro W;simp[go_sem, *]
 try walk_nrm
 refine zI rfl (by rfl) ?_;intro _ hR K hK;replace hF:=HB.rely (Old:=Old) hA hF hR;clear hR;have hc:=hF.cell (j:=0) h0;go_simp
 refine hK _ _ A ?_ ?_
 ·exact zD _ (by co_evs (exact zV hA.1 _ _))
 clear hK K hc;try walk_nrm
 co_applyP z8 rfl (by rfl)
 case hv=>intro W K hK;go_simp;exact hK
 case he=>intro W;simp[go_sem, *]
 try walk_nrm
 co_applyP z8 rfl (by rfl)
 case hv=>intro W K hK;go_simp;exact hK
 case he=>intro W;simp[go_sem, *]
 try walk_nrm
 co_applyP z8 rfl (by rfl)
 case hv=>intro W K hK;go_simp;exact hK
 case he=>intro W;simp[go_sem, *]
 try walk_nrm
 co_applyP z8 rfl (by rfl)
 case hv=>intro W K hK;go_simp;exact hK
 case he=>intro W;simp[go_sem, *]
 try walk_nrm
 co_applyP z8 rfl (by rfl)
 case hv=>intro W K hK;go_simp;exact hK
 case he=>intro W;simp[go_sem, *]
 try walk_nrm
 refine zn ?_;simp only[zK];refine wpO_seq ?_;refine zk ?_;simp only[sE,mC,mS,sF,iX,lQ,List.range.loop];co_applyP z8 rfl (by rfl)
 case hv=>intro W K hK;go_simp;exact hK
 case he=>intro W;simp[go_sem, *]
 try walk_nrm
 co_applyP z8 rfl (by rfl)
 case hv=>intro W K hK;go_simp;exact hK
 case he=>intro W;simp[go_sem, *]
 try walk_nrm
 co_applyP z8 rfl (by rfl)
 case hv=>intro W K hK;go_simp;exact hK
 case he=>intro W;simp[go_sem, *]
 try walk_nrm
 co_applyP z8 rfl (by rfl)
 case hv=>intro W K hK;go_simp;exact hK
 case he=>intro W;simp[go_sem, *]
 try walk_nrm
 refine zI rfl (by rfl) ?_;intro _ hR K hK;replace hF:=HB.rely (Old:=Old) hA hF hR;clear hR;have hc:=hF.cell (j:=n-1) (by omega);go_simp
 refine hK _ _ A ?_ ?_
 ·exact zD _ (by co_evs (exact zV hA.1 _ _))
 clear hK K hc;try walk_nrm
 co_applyP z8 rfl (by rfl)
 case hv=>intro W K hK;go_simp;exact hK
 case he=>intro W;simp[go_sem, *]
 try walk_nrm
 refine zI rfl (by rfl) ?_;intro _ hR K hK;replace hF:=HB.rely (Old:=Old) hA hF hR;clear hR;have hc:=hF.cell (j:=0) h0;have hz:=hF.fr 0;go_simp
 try(unfold stored;go_simp)
 refine hK _ _ A ?_ ?_
 ·exact y_ hA.1 _ _ _ (by co_evs (exact zV hA.1 _ _))
 replace hF:=hF.set hA (j:=0) h0 (x (n-1));clear hK K hc hz;try walk_nrm
 refine zn ?_;simp only[zK];refine wpO_seq ?_;refine zk ?_;simp only[sE,mC,mS,sF,iX,lQ,List.range.loop];co_applyP z8 rfl (by rfl)
 case hv=>intro W K hK;go_simp;exact hK
 case he=>intro W;simp[go_sem, *]
 try walk_nrm
 co_applyP z8 rfl (by rfl)
 case hv=>intro W K hK;go_simp;exact hK
 case he=>intro W;simp[go_sem, *]
 try walk_nrm
 co_applyP z8 rfl (by rfl)
 case hv=>intro W K hK;go_simp;exact hK
 case he=>intro W;simp[go_sem, *]
 try walk_nrm
 co_applyP z8 rfl (by rfl)
 case hv=>intro W K hK;go_simp;exact hK
 case he=>intro W;simp[go_sem, *]
 try walk_nrm
 co_applyP z8 rfl (by rfl)
 case hv=>intro W K hK;go_simp;exact hK
 case he=>intro W;simp[go_sem, *]
 try walk_nrm
 refine zI rfl (by rfl) ?_;intro _ hR K hK;replace hF:=HB.rely (Old:=Old) hA hF hR;clear hR;have hc:=hF.cellv;have hz:=hF.frv;go_simp
 try(unfold stored;go_simp)
 refine hK _ _ A ?_ ?_
 ·exact y_ (hA.2 nb rfl).1 _ _ _ (by co_evs (exact zV (hA.2 nb rfl).1 _ _))
 replace hF:=hF.setv (hA.2 nb rfl).2 (.slice (some ⟨g,0,none⟩) (n-1) cap);clear hK K hc hz;try walk_nrm
 refine zn ?_;simp only[zK];refine wpO_seq ?_;refine zk ?_;simp only[sE,mC,mS,sF,iX,lQ,List.range.loop];co_applyP z8 rfl (by rfl)
 case hv=>intro W K hK;go_simp;exact hK
 case he=>intro W;simp[go_sem, *]
 try walk_nrm
 co_applyP z8 rfl (by rfl)
 case hv=>intro W K hK;go_simp;exact hK
 case he=>intro W;simp[go_sem, *]
 try walk_nrm
 refine zI rfl (by rfl) ?_;intro _ hR K hK;replace hF:=HB.rely (Old:=Old) hA hF hR;clear hR;have hc:=hF.cellv;go_simp
 refine hK _ _ A ?_ ?_
 ·exact zD _ (by co_evs (exact zV (hA.2 nb rfl).1 _ _))
 clear hK K hc;try walk_nrm
 replace hF:=hF.less (m:=n-1) (by omega);have a0:=Gb (main:=main) (Old:=Old) (A:=A) g (n-1) cap hA (YP x 0 (x (n-1))) 0 (by omega) (by omega) _ hF;refine xL rfl (by rfl) rfl (by simp[Act.eval]) a0 ?_;clear hF a0;rintro A2 v w2 ⟨rfl,rfl,hF⟩;try walk_nrm
 refine zn ?_;simp only[zK];refine wpO_seq ?_;refine zk ?_;simp only[sE,mC,mS,sF,iX,lQ,List.range.loop];co_applyP z8 rfl (by rfl)
 case hv=>intro W K hK;go_simp;exact hK
 case he=>intro W;simp[go_sem, *]
 try walk_nrm
 co_applyP z8 rfl (by rfl)
 case hv=>intro W K hK;go_simp;exact hK
 case he=>intro W;simp[go_sem, *]
 try walk_nrm
 refine zn ?_;simp only[zK];refine KT ?_;refine⟨rfl,_,resultsC_tmp (by rfl) _,rfl,rfl,?_⟩;have e:n-1+1=n:=by omega
 rw[e]at hF;exact hF
end
end
