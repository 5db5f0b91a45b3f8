import Derived.Test.YtolgebdmffcemaaGreatDoorQ16
import Derived.Conc.AppendWalk
import Derived.Maps.AppendAt
import Derived.OwnWalk
set_option linter.all false
set_option maxHeartbeats 20000000
set_option maxRecDepth 1000000
open List renaming range→lQ,getElem?_map→rN,getElem?_range→sP,getElem?_take→lX,size_toArray→sE,length_cons→mC,length_nil→mS
open Go.World renaming cell?→pV
open Nat renaming zero_le→sQ,reduceAdd→sF,zero_add→iX
open Go.Proofs.Tryz renaming prog→rJ,underlying202→sN
namespace Go.Proofs.YtolgebdmffcemaaGreatDoor
open Go Go.Conc Go.RowKit
section
structure HR (A:Blk)(nb:Nat)(v:Value)(n:Nat)(x:Nat→Int)(w:World):Prop where
 var:w.heap[nb]? =some (.cells #[v] 202 (0,0))
 row:w.ownsRow 0 3 1 v n ((lQ n).map fun j=>Value.int .i64 (x j))
 own:∀g,v.ownBlock=some g→A g∧g≠nb
 mine:A nb
theorem ZO {w w' :World}{base:Nat}{e:TypeId}{size:Nat}{v:Value}{n:Nat}{xs:List Value}(h:w.ownsRow base e size v n xs)(hb:∀g,v.ownBlock=some g→w'.heap[g]? =w.heap[g]?):w'.ownsRow base e size v n xs:=by
 obtain⟨h1,h2⟩:=h;refine⟨h1,?_⟩;rcases h2 with h2|⟨g,cap,a0,rfl,a1,hg,h3⟩
 ·exact .inl h2
 ·exact .inr ⟨g,cap,a0,rfl,a1,by rw[hb g (by simp[Value.ownBlock])];exact hg,h3⟩
section
variable {Old A:Blk}{nb n:Nat}{v:Value}{x:Nat→Int}{w w1:World}
theorem HR.rely (h:HR A nb v n x w)(r:Rel Old A w w1):HR A nb v n x w1:=⟨(r.own nb (.inl h.mine)).trans h.var,ZO h.row fun g hg=>r.own g (.inl (h.own g hg).1),h.own,h.mine⟩
theorem HR.cellv (h:HR A nb v n x w):w.cell? ⟨nb,0,none⟩=some v:=by simp[pV,h.var]
end
theorem XW:(Tryz.prog.info? 3).map (fun i=>(i.zero,i.size,i.bytes))=some (some (.int .i64 0),1,8):=by kernel_rfl
theorem xV {Old A:Blk}(w:World)(o:Obj){es:Array Event}(h:∀e∈es,EvO Old (fun b=>A b∨b=w.heap.size) e):yK Old A (fun b=>A b∨b=w.heap.size) w (w.alloc o) es:=
 ⟨rfl,rfl,rfl,by simp,fun _ h=> .inl h,fun b hb=>hb.imp id fun e=>by subst e;simp,fun b hb _=>Below.heap_alloc _ _ _ hb,h⟩
section
variable {A:Blk}{nb n:Nat}{v:Value}{x:Nat→Int}{w:World}
theorem HR.lt (h:HR A nb v n x w):nb<w.heap.size:=(Array.getElem?_eq_some_iff.1 h.var).1
theorem HR.alloc (h:HR A nb v n x w)(o:Obj):HR (fun b=>A b∨b=w.heap.size) nb v n x (w.alloc o):=
 ⟨by rw[Below.heap_alloc _ _ _ h.lt];exact h.var,h.row.alloc o,fun g hg=>⟨.inl (h.own g hg).1,(h.own g hg).2⟩,.inl h.mine⟩
theorem B7 (n:Nat)(x:Nat→Int)(val:Int):((lQ n).map fun j=>Value.int .i64 (x j))++ [.int .i64 val]=(lQ (n+1)).map fun j=>Value.int .i64 (YP x n val j):=by
 rw[List.range_succ,List.map_append];congr 1
 ·apply List.map_congr_left
  intro j hj;have:j≠n:=by have:=List.mem_range.1 hj;omega
  simp[YP,this]
 ·simp[YP]
theorem HR.grown {w' :World}{v' :Value}{val:Int}(h:HR A nb v n x w)(hg:w.grownBy w' v.ownBlock)(ho:w'.ownsRow 0 3 1 v' (n+1) (((lQ n).map fun j=>Value.int .i64 (x j))++ [.int .i64 val]))(a0:v'.ownBlock=v.ownBlock∨v'.ownBlock=some w.heap.size):
  w'.heap[nb]? =some (.cells #[v] 202 (0,0))∧w'.ownsRow 0 3 1 v' (n+1) ((lQ (n+1)).map fun j=>Value.int .i64 (YP x n val j))∧(∀g,v'.ownBlock=some g→(A g∨(w.heap.size≤g∧g<w'.heap.size))∧g≠nb):=by
 refine⟨?_,by rw[←B7];exact ho,fun g e=> ?_⟩
 ·rw[hg.block nb h.lt fun e=>(h.own nb e.symm).2 rfl];exact h.var
 ·rcases a0 with h1|h1
  ·exact⟨.inl (h.own g (h1▸e)).1,(h.own g (h1▸e)).2⟩
  ·rw[h1]at e
   obtain rfl:=Option.some.inj e;exact⟨.inr ⟨Nat.le_refl _,(ho.lt _ h1).2⟩,by have:=h.lt;omega⟩
end
theorem FL {nb n:Nat}{v v' :Value}{x:Nat→Int}{w:World}(hv:w.heap[nb]? =some (.cells #[v] 202 (0,0)))(hr:w.ownsRow 0 3 1 v' (n+1) ((lQ (n+1)).map fun j=>Value.int .i64 (x j))):
  ∃g cap,v' = .slice (some ⟨g,0,none⟩) (n+1) cap∧cap≤maxLen∧HH nb v g (n+1) cap x w:=by
 rcases hr.2 with⟨_,h⟩|⟨g,cap,a0,rfl,a5,hg,a3,a1,a2,a4⟩
 ·exact absurd h (by omega)
 ·refine⟨g,cap,rfl,a1,⟨fun b hb=>by subst hb;exact hv,a0,hg,⟨by simpa using a2,a3⟩,fun j hj=> ?_⟩⟩
  have h1:(a0.toList.take ((n+1)*1))[j]? =some (.int .i64 (x j)):=by rw[a4,rN,sP hj];rfl
  rw[lX]at h1;split at h1
  ·simpa using h1
  ·cases h1
theorem Gh {A:Blk}{nb g n cap:Nat}{x:Nat→Int}{w:World}(hA:UR A (fun b=>b=nb) g)(a0:cap≤maxLen)(h:HH nb (.slice (some ⟨g,0,none⟩) n cap) g n cap x w):HR A nb (.slice (some ⟨g,0,none⟩) n cap) n x w:=by
 obtain⟨cs,h1,⟨h2,h3⟩,h4⟩:=h.ex;refine⟨h.oth nb rfl,⟨by simp,.inr ⟨g,cap,cs,rfl,sQ _,h1,h3,a0,by simpa using h2,?_⟩⟩,fun g' a1 => ?_,(hA.2 nb rfl).1⟩
 ·apply List.ext_getElem?
  intro j;rw[lX,rN];by_cases hj:j<n
  ·rw[if_pos (by omega),sP hj]
   simpa using h4 j hj
  ·rw[if_neg (by omega),List.getElem?_eq_none (by simpa using hj)]
   rfl
 ·have:g=g' :=by simpa[Value.ownBlock]using a1
  subst this;exact⟨hA.1,fun e=>(hA.2 nb rfl).2 e.symm⟩
section
variable {main:Bool}{Old A:Blk}
attribute [local go_sem]Qd
theorem C3 (nb n:Nat)(v:Value)(x:Nat→Int)(val:Int)(hn:n≤900)(w:World)(hF:HR A nb v n x w):
  yB rJ main Old 155 #[.pointer (some ⟨nb,0,none⟩),.int .i64 val] A w fun A' r w' =>(∀b,A b→A' b)∧r= .tuple #[]∧∃v',HR A' nb v' (n+1) (upF (n+1) (YP x n val) n) w' :=by
 refine yQ Tryz.func155 (by rfl) rfl ?_;simp only[Tryz.ntmps155,sE,mC,mS,sF,Nat.reduceSub,Array.replicate_succ,Array.replicate_zero,List.push_toArray,List.append_toArray,List.nil_append,List.cons_append];refine wpO_seq ?_;refine zk ?_;simp only[sE,mC,mS,sF,iX,lQ,List.range.loop];co_applyP z8 rfl (by rfl)
 case hv=>intro W K hK;go_simp;exact hK
 case he=>intro W;simp[go_sem, *]
 try walk_nrm
 co_applyP z8 rfl (by rfl)
 case hv=>intro W K hK;go_simp;exact hK
 case he=>intro W;simp[go_sem, *]
 try walk_nrm
 co_applyP z8 rfl (by rfl)
 case hv=>intro W K hK;go_simp;exact hK
 case he=>intro W;simp[go_sem, *]
 try walk_nrm
 refine zI rfl (by rfl) ?_;intro _ hR K hK;replace hF:=HR.rely (Old:=Old) hF hR;clear hR;have hc:=hF.cellv;go_simp
 refine hK _ _ A ?_ ?_
 ·exact zD _ (by co_evs (exact zV hF.mine _ _))
 clear hK K hc;try walk_nrm
 co_applyP z8 rfl (by rfl)
 case hv=>intro W K hK;go_simp;exact hK
 case he=>intro W;simp[go_sem, *]
 try walk_nrm
 refine zI rfl (by rfl) ?_;intro w1 hR K hK;replace hF:=HR.rely (Old:=Old) hF hR;clear hR;go_simp
 refine hK _ _ (fun b=>A b∨b=w1.heap.size) (xV w1 _ (by co_evs (skip))) ?_;clear hK K;have hX:(w1.alloc (.cells #[.int .i64 val] 3)).heap[w1.heap.size]? =some (.cells #[.int .i64 val] 3 (0,0)):=heap_alloc_new w1 _;have c9:∀g,v.ownBlock=some g→g≠w1.heap.size:=fun g hg=>by have:=(hF.row.lt g hg).2;omega
 have a5:nb≠w1.heap.size:=by have:=hF.lt;omega
 replace hF:=hF.alloc (.cells #[.int .i64 val] 3);obtain⟨A2,a3⟩:∃A2:Blk,A2=fun b=>A b∨b=w1.heap.size:=⟨_,rfl⟩
 rw[←a3]at hF⊢;have b3:∀b,A b→A2 b:=fun b h=>by rw[a3];exact .inl h
 have a0:A2 w1.heap.size:=by rw[a3];exact .inr rfl
 clear a3;generalize w1.alloc (.cells #[.int .i64 val] 3)=w2 at*;generalize w1.heap.size=ab at*;try walk_nrm
 refine zI rfl (by rfl) ?_;intro w3 hR K hK;replace hX:w3.heap[ab]? =some (.cells #[.int .i64 val] 3 (0,0)):=(hR.own ab (.inl a0)).trans hX;replace hF:=HR.rely (Old:=Old) hF hR;clear hR;obtain⟨i0,a4,a8,a9,b1⟩:=info_parts XW;have a1:∀j u,[Value.int .i64 val][j]? =some u→w3.cell? ((⟨ab,0,none⟩:Addr).add j)=some u:=fun j u hu=>by
  match j,hu with
  |0,hu=>simp at hu;subst hu;simp[Addr.add,pV,hX]
 obtain⟨v2,w4,hr,ho,hg,_,b5⟩:=run_append_own_at (P:=rJ) w3 0 202 202 3 i0 (.int .i64 0) 1 8 sN a4 a8 a9 b1 rfl (by decide) v n _ hF.row ⟨ab,0,none⟩ 1 1 [.int .i64 val] rfl a1 (by intro u hu;simp at hu;subst hu;rfl) (by unfold maxLen;omega) (by omega) (sQ _);have b7:=events_append_where (P:=rJ) w3 0 202 202 3 i0 (.int .i64 0) 1 8 sN a4 a8 a9 b1 v n _ hF.row ⟨ab,0,none⟩ 1 1 [.int .i64 val] rfl a1 (by intro u hu;simp at hu;subst hu;rfl) (by unfold maxLen;omega) (by omega);refine uponK_append (.tmp 7) (.tmp 9) 202 rfl (by simp[Act.eval]) (by simp[Act.eval]) hr ?_;refine hK _ _ (fun b=>A2 b∨(w3.heap.size≤b∧b<w4.heap.size)) ?_ ?_
 ·refine⟨hg.tape,hg.os,hg.output,hg.size,fun _ h=> .inl h,fun _ h=>h,fun b hb hn=>hg.block b hb fun e=>hn (hF.own b e.symm).1,fun e he=> ?_⟩
  have hm:=mem_listed he;rw[events_append_op (v:=v) (xv:= .slice (some ⟨ab,0,none⟩) 1 1) (.tmp 7) (.tmp 9) 202 rfl (by simp[Act.eval]) (by simp[Act.eval])]at hm;rcases b7 e hm with⟨ad,h1,h2⟩|⟨mk,rfl,a6⟩
  ·refine .inl ⟨ad,h1,.inl ?_⟩
   rcases h2 with h2|h2
   ·rw[h2.2];exact .inl a0
   ·exact .inl (hF.own _ h2.symm).1
  ·exact .inr (.inl ⟨mk,rfl,a6⟩)
 clear hK K b7 a1;have b8:=hF.mine;obtain⟨c8,c6,b9⟩:=hF.grown hg ho b5;clear ho b5 hr hg hX;obtain⟨g,cap,c7,b6,b4⟩:=FL c8 c6;have a7:=b9 g (by rw[c7];rfl);obtain⟨A3,a2⟩:∃A3:Blk,A3=fun b=>A2 b∨(w3.heap.size≤b∧b<w4.heap.size):=⟨_,rfl⟩
 rw[←a2];have hA:UR A3 (fun b=>b=nb) g:=⟨by rw[a2];exact a7.1,fun b hb=>by subst hb;exact⟨by rw[a2];exact .inl b8,fun e=>a7.2 e.symm⟩⟩
 have b2:∀b,A b→A3 b:=fun b hb=>by rw[a2];exact .inl (b3 b hb)
 clear a2 a7 b9 c6 c8 hF b8 b3 a0 c9 a5 a4 a8 a9 b1;subst c7;have hF:=b4;clear b4;try walk_nrm
 co_applyP z8 rfl (by rfl)
 case hv=>intro W K hK;go_simp;exact hK
 case he=>intro W;simp[go_sem, *]
 try walk_nrm
 refine zI rfl (by rfl) ?_;intro _ hR K hK;replace hF:=HB.rely (Old:=Old) hA hF hR;clear hR;have hc:=hF.cellv;have hz:=hF.frv;go_simp
 try(unfold stored;go_simp)
 refine hK _ _ A3 ?_ ?_
 ·exact y_ (hA.2 nb rfl).1 _ _ _ (by co_evs (exact zV (hA.2 nb rfl).1 _ _))
 replace hF:=hF.setv (hA.2 nb rfl).2 (.slice (some ⟨g,0,none⟩) (n+1) cap);clear hK K hc hz;try walk_nrm
 refine zn ?_;simp only[zK];refine Xd (by kernel_rfl) ?_;intro _ hR;replace hF:=HB.rely (Old:=Old) hA (HB.rely (Old:=Old) hA hF hR) (Xi _);clear hR;simp only[sE,mC,mS,sF,iX];co_applyP zd (i:=0) rfl (by kernel_rfl) (by kernel_rfl) (by kernel_rfl) (by rfl)
 case hv=>intro W K hK;go_simp;exact hK
 case he=>intro W;simp[go_sem, *]
 try walk_nrm
 co_applyP zd (i:=1) rfl (by kernel_rfl) (by kernel_rfl) (by kernel_rfl) (by rfl)
 case hv=>intro W K hK;go_simp;exact hK
 case he=>intro W;simp[go_sem, *]
 try walk_nrm
 co_applyP zd (i:=3) rfl (by kernel_rfl) (by kernel_rfl) (by kernel_rfl) (by rfl)
 case hv=>intro W K hK;go_simp;exact hK
 case he=>intro W;simp[go_sem, *]
 try walk_nrm
 co_applyP zd (i:=4) rfl (by kernel_rfl) (by kernel_rfl) (by kernel_rfl) (by rfl)
 case hv=>intro W K hK;go_simp;exact hK
 case he=>intro W;simp[go_sem, *]
 try walk_nrm
 have h1:((n+1:Nat):Int)-1=(n:Int):=by omega
 have h2:IntKind.i64.wrap (n:Int)=(n:Int):=by rw[IntKind.wrap_i64];omega
 have h3:(n:Int)+1-1=(n:Int):=by omega
 refine any_all (rs:=[2,5]) (by kernel_rfl) (by decide) ?_;intro _ hR i hi;replace hF:=HB.rely (Old:=Old) hA hF hR;clear hR;simp only[List.mem_cons,List.not_mem_nil,or_false]at hi;rcases hi with rfl|rfl
 ·refine qi rfl (by rfl) ?_
  intro _ hR K hK;replace hF:=HB.rely (Old:=Old) hA hF hR;clear hR;have hc:=hF.cellv;go_simp
  refine hK _ _ ?_ ?_
  ·exact zD _ (by co_evs (exact zV (hA.2 nb rfl).1 _ _))
  clear hK K hc;try walk_nrm
  refine zQ (i:=5) (by kernel_rfl) rfl (by rfl) ?_;intro _ hR K hK;replace hF:=HB.rely (Old:=Old) hA hF hR;clear hR;have hc:=hF.cellv;go_simp
  refine hK _ _ ?_ ?_
  ·exact zD _ (by co_evs (exact zV (hA.2 nb rfl).1 _ _))
  clear hK K hc;try walk_nrm
  refine zQ (i:=6) (by kernel_rfl) rfl (by rfl) ?_;intro _ hR K hK;replace hF:=HB.rely (Old:=Old) hA hF hR;clear hR;go_simp
  refine hK _ _ ?_ ?_
  ·co_still (Xf Old _)
  clear hK K;try walk_nrm
  refine zQ (i:=7) (by kernel_rfl) rfl (by rfl) ?_;intro _ hR K hK;replace hF:=HB.rely (Old:=Old) hA hF hR;clear hR;go_simp
  refine hK _ _ ?_ ?_
  ·co_still (Xf Old _)
  clear hK K;try walk_nrm
  refine uH (i:=8) (Post:=fun r w' =>r= .tuple #[]∧HH nb (.slice (some ⟨g,0,none⟩) (n+1) cap) g (n+1) cap (upF (n+1) (YP x n val) n) w') (by kernel_rfl) rfl (by rfl) rfl (vals:= #[.slice (some ⟨g,0,none⟩) (n+1) cap,.int .i64 (n:Int)]) (by simp[Act.eval]) ?_ ?_
  ·intro w9 hR
   replace hF:=HB.rely (Old:=Old) hA hF hR;exact OO (main:=main) (Old:=Old) (A:=A3) g (n+1) cap hA (YP x n val) n (by omega) (by omega) _ hF
  ·rintro r w9 ⟨rfl,hF⟩
   refine yS (by kernel_rfl) ?_ _;intro _ hR;replace hF:=HB.rely (Old:=Old) hA hF hR;refine⟨rfl,_,resultsC_none (by rfl) _,b2,rfl,_,Gh hA b6 hF⟩
 ·refine qi rfl (by rfl) ?_
  intro _ hR K hK;replace hF:=HB.rely (Old:=Old) hA hF hR;clear hR;have hc:=hF.cellv;go_simp
  refine hK _ _ ?_ ?_
  ·exact zD _ (by co_evs (exact zV (hA.2 nb rfl).1 _ _))
  clear hK K hc;try walk_nrm
  co_applyP zd (i:=6) rfl (by kernel_rfl) (by kernel_rfl) (by kernel_rfl) (by rfl)
  case hv=>intro W K hK;go_simp;exact hK
  case he=>intro W;simp[go_sem, *]
  try walk_nrm
  co_applyP zd (i:=7) rfl (by kernel_rfl) (by kernel_rfl) (by kernel_rfl) (by rfl)
  case hv=>intro W K hK;go_simp;exact hK
  case he=>intro W;simp[go_sem, *]
  try walk_nrm
  refine zQ (i:=2) (by kernel_rfl) rfl (by rfl) ?_;intro _ hR K hK;replace hF:=HB.rely (Old:=Old) hA hF hR;clear hR;have hc:=hF.cellv;go_simp
  refine hK _ _ ?_ ?_
  ·exact zD _ (by co_evs (exact zV (hA.2 nb rfl).1 _ _))
  clear hK K hc;try walk_nrm
  refine uH (i:=8) (Post:=fun r w' =>r= .tuple #[]∧HH nb (.slice (some ⟨g,0,none⟩) (n+1) cap) g (n+1) cap (upF (n+1) (YP x n val) n) w') (by kernel_rfl) rfl (by rfl) rfl (vals:= #[.slice (some ⟨g,0,none⟩) (n+1) cap,.int .i64 (n:Int)]) (by simp[Act.eval]) ?_ ?_
  ·intro w9 hR
   replace hF:=HB.rely (Old:=Old) hA hF hR;exact OO (main:=main) (Old:=Old) (A:=A3) g (n+1) cap hA (YP x n val) n (by omega) (by omega) _ hF
  ·rintro r w9 ⟨rfl,hF⟩
   refine yS (by kernel_rfl) ?_ _;intro _ hR;replace hF:=HB.rely (Old:=Old) hA hF hR;refine⟨rfl,_,resultsC_none (by rfl) _,b2,rfl,_,Gh hA b6 hF⟩
end
end
