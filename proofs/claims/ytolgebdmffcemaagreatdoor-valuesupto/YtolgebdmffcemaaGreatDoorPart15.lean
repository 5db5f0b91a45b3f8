/-
  The program's Branch, Fork, Drop (over Store.treeOf, Store.grow): as the document's answer has them.
-/
import Derived.Test.YtolgebdmffcemaaGreatDoorPart11
import Derived.Test.YtolgebdmffcemaaGreatDoorPart12
import Derived.Test.YtolgebdmffcemaaGreatDoorPart13
import Derived.Test.YtolgebdmffcemaaGreatDoorPart14
set_option linter.unusedVariables false
namespace Go.Proofs.YtolgebdmffcemaaGreatDoor
open Go.RowKit
theorem cellsK_at : ∀ (L : List (R.Cm × Value × Value)) (i : Nat) (h : i < L.length), (cellsK L)[i * 2 + 1]? = some (L[i]'h).2.2
  | p :: r, 0, _ => by simp [cellsK]
  | p :: r, i + 1, h => by
    have ih := cellsK_at r i (by simpa using h)
    unfold cellsK at ih ⊢
    rw [List.flatMap_cons, show (i + 1) * 2 + 1 = (i * 2 + 1) + 2 from by omega]
    simpa using ih
set_option maxHeartbeats 400000 in
theorem g_treeOf {w : World} {M O : Nat → Prop} {B : Nat} {st : R.St} {bv cv : Value} {LB : List BrP} {LCm : List (R.Cm × Value × Value)} (h : PSx w M O B st bv cv LB LCm) (n : Nat) (hn : n ≤ st.cms.length) (_hc : st.cms.length ≤ 60) :
    Calls Tryz.prog 52 #[.pointer (some ⟨B, 0, none⟩), .int .i64 (n : Int)] w fun e w' => ∃ ta tc, e = .returned (.slice ta (R.treeOf st n).length tc) ∧ PT w M (.slice ta (R.treeOf st n).length tc) (R.treeOf st n) ∧ w' = w := by
  by_cases h0 : n = 0
  · subst h0
    have ht : R.treeOf st 0 = [] := by simp [R.treeOf]
    rw [ht]
    clear h
    go_enter Tryz.func52, Tryz.ntmps52
    go_wp2
    go_ret
    exact ⟨none, 0, rfl, ⟨[], rfl, ⟨none, 0, rfl, by simp, by unfold maxLen; omega, fun h => by simp at h⟩, by simp⟩, rfl⟩
  · have hln : st.cms.length = LCm.length := by rw [← h.cms, List.length_map]
    have hlt : n - 1 < LCm.length := by omega
    have hT : R.treeOf st n = (LCm[n - 1]'hlt).1.tree := by
      rw [R.treeOf, if_neg h0, ← h.cms, List.getElem?_map, List.getElem?_eq_getElem hlt]; rfl
    have hp := h.ctree _ (List.getElem_mem hlt)
    rw [← hT] at hp
    have c1 := h.c1
    obtain ⟨a, cap, rfl, hnc, hm, hnil, hsome⟩ := owns_form h.crow
    cases a with
    | none => have := (hnil rfl).1; omega
    | some ad =>
    obtain ⟨g, rfl, _, _, _, hcell⟩ := hsome ad rfl
    have e1 := hcell _ _ (cellsK_at LCm (n - 1) hlt)
    obtain ⟨ta, tc, hv⟩ : ∃ a c, (LCm[n - 1]'hlt).2.2 = .slice a (R.treeOf st n).length c := by
      obtain ⟨L, hL, ⟨a, c, hv, _⟩, _⟩ := hp
      exact ⟨a, c, by rw [hv, ← hL, List.length_map]⟩
    rw [hv] at e1 hp
    unfold maxLen at hm
    have HP := hide3 hp
    have hnn : ((n : Int) == 0) = false := by rw [Bool.eq_false_iff]; simp; omega
    have hsub : (n : Int) - 1 = ((n - 1 : Nat) : Int) := by omega
    clear h hcell hsome hnil hT hp hv h0
    generalize R.treeOf st n = tr at *
    obtain ⟨m, hm1⟩ : ∃ m, m = n - 1 := ⟨_, rfl⟩
    rw [← hm1] at e1 hlt hsub
    clear hm1
    go_enter Tryz.func52, Tryz.ntmps52
    go_wp2
    go_ret
    exact ⟨ta, tc, rfl, HP.out, rfl⟩
theorem rd_newAt (w : World) (n : Nat) (hn : w.heap.size = n) (C : Array Value) (t : TypeId) (hC : C.size ≤ 1000) : Rd (w.alloc (.cells C t)) (fun _ => False) (.slice (some ⟨n, 0, none⟩) C.size C.size) C.size C.toList := by
  subst hn; exact rd_new w C t hC
theorem Kept.then {O O1 : Nat → Prop} {w w1 w2 : World} (h : Kept O w w1) (hO : ∀ b, O1 b → O b ∨ w.heap.size ≤ b) (h2 : Kept O1 w1 w2) : Kept O w w2 :=
  ⟨h2.os.trans h.os, h2.tape.trans h.tape, h2.output.trans h.output, Nat.le_trans h.size h2.size, fun k hk hn => by
    rw [h2.block k (Nat.lt_of_lt_of_le hk h.size) (fun e => by rcases hO k e with e | e; exact hn e; omega)]
    exact h.block k hk hn⟩
/-- a branch has this head, and its tree at work on; it is made if there is none; it is written down -/
def pointed (st : R.St) (name : List UInt8) (head : Nat) : R.St :=
  if R.fnd st.brs name < st.brs.length then { st with brs := st.brs.set (R.fnd st.brs name) { name := name, head := head, work := R.treeOf st head }, packed := st.packed ++ R.record 66 (UInt8.ofNat head :: name) }
  else R.headNew st { name := name, head := head, work := R.treeOf st head }
/-- behind a branch that is there, whose head and tree are set: the record -/
theorem set2_BrAt {w : World} {M : Nat → Prop} {p : BrP} (hat : BrAt w M p) (name : List UInt8) (hn : p.1.name = name) (head : Nat) {tv : Value} {t : List R.Leaf} (hpt : PT ((w.setCell ⟨p.2.1, 1, none⟩ (.int .i64 (head : Int))).setCell ⟨p.2.1, 2, none⟩ tv) M tv t) :
    BrAt ((w.setCell ⟨p.2.1, 1, none⟩ (.int .i64 (head : Int))).setCell ⟨p.2.1, 2, none⟩ tv) M ({ name := name, head := head, work := t }, p.2.1, tv) := by
  subst hn
  refine ⟨?_, ?_, ?_, fun o => ?_, hpt⟩
  · rw [sc_other _ _ _ _ _ (by omega), sc_other _ _ _ _ _ (by omega)]; exact hat.c0
  · rw [sc_other _ _ _ _ _ (by omega)]; exact sc_same _ _ _ _ _ hat.c1
  · exact sc_same _ _ _ _ p.2.2 (by rw [sc_other _ _ _ _ _ (by omega)]; exact hat.c2)
  · rw [World.frozen?_setCell, World.frozen?_setCell]; exact hat.fr o
/-- the tail of Store.point: the branch at place i gets its head and tree, and that is written -/
theorem kept2 (w : World) (bb : Nat) (u tv : Value) : Kept (fun b => b = bb) w ((w.setCell ⟨bb, 1, none⟩ u).setCell ⟨bb, 2, none⟩ tv) :=
  ((Kept.refl (fun b => b = bb) w).setCell (p := ⟨bb, 1, none⟩) (.inl rfl) u).setCell (p := ⟨bb, 2, none⟩) (.inl rfl) tv
theorem insB_set (l : List R.Br) (name : List UInt8) (h : Nat) (t : List R.Leaf) : R.insB l { name := name, head := h, work := t } = (R.insB l { name := name, head := 0, work := [] }).set (R.pos l name) { name := name, head := h, work := t } := by
  have hle : R.pos l name ≤ l.length := List.findIdx_le_length
  unfold R.insB
  simp only
  rw [List.set_append_right _ _ (by simp; omega)]
  simp [Nat.min_eq_left hle]
set_option maxHeartbeats 1600000 in
set_option maxRecDepth 1000000 in
theorem g_point (B : Nat) (st : R.St) (name : List UInt8) (head : Nat) (w : World) (M O : Nat → Prop) (h : PS w M O B st) (hi : Inv st) (hh : head ≤ st.cms.length) (hnl : name.length ≤ 1000) (hpk : st.packed.length ≤ 1000000000000) :
    Calls Tryz.prog 48 #[.pointer (some ⟨B, 0, none⟩), .string ⟨name.toArray⟩, .int .i64 (head : Int)] w fun e w' => e = .returned (.tuple #[]) ∧ PStep w w' M O B (pointed st name head) := by
  obtain ⟨bv, cv, LB, LCm, hP⟩ := h
  have hpl := g_splace hP hi name
  rw [fnd_any] at hpl
  have hlen : st.brs.length = LB.length := by rw [← hP.brs, List.length_map]
  obtain ⟨a, cap, hbv, hn, hm, hnil, hsome⟩ := owns_form hP.row
  have c0 := hP.c0
  rw [hbv] at c0
  unfold maxLen at hm
  have hBl := hP.lt B hP.own
  have hfew := hi.few
  by_cases hf : R.fnd st.brs name < st.brs.length
  · have HR : Hid (pointed st name head = { st with brs := st.brs.set (R.fnd st.brs name) { name := name, head := head, work := R.treeOf st head }, packed := st.packed ++ R.record 66 (UInt8.ofNat head :: name) }) := by show _ = _; rw [pointed, if_pos hf]
    rw [decide_eq_true hf, ← fnd_pos hi.sort name hf] at hpl
    have hl : R.fnd st.brs name < LB.length := by omega
    have hnm : (LB[R.fnd st.brs name]'hl).1.name = name := by
      have : (LB[R.fnd st.brs name]'hl).1 = (st.brs[R.fnd st.brs name]'hf) := by simp only [← hP.brs, List.getElem_map]
      rw [this]; exact R.fnd_name _ _ hf
    have hto := g_treeOf hP head hh hfew
    have hat := hP.at_ _ (List.getElem_mem hl)
    have hO := (hP.blk _ (List.getElem_mem hl)).1
    have hbl := hP.lt _ hO
    have k1 := hat.c1
    have k2 := hat.c2
    have f1 := hat.fr 1
    have f2 := hat.fr 2
    have HP := hide3 hP
    have HNM := hide3 hnm
    have HH := hide3 hat
    cases a with
    | none => have := (hnil rfl).1; omega
    | some ad =>
    obtain ⟨g, rfl, _, hgl, _, hcell⟩ := hsome ad rfl
    have e0 := ptrs_at hcell (R.fnd st.brs name) hl
    have HS : Hid (∀ (tv : Value) (t : List R.Leaf), PT w M tv t → PSx ((w.setCell ⟨(LB[R.fnd st.brs name]'hl).2.1, 1, none⟩ (.int .i64 (head : Int))).setCell ⟨(LB[R.fnd st.brs name]'hl).2.1, 2, none⟩ tv) M O B { st with brs := st.brs.set (R.fnd st.brs name) { name := name, head := head, work := t } } bv cv (LB.set (R.fnd st.brs name) ({ name := name, head := head, work := t }, (LB[R.fnd st.brs name]'hl).2.1, tv)) LCm ∧ Kept O w ((w.setCell ⟨(LB[R.fnd st.brs name]'hl).2.1, 1, none⟩ (.int .i64 (head : Int))).setCell ⟨(LB[R.fnd st.brs name]'hl).2.1, 2, none⟩ tv)) := by
      intro tv t hpt
      have hK := kept2 w (LB[R.fnd st.brs name]'hl).2.1 (.int .i64 (head : Int)) tv
      exact setBr_PSx hP hl (Below.refl _ _) hK (set2_BrAt hat name hnm head (hpt.step hK (fun b e => by subst e; exact hP.sub _ hO) (fun b e => .inl e)))
    generalize (LB[R.fnd st.brs name]'hl).2.1 = bb at *
    generalize (LB[R.fnd st.brs name]'hl).2.2 = t0 at *
    clear hP hi hcell hsome hnil hlen hf hnm hat
    generalize R.fnd st.brs name = k at *
    go_enter Tryz.func48, Tryz.ntmps48
    go_wp2_with fail
    refine hpl.mono ?_
    rintro e w1 ⟨rfl, hw1⟩
    subst hw1
    go_wp2_with fail
    refine hto.mono ?_
    rintro e w2 ⟨ta, tc, rfl, hpt, hw2⟩
    subst hw2
    obtain ⟨hq6, hk6⟩ := HS.out _ _ hpt
    have HQ6 := hide3 hq6
    have HK6 := hide3 hk6
    clear hto hpl hpt hq6 hk6
    go_wp2_with fail
    have hB1 := g_bytesOf (.slice (some ⟨w2.heap.size, 0, none⟩) 1 1) [(head : Int)] (((w2.setCell ⟨bb, 1, none⟩ (.int .i64 (head : Int))).setCell ⟨bb, 2, none⟩ (.slice ta (R.treeOf st head).length tc)).alloc (.cells #[.int .i64 (head : Int)] 3)) (fun _ => False) (rd_newAt _ _ (by simp) #[.int .i64 (head : Int)] 3 (by simp)) (by simp)
    refine hB1.mono ?_
    rintro e w7 ⟨rfl, hb7⟩
    clear hB1
    generalize hW6 : ((w2.setCell ⟨bb, 1, none⟩ (.int .i64 (head : Int))).setCell ⟨bb, 2, none⟩ (.slice ta (R.treeOf st head).length tc)) = w6 at *
    have hb67 : Below w6.heap.size w6 w7 := ((Below.refl _ _).alloc (Nat.le_refl _) _).trans (hb7.mono (by simp))
    have hb8 : Below w6.heap.size w6 (w7.alloc (.cells #[.string ⟨([(head : Int)].map byteOf).toArray⟩, .string ⟨name.toArray⟩] 9)) := hb67.alloc hb67.size _
    have hwr := g_write B 66 66 (by decide) (.slice (some ⟨w7.heap.size, 0, none⟩) 2 2) [[(head : Int)].map byteOf, name] (HQ6.out.below hb8) (fun _ => False) (rd_newAt w7 _ rfl #[.string ⟨([(head : Int)].map byteOf).toArray⟩, .string ⟨name.toArray⟩] 9 (by simp)) (by simp) (by
      intro i hi
      simp only [List.mem_cons, List.not_mem_nil, or_false] at hi
      rcases hi with rfl | rfl
      · simp
      · omega) hpk
    have HB8 := hide3 hb8
    have HFl : Hid ([[(head : Int)].map byteOf, name].flatten = UInt8.ofNat head :: name) := by
      show _ = _
      simp [byteOf_nat]
    clear hb7 hb67 hb8 hW6
    simp only [List.map_cons, List.map_nil] at *
    go_wp2_with fail
    refine hwr.mono ?_
    rintro e w9 ⟨rfl, hst⟩
    have HST := hide3 hst
    clear hst hwr
    go_wp2
    go_end0
    refine ⟨rfl, ?_⟩
    have h9 := HST.out
    rw [HFl.out] at h9
    rw [HR.out]
    obtain ⟨O2, hp2, hk2, ho2⟩ := h9
    exact ⟨O2, hp2, (HK6.out.trans ((Kept.of_below HB8.out).trans hk2)), fun b e => by
      rcases ho2 b e with e | e
      · exact .inl e
      · exact .inr (Nat.le_trans HK6.out.size (Nat.le_trans HB8.out.size e))⟩
  · have HR : Hid (pointed st name head = { st with brs := (R.insB st.brs { name := name, head := 0, work := [] }).set (R.pos st.brs name) { name := name, head := head, work := R.treeOf st head }, packed := st.packed ++ R.record 66 (UInt8.ofNat head :: name) }) := by
      show _ = _
      rw [pointed, if_neg hf, R.headNew, insB_set]
    rw [decide_eq_false hf] at hpl
    have hL6 : LB.length ≤ 6 := by have := hi.many; omega
    have fr0 := hP.fr 0
    have HP := hide3 hP
    clear hP hi hf hsome hnil hlen
    go_enter Tryz.func48, Tryz.ntmps48
    go_wp2_with fail
    refine hpl.mono ?_
    rintro e w2 ⟨rfl, hw1⟩
    subst hw1
    clear hpl
    have hrw := HP.out.row
    have hbO : ∀ g, bv.ownBlock = some g → g < w2.heap.size ∧ g ≠ B := fun g e => ⟨HP.out.lt g (HP.out.rowO g e).1, (HP.out.rowO g e).2⟩
    have hpp : posK R.Br.name st.brs name ≤ LB.length := by
      have := posK_le R.Br.name st.brs name
      have e : st.brs.length = LB.length := by rw [← HP.out.brs, List.length_map]
      omega
    have HIns := s_InsB bv LB.length (posK R.Br.name st.brs name) (w2.heap.size + 1) 0 (ptrs LB) #[.pointer (some ⟨w2.heap.size, 0, none⟩)] ((w2.alloc (Obj.cells #[.string ⟨name.toArray⟩, .int .i64 0, .slice none 0 0] 95)).alloc (Obj.cells #[.pointer (some ⟨w2.heap.size, 0, none⟩)] 88)) ((hrw.alloc _).alloc _) (Nat.zero_le _) hpp (by omega) (by simpa using heap_alloc_new (w2.alloc (Obj.cells #[.string ⟨name.toArray⟩, .int .i64 0, .slice none 0 0] 95)) (Obj.cells #[.pointer (some ⟨w2.heap.size, 0, none⟩)] 88)) rfl (fun e => by have := (hbO _ e).1; omega) (by
        intro u hu
        obtain ⟨q, _, rfl⟩ := List.mem_map.1 hu
        rfl) (by intro u hu; simp at hu; subst hu; rfl)
    have HBO := hide3 hbO
    have HBV := hide3 hbv
    rw [hbv] at HIns
    clear hrw hbO
    go_wp2_with fail
    refine HIns.mono ?_
    rintro e w3 ⟨v3, rfl, ho3, hg3, hl3⟩
    rw [← hbv] at hg3 hl3
    have hs3 : w2.heap.size + 2 ≤ w3.heap.size := by have := hg3.size; simpa using this
    have hnB : bv.ownBlock ≠ some B := fun e => (HBO.out _ e).2 rfl
    have hblk : ∀ k, k < w2.heap.size → bv.ownBlock ≠ some k → w3.heap[k]? = w2.heap[k]? := fun k hk hne => by
      rw [hg3.block k (by simp; omega) (fun e => hne e.symm), heap_alloc_old _ _ (by simp; omega), heap_alloc_old _ _ hk]
    have d0 : w3.cell? ⟨B, 0, none⟩ = some (.slice a LB.length cap) := (World.cell?_of_block (a := ⟨B, 0, none⟩) (hblk B hBl hnB)).trans c0
    have g0 : w3.frozen? ⟨B, 0, none⟩ = false := (World.frozen?_of_block (a := ⟨B, 0, none⟩) (hblk B hBl hnB)).trans fr0
    have hbb : w3.heap[w2.heap.size]? = some (.cells #[.string ⟨name.toArray⟩, .int .i64 0, .slice none 0 0] 95 (0, 0)) := by
      rw [hg3.block _ (by simp; omega) (fun e => by have := (HBO.out _ e.symm).1; omega), heap_alloc_old _ _ (by simp)]
      exact heap_alloc_new w2 _
    have HK : Hid (Kept (fun b => bv.ownBlock = some b) w2 w3) := ⟨hg3.os, hg3.tape, hg3.output, by omega, fun k hk hne => hblk k hk hne⟩
    have hnilP : ∀ W (M0 : Nat → Prop), PT W M0 (.slice none 0 0) [] := fun W M0 => ⟨[], rfl, ⟨none, 0, rfl, by simp, by unfold maxLen; omega, fun h => by simp at h⟩, by simp⟩
    have hat : BrAt w3 (fun _ => False) ({ name := name, head := 0, work := [] }, w2.heap.size, .slice none 0 0) :=
      ⟨by simp only [World.cell?, hbb]; rfl, by simp only [World.cell?, hbb]; rfl, by simp only [World.cell?, hbb]; rfl, fun o => by simp [World.frozen?, hbb], hnilP _ _⟩
    have hL3 : ∀ g, v3.ownBlock = some g → bv.ownBlock = some g ∨ w2.heap.size + 2 ≤ g := fun g e => by
      rcases hl3 g e with h | h
      · exact .inl h
      · exact .inr (by simpa using h)
    have hpE : R.pos st.brs name = posK R.Br.name st.brs name := rfl
    obtain ⟨O1, hP4, hK4, hO4⟩ := insB_PSx (st' := { st with brs := R.insB st.brs { name := name, head := 0, work := [] } }) HP.out HK.out ({ name := name, head := 0, work := [] }, w2.heap.size, .slice none 0 0) (by simpa [hpE] using ho3) (fun g e => by
      rcases hL3 g e with h | h
      · exact .inl h
      · exact .inr (by omega)) ⟨Nat.le_refl _, by show w2.heap.size < _; omega, ⟨hnilP _ _, hat⟩, fun e => by
      rcases hL3 _ e with h | h
      · have := HP.out.lt _ (HP.out.rowO _ h).1
        simp only at this; omega
      · simp only at h; omega⟩ rfl rfl rfl
    have hpl4 : R.pos st.brs name ≤ LB.length := hpp
    simp only at hP4
    have hmid : (LB.take (R.pos st.brs name) ++ (({ name := name, head := 0, work := [] }, w2.heap.size, .slice none 0 0) : BrP) :: LB.drop (R.pos st.brs name))[R.pos st.brs name]? = some ({ name := name, head := 0, work := [] }, w2.heap.size, .slice none 0 0) := by
      rw [List.getElem?_append_right (by simp; omega)]
      simp [Nat.min_eq_left hpl4]
    obtain ⟨hi4, hm4⟩ := List.getElem?_eq_some_iff.1 hmid
    have hto := g_treeOf hP4 head hh hfew
    have hTE : R.treeOf { st with brs := R.insB st.brs { name := name, head := 0, work := [] } } head = R.treeOf st head := rfl
    rw [hTE] at hto
    clear hTE
    have hat4 := hP4.at_ _ (List.getElem_mem hi4)
    have hO := (hP4.blk _ (List.getElem_mem hi4)).1
    have hrow4 := hP4.row
    have HS : Hid (∀ (tv : Value) (t : List R.Leaf), PT (w3.setCell ⟨B, 0, none⟩ v3) (fun b => M b ∨ O1 b) tv t → PSx (((w3.setCell ⟨B, 0, none⟩ v3).setCell ⟨w2.heap.size, 1, none⟩ (.int .i64 (head : Int))).setCell ⟨w2.heap.size, 2, none⟩ tv) (fun b => M b ∨ O1 b) O1 B { st with brs := (R.insB st.brs { name := name, head := 0, work := [] }).set (R.pos st.brs name) { name := name, head := head, work := t } } v3 cv ((LB.take (R.pos st.brs name) ++ (({ name := name, head := 0, work := [] }, w2.heap.size, .slice none 0 0) : BrP) :: LB.drop (R.pos st.brs name)).set (R.pos st.brs name) ({ name := name, head := head, work := t }, w2.heap.size, tv)) LCm ∧ Kept O1 (w3.setCell ⟨B, 0, none⟩ v3) (((w3.setCell ⟨B, 0, none⟩ v3).setCell ⟨w2.heap.size, 1, none⟩ (.int .i64 (head : Int))).setCell ⟨w2.heap.size, 2, none⟩ tv)) := by
      intro tv t hpt
      have hK := kept2 (w3.setCell ⟨B, 0, none⟩ v3) w2.heap.size (.int .i64 (head : Int)) tv
      rw [hm4] at hat4 hO
      have := setBr_PSx (nb := { name := name, head := head, work := t }) (tv := tv) hP4 hi4 (Below.refl _ _) (by rw [hm4]; exact hK) (by rw [hm4]; exact set2_BrAt hat4 name rfl head (hpt.step hK (fun b e => by subst e; exact hP4.sub _ hO) (fun b e => .inl e)))
      rw [hm4] at this
      exact this
    rw [hm4] at hat4
    have k1 := hat4.c1
    have k2 := hat4.c2
    have f1 := hat4.fr 1
    have f2 := hat4.fr 2
    have HK4 := hide3 hK4
    have HO4 := hide3 hO4
    obtain ⟨a3, c3, hv3, hn3, hm3, hnil3, hsome3⟩ := owns_form hrow4
    have hl4 : (LB.take (R.pos st.brs name) ++ (({ name := name, head := 0, work := [] }, w2.heap.size, .slice none 0 0) : BrP) :: LB.drop (R.pos st.brs name)).length = LB.length + 1 := by
      simp only [List.length_append, List.length_take, List.length_cons, List.length_drop]; omega
    cases a3 with
    | none => have := (hnil3 rfl).1; omega
    | some ad =>
    obtain ⟨g3, rfl, _, hgl3, _, hcell3⟩ := hsome3 ad rfl
    have e0 := ptrs_at hcell3 _ hi4
    rw [hm4] at e0
    rw [hl4] at hv3
    unfold maxLen at hm3
    have hn3' : LB.length + 1 ≤ c3 := by omega
    subst hv3
    have hBw3 : B < w3.heap.size := by omega
    have hppI : ((posK R.Br.name st.brs name : Nat) : Int) < ((LB.length : Nat) : Int) + 1 := by omega
    clear hg3 hl3 ho3 HIns hblk hbb hnB HBO hbv hP4 hK4 hO4 hat hat4 hO hrow4 hmid hcell3 hsome3 hnil3 hL3 hn3 hm4 hl4 hi4 hnilP hpl4
    simp only [hpE] at *
    clear hpE
    generalize posK R.Br.name st.brs name = p at *
    go_wp2_with fail
    refine hto.mono ?_
    rintro e w5 ⟨ta, tc, rfl, hpt, hw5⟩
    obtain ⟨hq6, hk6⟩ := HS.out _ _ hpt
    have HQ6 := hide3 hq6
    have HK6 := hide3 hk6
    clear hto hpt hq6 hk6 HS
    subst hw5
    go_wp2_with fail
    have hB1 := g_bytesOf (.slice (some ⟨w3.heap.size, 0, none⟩) 1 1) [(head : Int)] ((((w3.setCell ⟨B, 0, none⟩ (.slice (some ⟨g3, 0, none⟩) (LB.length + 1) c3)).setCell ⟨w2.heap.size, 1, none⟩ (.int .i64 (head : Int))).setCell ⟨w2.heap.size, 2, none⟩ (.slice ta (R.treeOf st head).length tc)).alloc (.cells #[.int .i64 (head : Int)] 3)) (fun _ => False) (rd_newAt _ _ (by simp) #[.int .i64 (head : Int)] 3 (by simp)) (by simp)
    refine hB1.mono ?_
    rintro e w7 ⟨rfl, hb7⟩
    clear hB1
    generalize hW6 : (((w3.setCell ⟨B, 0, none⟩ (.slice (some ⟨g3, 0, none⟩) (LB.length + 1) c3)).setCell ⟨w2.heap.size, 1, none⟩ (.int .i64 (head : Int))).setCell ⟨w2.heap.size, 2, none⟩ (.slice ta (R.treeOf st head).length tc)) = w6 at *
    have hb67 : Below w6.heap.size w6 w7 := ((Below.refl _ _).alloc (Nat.le_refl _) _).trans (hb7.mono (by simp))
    have hb8 : Below w6.heap.size w6 (w7.alloc (.cells #[.string ⟨([(head : Int)].map byteOf).toArray⟩, .string ⟨name.toArray⟩] 9)) := hb67.alloc hb67.size _
    have hwr := g_write B 66 66 (by decide) (.slice (some ⟨w7.heap.size, 0, none⟩) 2 2) [[(head : Int)].map byteOf, name] (HQ6.out.below hb8) (fun _ => False) (rd_newAt w7 _ rfl #[.string ⟨([(head : Int)].map byteOf).toArray⟩, .string ⟨name.toArray⟩] 9 (by simp)) (by simp) (by
      intro i hi
      simp only [List.mem_cons, List.not_mem_nil, or_false] at hi
      rcases hi with rfl | rfl
      · simp
      · omega) hpk
    have HB8 := hide3 hb8
    have HFl : Hid ([[(head : Int)].map byteOf, name].flatten = UInt8.ofNat head :: name) := by
      show _ = _
      simp [byteOf_nat]
    clear hb7 hb67 hb8 hW6
    simp only [List.map_cons, List.map_nil] at *
    go_wp2_with fail
    refine hwr.mono ?_
    rintro e w9 ⟨rfl, hst⟩
    have HST := hide3 hst
    clear hst hwr
    go_wp2
    go_end0
    refine ⟨rfl, ?_⟩
    have h9 := HST.out
    rw [HFl.out] at h9
    rw [HR.out]
    exact PStep.trans ((HK4.out.then HO4.out HK6.out).trans (Kept.of_below HB8.out)) HO4.out h9
def grown (st : R.St) (name : List UInt8) (head : Nat) : Int × R.St :=
  if 0 ≤ R.fndI st.brs name then (9, st) else if 6 ≤ st.brs.length then (4, st) else (0, R.headNew st { name := name, head := head, work := R.treeOf st head })
theorem brAddr_some {w : World} {M O : Nat → Prop} {B : Nat} {st : R.St} {bv cv : Value} {LB : List BrP} {LCm : List (R.Cm × Value × Value)} (h : PSx w M O B st bv cv LB LCm) (s : List UInt8) (hf : R.fnd st.brs s < st.brs.length) :
    ∃ hl : R.fnd st.brs s < LB.length, brAddr LB st s = some ⟨(LB[R.fnd st.brs s]'hl).2.1, 0, none⟩ ∧ (LB[R.fnd st.brs s]'hl).1 = (st.brs[R.fnd st.brs s]'hf) ∧ R.headOf st s = (LB[R.fnd st.brs s]'hl).1.head ∧ R.workOf st s = (LB[R.fnd st.brs s]'hl).1.work := by
  have hl : R.fnd st.brs s < LB.length := by rw [← h.brs, List.length_map] at hf; rw [← h.brs]; exact hf
  have he : (LB[R.fnd st.brs s]'hl).1 = (st.brs[R.fnd st.brs s]'hf) := by simp only [← h.brs, List.getElem_map]
  refine ⟨hl, ?_, he, ?_, ?_⟩
  · rw [brAddr, if_pos hf, List.getElem?_eq_getElem hl]; rfl
  · rw [R.headOf, List.getElem?_eq_getElem hf, he]; rfl
  · rw [R.workOf, List.getElem?_eq_getElem hf, he]; rfl
set_option maxHeartbeats 400000 in
theorem g_grow (B : Nat) (st : R.St) (name : List UInt8) (head : Nat) (w : World) (M O : Nat → Prop) (h : PS w M O B st) (hi : Inv st) (hh : head ≤ st.cms.length) (hnl : name.length ≤ 1000) (hpk : st.packed.length ≤ 1000000000000) :
    Calls Tryz.prog 54 #[.pointer (some ⟨B, 0, none⟩), .string ⟨name.toArray⟩, .int .i64 (head : Int)] w fun e w' => e = .returned (.int .i64 (grown st name head).1) ∧ PStep w w' M O B (grown st name head).2 := by
  have hPS := h
  have hpt := g_point B st name head w M O h hi hh hnl hpk
  obtain ⟨bv, cv, LB, LCm, hP⟩ := h
  have hfd := g_find hP hi name
  by_cases hf : R.fnd st.brs name < st.brs.length
  · have HR : Hid (grown st name head = (9, st)) := by show _ = _; rw [grown, if_pos (by rw [R.fndI, if_pos hf]; omega)]
    obtain ⟨hl, ha, hx⟩ := brAddr_some hP name hf
    clear hx
    rw [ha] at hfd
    generalize (LB[R.fnd st.brs name]'hl).2.1 = bb at *
    have HPS := hide3 hPS
    clear hP hi hf hPS hpt ha
    go_enter Tryz.func54, Tryz.ntmps54
    go_wp2_with fail
    refine hfd.mono ?_
    rintro e w1 ⟨rfl, hw1⟩
    subst hw1
    go_wp2
    go_ret
    exact ⟨ret_int (by rw [HR.out]), by rw [HR.out]; exact PStep.same HPS.out (Below.refl _ _)⟩
  have hnf : ¬ 0 ≤ R.fndI st.brs name := by rw [R.fndI, if_neg hf]; omega
  have ha : brAddr LB st name = none := by rw [brAddr, if_neg hf]
  rw [ha] at hfd
  have hlen : st.brs.length = LB.length := by rw [← hP.brs, List.length_map]
  obtain ⟨a, cap, hbv, hn, hm, hnil, hsome⟩ := owns_form hP.row
  have c0 := hP.c0
  rw [hbv] at c0
  unfold maxLen at hm
  by_cases h6 : 6 ≤ st.brs.length
  · have HR : Hid (grown st name head = (4, st)) := by show _ = _; rw [grown, if_neg hnf, if_pos h6]
    have HPS := hide3 hPS
    have h6' : 6 ≤ LB.length := by omega
    clear hP hi hf hPS hsome hnil hlen h6 hnf hpt ha hbv
    go_enter Tryz.func54, Tryz.ntmps54
    go_wp2_with fail
    refine hfd.mono ?_
    rintro e w1 ⟨rfl, hw1⟩
    subst hw1
    go_wp2
    go_ret
    exact ⟨ret_int (by rw [HR.out]), by rw [HR.out]; exact PStep.same HPS.out (Below.refl _ _)⟩
  have HR : Hid (grown st name head = (0, pointed st name head)) := by show _ = _; rw [grown, if_neg hnf, if_neg h6, pointed, if_neg hf]
  have h6' : ¬ 6 ≤ LB.length := by omega
  clear hP hi hf hPS hsome hnil hlen h6 hnf ha hbv
  go_enter Tryz.func54, Tryz.ntmps54
  go_wp2_with fail
  refine hfd.mono ?_
  rintro e w1 ⟨rfl, hw1⟩
  subst hw1
  go_wp2_with fail
  refine hpt.mono ?_
  rintro e w2 ⟨rfl, hst⟩
  go_wp2
  go_ret
  exact ⟨ret_int (by rw [HR.out]), by rw [HR.out]; exact hst⟩
theorem made_branch (st : R.St) (name fr : List UInt8) : R.made st name fr false = if R.isName name = false then (1, st) else grown st name 0 := by
  unfold R.made grown
  simp
theorem made_fork (st : R.St) (name fr : List UInt8) : R.made st name fr true = if R.isName name = false then (1, st) else if R.fndI st.brs fr < 0 then (5, st) else grown st name (R.headOf st fr) := by
  unfold R.made grown
  simp
theorem g_isName' (s : List UInt8) (w : World) (hs : s.length ≤ maxLen) :
    Calls Tryz.prog 53 #[.string ⟨s.toArray⟩] w fun e w' => e = .returned (.bool (R.isName s)) ∧ w' = w := by
  have h := g_isName ⟨s.toArray⟩ w (by simpa [ByteArray.size] using hs)
  simpa using h
set_option maxHeartbeats 400000 in
theorem g_Branch (B : Nat) (st : R.St) (name : List UInt8) (w : World) (M O : Nat → Prop) (h : PS w M O B st) (hi : Inv st) (hnl : name.length ≤ maxLen) (hpk : st.packed.length ≤ 1000000000000) :
    Calls Tryz.prog 26 #[.pointer (some ⟨B, 0, none⟩), .string ⟨name.toArray⟩] w fun e w' => e = .returned (.int .i64 (R.made st name [] false).1) ∧ PStep w w' M O B (R.made st name [] false).2 := by
  have hn := g_isName' name w hnl
  have hg := fun hn8 => g_grow B st name 0 w M O h hi (Nat.zero_le _) hn8 hpk
  rw [made_branch]
  cases hb : R.isName name
  · rw [hb] at hn
    simp only [if_true]
    have HPS := hide3 h
    clear h hi hb hg
    go_enter Tryz.func26, Tryz.ntmps26
    go_wp2_with fail
    refine hn.mono ?_
    rintro e w1 ⟨rfl, hw1⟩
    subst hw1
    go_wp2
    go_ret
    exact ⟨rfl, PStep.same HPS.out (Below.refl _ _)⟩
  · replace hg := hg (by have := isName_len name hb; omega)
    rw [hb] at hn
    simp only [Bool.true_eq_false, if_false]
    clear h hi hb
    go_enter Tryz.func26, Tryz.ntmps26
    go_wp2_with fail
    refine hn.mono ?_
    rintro e w1 ⟨rfl, hw1⟩
    subst hw1
    go_wp2_with fail
    refine hg.mono ?_
    rintro e w2 ⟨rfl, hst⟩
    go_wp2
    go_ret
    exact ⟨rfl, hst⟩
set_option maxHeartbeats 400000 in
theorem g_Fork (B : Nat) (st : R.St) (name fr : List UInt8) (w : World) (M O : Nat → Prop) (h : PS w M O B st) (hi : Inv st) (hnl : name.length ≤ maxLen) (hpk : st.packed.length ≤ 1000000000000) :
    Calls Tryz.prog 29 #[.pointer (some ⟨B, 0, none⟩), .string ⟨name.toArray⟩, .string ⟨fr.toArray⟩] w fun e w' => e = .returned (.int .i64 (R.made st name fr true).1) ∧ PStep w w' M O B (R.made st name fr true).2 := by
  have hn := g_isName' name w hnl
  have hPS := h
  obtain ⟨bv, cv, LB, LCm, hP⟩ := h
  have hfd := g_find hP hi fr
  rw [made_fork]
  cases hb : R.isName name
  · rw [hb] at hn
    simp only [if_true]
    have HPS := hide3 hPS
    clear hPS hi hb hP hfd
    go_enter Tryz.func29, Tryz.ntmps29
    go_wp2_with fail
    refine hn.mono ?_
    rintro e w1 ⟨rfl, hw1⟩
    subst hw1
    go_wp2
    go_ret
    exact ⟨rfl, PStep.same HPS.out (Below.refl _ _)⟩
  rw [hb] at hn
  simp only [Bool.true_eq_false, if_false]
  by_cases hf : R.fnd st.brs fr < st.brs.length
  · have hnn : ¬ R.fndI st.brs fr < 0 := by rw [R.fndI, if_pos hf]; omega
    rw [if_neg hnn]
    obtain ⟨hl, ha, he, hh, _⟩ := brAddr_some hP fr hf
    have hhd : R.headOf st fr ≤ st.cms.length := by rw [hh, he]; exact hi.heads _ (List.getElem_mem hf)
    have hg := g_grow B st name (R.headOf st fr) w M O hPS hi hhd (by have := isName_len name hb; omega) hpk
    have e1 := (hP.at_ _ (List.getElem_mem hl)).c1
    rw [ha] at hfd
    rw [← hh] at e1
    generalize (LB[R.fnd st.brs fr]'hl).2.1 = bb at *
    clear hPS hi hb hP hnn hf he ha hh hhd
    generalize R.headOf st fr = hd at *
    go_enter Tryz.func29, Tryz.ntmps29
    go_wp2_with fail
    refine hn.mono ?_
    rintro e w1 ⟨rfl, hw1⟩
    subst hw1
    go_wp2_with fail
    refine hfd.mono ?_
    rintro e w1 ⟨rfl, hw1⟩
    subst hw1
    go_wp2_with fail
    refine hg.mono ?_
    rintro e w2 ⟨rfl, hst⟩
    go_wp2
    go_ret
    exact ⟨rfl, hst⟩
  · have hnn : R.fndI st.brs fr < 0 := by rw [R.fndI, if_neg hf]; omega
    rw [if_pos hnn]
    have ha : brAddr LB st fr = none := by rw [brAddr, if_neg hf]
    rw [ha] at hfd
    have HPS := hide3 hPS
    clear hPS hi hb hP hnn hf ha
    go_enter Tryz.func29, Tryz.ntmps29
    go_wp2_with fail
    refine hn.mono ?_
    rintro e w1 ⟨rfl, hw1⟩
    subst hw1
    go_wp2_with fail
    refine hfd.mono ?_
    rintro e w1 ⟨rfl, hw1⟩
    subst hw1
    go_wp2
    go_ret
    exact ⟨rfl, PStep.same HPS.out (Below.refl _ _)⟩
set_option maxHeartbeats 800000 in
theorem g_Drop (B : Nat) (st : R.St) (name : List UInt8) (w : World) (M O : Nat → Prop) (h : PS w M O B st) (hi : Inv st) (hpk : st.packed.length ≤ 1000000000000) :
    Calls Tryz.prog 37 #[.pointer (some ⟨B, 0, none⟩), .string ⟨name.toArray⟩] w fun e w' => e = .returned (.int .i64 (R.dropped st name).1) ∧ PStep w w' M O B (R.dropped st name).2 := by
  have hPS := h
  obtain ⟨bv, cv, LB, LCm, hP⟩ := h
  have hpl := g_splace hP hi name
  rw [fnd_any] at hpl
  by_cases hf : R.fnd st.brs name < st.brs.length
  · have hnn : ¬ R.fndI st.brs name < 0 := by rw [R.fndI, if_pos hf]; omega
    have HR : Hid (R.dropped st name = (0, { st with brs := st.brs.take (R.fnd st.brs name) ++ st.brs.drop (R.fnd st.brs name + 1), packed := st.packed ++ R.record 68 name })) := by show _ = _; rw [R.dropped, if_neg hnn]
    rw [decide_eq_true hf, ← fnd_pos hi.sort name hf] at hpl
    have hlen : st.brs.length = LB.length := by rw [← hP.brs, List.length_map]
    have hfl : R.fnd st.brs name < LB.length := by omega
    obtain ⟨a, cap, hbv, hn, hm, hnil, hsome⟩ := owns_form hP.row
    have c0 := hP.c0
    have fr0 := hP.fr 0
    have hBl := hP.lt B hP.own
    have hD := s_DelB bv LB.length (R.fnd st.brs name) 0 (ptrs LB) w hP.row hfl (by
      intro u hu
      obtain ⟨q, _, rfl⟩ := List.mem_map.1 hu
      rfl)
    have HP := hide3 hP
    have HBV := hide3 hbv
    rw [hbv] at hD c0
    unfold maxLen at hm
    have hL6 : LB.length ≤ 6 := by have := hi.many; omega
    have hnl : name.length ≤ 8 := by
      have h1 := hi.names _ (List.getElem_mem hf)
      rw [R.fnd_name _ _ hf] at h1
      exact isName_len _ h1
    clear hPS hi hP hnn hf hsome hnil hlen
    generalize R.fnd st.brs name = k at *
    go_enter Tryz.func37, Tryz.ntmps37
    go_wp2_with fail
    refine hpl.mono ?_
    rintro e w1 ⟨rfl, hw1⟩
    subst hw1
    go_wp2_with fail
    refine hD.mono ?_
    rintro e w3 ⟨v3, rfl, ho3, hg3, hl3⟩
    rw [← hbv] at hg3 hl3
    have hnB : bv.ownBlock ≠ some B := fun e => (HP.out.rowO _ e).2 rfl
    have hblk : w3.heap[B]? = w1.heap[B]? := hg3.block B hBl (fun e => hnB e.symm)
    have d0 := (World.cell?_of_block (a := ⟨B, 0, none⟩) hblk).trans c0
    have g0 := (World.frozen?_of_block (a := ⟨B, 0, none⟩) hblk).trans fr0
    have HK : Hid (Kept (fun b => bv.ownBlock = some b) w1 w3) := ⟨hg3.os, hg3.tape, hg3.output, hg3.size, fun k hk hne => hg3.block k hk (fun e => hne e.symm)⟩
    obtain ⟨O1, hP4, hK4, hO4⟩ := delB_PSx (st' := { st with brs := st.brs.take k ++ st.brs.drop (k + 1) }) HP.out HK.out hfl (by simpa using ho3) hl3 rfl rfl rfl
    obtain ⟨a3, c3, hv3, _⟩ := owns_form ho3
    subst hv3
    have hb8 : Below (w3.setCell ⟨B, 0, none⟩ (.slice a3 (LB.length - 1) c3)).heap.size (w3.setCell ⟨B, 0, none⟩ (.slice a3 (LB.length - 1) c3)) ((w3.setCell ⟨B, 0, none⟩ (.slice a3 (LB.length - 1) c3)).alloc (.cells #[.string ⟨name.toArray⟩] 9)) := (Below.refl _ _).alloc (Nat.le_refl _) _
    have hwr := g_write B 68 68 (by decide) (.slice (some ⟨w3.heap.size, 0, none⟩) 1 1) [name] (hP4.below hb8) (fun _ => False) (rd_newAt _ _ (by simp) #[.string ⟨name.toArray⟩] 9 (by simp)) (by simp) (by
      intro i hi
      simp only [List.mem_cons, List.not_mem_nil, or_false] at hi
      subst hi
      omega) hpk
    have HK4 := hide3 hK4
    have HO4 := hide3 hO4
    have HB8 := hide3 hb8
    clear hg3 hl3 ho3 hD hblk hbv hnB hP4 hK4 hO4 hb8
    go_wp2_with fail
    refine hwr.mono ?_
    rintro e w9 ⟨rfl, hst⟩
    have HST := hide3 hst
    clear hst hwr
    go_wp2
    go_ret
    refine ⟨ret_int (by rw [HR.out]), ?_⟩
    rw [HR.out]
    have h9 := HST.out
    simp only [List.flatten_cons, List.flatten_nil, List.append_nil] at h9
    exact PStep.trans (HK4.out.trans (Kept.of_below HB8.out)) HO4.out h9
  · have hnn : R.fndI st.brs name < 0 := by rw [R.fndI, if_neg hf]; omega
    have HR : Hid (R.dropped st name = (5, st)) := by show _ = _; rw [R.dropped, if_pos hnn]
    rw [decide_eq_false hf] at hpl
    have HPS := hide3 hPS
    clear hPS hi hP hnn hf
    go_enter Tryz.func37, Tryz.ntmps37
    go_wp2_with fail
    refine hpl.mono ?_
    rintro e w1 ⟨rfl, hw1⟩
    subst hw1
    go_wp2
    go_ret
    exact ⟨ret_int (by rw [HR.out]), by rw [HR.out]; exact PStep.same HPS.out (Below.refl _ _)⟩
end Go.Proofs.YtolgebdmffcemaaGreatDoor
