/-
  How the document's answer (graftref) makes a branch: Branch and Fork.
  What Go's slices.BinarySearch finds in a list of strings that is in order.
  Where the program finds a path in a tree that is in order (tree.place, over Go's slices.BinarySearchFunc).
-/
import Derived.Test.YtolgebdmffcemaaGreatDoorPart05
import Derived.Test.YtolgebdmffcemaaGreatDoorPart06
import Derived.Test.YtolgebdmffcemaaGreatDoorPart02
import Derived.Test.YtolgebdmffcemaaGreatDoorShelf
set_option linter.unusedVariables false
namespace Go.Proofs.YtolgebdmffcemaaGreatDoor
open Go.RowKit
/-- what a call on the store at B may do: its own blocks, and new ones -/
def Step (w w' : World) (M O : Nat → Prop) (B : Nat) (st' : R.St) : Prop := ∃ O', RS w' (fun b => M b ∨ O' b) O' B st' ∧ Kept O w w' ∧ (∀ b, O' b → O b ∨ w.heap.size ≤ b)
theorem Step.same {w w' : World} {M O : Nat → Prop} {B : Nat} {st : R.St} (h : RS w M O B st) (hb : Below w.heap.size w w') : Step w w' M O B st :=
  ⟨O, h.kept (Z := fun _ => False) (Kept.of_below hb) (fun _ e => e.elim) (fun b hb => by obtain ⟨_, _, _, _, h⟩ := h; rcases hb with hb | hb; exact .inl hb; exact .inl (h.sub b hb)) (fun b hb => .inr hb), Kept.of_below hb, fun _ h => .inl h⟩
theorem RSx.mem_brs {w : World} {M O : Nat → Prop} {B : Nat} {st : R.St} {cv bv : Value} {LB : List (R.Br × Value)} {LCm : List (R.Cm × Value × Value)} (hR : RSx w M O B st cv bv LB LCm) {p : R.Br × Value} (hp : p ∈ LB) : p.1 ∈ st.brs := by
  rw [← hR.brs]; exact List.mem_map_of_mem hp
theorem cellsC_at : ∀ (L : List (R.Cm × Value × Value)) (i : Nat) (h : i < L.length), (cellsC L)[i * 2]? = some (L[i]'h).2.1
  | p :: r, 0, _ => by simp [cellsC]
  | p :: r, i + 1, h => by
    have ih := cellsC_at r i (by simpa using h)
    unfold cellsC at ih ⊢
    rw [List.flatMap_cons, List.getElem?_append_right (by simp; omega)]
    rw [show (i + 1) * 2 - [p.2.1, p.2.2].length = i * 2 from by simp; omega]
    simpa using ih
set_option maxHeartbeats 800000 in
set_option maxRecDepth 1000000 in
/-- the tree of a commit that is there; none: the empty one -/
theorem r_sat (B : Nat) (st : R.St) (n : Nat) (w : World) (M O : Nat → Prop) (h : RS w M O B st) (hn : n ≤ st.cms.length) (hc : st.cms.length ≤ 255) :
    ∃ tv, Tr w M tv (R.treeOf st n) ∧ ∀ W, Below w.heap.size w W → Calls Tryz.prog 176 #[.pointer (some ⟨B, 0, none⟩), .int .i64 (n : Int)] W fun e w' => e = .returned tv ∧ w' = W := by
  by_cases h0 : n = 0
  · subst h0
    refine ⟨.slice none 0 0, ⟨[], rfl, ⟨none, 0, rfl, Nat.le_refl _, by unfold maxLen; omega, fun h => absurd h (Nat.lt_irrefl _)⟩, by simp⟩, fun W _ => ?_⟩
    exact r_sat0 B W
  · obtain ⟨cv, bv, LB, LCm, hR⟩ := h
    have hlen : LCm.length = st.cms.length := by rw [← hR.cms, List.length_map]
    have hlt : n - 1 < LCm.length := by omega
    have e : R.treeOf st n = (LCm[n - 1]'hlt).1.tree := by
      rw [R.treeOf, if_neg h0, ← hR.cms, List.getElem?_map, List.getElem?_eq_getElem hlt]; rfl
    rw [e]
    refine ⟨(LCm[n - 1]'hlt).2.1, hR.ctree _ (List.getElem_mem hlt), fun W hW => ?_⟩
    have hrow := ownsRow_kept hR.crow (Kept.of_below (M := fun _ => False) hW) (fun _ _ e => e)
    have c0 := (hW.cell (p := ⟨B, 0, none⟩) (hR.lt B hR.own)).trans hR.c0
    obtain ⟨a, cap, rfl, hnc, hm, hno, hso⟩ := owns_form hrow
    cases a with
    | none => have := (hno rfl).1; omega
    | some ad =>
      obtain ⟨g, rfl, _, hg, _, hcell⟩ := hso ad rfl
      have d0 := hcell _ _ (cellsC_at LCm (n - 1) hlt)
      have hone : (LCm[n - 1]'hlt).2.1.oneCell' = true := by
        obtain ⟨_, _, ⟨a, cap, e, _⟩, _⟩ := hR.ctree _ (List.getElem_mem hlt)
        rw [e]; rfl
      obtain ⟨m, rfl⟩ : ∃ m, n = m + 1 := ⟨n - 1, by omega⟩
      simp only [Nat.add_sub_cancel] at d0 hone hlt ⊢
      generalize (LCm[m]'hlt).2.1 = tv at d0 hone ⊢
      clear hcell hso hno hrow e
      unfold maxLen at hm
      have b0 : (((m + 1 : Nat) : Int) == 0) = false := by simp; omega
      go_enter Tryz.func176, Tryz.ntmps176
      go_wp2
      go_ret
      exact ⟨rfl, rfl⟩
set_option maxHeartbeats 1600000 in
set_option maxRecDepth 1000000 in
theorem r_made_plain (B : Nat) (st : R.St) (name : List UInt8) (w : World) (M O : Nat → Prop) (h : RS w M O B st) (hM : ∀ b, M b → b < w.heap.size) (hnl : name.length ≤ maxLen) (hlen : st.brs.length ≤ 6) (hpk : st.packed.length ≤ 1000000000000) (hh : R.Heads st) :
    Calls Tryz.prog 167 #[.pointer (some ⟨B, 0, none⟩), .string ⟨name.toArray⟩, .string ⟨#[]⟩, .bool false] w fun e w' =>
      e = .returned (.int .i64 (R.made st name [] false).1) ∧ Step w w' M O B (R.made st name [] false).2 := by
  have hRS := h
  obtain ⟨cv, bv, LB, LCm, hR⟩ := h
  have c1 := hR.c1
  obtain ⟨a, cap, rfl, hnc, hm, hno, hso⟩ := owns_form hR.row
  have hLB : LB.length = st.brs.length := by rw [← hR.brs, List.length_map]
  have hq := r_IsName ⟨name.toArray⟩ w (by simpa [ByteArray.size] using hnl)
  simp only at hq
  have hf0 := r_find B st [] w M O hRS
  have hf1 := r_find B st name w M O hRS
  obtain ⟨tv, htr, hat⟩ := r_sat B st 0 w M O hRS (Nat.zero_le _) hh.few
  have HL : Hid (LB.length = st.brs.length) := hLB
  clear hso hno
  unfold maxLen at hm hnl
  cases hnm : R.isName name
  · have HR : Hid (R.made st name [] false = (1, st)) := by show _ = _; rw [R.made, if_pos hnm]
    rw [hnm] at hq
    go_enter Tryz.func167, Tryz.ntmps167
    go_wp2_with fail
    refine hq.mono ?_
    rintro e w1 ⟨rfl, rfl⟩
    go_wp2_with fail
    refine hf0.mono ?_
    rintro e w1 ⟨rfl, rfl⟩
    go_wp2
    go_ret
    exact ⟨ret_int (by rw [HR.out]), by rw [HR.out]; exact Step.same hRS (Below.refl _ _)⟩
  · have hn8 : name.length ≤ 8 := by simp [R.isName] at hnm; exact hnm.2.2
    rw [hnm] at hq
    rcases R.fndI_cases st.brs name with ⟨e1, e2⟩ | ⟨e1, e2⟩
    · by_cases h6 : 6 ≤ LB.length
      · have HR : Hid (R.made st name [] false = (4, st)) := by
          show _ = _; rw [R.made, if_neg (by simp [hnm]), if_neg (by simp), if_neg (by omega), if_pos (by rw [← HL.out]; exact h6)]
        rw [e1] at hf1
        clear hLB e1 e2
        go_enter Tryz.func167, Tryz.ntmps167
        go_wp2_with fail
        refine hq.mono ?_
        rintro e w1 ⟨rfl, rfl⟩
        go_wp2_with fail
        refine hf0.mono ?_
        rintro e w1 ⟨rfl, rfl⟩
        go_wp2_with fail
        refine hf1.mono ?_
        rintro e w1 ⟨rfl, rfl⟩
        go_wp2
        go_ret
        exact ⟨ret_int (by rw [HR.out]), by rw [HR.out]; exact Step.same hRS (Below.refl _ _)⟩
      · have HR : Hid (R.made st name [] false = (0, R.headNew st { name := name, head := 0, work := R.treeOf st 0 })) := by
          show _ = _; rw [R.made, if_neg (by simp [hnm]), if_neg (by simp), if_neg (by omega), if_neg (by rw [← HL.out]; exact h6)]; rfl
        have hhead := fun W (hW : W = w) => r_head_new B st name 0 tv (R.treeOf st 0) W M O (by rw [hW]; exact hRS) (by rw [hW]; exact hM) e1 (by omega) hpk (by omega) (by omega) (by rw [hW]; exact hat) (by rw [hW]; exact htr)
        rw [e1] at hf1
        clear hLB e1 e2
        go_enter Tryz.func167, Tryz.ntmps167
        go_wp2_with fail
        refine hq.mono ?_
        rintro e w1 ⟨rfl, rfl⟩
        go_wp2_with fail
        refine hf0.mono ?_
        rintro e w1 ⟨rfl, rfl⟩
        go_wp2_with fail
        refine hf1.mono ?_
        rintro e w1 ⟨rfl, rfl⟩
        go_wp2_with fail
        refine (hhead _ rfl).mono ?_
        rintro e w2 ⟨rfl, O', g1, g2, g3⟩
        go_wp2
        go_ret
        exact ⟨ret_int (by rw [HR.out]), by rw [HR.out]; exact ⟨O', g1, g2.mono (fun b e => e ▸ hR.own), g3⟩⟩
    · have HR : Hid (R.made st name [] false = (9, st)) := by
        show _ = _; rw [R.made, if_neg (by simp [hnm]), if_neg (by simp), if_pos (by omega)]
      rw [e1] at hf1
      clear hLB e1
      go_enter Tryz.func167, Tryz.ntmps167
      go_wp2_with fail
      refine hq.mono ?_
      rintro e w1 ⟨rfl, rfl⟩
      go_wp2_with fail
      refine hf0.mono ?_
      rintro e w1 ⟨rfl, rfl⟩
      go_wp2_with fail
      refine hf1.mono ?_
      rintro e w1 ⟨rfl, rfl⟩
      go_wp2
      go_ret
      exact ⟨ret_int (by rw [HR.out]), by rw [HR.out]; exact Step.same hRS (Below.refl _ _)⟩
set_option maxHeartbeats 1600000 in
set_option maxRecDepth 1000000 in
theorem r_made_fork (B : Nat) (st : R.St) (name fr : List UInt8) (w : World) (M O : Nat → Prop) (h : RS w M O B st) (hM : ∀ b, M b → b < w.heap.size) (hnl : name.length ≤ maxLen) (hlen : st.brs.length ≤ 6) (hpk : st.packed.length ≤ 1000000000000) (hh : R.Heads st) :
    Calls Tryz.prog 167 #[.pointer (some ⟨B, 0, none⟩), .string ⟨name.toArray⟩, .string ⟨fr.toArray⟩, .bool true] w fun e w' =>
      e = .returned (.int .i64 (R.made st name fr true).1) ∧ Step w w' M O B (R.made st name fr true).2 := by
  have hRS := h
  obtain ⟨cv, bv, LB, LCm, hR⟩ := h
  have c1 := hR.c1
  obtain ⟨a, cap, rfl, hnc, hm, hno, hso⟩ := owns_form hR.row
  have HL : Hid (LB.length = st.brs.length) := by show _ = _; rw [← hR.brs, List.length_map]
  have hq := r_IsName ⟨name.toArray⟩ w (by simpa [ByteArray.size] using hnl)
  simp only at hq
  have hf0 := r_find B st fr w M O hRS
  have hf1 := r_find B st name w M O hRS
  unfold maxLen at hm hnl
  cases hnm : R.isName name
  · have HR : Hid (R.made st name fr true = (1, st)) := by show _ = _; rw [R.made, if_pos hnm]
    rw [hnm] at hq
    clear hso hno
    go_enter Tryz.func167, Tryz.ntmps167
    go_wp2_with fail
    refine hq.mono ?_
    rintro e w1 ⟨rfl, rfl⟩
    go_wp2_with fail
    refine hf0.mono ?_
    rintro e w1 ⟨rfl, rfl⟩
    go_wp2
    go_ret
    exact ⟨ret_int (by rw [HR.out]), by rw [HR.out]; exact Step.same hRS (Below.refl _ _)⟩
  have hn8 : name.length ≤ 8 := by simp [R.isName] at hnm; exact hnm.2.2
  rw [hnm] at hq
  rcases R.fndI_cases st.brs fr with ⟨f1, f2⟩ | ⟨f1, f2⟩
  · have HR : Hid (R.made st name fr true = (5, st)) := by
      show _ = _; rw [R.made, if_neg (by simp [hnm]), if_pos ⟨rfl, by omega⟩]
    rw [f1] at hf0
    clear hso hno f1 f2
    go_enter Tryz.func167, Tryz.ntmps167
    go_wp2_with fail
    refine hq.mono ?_
    rintro e w1 ⟨rfl, rfl⟩
    go_wp2_with fail
    refine hf0.mono ?_
    rintro e w1 ⟨rfl, rfl⟩
    go_wp2
    go_ret
    exact ⟨ret_int (by rw [HR.out]), by rw [HR.out]; exact Step.same hRS (Below.refl _ _)⟩
  rw [f1] at hf0
  rcases R.fndI_cases st.brs name with ⟨e1, e2⟩ | ⟨e1, e2⟩
  · by_cases h6 : 6 ≤ LB.length
    · have HR : Hid (R.made st name fr true = (4, st)) := by
        show _ = _; rw [R.made, if_neg (by simp [hnm]), if_neg (by omega), if_neg (by omega), if_pos (by rw [← HL.out]; exact h6)]
      rw [e1] at hf1
      clear hso hno e1 e2 f1 f2
      go_enter Tryz.func167, Tryz.ntmps167
      go_wp2_with fail
      refine hq.mono ?_
      rintro e w1 ⟨rfl, rfl⟩
      go_wp2_with fail
      refine hf0.mono ?_
      rintro e w1 ⟨rfl, rfl⟩
      go_wp2_with fail
      refine hf1.mono ?_
      rintro e w1 ⟨rfl, rfl⟩
      go_wp2
      go_ret
      exact ⟨ret_int (by rw [HR.out]), by rw [HR.out]; exact Step.same hRS (Below.refl _ _)⟩
    · have hfl : R.fnd st.brs fr < LB.length := by rw [HL.out]; exact f2
      have HH : Hid (R.headOf st fr = (LB[R.fnd st.brs fr]'hfl).1.head) := by
        show _ = _
        rw [R.headOf, List.getElem?_eq_getElem f2]
        simp [← hR.brs]
      have hhd : (LB[R.fnd st.brs fr]'hfl).1.head ≤ st.cms.length := hh.head _ (hR.mem_brs (List.getElem_mem hfl))
      cases a with
      | none => have := (hno rfl).1; omega
      | some ad =>
        obtain ⟨g, rfl, _, hg, _, hcell⟩ := hso ad rfl
        obtain ⟨-, d1, -⟩ := br_cells hcell _ hfl
        have HR : Hid (R.made st name fr true = (0, R.headNew st { name := name, head := R.headOf st fr, work := R.treeOf st (R.headOf st fr) })) := by
          show _ = _; rw [R.made, if_neg (by simp [hnm]), if_neg (by omega), if_neg (by omega), if_neg (by rw [← HL.out]; exact h6)]; rfl
        rw [HH.out] at HR
        generalize (LB[R.fnd st.brs fr]'hfl).1.head = n at d1 hhd HR
        obtain ⟨tv, htr, hat⟩ := r_sat B st n w M O hRS hhd hh.few
        have hf := hh.few
        have hhead := fun W (hW : W = w) => r_head_new B st name n tv (R.treeOf st n) W M O (by rw [hW]; exact hRS) (by rw [hW]; exact hM) e1 (by omega) hpk (by omega) (by omega) (by rw [hW]; exact hat) (by rw [hW]; exact htr)
        rw [e1] at hf1
        generalize R.fnd st.brs fr = i at *
        clear hso hno e1 e2 f1 hcell HH
        go_enter Tryz.func167, Tryz.ntmps167
        go_wp2_with fail
        refine hq.mono ?_
        rintro e w1 ⟨rfl, rfl⟩
        go_wp2_with fail
        refine hf0.mono ?_
        rintro e w1 ⟨rfl, rfl⟩
        go_wp2_with fail
        refine hf1.mono ?_
        rintro e w1 ⟨rfl, rfl⟩
        go_wp2_with fail
        refine (hhead _ rfl).mono ?_
        rintro e w2 ⟨rfl, O', g1, g2, g3⟩
        go_wp2
        go_ret
        exact ⟨ret_int (by rw [HR.out]), by rw [HR.out]; exact ⟨O', g1, g2.mono (fun b e => e ▸ hR.own), g3⟩⟩
  · have HR : Hid (R.made st name fr true = (9, st)) := by
      show _ = _; rw [R.made, if_neg (by simp [hnm]), if_neg (by omega), if_pos (by omega)]
    rw [e1] at hf1
    clear hso hno e1 f1
    go_enter Tryz.func167, Tryz.ntmps167
    go_wp2_with fail
    refine hq.mono ?_
    rintro e w1 ⟨rfl, rfl⟩
    go_wp2_with fail
    refine hf0.mono ?_
    rintro e w1 ⟨rfl, rfl⟩
    go_wp2_with fail
    refine hf1.mono ?_
    rintro e w1 ⟨rfl, rfl⟩
    go_wp2
    go_ret
    exact ⟨ret_int (by rw [HR.out]), by rw [HR.out]; exact Step.same hRS (Below.refl _ _)⟩
set_option maxHeartbeats 400000 in
theorem r_Branch (B : Nat) (st : R.St) (name : List UInt8) (w : World) (M O : Nat → Prop) (h : RS w M O B st) (hM : ∀ b, M b → b < w.heap.size) (hnl : name.length ≤ maxLen) (hlen : st.brs.length ≤ 6) (hpk : st.packed.length ≤ 1000000000000) (hh : R.Heads st) :
    Calls Tryz.prog 118 #[.pointer (some ⟨B, 0, none⟩), .string ⟨name.toArray⟩] w fun e w' =>
      e = .returned (.int .i64 (R.made st name [] false).1) ∧ Step w w' M O B (R.made st name [] false).2 := by
  go_enter Tryz.func118, Tryz.ntmps118
  go_wp2_with fail
  refine (r_made_plain B st name _ M O h hM hnl hlen hpk hh).mono ?_
  rintro e w1 ⟨rfl, hs⟩
  go_wp2
  go_ret
  exact ⟨rfl, hs⟩
set_option maxHeartbeats 400000 in
theorem r_Fork (B : Nat) (st : R.St) (name fr : List UInt8) (w : World) (M O : Nat → Prop) (h : RS w M O B st) (hM : ∀ b, M b → b < w.heap.size) (hnl : name.length ≤ maxLen) (hlen : st.brs.length ≤ 6) (hpk : st.packed.length ≤ 1000000000000) (hh : R.Heads st) :
    Calls Tryz.prog 119 #[.pointer (some ⟨B, 0, none⟩), .string ⟨name.toArray⟩, .string ⟨fr.toArray⟩] w fun e w' =>
      e = .returned (.int .i64 (R.made st name fr true).1) ∧ Step w w' M O B (R.made st name fr true).2 := by
  go_enter Tryz.func119, Tryz.ntmps119
  go_wp2_with fail
  refine (r_made_fork B st name fr _ M O h hM hnl hlen hpk hh).mono ?_
  rintro e w1 ⟨rfl, hs⟩
  go_wp2
  go_ret
  exact ⟨rfl, hs⟩
end Go.Proofs.YtolgebdmffcemaaGreatDoor
namespace Go.Proofs.YtolgebdmffcemaaGreatDoor
open Go.RowKit
theorem hide3 {p : Prop} (h : p) : Hid p := h
set_option maxHeartbeats 400000 in
theorem s_isNaN2 (s : List UInt8) (w : World) : Calls Tryz.prog 232 #[.string ⟨s.toArray⟩] w fun e w' => e = .returned (.bool false) ∧ w' = w := by
  go_enter Tryz.func232, Tryz.ntmps232
  go_wp2
  go_ret
  exact ⟨ret_bool (by simp), rfl⟩
set_option maxHeartbeats 400000 in
theorem s_isNaN (s : List UInt8) (w : World) : Calls Tryz.prog 199 #[.string ⟨s.toArray⟩] w fun e w' => e = .returned (.bool false) ∧ w' = w := by
  go_enter Tryz.func199, Tryz.ntmps199
  go_wp2
  go_ret
  exact ⟨ret_bool (by simp), rfl⟩
set_option maxHeartbeats 400000 in
theorem s_Less (s t : List UInt8) (w : World) : Calls Tryz.prog 198 #[.string ⟨s.toArray⟩, .string ⟨t.toArray⟩] w fun e w' => e = .returned (.bool (Op.bytesLess s t)) ∧ w' = w := by
  go_enter Tryz.func198, Tryz.ntmps198
  go_wp2_with fail
  refine (s_isNaN2 s _).mono ?_
  rintro e w1 ⟨rfl, rfl⟩
  go_wp2
  go_ret
  exact ⟨rfl, rfl⟩
theorem ret_ib {a b : Int} {c d : Bool} (h : b = a) (k : d = c) : Ending.returned (.tuple #[.int .i64 a, .bool c]) = .returned (.tuple #[.int .i64 b, .bool d]) := by rw [h, k]
set_option maxHeartbeats 800000 in
set_option maxRecDepth 1000000 in
theorem s_BinarySearch (v : Value) (l : List (List UInt8)) (s : List UInt8) (w : World) (M : Nat → Prop) (h : Rd w M v l.length (l.map S)) (hl : l.length ≤ 1000000)
    (hsort : ∀ (i j : Nat) (hi : i < l.length) (hj : j < l.length), i < j → Op.bytesLess l[i] l[j] = true) (hmono : ∀ (i j : Nat) (hi : i < l.length) (hj : j < l.length), i ≤ j → lessS s l[j] = true → lessS s l[i] = true) :
    Calls Tryz.prog 148 #[v, .string ⟨s.toArray⟩] w fun e w' => e = .returned (.tuple #[.int .i64 (posS l s : Int), .bool (l.any fun y => y == s)]) ∧ w' = w := by
  obtain ⟨a, cap, rfl, hn, hm, hc⟩ := h
  unfold maxLen at hm
  go_enter Tryz.func148, Tryz.ntmps148
  go_wp2
  go_loop [7, 8] (fun i j => ∃ p q : Nat, p ≤ q ∧ q ≤ l.length ∧ i = .int .i64 p ∧ j = .int .i64 q ∧ (∀ k (h : k < l.length), k < p → lessS s l[k] = true) ∧ (∀ k (h : k < l.length), q ≤ k → lessS s l[k] = false)) (fun i j => (intOf j).toNat - (intOf i).toNat)
  case atStart => exact ⟨0, l.length, Nat.zero_le _, Nat.le_refl _, rfl, rfl, fun k _ h => by omega, fun k h h' => by omega⟩
  case round =>
    obtain ⟨p, q, hpq, hq, rfl, rfl, hA, hB⟩ := hrel
    have HA := hide3 hA
    have HB := hide3 hB
    clear hA hB
    by_cases hlt : p < q
    · obtain ⟨b, off, rfl, _, _, hcell⟩ := hc (by omega)
      obtain ⟨h, hh⟩ : ∃ h : Nat, h = (p + q) / 2 := ⟨_, rfl⟩
      have hp1 : p ≤ h := by omega
      have hq1 : h < q := by omega
      have hhl : h < l.length := by omega
      have hhi : ((p : Int) + (q : Int)) / 2 = (h : Int) := by omega
      have hx : w.cell? ⟨b, off + h, none⟩ = some (.string ⟨(l[h]'hhl).toArray⟩) := hcell h _ (by rw [List.getElem?_map, List.getElem?_eq_getElem hhl]; rfl)
      have HM : Hid (∀ k (hk : k < l.length), k ≤ h → lessS s (l[h]'hhl) = true → lessS s l[k] = true) := fun k hk h1 h2 => hmono k h hk hhl h1 h2
      have HM2 : Hid (∀ k (hk : k < l.length), h ≤ k → lessS s (l[h]'hhl) = false → lessS s l[k] = false) := fun k hk h1 h2 => by
        rw [Bool.eq_false_iff] at h2 ⊢
        intro h3
        exact h2 (hmono h k hhl hk h1 h3)
      generalize hy : (l[h]'hhl) = y at hx HM HM2
      clear hcell hc hh hy hmono hsort
      go_wp2_with fail
      refine (s_Less y s _).mono ?_
      rintro e w1 ⟨rfl, rfl⟩
      generalize hb : Op.bytesLess y s = c
      have HC : Hid (lessS s y = c) := hb
      clear hb
      cases c
      · go_wp2
        go_round
        case rel => exact ⟨p, h, by omega, by omega, rfl, rfl, HA.out, fun k hk h1 => HM2.out k hk h1 HC.out⟩
        case measure => simp [intOf]; omega
      · go_wp2
        go_round
        case rel => exact ⟨h + 1, q, by omega, by omega, by go_num, rfl, fun k hk h1 => HM.out k hk (by omega) HC.out, HB.out⟩
        case measure => simp [intOf]; omega
    · obtain rfl : p = q := by omega
      have HP : Hid (posS l s = p) := by
        show _ = _
        unfold posS
        by_cases hpl : p < l.length
        · rw [List.findIdx_eq hpl]
          exact ⟨by simpa using HB.out p hpl (Nat.le_refl _), fun j hj => by simpa using HA.out j (by omega) hj⟩
        · obtain rfl : p = l.length := by omega
          refine List.findIdx_eq_length.2 fun y hy => ?_
          obtain ⟨k, hk, rfl⟩ := List.getElem_of_mem hy
          simpa using HA.out k hk hk
      by_cases hpl : p < l.length
      · obtain ⟨b, off, rfl, _, _, hcell⟩ := hc (by omega)
        have hx : w.cell? ⟨b, off + p, none⟩ = some (.string ⟨(l[p]'hpl).toArray⟩) := hcell p _ (by rw [List.getElem?_map, List.getElem?_eq_getElem hpl]; rfl)
        have HY : Hid ((l.any fun y => y == s) = ((l[p]'hpl) == s)) := by
          show _ = _
          cases he : ((l[p]'hpl) == s)
          · rw [Bool.eq_false_iff]
            intro h
            obtain ⟨y, hy, hys⟩ := List.any_eq_true.1 h
            obtain ⟨k, hk, rfl⟩ := List.getElem_of_mem hy
            have hys' : l[k] = s := by simpa using hys
            rcases Nat.lt_trichotomy k p with hkp | hkp | hkp
            · have := HA.out k hk hkp
              rw [lessS, hys', bytesLess_irrefl] at this; cases this
            · subst hkp; rw [hys] at he; cases he
            · have h1 := hsort p k hpl hk hkp
              have h2 := HB.out p hpl (Nat.le_refl _)
              rw [hys'] at h1; rw [lessS, h1] at h2; cases h2
          · exact R.any_hit l _ p hpl he
        generalize (l[p]'hpl) = y at hx HY
        clear hcell hc hsort hmono
        cases he : (y == s)
        · have HE := hide3 he
          go_wp2_with fail
          refine (s_isNaN _ _).mono ?_
          rintro e w1 ⟨rfl, rfl⟩
          go_wp2
          go_ret2
          exact ⟨ret_ib (by rw [HP.out]) (by rw [HY.out, HE.out]), rfl⟩
        · have HE := hide3 he
          go_wp2
          go_ret2
          exact ⟨ret_ib (by rw [HP.out]) (by rw [HY.out, HE.out]), rfl⟩
      · have HY : Hid ((l.any fun y => y == s) = false) := by
          show _ = _
          rw [Bool.eq_false_iff]
          intro h
          obtain ⟨y, hy, hys⟩ := List.any_eq_true.1 h
          obtain ⟨k, hk, rfl⟩ := List.getElem_of_mem hy
          have := HA.out k hk (by omega)
          have hys' : l[k] = s := by simpa using hys
          rw [lessS, hys', bytesLess_irrefl] at this; cases this
        go_wp2
        go_ret2
        exact ⟨ret_ib (by rw [HP.out]) HY.out, rfl⟩
end Go.Proofs.YtolgebdmffcemaaGreatDoor
namespace Go.Proofs.YtolgebdmffcemaaGreatDoor
open Go.RowKit
theorem compare_less : ∀ a b : List UInt8, decide (Lib.compareBytes a b < 0) = Op.bytesLess a b
  | [], [] => rfl
  | [], _ :: _ => rfl
  | _ :: _, [] => rfl
  | a :: x, b :: y => by
    have ih := compare_less x y
    rw [Lib.compareBytes, Op.bytesLess]
    by_cases h1 : a < b
    · rw [if_pos h1]; simp [h1]
    · rw [if_neg h1]
      by_cases h2 : b < a
      · rw [if_pos h2]
        have : a ≠ b := fun e => by subst e; exact UInt8.lt_irrefl _ h2
        simp [h1, this]
      · rw [if_neg h2]
        have : a = b := UInt8.le_antisymm (UInt8.not_lt.1 h2) (UInt8.not_lt.1 h1)
        subst this
        rw [ih]; simp
theorem compare_eq : ∀ a b : List UInt8, (Lib.compareBytes a b == 0) = (a == b)
  | [], [] => rfl
  | [], _ :: _ => rfl
  | _ :: _, [] => rfl
  | a :: x, b :: y => by
    have ih := compare_eq x y
    rw [Lib.compareBytes]
    by_cases h1 : a < b
    · have : a ≠ b := fun e => by subst e; exact UInt8.lt_irrefl _ h1
      rw [if_pos h1]; simp [this]
    · rw [if_neg h1]
      by_cases h2 : b < a
      · have : a ≠ b := fun e => by subst e; exact UInt8.lt_irrefl _ h2
        rw [if_pos h2]; simp [this]
      · rw [if_neg h2]
        have : a = b := UInt8.le_antisymm (UInt8.not_lt.1 h2) (UInt8.not_lt.1 h1)
        subst this
        rw [ih]; simp
theorem compare_range : ∀ a b : List UInt8, -1 ≤ Lib.compareBytes a b ∧ Lib.compareBytes a b ≤ 1
  | [], [] => by simp [Lib.compareBytes]
  | [], _ :: _ => by simp [Lib.compareBytes]
  | _ :: _, [] => by simp [Lib.compareBytes]
  | a :: x, b :: y => by
    have ih := compare_range x y
    rw [Lib.compareBytes]; split
    · omega
    · split
      · omega
      · exact ih
set_option maxHeartbeats 400000 in
theorem g_cmpLeaf (x : R.Leaf) (ia : Option Addr) (il ic : Nat) (s : List UInt8) (w : World) :
    Calls Tryz.prog 195 #[.agg #[.string ⟨x.path.toArray⟩, .int .i64 (pk x), .int .i64 x.n, .string ⟨x.text.toArray⟩, .slice ia il ic], .string ⟨s.toArray⟩] w fun e w' => e = .returned (.int .i64 (Lib.compareBytes x.path s)) ∧ Below w.heap.size w w' := by
  go_enter Tryz.func195, Tryz.ntmps195
  go_wp2_with fail
  refine (Tryz.strings_Compare _ _ _).mono ?_
  rintro e w1 ⟨rfl, rfl⟩
  go_wp2
  go_ret
  exact ⟨rfl, (Below.refl _ _).alloc (Nat.le_refl _) _⟩
set_option maxHeartbeats 1600000 in
set_option maxRecDepth 1000000 in
theorem s_searchLeaf (v : Value) (t : List R.Leaf) (s : List UInt8) (w : World) (M : Nat → Prop) (h : PT w M v t) (hl : t.length ≤ 1000000) (hsort : Sorted t) :
    Calls Tryz.prog 194 #[v, .string ⟨s.toArray⟩, .func (.func 195) #[] #[]] w fun e w' => e = .returned (.tuple #[.int .i64 (posT t s : Int), .bool (t.any fun x => x.path == s)]) ∧ Below w.heap.size w w' := by
  obtain ⟨L, hL, ⟨a, cap, rfl, hn, hm, hc⟩, hI⟩ := h
  have hlen : t.length = L.length := by rw [← hL, List.length_map]
  have HT : Hid (∀ (i : Nat) (h : i < L.length) (hb : i < t.length), t[i]'hb = (L[i]'h).1) := by intro i h hb; subst hL; simp
  have HLn : Hid (t.length = L.length) := hlen
  rw [hlen] at hl
  have hmono := hsort.mono s
  unfold maxLen at hm
  clear hlen
  go_enter Tryz.func194, Tryz.ntmps194
  go_wp2
  go_loopw [9, 10] (fun i j wr => ∃ p q : Nat, p ≤ q ∧ q ≤ L.length ∧ i = .int .i64 p ∧ j = .int .i64 q ∧ (∀ k (h : k < t.length), k < p → lessS s t[k].path = true) ∧ (∀ k (h : k < t.length), q ≤ k → lessS s t[k].path = false) ∧ Below w.heap.size w wr) (fun i j _ => (intOf j).toNat - (intOf i).toNat)
  case atStart => exact ⟨0, L.length, Nat.zero_le _, Nat.le_refl _, rfl, rfl, fun k _ h => by omega, fun k h h' => by rw [HLn.out] at h; omega, Below.refl _ _⟩
  case round =>
    obtain ⟨p, q, hpq, hq, rfl, rfl, hA, hB, hb⟩ := hrel
    have HA := hide3 hA
    have HB := hide3 hB
    have HM0 := hide3 hmono
    have HS := hide3 hsort
    clear hA hB hmono hsort
    by_cases hlt : p < q
    · obtain ⟨b, off, rfl, hbs, _, hcell⟩ := hc (by omega)
      obtain ⟨h, hh⟩ : ∃ h : Nat, h = (p + q) / 2 := ⟨_, rfl⟩
      have hp1 : p ≤ h := by omega
      have hq1 : h < q := by omega
      have hhl : h < L.length := by omega
      have hhi : ((p : Int) + (q : Int)) / 2 = (h : Int) := by omega
      obtain ⟨x, ia, ic, HL, hit, c0, c1, c2, c3, c4⟩ := leafP' hI hcell h hhl
      have HX : Hid (t[h]'(by rw [HLn.out]; exact hhl) = x) := by show _ = _; rw [HT.out h hhl _, HL.out]
      have e0 := (hb.cell (p := ⟨b, off + h * 5, none⟩) hbs).trans c0
      have e1 := (hb.cell (p := ⟨b, off + h * 5 + 1, none⟩) hbs).trans c1
      have e2 := (hb.cell (p := ⟨b, off + h * 5 + 2, none⟩) hbs).trans c2
      have e3 := (hb.cell (p := ⟨b, off + h * 5 + 3, none⟩) hbs).trans c3
      have e4 := (hb.cell (p := ⟨b, off + h * 5 + 4, none⟩) hbs).trans c4
      clear c0 c1 c2 c3 c4 hcell hc hI hh
      go_wp2_with fail
      refine (g_cmpLeaf x ia x.items.length ic s _).mono ?_
      rintro e w1 ⟨rfl, hb1⟩
      have hB1 : Below w.heap.size w w1 := hb.trans (hb1.mono hb.size)
      have hcr := compare_range x.path s
      generalize hcb : Lib.compareBytes x.path s = c at hcr
      by_cases hc0 : c < 0
      · have HC : Hid (lessS s x.path = true) := by show _ = _; rw [lessS, ← compare_less, hcb]; simpa using hc0
        clear hcb
        go_wp2
        go_roundw
        case rel =>
          refine ⟨h + 1, q, by omega, by omega, by go_num, rfl, fun k hk h1 => HM0.out k h hk (by rw [HLn.out]; exact hhl) (by omega) (by rw [HX.out]; exact HC.out), HB.out, hB1⟩
        case measure => simp [intOf]; omega
      · have HC : Hid (lessS s x.path = false) := by show _ = _; rw [lessS, ← compare_less, hcb]; simpa using hc0
        clear hcb
        go_wp2
        go_roundw
        case rel =>
          refine ⟨p, h, by omega, by omega, rfl, rfl, HA.out, fun k hk h1 => ?_, hB1⟩
          rw [Bool.eq_false_iff]; intro h3
          have := HM0.out h k (by rw [HLn.out]; exact hhl) hk h1 h3
          rw [HX.out, HC.out] at this; cases this
        case measure => simp [intOf]; omega
    · obtain rfl : p = q := by omega
      have HP : Hid (posT t s = p) := by
        show _ = _
        unfold posT
        by_cases hpl : p < t.length
        · rw [List.findIdx_eq hpl]
          exact ⟨by simpa using HB.out p hpl (Nat.le_refl _), fun j hj => by simpa using HA.out j (by omega) hj⟩
        · obtain rfl : p = t.length := by rw [HLn.out] at hpl ⊢; omega
          refine List.findIdx_eq_length.2 fun y hy => ?_
          obtain ⟨k, hk, rfl⟩ := List.getElem_of_mem hy
          simpa using HA.out k hk hk
      have HN : Hid (∀ k (hk : k < t.length), k < p → (t[k].path == s) = false) := by
        intro k hk hkp
        have := HA.out k hk hkp
        rw [Bool.eq_false_iff]; intro e
        rw [lessS, beq_iff_eq.1 e, bytesLess_irrefl] at this; cases this
      by_cases hpl : p < L.length
      · obtain ⟨b, off, rfl, hbs, _, hcell⟩ := hc (by omega)
        obtain ⟨x, ia, ic, HL, hit, c0, c1, c2, c3, c4⟩ := leafP' hI hcell p hpl
        have HX : Hid (t[p]'(by rw [HLn.out]; exact hpl) = x) := by show _ = _; rw [HT.out p hpl _, HL.out]
        have HY : Hid ((t.any fun y => y.path == s) = (x.path == s)) := by
          show _ = _
          cases he : (x.path == s)
          · rw [Bool.eq_false_iff]
            intro h
            obtain ⟨y, hy, hys⟩ := List.any_eq_true.1 h
            obtain ⟨k, hk, rfl⟩ := List.getElem_of_mem hy
            rcases Nat.lt_trichotomy k p with hkp | hkp | hkp
            · have := HN.out k hk hkp; rw [hys] at this; cases this
            · subst hkp; rw [HX.out, he] at hys; cases hys
            · have h1 := HS.out p k (by rw [HLn.out]; exact hpl) hk hkp
              have h2 := HB.out p (by rw [HLn.out]; exact hpl) (Nat.le_refl _)
              rw [beq_iff_eq.1 hys] at h1; rw [lessS, h1] at h2; cases h2
          · exact List.any_eq_true.2 ⟨t[p]'(by rw [HLn.out]; exact hpl), List.getElem_mem _, by rw [HX.out]; exact he⟩
        have e0 := (hb.cell (p := ⟨b, off + p * 5, none⟩) hbs).trans c0
        have e1 := (hb.cell (p := ⟨b, off + p * 5 + 1, none⟩) hbs).trans c1
        have e2 := (hb.cell (p := ⟨b, off + p * 5 + 2, none⟩) hbs).trans c2
        have e3 := (hb.cell (p := ⟨b, off + p * 5 + 3, none⟩) hbs).trans c3
        have e4 := (hb.cell (p := ⟨b, off + p * 5 + 4, none⟩) hbs).trans c4
        clear c0 c1 c2 c3 c4 hcell hc hI
        go_wp2_with fail
        refine (g_cmpLeaf x ia x.items.length ic s _).mono ?_
        rintro e w1 ⟨rfl, hb1⟩
        have hB1 : Below w.heap.size w w1 := hb.trans (hb1.mono hb.size)
        have HQ := hide3 (compare_eq x.path s)
        generalize Lib.compareBytes x.path s = c at HQ
        go_wp2
        go_ret2
        exact ⟨ret_ib (by rw [HP.out]) (by rw [HY.out, HQ.out]), hB1⟩
      · have HY : Hid ((t.any fun y => y.path == s) = false) := by
          show _ = _
          rw [Bool.eq_false_iff]
          intro h
          obtain ⟨y, hy, hys⟩ := List.any_eq_true.1 h
          obtain ⟨k, hk, rfl⟩ := List.getElem_of_mem hy
          have := HN.out k hk (by rw [HLn.out] at hk; omega)
          rw [hys] at this; cases this
        go_wp2
        go_ret2
        exact ⟨ret_ib (by rw [HP.out]) HY.out, hb⟩
set_option maxHeartbeats 400000 in
theorem g_place (v : Value) (t : List R.Leaf) (s : List UInt8) (w : World) (M : Nat → Prop) (h : PT w M v t) (hl : t.length ≤ 1000000) (hsort : Sorted t) :
    Calls Tryz.prog 145 #[v, .string ⟨s.toArray⟩] w fun e w' => e = .returned (.tuple #[.int .i64 (posT t s : Int), .bool (t.any fun x => x.path == s)]) ∧ Below w.heap.size w w' := by
  go_enter Tryz.func145, Tryz.ntmps145
  go_wp2_with fail
  refine (s_searchLeaf v t s _ M h hl hsort).mono ?_
  rintro e w1 ⟨rfl, hb1⟩
  go_wp2
  go_ret2
  exact ⟨rfl, hb1⟩
end Go.Proofs.YtolgebdmffcemaaGreatDoor
