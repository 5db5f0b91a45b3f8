/-
  Where the document's answer (graftref) finds a branch, a commit's tree; how it writes a record down.
  Plain functions on stores of the document's answer (graftref).
-/
import Derived.Test.YtolgebdmffcemaaGreatDoorPart02
import Derived.Test.YtolgebdmffcemaaGreatDoorPart03
import Derived.Test.YtolgebdmffcemaaGreatDoorPart01
set_option linter.unusedVariables false
namespace Go.Proofs.YtolgebdmffcemaaGreatDoor
open Go.RowKit
theorem br_cells {w : World} {g : Nat} {L : List (R.Br × Value)} (hc : ∀ j u, (cellsB L)[j]? = some u → w.cell? ⟨g, j, none⟩ = some u) (i : Nat) (h : i < L.length) :
    w.cell? ⟨g, i * 3, none⟩ = some (.string ⟨(L[i]'h).1.name.toArray⟩) ∧ w.cell? ⟨g, i * 3 + 1, none⟩ = some (.int .i64 ((L[i]'h).1.head : Int)) ∧ w.cell? ⟨g, i * 3 + 2, none⟩ = some (L[i]'h).2 := by
  have e : ∀ j u, j < 3 → [Value.string ⟨(L[i]'h).1.name.toArray⟩, .int .i64 ((L[i]'h).1.head : Int), (L[i]'h).2][j]? = some u → w.cell? ⟨g, i * 3 + j, none⟩ = some u := by
    intro j u hj hu
    exact hc _ _ (by rw [cellsB_at L i j h hj]; exact hu)
  exact ⟨e 0 _ (by omega) rfl, e 1 _ (by omega) rfl, e 2 _ (by omega) rfl⟩
set_option maxHeartbeats 800000 in
set_option maxRecDepth 1000000 in
theorem r_find (B : Nat) (st : R.St) (s : List UInt8) (w : World) (M O : Nat → Prop) (h : RS w M O B st) :
    Calls Tryz.prog 164 #[.pointer (some ⟨B, 0, none⟩), .string ⟨s.toArray⟩] w fun e w' => e = .returned (.int .i64 (R.fndI st.brs s)) ∧ w' = w := by
  obtain ⟨cv, bv, LB, LCm, hR⟩ := h
  obtain ⟨a, cap, rfl, hn, hm, hno, hso⟩ := owns_form hR.row
  have c1 := hR.c1
  have HB : Hid (LB.map (·.1) = st.brs) := hR.brs
  clear hR
  rw [← HB.out]
  unfold maxLen at hm
  go_enter Tryz.func164, Tryz.ntmps164
  go_wp2
  go_loop [5] (fun i => ∃ k : Nat, k ≤ LB.length ∧ i = .int .i64 k ∧ (((LB.map (·.1)).take k).any fun x => x.name == s) = false) (fun i => LB.length - (intOf i).toNat)
  case atStart => exact ⟨0, Nat.zero_le _, rfl, rfl⟩
  case round =>
    obtain ⟨k, hk, rfl, hall⟩ := hrel
    have HA : Hid ((((LB.map (·.1)).take k).any fun x => x.name == s) = false) := hall
    clear hall
    by_cases hlt : k < LB.length
    · cases a with
      | none => have := (hno rfl).1; omega
      | some ad =>
        obtain ⟨g, rfl, _, hg, _, hcell⟩ := hso ad rfl
        obtain ⟨d0, -, -⟩ := br_cells hcell k hlt
        have HP : Hid ((LB.map (·.1))[k]'(by simpa using hlt) = (LB[k]'hlt).1) := by show _ = _; simp
        generalize (LB[k]'hlt).1 = y at HP d0
        clear hcell hso hno
        go_wp2
        · have hp : (y.name == s) = true := by assumption
          go_ret
          exact ⟨ret_int (R.fnd_hit _ _ k (by simpa using hlt) HA.out (by rw [HP.out]; exact hp)), rfl⟩
        · have hp : (y.name == s) = false := by assumption
          go_round
          case rel => exact ⟨k + 1, by omega, by go_num, R.any_snoc _ _ k (by simpa using hlt) HA.out (by rw [HP.out]; exact hp)⟩
          case measure => simp [intOf]; omega
    · go_wp2
      go_ret
      exact ⟨ret_int (R.fnd_none _ _ k (by simpa using hlt) HA.out), rfl⟩
set_option maxHeartbeats 400000 in
theorem r_sat0 (B : Nat) (w : World) :
    Calls Tryz.prog 176 #[.pointer (some ⟨B, 0, none⟩), .int .i64 0] w fun e w' => e = .returned (.slice none 0 0) ∧ w' = w := by
  go_enter Tryz.func176, Tryz.ntmps176
  go_wp2
  go_ret
  exact ⟨rfl, rfl⟩
set_option maxHeartbeats 1600000 in
set_option maxRecDepth 1000000 in
theorem r_note (B : Nat) (c : UInt8) (packed body : List UInt8) (w : World) (hB : B < w.heap.size) (h2 : w.cell? ⟨B, 2, none⟩ = some (.string ⟨packed.toArray⟩)) (hf : ∀ o, w.frozen? ⟨B, o, none⟩ = false) (hp : packed.length ≤ 1000000000000000) (hb : body.length ≤ 1000000) :
    Calls Tryz.prog 166 #[.pointer (some ⟨B, 0, none⟩), .int .u8 (c.toNat : Int), .string ⟨body.toArray⟩] w fun e w' =>
      e = .returned (.tuple #[]) ∧ ∃ w1, Below w.heap.size w w1 ∧ w' = w1.setCell ⟨B, 2, none⟩ (.string ⟨(packed ++ R.record c body).toArray⟩) := by
  have hrl : (R.record c body).length ≤ 1000010 := by simp [R.record, R.recHead]; omega
  have hf2 := hf 2
  go_enter Tryz.func166, Tryz.ntmps166
  go_wp2
  go_region_with ((go_at_call 115; refine (r_Record c body _ (by omega)).mono ?_; rintro e w' ⟨rfl, hbw⟩; have hcc : w'.cell? ⟨B, 2, none⟩ = some (.string ⟨packed.toArray⟩) := (hbw.cell (p := ⟨B, 2, none⟩) hB).trans h2; have hff : w'.frozen? ⟨B, 2, none⟩ = false := (hbw.frozen (p := ⟨B, 2, none⟩) hB).trans hf2))
  all_goals (go_end0; rw [mk_add]; exact ⟨rfl, w', ⟨hbw.os, hbw.tape, hbw.output, hbw.size, hbw.block⟩, rfl⟩)
end Go.Proofs.YtolgebdmffcemaaGreatDoor
namespace Go.Proofs.YtolgebdmffcemaaGreatDoor
namespace R
def less (n : List UInt8) (b : Br) : Bool := Op.bytesLess b.name n
def pos (l : List Br) (n : List UInt8) : Nat := l.findIdx fun b => !less n b
theorem pos_eq (l : List Br) (n : List UInt8) (k : Nat) (hk : k ≤ l.length) (ha : (l.take k).all (less n) = true) (he : ∀ h : k < l.length, less n l[k] = false) : pos l n = k := by
  unfold pos
  by_cases h : k < l.length
  · rw [List.findIdx_eq h]
    refine ⟨by simpa using he h, fun j hj => ?_⟩
    have := List.all_eq_true.1 ha l[j] (by rw [List.mem_take_iff_getElem]; exact ⟨j, by omega, rfl⟩)
    simpa using this
  · have hkl : k = l.length := by omega
    subst hkl
    rw [List.take_length] at ha
    exact List.findIdx_eq_length.2 (by intro x hx; simpa using List.all_eq_true.1 ha x hx)
def insB (l : List Br) (b : Br) : List Br := l.take (pos l b.name) ++ (b :: l.drop (pos l b.name))
/-- a new branch -/
def headNew (st : St) (b : Br) : St := { st with brs := insB st.brs b, packed := st.packed ++ record 66 (UInt8.ofNat b.head :: b.name) }
end R
end Go.Proofs.YtolgebdmffcemaaGreatDoor
