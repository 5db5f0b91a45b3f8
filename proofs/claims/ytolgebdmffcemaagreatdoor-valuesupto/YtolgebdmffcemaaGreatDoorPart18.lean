/-
  The program's changes to a tree (tree.add, note, remove): as the document's answer has them.
  The program's changes to a tree (tree.note, remove): as the document's answer has them.
-/
import Derived.Test.YtolgebdmffcemaaGreatDoorPart17
set_option linter.unusedVariables false
namespace Go.Proofs.YtolgebdmffcemaaGreatDoor
open Go.RowKit
theorem run_field_count (b n c d : Value) (w : World) : (Instr.field 137 (.agg #[b, n, c, d]) 1).run Tryz.prog w = .ok n w := by
  simp [Instr.field, go_sem, asAgg]
/-- what lies under a path, or nothing -/
structure AtX (x : R.Leaf) (s : List UInt8) : Prop where
  ok : x = R.none s ∨ OkL x
  path : x.path = s
theorem atX {t : List R.Leaf} (h : OkT t) (s : List UInt8) : AtX (R.at_ t s) s := by
  refine ⟨at_ok h s, ?_⟩
  rcases at_any t s with ⟨_, e⟩ | ⟨_, _, e⟩
  · rw [e]; rfl
  · exact e
theorem AtX.kinds {x : R.Leaf} {s : List UInt8} (h : AtX x s) : (x.kind = 0 ∧ pk x = 0 ∧ x = R.none s) ∨ (x.kind = 35 ∧ pk x = 1 ∧ OkL x) ∨ (x.kind = 61 ∧ pk x = 2 ∧ OkL x) ∨ (x.kind = 42 ∧ pk x = 3 ∧ OkL x) := by
  rcases h.ok with h | h
  · subst h; exact .inl ⟨rfl, rfl, rfl⟩
  · rcases h.kind with k | k | k
    · exact .inr (.inl ⟨k.1, by simp [pk, k.1], h⟩)
    · exact .inr (.inr (.inl ⟨k.1, by simp [pk, k.1], h⟩))
    · exact .inr (.inr (.inr ⟨k.1, by simp [pk, k.1], h⟩))
theorem AtX.oth {x : R.Leaf} {s : List UInt8} (h : AtX x s) (k kk : Int) (hk : (k = 1 ∧ kk = 35) ∨ (k = 2 ∧ kk = 61) ∨ (k = 3 ∧ kk = 42)) : ((pk x != 0) && (pk x != k)) = decide (x.kind ≠ 0 ∧ x.kind ≠ kk) := by
  rcases hk with ⟨rfl, rfl⟩ | ⟨rfl, rfl⟩ | ⟨rfl, rfl⟩ <;> rcases h.kinds with k | k | k | k <;> (rw [k.1, k.2.1]; decide)
theorem AtX.zero {x : R.Leaf} {s : List UInt8} (h : AtX x s) : (pk x == 0) = decide (x.kind = 0) := by
  rcases h.kinds with k | k | k | k <;> (rw [k.1, k.2.1]; decide)
theorem AtX.num {x : R.Leaf} {s : List UInt8} (h : AtX x s) : -1000000000 ≤ x.n ∧ x.n ≤ 1000000000 := by
  rcases h.ok with h | h
  · subst h; simp [R.none]
  · exact ⟨h.lo, h.hi⟩
theorem ret_ti {v : Value} {a b : Int} (h : b = a) : Ending.returned (.tuple #[v, .int .i64 a]) = .returned (.tuple #[v, .int .i64 b]) := by rw [h]
/-- what a change leaves: the tree and the error -/
def Left1 (w w' : World) (M : Nat → Prop) (e : Ending) (t : List R.Leaf) (r : Int × R.Leaf) : Prop :=
  ∃ va vn vc, e = .returned (.tuple #[.slice va vn vc, .int .i64 r.1]) ∧ (r.1 = 0 → PT w' M (.slice va vn vc) (R.set t r.2)) ∧ Below w.heap.size w w'
theorem pt_form {w : World} {M : Nat → Prop} {v : Value} {t : List R.Leaf} (h : PT w M v t) : ∃ a c, v = .slice a t.length c := by
  obtain ⟨L, rfl, ⟨a, c, rfl, _⟩, _⟩ := h
  exact ⟨a, c, by simp⟩
theorem it_nil (w : World) (M : Nat → Prop) (y : R.Leaf) (h : y.items = []) : It w M (y, .slice none 0 0) := by
  refine ⟨none, 0, ?_, ?_, ?_, ?_⟩
  · simp [h]
  · simp [h]
  · unfold maxLen; omega
  · intro hh; simp [h] at hh
set_option maxHeartbeats 1600000 in
set_option maxRecDepth 1000000 in
theorem g_add (v : Value) (t : List R.Leaf) (s : List UInt8) (n : Int) (w : World) (M : Nat → Prop) (hM : ∀ b, M b → b < w.heap.size) (h : PT w M v t) (hok : OkT t) (hs : R.isPath s = true) (hn1 : n ≤ 9223372036854775807) (hn2 : -9223372036854775808 ≤ n) :
    Calls Tryz.prog 57 #[v, .string ⟨s.toArray⟩, .int .i64 n] w fun e w' => Left1 w w' M e t (R.addV t (R.at_ t s) s n) := by
  have hfew := hok.few
  have hsl : s.length ≤ 1000 := by have := isPath_len _ hs; omega
  have hgp : ∀ x ∈ t, x.path.length ≤ 1000 := fun x hx => (hok.ok x hx).good.path
  have had := g_admits v t s 1 w M h (by omega) hok.sort hgp hsl
  have hat := fun W (hW : Below w.heap.size w W) => g_at v t s W M (h.below hW) (by omega) hok.sort
  have hfl := fun W (hW : Below w.heap.size w W) => g_full v t s W M (h.below hW) (by omega) hok.sort
  have hAt := atX hok s
  have HWith := fun (x : R.Leaf) W (hW : Below w.heap.size w W) (hb1 : n ≤ 1000000000 - x.n) (hb2 : -1000000000 - x.n ≤ n) => g_with v t { path := s, kind := 35, n := x.n + n, text := [], items := [] } (.slice none 0 0) W M (fun b hb => by have := hM b hb; have := hW.size; omega) (h.below hW) hok hs (it_nil W M _ rfl) (.inr ⟨hs, .inl ⟨rfl, rfl, rfl⟩, by simp only; omega, by simp only; omega, rfl, by simp, by simp, fun i j hi => by simp at hi⟩) (by simp)
  clear h hok hgp
  generalize R.at_ t s = x at *
  obtain ⟨hlo, hhi⟩ := hAt.num
  have HWith' := HWith x
  clear HWith
  by_cases c1 : x.kind ≠ 0 ∧ x.kind ≠ 35
  · have e1 : ((pk x != 0) && (pk x != 1)) = true := by
      rw [hAt.oth 1 35 (by simp)]; exact decide_eq_true c1
    have HR : Hid (R.addV t x s n = (6, x)) := by show _ = _; rw [R.addV, if_pos c1]
    rw [e1] at had
    simp only [if_true] at had
    clear hAt c1 e1
    go_enter Tryz.func57, Tryz.ntmps57
    go_wp2_with fail
    refine had.mono ?_
    rintro e w1 ⟨rfl, hb1⟩
    go_wp2
    go_ret2
    exact ⟨none, 0, 0, ret_ti (by rw [HR.out]), (fun h => by rw [HR.out] at h; cases h), hb1⟩
  have e1 : ((pk x != 0) && (pk x != 1)) = false := by
    rw [hAt.oth 1 35 (by simp)]; exact decide_eq_false c1
  rw [e1] at had
  simp only [Bool.false_eq_true, if_false] at had
  by_cases c2 : R.blocked t s = true
  · have HR : Hid (R.addV t x s n = (7, x)) := by show _ = _; rw [R.addV, if_neg c1, if_pos c2]
    rw [if_pos c2] at had
    clear hAt c1 e1 c2
    go_enter Tryz.func57, Tryz.ntmps57
    go_wp2_with fail
    refine had.mono ?_
    rintro e w1 ⟨rfl, hb1⟩
    go_wp2
    go_ret2
    exact ⟨none, 0, 0, ret_ti (by rw [HR.out]), (fun h => by rw [HR.out] at h; cases h), hb1⟩
  rw [if_neg c2] at had
  have hfd := run_field_count (.int .i64 (pk x)) (.int .i64 x.n)
  by_cases c3 : 1000000000 - x.n < n ∨ n < -1000000000 - x.n
  · have HR : Hid (R.addV t x s n = (8, x)) := by show _ = _; rw [R.addV, if_neg c1, if_neg c2, if_pos c3]
    clear hAt c1 e1 c2
    go_enter Tryz.func57, Tryz.ntmps57
    go_wp2_with fail
    refine had.mono ?_
    rintro e w1 ⟨rfl, hb1⟩
    go_wp2_with fail
    refine (hat _ hb1).mono ?_
    rintro e w2 ⟨ia, ic, rfl, hit, hb2⟩
    by_cases c3' : 1000000000 - x.n < n
    · go_wp2
      go_ret2
      exact ⟨none, 0, 0, ret_ti (by rw [HR.out]), (fun h => by rw [HR.out] at h; cases h), hb1.trans (hb2.mono hb1.size)⟩
    · have c3'' : n < -1000000000 - x.n := by omega
      go_wp2
      go_ret2
      exact ⟨none, 0, 0, ret_ti (by rw [HR.out]), (fun h => by rw [HR.out] at h; cases h), hb1.trans (hb2.mono hb1.size)⟩
  have d1 : n ≤ 1000000000 - x.n := by omega
  have d2 : -1000000000 - x.n ≤ n := by omega
  by_cases c4 : x.kind = 0 ∧ 24 ≤ t.length
  · have HR : Hid (R.addV t x s n = (4, x)) := by show _ = _; rw [R.addV, if_neg c1, if_neg c2, if_neg c3, if_pos c4]
    have e4 : ((pk x == 0) && decide (24 ≤ t.length)) = true := by
      rw [hAt.zero, decide_eq_true c4.1, decide_eq_true c4.2]; rfl
    rw [e4] at hfl
    clear hAt c1 e1 c2 c3 c4 e4
    go_enter Tryz.func57, Tryz.ntmps57
    go_wp2_with fail
    refine had.mono ?_
    rintro e w1 ⟨rfl, hb1⟩
    go_wp2_with fail
    refine (hat _ hb1).mono ?_
    rintro e w2 ⟨ia, ic, rfl, hit, hb2⟩
    have hB2 := hb1.trans (hb2.mono hb1.size)
    go_wp2_with fail
    refine (hfl _ hB2).mono ?_
    rintro e w3 ⟨rfl, hb3⟩
    go_wp2
    go_ret2
    exact ⟨none, 0, 0, ret_ti (by rw [HR.out]), (fun h => by rw [HR.out] at h; cases h), hB2.trans (hb3.mono hB2.size)⟩
  have HR : Hid (R.addV t x s n = (0, { path := s, kind := 35, n := x.n + n, text := [], items := [] })) := by show _ = _; rw [R.addV, if_neg c1, if_neg c2, if_neg c3, if_neg c4]
  have e4 : ((pk x == 0) && decide (24 ≤ t.length)) = false := by
    rw [hAt.zero, ← Bool.decide_and]; exact decide_eq_false c4
  rw [e4] at hfl
  clear hAt c1 e1 c2 c3 c4 e4
  go_enter Tryz.func57, Tryz.ntmps57
  go_wp2_with fail
  refine had.mono ?_
  rintro e w1 ⟨rfl, hb1⟩
  go_wp2_with fail
  refine (hat _ hb1).mono ?_
  rintro e w2 ⟨ia, ic, rfl, hit, hb2⟩
  have hB2 := hb1.trans (hb2.mono hb1.size)
  go_wp2_with fail
  refine (hfl _ hB2).mono ?_
  rintro e w3 ⟨rfl, hb3⟩
  have hB3 := hB2.trans (hb3.mono hB2.size)
  go_wp2_with fail
  refine (HWith' _ hB3 d1 d2).mono ?_
  rintro e w4 ⟨v4, rfl, hp4, hb4⟩
  obtain ⟨va, vc, rfl⟩ := pt_form hp4
  go_wp2
  go_ret2
  exact ⟨va, _, vc, ret_ti (by rw [HR.out]), (fun _ => by rw [HR.out]; exact hp4), hB3.trans (hb4.mono hB3.size)⟩
end Go.Proofs.YtolgebdmffcemaaGreatDoor
namespace Go.Proofs.YtolgebdmffcemaaGreatDoor
open Go.RowKit
theorem g_isText' (s : List UInt8) (w : World) (hs : s.length ≤ maxLen) :
    Calls Tryz.prog 113 #[.string ⟨s.toArray⟩] w fun e w' => e = .returned (.bool (R.isText s)) ∧ w' = w := by
  have h := g_isText ⟨s.toArray⟩ w (by simpa [ByteArray.size] using hs)
  simpa using h
set_option maxHeartbeats 1600000 in
set_option maxRecDepth 1000000 in
theorem g_note (v : Value) (t : List R.Leaf) (s text : List UInt8) (w : World) (M : Nat → Prop) (hM : ∀ b, M b → b < w.heap.size) (h : PT w M v t) (hok : OkT t) (hs : R.isPath s = true) (htl : text.length ≤ maxLen) :
    Calls Tryz.prog 74 #[v, .string ⟨s.toArray⟩, .string ⟨text.toArray⟩] w fun e w' => Left1 w w' M e t (R.noteV t (R.at_ t s) s text) := by
  have hfew := hok.few
  have hsl : s.length ≤ 1000 := by have := isPath_len _ hs; omega
  have hgp : ∀ x ∈ t, x.path.length ≤ 1000 := fun x hx => (hok.ok x hx).good.path
  have htx := g_isText' text w htl
  have had := g_admits v t s 2 w M h (by omega) hok.sort hgp hsl
  have hfl := fun W (hW : Below w.heap.size w W) => g_full v t s W M (h.below hW) (by omega) hok.sort
  have hAt := atX hok s
  have HWith := fun W (hW : Below w.heap.size w W) (hT : R.isText text = true) => g_with v t { path := s, kind := 61, n := 0, text := text, items := [] } (.slice none 0 0) W M (fun b hb => by have := hM b hb; have := hW.size; omega) (h.below hW) hok hs (it_nil W M _ rfl) (.inr ⟨hs, .inr (.inl ⟨rfl, rfl, rfl⟩), by simp, by simp, hT, by simp, by simp, fun i j hi => by simp at hi⟩) (by simp)
  clear h hok hgp
  generalize R.at_ t s = x at *
  by_cases c0 : R.isText text = false
  · have HR : Hid (R.noteV t x s text = (3, x)) := by show _ = _; rw [R.noteV, if_pos c0]
    rw [c0] at htx
    clear hAt c0 HWith
    go_enter Tryz.func74, Tryz.ntmps74
    go_wp2_with fail
    refine htx.mono ?_
    rintro e w0 ⟨rfl, hw0⟩
    subst hw0
    go_wp2
    go_ret2
    exact ⟨none, 0, 0, ret_ti (by rw [HR.out]), (fun h => by rw [HR.out] at h; cases h), Below.refl _ _⟩
  have c0' : R.isText text = true := by simpa using c0
  rw [c0'] at htx
  have HWith' := fun W hW => HWith W hW c0'
  clear HWith
  by_cases c1 : x.kind ≠ 0 ∧ x.kind ≠ 61
  · have e1 : ((pk x != 0) && (pk x != 2)) = true := by
      rw [hAt.oth 2 61 (by simp)]; exact decide_eq_true c1
    have HR : Hid (R.noteV t x s text = (6, x)) := by show _ = _; rw [R.noteV, if_neg c0, if_pos c1]
    rw [e1] at had
    simp only [if_true] at had
    clear hAt c1 e1 c0 c0'
    go_enter Tryz.func74, Tryz.ntmps74
    go_wp2_with fail
    refine htx.mono ?_
    rintro e w0 ⟨rfl, hw0⟩
    subst hw0
    go_wp2_with fail
    refine had.mono ?_
    rintro e w1 ⟨rfl, hb1⟩
    go_wp2
    go_ret2
    exact ⟨none, 0, 0, ret_ti (by rw [HR.out]), (fun h => by rw [HR.out] at h; cases h), hb1⟩
  have e1 : ((pk x != 0) && (pk x != 2)) = false := by
    rw [hAt.oth 2 61 (by simp)]; exact decide_eq_false c1
  rw [e1] at had
  simp only [Bool.false_eq_true, if_false] at had
  by_cases c2 : R.blocked t s = true
  · have HR : Hid (R.noteV t x s text = (7, x)) := by show _ = _; rw [R.noteV, if_neg c0, if_neg c1, if_pos c2]
    rw [if_pos c2] at had
    clear hAt c1 e1 c2 c0 c0'
    go_enter Tryz.func74, Tryz.ntmps74
    go_wp2_with fail
    refine htx.mono ?_
    rintro e w0 ⟨rfl, hw0⟩
    subst hw0
    go_wp2_with fail
    refine had.mono ?_
    rintro e w1 ⟨rfl, hb1⟩
    go_wp2
    go_ret2
    exact ⟨none, 0, 0, ret_ti (by rw [HR.out]), (fun h => by rw [HR.out] at h; cases h), hb1⟩
  rw [if_neg c2] at had
  by_cases c4 : x.kind = 0 ∧ 24 ≤ t.length
  · have HR : Hid (R.noteV t x s text = (4, x)) := by show _ = _; rw [R.noteV, if_neg c0, if_neg c1, if_neg c2, if_pos c4]
    have e4 : ((pk x == 0) && decide (24 ≤ t.length)) = true := by
      rw [hAt.zero, decide_eq_true c4.1, decide_eq_true c4.2]; rfl
    rw [e4] at hfl
    clear hAt c1 e1 c2 c4 e4 c0 c0'
    go_enter Tryz.func74, Tryz.ntmps74
    go_wp2_with fail
    refine htx.mono ?_
    rintro e w0 ⟨rfl, hw0⟩
    subst hw0
    go_wp2_with fail
    refine had.mono ?_
    rintro e w1 ⟨rfl, hb1⟩
    go_wp2_with fail
    refine (hfl _ hb1).mono ?_
    rintro e w3 ⟨rfl, hb3⟩
    go_wp2
    go_ret2
    exact ⟨none, 0, 0, ret_ti (by rw [HR.out]), (fun h => by rw [HR.out] at h; cases h), hb1.trans (hb3.mono hb1.size)⟩
  have HR : Hid (R.noteV t x s text = (0, { path := s, kind := 61, n := 0, text := text, items := [] })) := by show _ = _; rw [R.noteV, if_neg c0, if_neg c1, if_neg c2, if_neg c4]
  have e4 : ((pk x == 0) && decide (24 ≤ t.length)) = false := by
    rw [hAt.zero, ← Bool.decide_and]; exact decide_eq_false c4
  rw [e4] at hfl
  clear hAt c1 e1 c2 c4 e4 c0 c0'
  go_enter Tryz.func74, Tryz.ntmps74
  go_wp2_with fail
  refine htx.mono ?_
  rintro e w0 ⟨rfl, hw0⟩
  subst hw0
  go_wp2_with fail
  refine had.mono ?_
  rintro e w1 ⟨rfl, hb1⟩
  go_wp2_with fail
  refine (hfl _ hb1).mono ?_
  rintro e w3 ⟨rfl, hb3⟩
  have hB3 := hb1.trans (hb3.mono hb1.size)
  go_wp2_with fail
  refine (HWith' _ hB3).mono ?_
  rintro e w4 ⟨v4, rfl, hp4, hb4⟩
  obtain ⟨va, vc, rfl⟩ := pt_form hp4
  go_wp2
  go_ret2
  exact ⟨va, _, vc, ret_ti (by rw [HR.out]), (fun _ => by rw [HR.out]; exact hp4), hB3.trans (hb4.mono hB3.size)⟩
set_option maxHeartbeats 800000 in
set_option maxRecDepth 1000000 in
theorem g_remove (v : Value) (t : List R.Leaf) (s : List UInt8) (w : World) (M : Nat → Prop) (hM : ∀ b, M b → b < w.heap.size) (h : PT w M v t) (hok : OkT t) (hs : R.isPath s = true) :
    Calls Tryz.prog 76 #[v, .string ⟨s.toArray⟩] w fun e w' => Left1 w w' M e t (R.delV (R.at_ t s) s) := by
  have hfew := hok.few
  have hat := g_at v t s w M h (by omega) hok.sort
  have hAt := atX hok s
  have hwo := fun W (hW : Below w.heap.size w W) => g_without v t s W M (fun b hb => by have := hM b hb; have := hW.size; omega) (h.below hW) hok hs
  clear h hok
  generalize R.at_ t s = x at *
  have hfd := run_field_kind (pk x)
  by_cases c1 : x.kind = 0
  · have HR : Hid (R.delV x s = (10, x)) := by show _ = _; rw [R.delV, if_pos c1]
    have e1 : (pk x == 0) = true := by rw [hAt.zero]; exact decide_eq_true c1
    clear hAt c1
    go_enter Tryz.func76, Tryz.ntmps76
    go_wp2_with fail
    refine hat.mono ?_
    rintro e w1 ⟨ia, ic, rfl, hit, hb1⟩
    go_wp2
    go_ret2
    exact ⟨none, 0, 0, ret_ti (by rw [HR.out]), (fun h => by rw [HR.out] at h; cases h), hb1⟩
  · have HR : Hid (R.delV x s = (0, R.none s)) := by show _ = _; rw [R.delV, if_neg c1]
    have e1 : (pk x == 0) = false := by rw [hAt.zero]; exact decide_eq_false c1
    clear hAt c1
    go_enter Tryz.func76, Tryz.ntmps76
    go_wp2_with fail
    refine hat.mono ?_
    rintro e w1 ⟨ia, ic, rfl, hit, hb1⟩
    go_wp2_with fail
    refine (hwo _ hb1).mono ?_
    rintro e w4 ⟨v4, rfl, hp4, hb4⟩
    obtain ⟨va, vc, rfl⟩ := pt_form hp4
    go_wp2
    go_ret2
    exact ⟨va, _, vc, ret_ti (by rw [HR.out]), (fun _ => by rw [HR.out]; exact hp4), hb1.trans (hb4.mono hb1.size)⟩
end Go.Proofs.YtolgebdmffcemaaGreatDoor
