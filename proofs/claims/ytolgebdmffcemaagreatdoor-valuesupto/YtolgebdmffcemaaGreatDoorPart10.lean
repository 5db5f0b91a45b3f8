/-
  How the program writes a value and a tree (value.written, tree.written): as the document's answer has it.
  All memory of the statement together: its own, and both stores of each pair.
  All memory of the statement together: its own part is another; a pair more.
-/
import Derived.Test.YtolgebdmffcemaaGreatDoorPart09
import Derived.Test.YtolgebdmffcemaaGreatDoorPart07
import Derived.Test.YtolgebdmffcemaaGreatDoorPart03
import Derived.Test.YtolgebdmffcemaaGreatDoorPart06
import Derived.Test.YtolgebdmffcemaaGreatDoorPart08
set_option linter.unusedVariables false
namespace Go.Proofs.YtolgebdmffcemaaGreatDoor
open Go.RowKit
/-- the library's variables that are read: they are there -/
structure Glob (w : World) : Prop where
  mx : ∃ m : Int, w.cell? ⟨0, 0, none⟩ = some (.int .i64 m)
  tab : Lib.TabIs Tryz.prog w "internal/strconv.uint64pow10" .u64 Lib.pow10Tab
  size : 6 ≤ w.heap.size
theorem glob_one : Tryz.prog.globalNamed "internal/strconv.uint64pow10" = some 1 := by kernel_rfl
theorem Glob.kept {w w' : World} {O : Nat → Prop} (h : Glob w) (hk : Kept O w w') (hO : ∀ b, O b → 6 ≤ b) : Glob w' := by
  have hs := h.size
  refine ⟨?_, ?_, Nat.le_trans hs hk.size⟩
  · obtain ⟨m, hm⟩ := h.mx
    exact ⟨m, by rw [hk.cell (p := ⟨0, 0, none⟩) (by show 0 < _; omega) (fun e => by have := hO 0 e; omega)]; exact hm⟩
  · have ht := h.tab
    unfold Lib.TabIs World.var? at ht ⊢
    rw [glob_one] at ht ⊢
    simp only [Option.bind_some] at ht ⊢
    rw [hk.block 1 (by omega) (fun e => by have := hO 1 e; omega)]
    exact ht
theorem Glob.below {w w' : World} (h : Glob w) (hb : Below w.heap.size w w') : Glob w' := h.kept (O := fun _ => False) (Kept.of_below hb) (fun _ e => e.elim)
theorem below_grow (w : World) (q : Nat) (os : Array Obj) : Below w.heap.size w (Sort.grow (w.drewN q) os) :=
  ⟨rfl, rfl, rfl, by simp [Sort.grow, World.drewN], fun k hk => by simp [Sort.grow, World.drewN, Array.getElem?_append_left hk]⟩
theorem s_Itoa (n : Int) (w : World) (hG : Glob w) (h0 : -9223372036854775808 ≤ n) (h1 : n ≤ 9223372036854775807) :
    Calls Tryz.prog 141 #[.int .i64 n] w fun e w' => e = .returned (.string ⟨(Lib.itoa n).toArray⟩) ∧ Below w.heap.size w w' := by
  refine (Tryz.strconv_Itoa n h0 h1 w hG.tab).mono ?_
  rintro e w' ⟨rfl, k, os, rfl⟩
  exact ⟨rfl, below_grow w k os⟩
theorem join_eq (l : List (List UInt8)) : Lib.join l [59] = R.joinI l := by
  match l with
  | [] => rfl
  | x :: r =>
    rw [Lib.join_cons, R.joinI_eq]
    congr 1
    clear x
    induction r with
    | nil => rfl
    | cons y r ih => simp only [Lib.joinTail, List.map_cons, List.flatten_cons] at ih ⊢; rw [ih, R.joinF]; rfl
theorem s_Join (l : List (List UInt8)) (iv : Value) (w : World) (M : Nat → Prop) (h : Rd w M iv l.length (l.map S)) (hl : l.length ≤ 100) (hi : ∀ i ∈ l, i.length ≤ 1000) :
    Calls Tryz.prog 142 #[iv, .string ⟨[(59 : UInt8)].toArray⟩] w fun e w' => e = .returned (.string ⟨(R.joinI l).toArray⟩) ∧ Below w.heap.size w w' := by
  obtain ⟨a, cap, rfl, hn, hm, hc⟩ := h
  rcases Nat.eq_zero_or_pos l.length with h0 | h0
  · have hl0 : l = [] := List.eq_nil_of_length_eq_zero h0
    subst hl0
    refine (Tryz.strings_Join_none a cap _ w).mono ?_
    rintro e w' ⟨rfl, rfl⟩
    exact ⟨rfl, Below.refl _ _⟩
  · obtain ⟨b, off, rfl, hb, _, hcell⟩ := hc h0
    have hmap : (l.map fun x => (⟨x.toArray⟩ : ByteArray)).map (·.data.toList) = l := by rw [List.map_map]; exact (List.map_congr_left (fun x _ => by simp)).trans (List.map_id l)
    have hj := Tryz.strings_Join b off cap (l.map fun x => (⟨x.toArray⟩ : ByteArray)) ⟨[(59 : UInt8)].toArray⟩ w (fun j x hx => by
      rw [List.getElem?_map] at hx
      cases hq : l[j]? with
      | none => rw [hq] at hx; simp at hx
      | some y =>
        rw [hq] at hx; simp at hx; subst hx
        exact hcell j _ (by rw [List.getElem?_map, hq]; rfl)) hb (by rw [List.length_map]; omega) (by rw [List.length_map]; exact hn) (by
        rw [hmap]
        have := R.joinI_length l hi
        have e : Lib.join l [59] = R.joinI l := join_eq l
        simp only
        rw [e]; omega)
    rw [hmap, List.length_map] at hj
    refine hj.mono ?_
    rintro e w' ⟨rfl, hb'⟩
    exact ⟨by simp only; rw [join_eq l], hb'⟩
theorem pk_of {x : R.Leaf} (h : OkL x) : (pk x = 1 ∧ R.written x = 35 :: Lib.itoa x.n) ∨ (pk x = 2 ∧ R.written x = 61 :: x.text) ∨ (pk x = 3 ∧ R.written x = 42 :: R.joinI x.items) := by
  unfold pk R.written
  rcases h.kind with h | h | h <;> rw [h.1] <;> simp
set_option maxHeartbeats 800000 in
set_option maxRecDepth 1000000 in
theorem g_vwritten (x : R.Leaf) (iv : Value) (w : World) (M : Nat → Prop) (h : It w M (x, iv)) (hok : OkL x) (hG : Glob w) :
    Calls Tryz.prog 89 #[.agg #[.int .i64 (pk x), .int .i64 x.n, .string ⟨x.text.toArray⟩, iv]] w fun e w' => e = .returned (.string ⟨(R.written x).toArray⟩) ∧ Below w.heap.size w w' := by
  have hI := fun W (hW : Below w.heap.size w W) => s_Itoa x.n W (hG.below hW) (by have := hok.lo; omega) (by have := hok.hi; omega)
  have hJ := fun W (hW : Below w.heap.size w W) => s_Join x.items iv W M (Rd.below h hW) (by have := hok.many; omega) (fun i hi => by have := isText_len _ (hok.item i hi).1; omega)
  have hil := Lib.itoa_length_le x.n (by have := hok.lo; omega) (by have := hok.hi; omega)
  have htl := isText_len _ hok.text
  have hjl := R.joinI_length x.items (fun i hi => by have := isText_len _ (hok.item i hi).1; omega)
  have hmn := hok.many
  obtain ⟨ia, ic, hiv, _, _, _⟩ := h
  dsimp only at hiv
  subst hiv
  rcases pk_of hok with ⟨hp, hw⟩ | ⟨hp, hw⟩ | ⟨hp, hw⟩
  · rw [hp, hw]
    clear hp hw hok hG hJ
    generalize Lib.itoa x.n = d at *
    go_enter Tryz.func89, Tryz.ntmps89
    go_wp2_with fail
    refine (hI _ ((Below.refl _ _).alloc (Nat.le_refl _) _)).mono ?_
    rintro e w1 ⟨rfl, hb1⟩
    go_wp2
    go_ret
    exact ⟨ret_str (by first | rfl | (simp; done) | (trace_state; fail)), ((Below.refl _ _).alloc (Nat.le_refl _) _).trans (hb1.mono (by simp))⟩
  · rw [hp, hw]
    clear hp hw hok hG hJ hI
    go_enter Tryz.func89, Tryz.ntmps89
    go_wp2
    go_ret
    exact ⟨ret_str (by first | rfl | (simp; done) | (trace_state; fail)), (Below.refl _ _).alloc (Nat.le_refl _) _⟩
  · rw [hp, hw]
    clear hp hw hok hG hI
    generalize R.joinI x.items = d at *
    go_enter Tryz.func89, Tryz.ntmps89
    go_wp2_with fail
    refine (hJ _ ((Below.refl _ _).alloc (Nat.le_refl _) _)).mono ?_
    rintro e w1 ⟨rfl, hb1⟩
    go_wp2
    go_ret
    exact ⟨ret_str (by first | rfl | (simp; done) | (trace_state; fail)), ((Below.refl _ _).alloc (Nat.le_refl _) _).trans (hb1.mono (by simp))⟩
end Go.Proofs.YtolgebdmffcemaaGreatDoor
namespace Go.Proofs.YtolgebdmffcemaaGreatDoor
open Go.RowKit
/-- a pair of stores: where they lie, what is theirs to be written, what they hold -/
structure SP where
  bx : Nat
  by_ : Nat
  ox : Nat → Prop
  oy : Nat → Prop
  sx : R.St
  sy : R.St
def MM (O : Nat → Prop) (L : List SP) (b : Nat) : Prop := O b ∨ ∃ (j : Nat) (h : j < L.length), L[j].ox b ∨ L[j].oy b
structure LW (w : World) (h0 Wb : Nat) (O : Nat → Prop) (L : List SP) (names : List (Value × List UInt8)) (nums : List (Value × Int)) (last : Nat) : Prop where
  lw : ∃ av nv tv uv kv, LWx w (MM O L) O Wb av (L.map fun p => (p.bx, p.by_)) nv tv uv kv names nums last
  px : ∀ (j : Nat) (h : j < L.length), PS w (MM O L) L[j].ox L[j].bx L[j].sx ∧ Inv L[j].sx
  py : ∀ (j : Nat) (h : j < L.length), RS w (MM O L) L[j].oy L[j].by_ L[j].sy ∧ Inv L[j].sy
  d0 : ∀ (j : Nat) (h : j < L.length) (b : Nat), O b → ¬ L[j].ox b ∧ ¬ L[j].oy b
  d1 : ∀ (j : Nat) (h : j < L.length) (b : Nat), L[j].ox b → ¬ L[j].oy b
  d2 : ∀ (i j : Nat) (hi : i < L.length) (hj : j < L.length), i ≠ j → ∀ b, (L[i].ox b ∨ L[i].oy b) → ¬ (L[j].ox b ∨ L[j].oy b)
  lo : ∀ b, MM O L b → h0 ≤ b
  lt : ∀ b, MM O L b → b < w.heap.size
  g : Glob w
  h6 : 6 ≤ h0
  hs : h0 ≤ w.heap.size
theorem PS.smaller {w : World} {M M' O : Nat → Prop} {B : Nat} {st : R.St} (h : PS w M O B st) (hM : ∀ b, M' b → M b) (hO : ∀ b, O b → M' b) : PS w M' O B st := h.kept (Kept.refl (fun _ => False) w) (fun _ e => e.elim) (fun b e => .inl (hM b e)) hO
theorem RS.smaller {w : World} {M M' O : Nat → Prop} {B : Nat} {st : R.St} (h : RS w M O B st) (hM : ∀ b, M' b → M b) (hO : ∀ b, O b → M' b) : RS w M' O B st := h.kept (Kept.refl (fun _ => False) w) (fun _ e => e.elim) (fun b e => .inl (hM b e)) hO
theorem Kept.below0 {Z : Nat → Prop} {w w' : World} (hk : Kept Z w w') {h0 : Nat} (hs : h0 ≤ w.heap.size) (hZ : ∀ b, Z b → h0 ≤ b) : Below h0 w w' :=
  ⟨hk.os, hk.tape, hk.output, hk.size, fun k hkl => hk.block k (by omega) (fun e => by have := hZ k e; omega)⟩
theorem LW.stepX {w w' : World} {h0 Wb : Nat} {O : Nat → Prop} {L : List SP} {names : List (Value × List UInt8)} {nums : List (Value × Int)} {last : Nat} (h : LW w h0 Wb O L names nums last) (i : Nat) (hi : i < L.length) {st' : R.St} (hst : PStep w w' (MM O L) L[i].ox L[i].bx st') (hI : Inv st') :
    ∃ o', LW w' h0 Wb O (L.set i { L[i] with ox := o', sx := st' }) names nums last ∧ Below h0 w w' := by
  obtain ⟨o', hP, hK, ho⟩ := hst
  refine ⟨o', ?_⟩
  have hin : ∀ b, L[i].ox b → MM O L b := fun b e => .inr ⟨i, hi, .inl e⟩
  have hZ : ∀ b, L[i].ox b → h0 ≤ b := fun b e => h.lo b (hin b e)
  generalize hx : ({ L[i] with ox := o', sx := st' } : SP) = x
  have hx1 : x.ox = o' := by rw [← hx]
  have hx2 : x.oy = L[i].oy := by rw [← hx]
  have hget : ∀ (j : Nat) (hj : j < (L.set i x).length), (i = j ∧ (L.set i x)[j] = x) ∨ (i ≠ j ∧ ∃ hj' : j < L.length, (L.set i x)[j] = L[j]) := fun j hj => by
    rw [List.length_set] at hj
    by_cases e : i = j
    · subst e; exact .inl ⟨rfl, by simp⟩
    · exact .inr ⟨e, hj, by rw [List.getElem_set_ne e]⟩
  have hsub : ∀ b, MM O (L.set i x) b → MM O L b ∨ (o' b ∧ w.heap.size ≤ b) := by
    rintro b (e | ⟨j, hj, e⟩)
    · exact .inl (.inl e)
    · rcases hget j hj with ⟨rfl, hg⟩ | ⟨_, hj', hg⟩
      · rw [hg] at e
        have e' : x.ox b ∨ x.oy b := by first | exact e | exact e.symm
        rcases e' with e | e
        · rw [hx1] at e
          rcases ho b e with h1 | h1
          · exact .inl (hin b h1)
          · exact .inr ⟨e, h1⟩
        · rw [hx2] at e; exact .inl (.inr ⟨i, hi, .inr e⟩)
      · rw [hg] at e; exact .inl (.inr ⟨j, hj', e⟩)
  have hM1 : ∀ b, MM O (L.set i x) b → MM O L b ∨ w.heap.size ≤ b := fun b e => (hsub b e).imp id (·.2)
  have hM2 : ∀ b, MM O (L.set i x) b → MM O L b ∨ o' b := fun b e => (hsub b e).imp id (·.1)
  have hlt' : ∀ b, o' b → b < w'.heap.size := by
    obtain ⟨_, _, _, _, hq⟩ := hP
    exact hq.lt
  have ix : ∀ b, o' b → MM O (L.set i x) b := fun b e => .inr ⟨i, by simpa using hi, by simp only [List.getElem_set_self]; exact .inl (by rw [hx1]; exact e)⟩
  have iy : ∀ b, L[i].oy b → MM O (L.set i x) b := fun b e => .inr ⟨i, by simpa using hi, by simp only [List.getElem_set_self]; exact .inr (by rw [hx2]; exact e)⟩
  have ij : ∀ (j : Nat) (hj : j < L.length), i ≠ j → ∀ b, (L[j].ox b ∨ L[j].oy b) → MM O (L.set i x) b := fun j hj hne b e => .inr ⟨j, by simpa using hj, by rw [List.getElem_set_ne hne]; exact e⟩
  refine ⟨⟨?_, fun j hj => ?_, fun j hj => ?_, fun j hj b hb => ?_, fun j hj b hb => ?_, fun j k hj hk hne b hb => ?_, fun b hb => ?_, fun b hb => ?_, h.g.kept hK (fun b e => Nat.le_trans h.h6 (hZ b e)), h.h6, Nat.le_trans h.hs hK.size⟩, hK.below0 h.hs hZ⟩
  · obtain ⟨av, nv, tv, uv, kv, hl⟩ := h.lw
    refine ⟨av, nv, tv, uv, kv, ?_⟩
    have e : (L.set i x).map (fun p => (p.bx, p.by_)) = L.map fun p => (p.bx, p.by_) := by
      rw [List.map_set]
      apply List.ext_getElem?
      intro j
      rw [List.getElem?_set]
      split
      · rename_i e; subst e; simp [hi, ← hx]
      · rfl
    rw [e]
    exact hl.kept hK (fun b e => ⟨hin b e, fun e2 => (h.d0 i hi b e2).1 e⟩) hM1 (fun b e => .inl e)
  · rcases hget j hj with ⟨rfl, hg⟩ | ⟨hne, hj', hg⟩
    · rw [hg]
      have e1 : x.bx = L[i].bx := by rw [← hx]
      have e2 : x.sx = st' := by rw [← hx]
      rw [hx1, e1, e2]
      exact ⟨hP.smaller hM2 ix, hI⟩
    · rw [hg]
      refine ⟨(h.px j hj').1.kept hK (fun b e => ⟨hin b e, fun e2 => h.d2 i j hi hj' hne b (.inl e) (.inl e2)⟩) hM1 (fun b e => ij j hj' hne b (.inl e)), (h.px j hj').2⟩
  · rcases hget j hj with ⟨rfl, hg⟩ | ⟨hne, hj', hg⟩
    · rw [hg]
      have e1 : x.by_ = L[i].by_ := by rw [← hx]
      have e2 : x.sy = L[i].sy := by rw [← hx]
      rw [hx2, e1, e2]
      exact ⟨(h.py i hi).1.kept hK (fun b e => ⟨hin b e, fun e2 => h.d1 i hi b e e2⟩) hM1 iy, (h.py i hi).2⟩
    · rw [hg]
      refine ⟨(h.py j hj').1.kept hK (fun b e => ⟨hin b e, fun e2 => h.d2 i j hi hj' hne b (.inl e) (.inr e2)⟩) hM1 (fun b e => ij j hj' hne b (.inr e)), (h.py j hj').2⟩
  · have hbl := h.lt b (.inl hb)
    rcases hget j hj with ⟨rfl, hg⟩ | ⟨hne, hj', hg⟩
    · rw [hg]
      have n1 : ¬ x.ox b := fun e => by
        rw [hx1] at e
        rcases ho b e with h1 | h1
        · exact (h.d0 i hi b hb).1 h1
        · omega
      have n2 : ¬ x.oy b := fun e => by rw [hx2] at e; exact (h.d0 i hi b hb).2 e
      exact ⟨n1, n2⟩
    · rw [hg]; exact h.d0 j hj' b hb
  · rcases hget j hj with ⟨rfl, hg⟩ | ⟨hne, hj', hg⟩
    · rw [hg] at hb ⊢
      rw [hx1] at hb
      rw [hx2]
      rcases ho b hb with h1 | h1
      · exact h.d1 i hi b h1
      · exact fun e => by have := h.lt b (.inr ⟨i, hi, .inr e⟩); omega
    · rw [hg] at hb ⊢; exact h.d1 j hj' b hb
  · rcases hget j hj with ⟨rfl, hg⟩ | ⟨hne1, hj', hg⟩
    · rcases hget k hk with ⟨rfl, hg2⟩ | ⟨hne2, hk', hg2⟩
      · exact absurd rfl hne
      · rw [hg] at hb
        rw [hg2]
        have hb' : x.ox b ∨ x.oy b := by first | exact hb | exact hb.symm
        rcases hb' with hb | hb
        · rw [hx1] at hb
          rcases ho b hb with h1 | h1
          · exact h.d2 i k hi hk' hne2 b (.inl h1)
          · exact fun e => by have := h.lt b (.inr ⟨k, hk', e⟩); omega
        · rw [hx2] at hb
          exact h.d2 i k hi hk' hne2 b (.inr hb)
    · rcases hget k hk with ⟨rfl, hg2⟩ | ⟨hne2, hk', hg2⟩
      · rw [hg] at hb
        rw [hg2]
        intro e
        have e' : x.ox b ∨ x.oy b := by first | exact e | exact e.symm
        rcases e' with e | e
        · rw [hx1] at e
          rcases ho b e with h1 | h1
          · exact h.d2 i j hi hj' hne1 b (.inl h1) hb
          · have := h.lt b (.inr ⟨j, hj', hb⟩); omega
        · rw [hx2] at e
          exact h.d2 i j hi hj' hne1 b (.inr e) hb
      · rw [hg] at hb; rw [hg2]; exact h.d2 j k hj' hk' hne b hb
  · rcases hsub b hb with e | e
    · exact h.lo b e
    · have := h.hs; omega
  · rcases hsub b hb with e | e
    · exact Nat.lt_of_lt_of_le (h.lt b e) hK.size
    · exact hlt' b e.1
theorem LW.stepY {w w' : World} {h0 Wb : Nat} {O : Nat → Prop} {L : List SP} {names : List (Value × List UInt8)} {nums : List (Value × Int)} {last : Nat} (h : LW w h0 Wb O L names nums last) (i : Nat) (hi : i < L.length) {st' : R.St} (hst : Step w w' (MM O L) L[i].oy L[i].by_ st') (hI : Inv st') :
    ∃ o', LW w' h0 Wb O (L.set i { L[i] with oy := o', sy := st' }) names nums last ∧ Below h0 w w' := by
  obtain ⟨o', hP, hK, ho⟩ := hst
  refine ⟨o', ?_⟩
  have hin : ∀ b, L[i].oy b → MM O L b := fun b e => .inr ⟨i, hi, .inr e⟩
  have hZ : ∀ b, L[i].oy b → h0 ≤ b := fun b e => h.lo b (hin b e)
  generalize hx : ({ L[i] with oy := o', sy := st' } : SP) = x
  have hx1 : x.oy = o' := by rw [← hx]
  have hx2 : x.ox = L[i].ox := by rw [← hx]
  have hget : ∀ (j : Nat) (hj : j < (L.set i x).length), (i = j ∧ (L.set i x)[j] = x) ∨ (i ≠ j ∧ ∃ hj' : j < L.length, (L.set i x)[j] = L[j]) := fun j hj => by
    rw [List.length_set] at hj
    by_cases e : i = j
    · subst e; exact .inl ⟨rfl, by simp⟩
    · exact .inr ⟨e, hj, by rw [List.getElem_set_ne e]⟩
  have hsub : ∀ b, MM O (L.set i x) b → MM O L b ∨ (o' b ∧ w.heap.size ≤ b) := by
    rintro b (e | ⟨j, hj, e⟩)
    · exact .inl (.inl e)
    · rcases hget j hj with ⟨rfl, hg⟩ | ⟨_, hj', hg⟩
      · rw [hg] at e
        have e' : x.oy b ∨ x.ox b := by first | exact e | exact e.symm
        rcases e' with e | e
        · rw [hx1] at e
          rcases ho b e with h1 | h1
          · exact .inl (hin b h1)
          · exact .inr ⟨e, h1⟩
        · rw [hx2] at e; exact .inl (.inr ⟨i, hi, .inl e⟩)
      · rw [hg] at e; exact .inl (.inr ⟨j, hj', e⟩)
  have hM1 : ∀ b, MM O (L.set i x) b → MM O L b ∨ w.heap.size ≤ b := fun b e => (hsub b e).imp id (·.2)
  have hM2 : ∀ b, MM O (L.set i x) b → MM O L b ∨ o' b := fun b e => (hsub b e).imp id (·.1)
  have hlt' : ∀ b, o' b → b < w'.heap.size := by
    obtain ⟨_, _, _, _, hq⟩ := hP
    exact hq.lt
  have ix : ∀ b, o' b → MM O (L.set i x) b := fun b e => .inr ⟨i, by simpa using hi, by simp only [List.getElem_set_self]; exact .inr (by rw [hx1]; exact e)⟩
  have iy : ∀ b, L[i].ox b → MM O (L.set i x) b := fun b e => .inr ⟨i, by simpa using hi, by simp only [List.getElem_set_self]; exact .inl (by rw [hx2]; exact e)⟩
  have ij : ∀ (j : Nat) (hj : j < L.length), i ≠ j → ∀ b, (L[j].ox b ∨ L[j].oy b) → MM O (L.set i x) b := fun j hj hne b e => .inr ⟨j, by simpa using hj, by rw [List.getElem_set_ne hne]; exact e⟩
  refine ⟨⟨?_, fun j hj => ?_, fun j hj => ?_, fun j hj b hb => ?_, fun j hj b hb => ?_, fun j k hj hk hne b hb => ?_, fun b hb => ?_, fun b hb => ?_, h.g.kept hK (fun b e => Nat.le_trans h.h6 (hZ b e)), h.h6, Nat.le_trans h.hs hK.size⟩, hK.below0 h.hs hZ⟩
  · obtain ⟨av, nv, tv, uv, kv, hl⟩ := h.lw
    refine ⟨av, nv, tv, uv, kv, ?_⟩
    have e : (L.set i x).map (fun p => (p.bx, p.by_)) = L.map fun p => (p.bx, p.by_) := by
      rw [List.map_set]
      apply List.ext_getElem?
      intro j
      rw [List.getElem?_set]
      split
      · rename_i e; subst e; simp [hi, ← hx]
      · rfl
    rw [e]
    exact hl.kept hK (fun b e => ⟨hin b e, fun e2 => (h.d0 i hi b e2).2 e⟩) hM1 (fun b e => .inl e)
  · rcases hget j hj with ⟨rfl, hg⟩ | ⟨hne, hj', hg⟩
    · rw [hg]
      have e1 : x.bx = L[i].bx := by rw [← hx]
      have e2 : x.sx = L[i].sx := by rw [← hx]
      rw [hx2, e1, e2]
      exact ⟨(h.px i hi).1.kept hK (fun b e => ⟨hin b e, fun e2 => h.d1 i hi b e2 e⟩) hM1 iy, (h.px i hi).2⟩
    · rw [hg]
      refine ⟨(h.px j hj').1.kept hK (fun b e => ⟨hin b e, fun e2 => h.d2 i j hi hj' hne b (.inr e) (.inl e2)⟩) hM1 (fun b e => ij j hj' hne b (.inl e)), (h.px j hj').2⟩
  · rcases hget j hj with ⟨rfl, hg⟩ | ⟨hne, hj', hg⟩
    · rw [hg]
      have e1 : x.by_ = L[i].by_ := by rw [← hx]
      have e2 : x.sy = st' := by rw [← hx]
      rw [hx1, e1, e2]
      exact ⟨hP.smaller hM2 ix, hI⟩
    · rw [hg]
      refine ⟨(h.py j hj').1.kept hK (fun b e => ⟨hin b e, fun e2 => h.d2 i j hi hj' hne b (.inr e) (.inr e2)⟩) hM1 (fun b e => ij j hj' hne b (.inr e)), (h.py j hj').2⟩
  · have hbl := h.lt b (.inl hb)
    rcases hget j hj with ⟨rfl, hg⟩ | ⟨hne, hj', hg⟩
    · rw [hg]
      have n1 : ¬ x.oy b := fun e => by
        rw [hx1] at e
        rcases ho b e with h1 | h1
        · exact (h.d0 i hi b hb).2 h1
        · omega
      have n2 : ¬ x.ox b := fun e => by rw [hx2] at e; exact (h.d0 i hi b hb).1 e
      exact ⟨n2, n1⟩
    · rw [hg]; exact h.d0 j hj' b hb
  · rcases hget j hj with ⟨rfl, hg⟩ | ⟨hne, hj', hg⟩
    · rw [hg] at hb ⊢
      rw [hx2] at hb
      rw [hx1]
      intro e
      rcases ho b e with h1 | h1
      · exact h.d1 i hi b hb h1
      · have := h.lt b (.inr ⟨i, hi, .inl hb⟩); omega
    · rw [hg] at hb ⊢; exact h.d1 j hj' b hb
  · rcases hget j hj with ⟨rfl, hg⟩ | ⟨hne1, hj', hg⟩
    · rcases hget k hk with ⟨rfl, hg2⟩ | ⟨hne2, hk', hg2⟩
      · exact absurd rfl hne
      · rw [hg] at hb
        rw [hg2]
        have hb' : x.oy b ∨ x.ox b := by first | exact hb | exact hb.symm
        rcases hb' with hb | hb
        · rw [hx1] at hb
          rcases ho b hb with h1 | h1
          · exact h.d2 i k hi hk' hne2 b (.inr h1)
          · exact fun e => by have := h.lt b (.inr ⟨k, hk', e⟩); omega
        · rw [hx2] at hb
          exact h.d2 i k hi hk' hne2 b (.inl hb)
    · rcases hget k hk with ⟨rfl, hg2⟩ | ⟨hne2, hk', hg2⟩
      · rw [hg] at hb
        rw [hg2]
        intro e
        have e' : x.oy b ∨ x.ox b := by first | exact e | exact e.symm
        rcases e' with e | e
        · rw [hx1] at e
          rcases ho b e with h1 | h1
          · exact h.d2 i j hi hj' hne1 b (.inr h1) hb
          · have := h.lt b (.inr ⟨j, hj', hb⟩); omega
        · rw [hx2] at e
          exact h.d2 i j hi hj' hne1 b (.inl e) hb
      · rw [hg] at hb; rw [hg2]; exact h.d2 j k hj' hk' hne b hb
  · rcases hsub b hb with e | e
    · exact h.lo b e
    · have := h.hs; omega
  · rcases hsub b hb with e | e
    · exact Nat.lt_of_lt_of_le (h.lt b e) hK.size
    · exact hlt' b e.1

end Go.Proofs.YtolgebdmffcemaaGreatDoor
namespace Go.Proofs.YtolgebdmffcemaaGreatDoor
open Go.RowKit
theorem LWx.smaller {w : World} {M M' O : Nat → Prop} {Wb : Nat} {av : Value} {ps : List (Nat × Nat)} {nv tv uv kv : Value} {names : List (Value × List UInt8)} {nums : List (Value × Int)} {last : Nat} (h : LWx w M O Wb av ps nv tv uv kv names nums last) (hM : ∀ b, M' b → M b) (hO : ∀ b, O b → M' b) : LWx w M' O Wb av ps nv tv uv kv names nums last :=
  h.kept (Kept.refl (fun _ => False) w) (fun _ e => e.elim) (fun b e => .inl (hM b e)) hO
theorem LW.below {w w' : World} {h0 Wb : Nat} {O : Nat → Prop} {L : List SP} {names : List (Value × List UInt8)} {nums : List (Value × Int)} {last : Nat} (h : LW w h0 Wb O L names nums last) (hb : Below w.heap.size w w') : LW w' h0 Wb O L names nums last := by
  have hK : Kept (fun _ => False) w w' := Kept.of_below hb
  refine ⟨?_, fun j hj => ⟨(h.px j hj).1.below hb, (h.px j hj).2⟩, fun j hj => ⟨(h.py j hj).1.below hb, (h.py j hj).2⟩, h.d0, h.d1, h.d2, h.lo, fun b e => Nat.lt_of_lt_of_le (h.lt b e) hb.size, h.g.below hb, h.h6, Nat.le_trans h.hs hb.size⟩
  obtain ⟨av, nv, tv, uv, kv, hl⟩ := h.lw
  exact ⟨av, nv, tv, uv, kv, hl.kept hK (fun _ e => e.elim) (fun b e => .inl e) hl.sub⟩
/-- the statement's own part is another -/
theorem LW.mine {w w' : World} {h0 Wb : Nat} {O O' : Nat → Prop} {L : List SP} {names names' : List (Value × List UInt8)} {nums nums' : List (Value × Int)} {last last' : Nat} (h : LW w h0 Wb O L names nums last) (hK : Kept O w w') (hO : ∀ b, O' b → O b ∨ w.heap.size ≤ b)
    (hl : ∃ av nv tv uv kv, LWx w' (fun b => MM O L b ∨ O' b) O' Wb av (L.map fun p => (p.bx, p.by_)) nv tv uv kv names' nums' last') : LW w' h0 Wb O' L names' nums' last' ∧ Below h0 w w' := by
  obtain ⟨av, nv, tv, uv, kv, hl⟩ := hl
  have hsub : ∀ b, MM O' L b → MM O L b ∨ O' b := by
    rintro b (e | e)
    · exact .inr e
    · exact .inl (.inr e)
  have hM1 : ∀ b, MM O' L b → MM O L b ∨ w.heap.size ≤ b := fun b e => by
    rcases e with e | e
    · rcases hO b e with e | e
      · exact .inl (.inl e)
      · exact .inr e
    · exact .inl (.inr e)
  have hZ : ∀ b, O b → h0 ≤ b := fun b e => h.lo b (.inl e)
  refine ⟨⟨⟨av, nv, tv, uv, kv, hl.smaller hsub (fun b e => .inl e)⟩, fun j hj => ⟨(h.px j hj).1.kept hK (fun b e => ⟨.inl e, (h.d0 j hj b e).1⟩) hM1 (fun b e => .inr ⟨j, hj, .inl e⟩), (h.px j hj).2⟩, fun j hj => ⟨(h.py j hj).1.kept hK (fun b e => ⟨.inl e, (h.d0 j hj b e).2⟩) hM1 (fun b e => .inr ⟨j, hj, .inr e⟩), (h.py j hj).2⟩, fun j hj b hb => ?_, h.d1, h.d2, fun b hb => ?_, fun b hb => ?_, h.g.kept hK (fun b e => Nat.le_trans h.h6 (hZ b e)), h.h6, Nat.le_trans h.hs hK.size⟩, hK.below0 h.hs hZ⟩
  · rcases hO b hb with e | e
    · exact h.d0 j hj b e
    · exact ⟨fun e2 => by have := h.lt b (.inr ⟨j, hj, .inl e2⟩); omega, fun e2 => by have := h.lt b (.inr ⟨j, hj, .inr e2⟩); omega⟩
  · rcases hM1 b hb with e | e
    · exact h.lo b e
    · have := h.hs; omega
  · rcases hsub b hb with e | e
    · exact Nat.lt_of_lt_of_le (h.lt b e) hK.size
    · exact hl.lt b e
def noSt : R.St := { cms := [], brs := [], packed := [] }
theorem Inv.no : Inv noSt := ⟨by simp [noSt], by simp [noSt], by simp [noSt, SortK], by simp [noSt], by simp [noSt], by simp [noSt], by simp [noSt], by simp [noSt]⟩
theorem PS_no {w : World} {M : Nat → Prop} {B : Nat} (hb : w.heap[B]? = some (.cells #[.slice none 0 0, .slice none 0 0, .slice none 0 0] 102 (0, 0))) (hM : M B) : PS w M (fun b => b = B) B noSt := by
  have hl : B < w.heap.size := (Array.getElem?_eq_some_iff.1 hb).1
  refine ⟨.slice none 0 0, .slice none 0 0, [], [], fun b e => e ▸ hM, fun b e => e ▸ hl, rfl, by simp [World.cell?, hb], by simp [World.cell?, hb], fun o => by simp [World.frozen?, hb], rfl, World.ownsRow_nil _ _ _ _, fun g e => by simp [Value.ownBlock] at e, by simp, by simp, by simp, rfl, World.ownsRow_nil _ _ _ _, fun g e => by simp [Value.ownBlock] at e, by simp, by simp, .slice none 0 0, by simp [World.cell?, hb], World.ownsRow_nil _ _ _ _, fun g e => by simp [Value.ownBlock] at e⟩
theorem RS_no {w : World} {M : Nat → Prop} {B : Nat} {C : Array Value} (hC : C[0]? = some (.slice none 0 0) ∧ C[1]? = some (.slice none 0 0) ∧ C[2]? = some (.string ⟨#[]⟩)) (hb : w.heap[B]? = some (.cells C 82 (0, 0))) (hM : M B) : RS w M (fun b => b = B) B noSt := by
  have hl : B < w.heap.size := (Array.getElem?_eq_some_iff.1 hb).1
  refine ⟨.slice none 0 0, .slice none 0 0, [], [], fun b e => e ▸ hM, fun b e => e ▸ hl, rfl, by simp [World.cell?, hb, hC.1], by simp [World.cell?, hb, hC.2.1], by simp [World.cell?, hb, noSt, hC.2.2], fun o => by simp [World.frozen?, hb], rfl, World.ownsRow_nil _ _ _ _, fun g e => by simp [Value.ownBlock] at e, by simp, rfl, World.ownsRow_nil _ _ _ _, fun g e => by simp [Value.ownBlock] at e, by simp, by simp⟩
/-- a pair more, whose stores are new -/
theorem LW.pair {w w' : World} {h0 Wb : Nat} {O O' : Nat → Prop} {L : List SP} {names : List (Value × List UInt8)} {nums : List (Value × Int)} {last : Nat} (h : LW w h0 Wb O L names nums last) (hK : Kept O w w') (hO : ∀ b, O' b → O b ∨ w.heap.size ≤ b) {bx by_ : Nat} (h1 : w.heap.size ≤ bx) (h2 : w.heap.size ≤ by_) (h3 : bx ≠ by_) (h4 : ¬ O' bx) (h5 : ¬ O' by_)
    (hx : w'.heap[bx]? = some (.cells #[.slice none 0 0, .slice none 0 0, .slice none 0 0] 102 (0, 0))) {C : Array Value} (hC : C[0]? = some (.slice none 0 0) ∧ C[1]? = some (.slice none 0 0) ∧ C[2]? = some (.string ⟨#[]⟩)) (hy : w'.heap[by_]? = some (.cells C 82 (0, 0)))
    (hl : ∃ av nv tv uv kv, LWx w' (fun b => MM O L b ∨ O' b ∨ b = bx ∨ b = by_) O' Wb av ((L.map fun p => (p.bx, p.by_)) ++ [(bx, by_)]) nv tv uv kv names nums last) :
    LW w' h0 Wb O' (L ++ [⟨bx, by_, fun b => b = bx, fun b => b = by_, noSt, noSt⟩]) names nums last ∧ Below h0 w w' := by
  obtain ⟨av, nv, tv, uv, kv, hl⟩ := hl
  generalize hq : (⟨bx, by_, fun b => b = bx, fun b => b = by_, noSt, noSt⟩ : SP) = q
  have q1 : q.bx = bx := by rw [← hq]
  have q2 : q.by_ = by_ := by rw [← hq]
  have q3 : ∀ b, q.ox b ↔ b = bx := by rw [← hq]; intro b; exact Iff.rfl
  have q4 : ∀ b, q.oy b ↔ b = by_ := by rw [← hq]; intro b; exact Iff.rfl
  have hlen : L.length < (L ++ [q]).length := by simp
  have hlast : (L ++ [q])[L.length]'hlen = q := by simp
  have hget : ∀ (j : Nat) (hj : j < (L ++ [q]).length), (j = L.length ∧ (L ++ [q])[j] = q) ∨ (∃ hj' : j < L.length, (L ++ [q])[j] = L[j]) := fun j hj => by
    by_cases e : j < L.length
    · exact .inr ⟨e, List.getElem_append_left e⟩
    · have : j = L.length := by simp at hj; omega
      subst this; exact .inl ⟨rfl, hlast⟩
  have hsub : ∀ b, MM O' (L ++ [q]) b → MM O L b ∨ O' b ∨ b = bx ∨ b = by_ := by
    rintro b (e | ⟨j, hj, e⟩)
    · exact .inr (.inl e)
    · rcases hget j hj with ⟨_, hg⟩ | ⟨hj', hg⟩
      · rw [hg] at e
        rcases e with e | e
        · exact .inr (.inr (.inl ((q3 b).1 e)))
        · exact .inr (.inr (.inr ((q4 b).1 e)))
      · rw [hg] at e; exact .inl (.inr ⟨j, hj', e⟩)
  have hM1 : ∀ b, MM O' (L ++ [q]) b → MM O L b ∨ w.heap.size ≤ b := fun b e => by
    rcases hsub b e with e | e | e | e
    · exact .inl e
    · rcases hO b e with e | e
      · exact .inl (.inl e)
      · exact .inr e
    · exact .inr (by omega)
    · exact .inr (by omega)
  have hZ : ∀ b, O b → h0 ≤ b := fun b e => h.lo b (.inl e)
  have im : ∀ (j : Nat) (hj : j < L.length) b, (L[j].ox b ∨ L[j].oy b) → MM O' (L ++ [q]) b := fun j hj b e => .inr ⟨j, by simp; omega, by rw [List.getElem_append_left hj]; exact e⟩
  have iq : ∀ b, (q.ox b ∨ q.oy b) → MM O' (L ++ [q]) b := fun b e => .inr ⟨L.length, hlen, by rw [hlast]; exact e⟩
  have hxl : bx < w'.heap.size := (Array.getElem?_eq_some_iff.1 hx).1
  have hyl : by_ < w'.heap.size := (Array.getElem?_eq_some_iff.1 hy).1
  refine ⟨⟨⟨av, nv, tv, uv, kv, ?_⟩, fun j hj => ?_, fun j hj => ?_, fun j hj b hb => ?_, fun j hj b hb => ?_, fun i j hi hj hne b hb => ?_, fun b hb => ?_, fun b hb => ?_, h.g.kept hK (fun b e => Nat.le_trans h.h6 (hZ b e)), h.h6, Nat.le_trans h.hs hK.size⟩, hK.below0 h.hs hZ⟩
  · rw [List.map_append, List.map_cons, List.map_nil, q1, q2]
    exact hl.smaller hsub (fun b e => .inl e)
  · rcases hget j hj with ⟨_, hg⟩ | ⟨hj', hg⟩
    · rw [hg, ← hq]; exact ⟨PS_no hx (iq _ (.inl ((q3 _).2 rfl)) |> fun e => by rw [hq]; exact e), Inv.no⟩
    · rw [hg]; exact ⟨(h.px j hj').1.kept hK (fun b e => ⟨.inl e, (h.d0 j hj' b e).1⟩) hM1 (fun b e => im j hj' b (.inl e)), (h.px j hj').2⟩
  · rcases hget j hj with ⟨_, hg⟩ | ⟨hj', hg⟩
    · rw [hg, ← hq]; exact ⟨RS_no hC hy (iq _ (.inr ((q4 _).2 rfl)) |> fun e => by rw [hq]; exact e), Inv.no⟩
    · rw [hg]; exact ⟨(h.py j hj').1.kept hK (fun b e => ⟨.inl e, (h.d0 j hj' b e).2⟩) hM1 (fun b e => im j hj' b (.inr e)), (h.py j hj').2⟩
  · rcases hget j hj with ⟨_, hg⟩ | ⟨hj', hg⟩
    · rw [hg]; exact ⟨fun e => h4 (by rw [← (q3 b).1 e]; exact hb), fun e => h5 (by rw [← (q4 b).1 e]; exact hb)⟩
    · rw [hg]
      rcases hO b hb with e | e
      · exact h.d0 j hj' b e
      · exact ⟨fun e2 => by have := h.lt b (.inr ⟨j, hj', .inl e2⟩); omega, fun e2 => by have := h.lt b (.inr ⟨j, hj', .inr e2⟩); omega⟩
  · rcases hget j hj with ⟨_, hg⟩ | ⟨hj', hg⟩
    · rw [hg] at hb ⊢; exact fun e => h3 (by rw [← (q3 b).1 hb, ← (q4 b).1 e])
    · rw [hg] at hb ⊢; exact h.d1 j hj' b hb
  · have hnew : ∀ b, (q.ox b ∨ q.oy b) → w.heap.size ≤ b := fun b e => by
      rcases e with e | e
      · have := (q3 b).1 e; omega
      · have := (q4 b).1 e; omega
    rcases hget i hi with ⟨e1, hg⟩ | ⟨hi', hg⟩
    · rcases hget j hj with ⟨e2, hg2⟩ | ⟨hj', hg2⟩
      · exact absurd (e1.trans e2.symm) hne
      · rw [hg] at hb; rw [hg2]
        exact fun e => by have := h.lt b (.inr ⟨j, hj', e⟩); have := hnew b hb; omega
    · rcases hget j hj with ⟨e2, hg2⟩ | ⟨hj', hg2⟩
      · rw [hg] at hb; rw [hg2]
        exact fun e => by have := h.lt b (.inr ⟨i, hi', hb⟩); have := hnew b e; omega
      · rw [hg] at hb; rw [hg2]; exact h.d2 i j hi' hj' hne b hb
  · rcases hM1 b hb with e | e
    · exact h.lo b e
    · have := h.hs; omega
  · rcases hsub b hb with e | e | e | e
    · exact Nat.lt_of_lt_of_le (h.lt b e) hK.size
    · exact hl.lt b e
    · omega
    · omega
theorem LW.X {W w' : World} {h0 Wb : Nat} {O : Nat → Prop} {L : List SP} {names : List (Value × List UInt8)} {nums : List (Value × Int)} {last : Nat} (h : LW W h0 Wb O L names nums last) (i : Nat) (hi : i < L.length) {st' : R.St} (hst : PStep W w' (MM O L) L[i].ox L[i].bx st') (hI : Inv st') :
    ∃ L1, L1.length = L.length ∧ LW w' h0 Wb O L1 names nums last ∧ (∃ h1 : i < L1.length, L1[i].bx = L[i].bx ∧ L1[i].by_ = L[i].by_ ∧ L1[i].sx = st' ∧ L1[i].sy = L[i].sy ∧ L1[i].oy = L[i].oy) ∧ (∀ (j : Nat) (hj : j < L.length) (hj1 : j < L1.length), j ≠ i → L1[j] = L[j]) ∧ Below h0 W w' ∧ Kept L[i].ox W w' := by
  have hk : Kept L[i].ox W w' := by obtain ⟨_, _, hk, _⟩ := hst; exact hk
  obtain ⟨o', hl, hb⟩ := h.stepX i hi hst hI
  refine ⟨_, by rw [List.length_set], hl, ⟨by simpa using hi, by simp, by simp, by simp, by simp, by simp⟩, fun j hj hj1 hne => ?_, hb, hk⟩
  rw [List.getElem_set_ne (fun e => hne e.symm)]
theorem LW.Y {W w' : World} {h0 Wb : Nat} {O : Nat → Prop} {L : List SP} {names : List (Value × List UInt8)} {nums : List (Value × Int)} {last : Nat} (h : LW W h0 Wb O L names nums last) (i : Nat) (hi : i < L.length) {st' : R.St} (hst : Step W w' (MM O L) L[i].oy L[i].by_ st') (hI : Inv st') :
    ∃ L1, L1.length = L.length ∧ LW w' h0 Wb O L1 names nums last ∧ (∃ h1 : i < L1.length, L1[i].bx = L[i].bx ∧ L1[i].by_ = L[i].by_ ∧ L1[i].sy = st' ∧ L1[i].sx = L[i].sx ∧ L1[i].ox = L[i].ox) ∧ (∀ (j : Nat) (hj : j < L.length) (hj1 : j < L1.length), j ≠ i → L1[j] = L[j]) ∧ Below h0 W w' ∧ Kept L[i].oy W w' := by
  have hk : Kept L[i].oy W w' := by obtain ⟨_, _, hk, _⟩ := hst; exact hk
  obtain ⟨o', hl, hb⟩ := h.stepY i hi hst hI
  refine ⟨_, by rw [List.length_set], hl, ⟨by simpa using hi, by simp, by simp, by simp, by simp, by simp⟩, fun j hj hj1 hne => ?_, hb, hk⟩
  rw [List.getElem_set_ne (fun e => hne e.symm)]
/-- a box that is newer than the stores stands -/
theorem box_keeps {w W w' : World} {h0 Wb : Nat} {O : Nat → Prop} {L : List SP} {names : List (Value × List UInt8)} {nums : List (Value × Int)} {last : Nat} (h : LW w h0 Wb O L names nums last) (_hb : Below w.heap.size w W) {Z : Nat → Prop} (hZ : ∀ b, Z b → MM O L b) (hk : Kept Z W w') {k : Nat} (hk1 : w.heap.size ≤ k) (hk2 : k < W.heap.size) (o : Nat) : w'.cell? ⟨k, o, none⟩ = W.cell? ⟨k, o, none⟩ :=
  hk.cell (p := ⟨k, o, none⟩) hk2 (fun e => by have := h.lt k (hZ k e); omega)
end Go.Proofs.YtolgebdmffcemaaGreatDoor
