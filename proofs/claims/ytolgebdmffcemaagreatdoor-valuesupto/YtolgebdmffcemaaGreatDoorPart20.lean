/-
  What the program makes of a bag (value.withItem, withoutItem): one item more, or less.
  What the program makes of a bag (value.withoutItem): one item less.
  The program's changes to a tree (tree.put): as the document's answer has it.
-/
import Derived.Test.YtolgebdmffcemaaGreatDoorPart09
import Derived.Test.YtolgebdmffcemaaGreatDoorPart07
import Derived.Test.YtolgebdmffcemaaGreatDoorPart19
import Derived.Deep.RegionHeld3
import Derived.Test.YtolgebdmffcemaaGreatDoorPart18
set_option linter.unusedVariables false
namespace Go.Proofs.YtolgebdmffcemaaGreatDoor
open Go.RowKit
theorem s_CloneS (v : Value) (l : List (List UInt8)) (w : World) (M : Nat → Prop) (h : Rd w M v l.length (l.map S)) (hl : l.length ≤ 1000000) :
    Calls Tryz.prog 150 #[v] w fun e w' => ∃ v', e = .returned v' ∧ w'.ownsRow w.heap.size 9 1 v' l.length (l.map S) ∧ Below w.heap.size w w' := by
  obtain ⟨a, cap, rfl, hn, hm, hc⟩ := h
  rcases Nat.eq_zero_or_pos l.length with h0 | h0
  · have hl0 : l = [] := List.eq_nil_of_length_eq_zero h0
    subst hl0
    cases a with
    | none =>
      refine (Tryz.slices_Clone_string_nil _ _ w).mono ?_
      rintro e w' ⟨rfl, rfl⟩
      exact ⟨_, rfl, World.ownsRow_nil _ _ _ _, Below.refl _ _⟩
    | some ad =>
      refine (Tryz.slices_Clone_string_zero ad cap w).mono ?_
      rintro e w' ⟨v', rfl, ho, _, hb⟩
      exact ⟨v', rfl, ho, hb⟩
  · obtain ⟨b, off, rfl, hb, _, hcell⟩ := hc h0
    have hC := Tryz.slices_Clone_string b off l.length cap (l.map fun x => (⟨x.toArray⟩ : ByteArray)) w (by simp) (by omega) (fun j hj => by
      rw [List.length_map] at hj
      rw [hcell j (S l[j]) (by rw [List.getElem?_map, List.getElem?_eq_getElem hj]; rfl)]
      simp [S, hj])
    refine hC.mono ?_
    rintro e w' ⟨v', rfl, ho, _, hb⟩
    refine ⟨v', rfl, ?_, hb⟩
    rw [List.take_of_length_le (by simp), List.map_map] at ho
    exact ho
def bagOf (x : R.Leaf) (l : List (List UInt8)) : R.Leaf := { path := x.path, kind := 42, n := 0, text := [], items := l }
theorem S_one (l : List (List UInt8)) : ∀ u ∈ l.map S, u.oneCell' = true := by
  intro u hu
  obtain ⟨y, _, rfl⟩ := List.mem_map.1 hu
  rfl
set_option maxHeartbeats 1600000 in
set_option maxRecDepth 1000000 in
theorem g_withItem (x : R.Leaf) (iv : Value) (s : List UInt8) (w : World) (M : Nat → Prop) (hM : ∀ b, M b → b < w.heap.size) (h : It w M (x, iv)) (hk : x = R.none x.path ∨ (OkL x ∧ x.kind = 42)) :
    Calls Tryz.prog 99 #[.agg #[.int .i64 (pk x), .int .i64 x.n, .string ⟨x.text.toArray⟩, iv], .string ⟨s.toArray⟩] w fun e w' => ∃ ia ic, e = .returned (.agg #[.int .i64 3, .int .i64 0, .string ⟨#[]⟩, .slice ia (R.item x.items s).length ic]) ∧ It w' M (bagOf x (R.item x.items s), .slice ia (R.item x.items s).length ic) ∧ Below w.heap.size w w' := by
  have hl : x.items.length ≤ 8 := by
    rcases hk with hk | ⟨hk, _⟩
    · rw [hk]; simp [R.none]
    · exact hk.many
  have hsort : SortedI x.items := by
    rcases hk with hk | ⟨hk, _⟩
    · rw [hk]; intro i j hi; simp [R.none] at hi
    · exact hk.sort
  obtain ⟨ia, ic, hiv, h1, h2, h3⟩ := h
  dsimp only at hiv h1 h2 h3
  subst hiv
  have hit : It w M (x, .slice ia x.items.length ic) := ⟨ia, ic, rfl, h1, h2, h3⟩
  have hbs := fun W (hW : Below w.heap.size w W) => s_BinarySearch (.slice ia x.items.length ic) x.items s W M (Rd.below hit hW) (by omega) hsort (hsort.mono s)
  have hcl := fun W (hW : Below w.heap.size w W) => s_CloneS (.slice ia x.items.length ic) x.items W M (Rd.below hit hW) (by omega)
  cases hany : (x.items.any fun y => y == s)
  · have HI : Hid (R.item x.items s = x.items.take (posS x.items s) ++ s :: x.items.drop (posS x.items s)) := item_miss hsort s hany
    have hpl : posS x.items s ≤ x.items.length := List.findIdx_le_length
    rw [hany] at hbs
    clear h1 h2 h3 hsort hk
    generalize posS x.items s = p at *
    go_enter Tryz.func99, Tryz.ntmps99
    go_wp2_with fail
    refine (hbs _ (((Below.refl _ _).alloc (Nat.le_refl _) _).alloc (by simp) _)).mono ?_
    rintro e w1 ⟨rfl, hw1⟩
    subst hw1
    go_wp2_with fail
    refine (hcl _ (((Below.refl _ _).alloc (Nat.le_refl _) _).alloc (by simp) _)).mono ?_
    rintro e w2 ⟨v2, rfl, ho, hb2⟩
    have hs2 : w.heap.size + 2 ≤ w2.heap.size := by have := hb2.size; simpa using this
    have x0 : w2.cell? ⟨w.heap.size + 1, 0, none⟩ = some (.int .i64 0) := by rw [hb2.cell (p := ⟨w.heap.size + 1, 0, none⟩) (by simp)]; simp
    have x1 : w2.cell? ⟨w.heap.size + 1, 1, none⟩ = some (.int .i64 0) := by rw [hb2.cell (p := ⟨w.heap.size + 1, 1, none⟩) (by simp)]; simp
    have x2 : w2.cell? ⟨w.heap.size + 1, 2, none⟩ = some (.string ⟨#[]⟩) := by rw [hb2.cell (p := ⟨w.heap.size + 1, 2, none⟩) (by simp)]; simp
    have x3 : w2.cell? ⟨w.heap.size + 1, 3, none⟩ = some (.slice none 0 0) := by rw [hb2.cell (p := ⟨w.heap.size + 1, 3, none⟩) (by simp)]; simp
    have fz : ∀ j, w2.frozen? ⟨w.heap.size + 1, j, none⟩ = false := fun j => by rw [hb2.frozen (p := ⟨w.heap.size + 1, j, none⟩) (by simp)]; simp
    have HB2 : Hid (Below w.heap.size w w2) := (((Below.refl _ _).alloc (Nat.le_refl _) _).alloc (by simp) _).trans (hb2.mono (by simp; omega))
    have ho' : w2.ownsRow (w.heap.size + 2) 9 1 v2 x.items.length (x.items.map S) := by simpa using ho
    have HIns := fun W (hW : Below w2.heap.size w2 W) vb (hvb : W.heap[vb]? = some (.cells #[.string ⟨s.toArray⟩] 9 (0, 0))) (hne : v2.ownBlock ≠ some vb) => s_InsS v2 x.items.length p vb (w.heap.size + 2) (x.items.map S) #[.string ⟨s.toArray⟩] W (ownsRow_below ho' hW) (by have := hW.size; omega) hpl (by omega) hvb rfl hne (S_one _) (by intro u hu; simp at hu; subst hu; rfl)
    have HOL : Hid (∀ g, v2.ownBlock = some g → w.heap.size + 2 ≤ g ∧ g < w2.heap.size) := ho'.lt
    clear hb2 ho ho' hit hcl hbs
    go_wp2_with fail
    refine (HIns _ ((Below.refl _ _).alloc (Nat.le_refl _) _) w2.heap.size (heap_alloc_new w2 _) (fun e => by have := HOL.out _ e; omega)).mono ?_
    rintro e w3 ⟨v3, rfl, ho3, hg3, _⟩
    have hs3 : w2.heap.size + 1 ≤ w3.heap.size := by have := hg3.size; simpa using this
    have hbk : w3.heap[w.heap.size + 1]? = w2.heap[w.heap.size + 1]? := by
      rw [hg3.block _ (by simp; omega) (fun e => by have := HOL.out _ e.symm; omega)]
      exact heap_alloc_old w2 _ (by omega)
    have y0 := (World.cell?_of_block (a := ⟨w.heap.size + 1, 0, none⟩) hbk).trans x0
    have y1 := (World.cell?_of_block (a := ⟨w.heap.size + 1, 1, none⟩) hbk).trans x1
    have y2 := (World.cell?_of_block (a := ⟨w.heap.size + 1, 2, none⟩) hbk).trans x2
    have y3 := (World.cell?_of_block (a := ⟨w.heap.size + 1, 3, none⟩) hbk).trans x3
    have f0 := (World.frozen?_of_block (a := ⟨w.heap.size + 1, 0, none⟩) hbk).trans (fz 0)
    have f1 := (World.frozen?_of_block (a := ⟨w.heap.size + 1, 1, none⟩) hbk).trans (fz 1)
    have f2 := (World.frozen?_of_block (a := ⟨w.heap.size + 1, 2, none⟩) hbk).trans (fz 2)
    have f3 := (World.frozen?_of_block (a := ⟨w.heap.size + 1, 3, none⟩) hbk).trans (fz 3)
    have HB3 : Hid (Below w.heap.size w w3) := (HB2.out.alloc (by omega) _).grown hg3 (by simp; omega) (fun k hk => by have := HOL.out k hk; omega)
    have hlen : (R.item x.items s).length = x.items.length + 1 := by
      rw [HI.out]; simp only [List.length_append, List.length_take, List.length_cons, List.length_drop]; omega
    have HO3 : Hid (w3.ownsRow (w.heap.size + 2) 9 1 v3 (R.item x.items s).length ((R.item x.items s).map S)) := by
      show w3.ownsRow _ _ _ _ _ _
      rw [hlen, HI.out]
      simpa [S, List.map_take, List.map_drop] using ho3
    have hne3 : v3.ownBlock ≠ some (w.heap.size + 1) := fun e => by have := (ho3.lt _ e).1; omega
    obtain ⟨a3, c3, hv3, _, _, _, _⟩ := owns_form HO3.out
    have HV3 := hide3 hv3
    subst hv3
    clear hbk x0 x1 x2 x3 fz hg3 ho3 HIns hlen hany HB2 HOL
    go_wp2
    obtain ⟨z0, z1, z2, z3⟩ := four_set w3 (w.heap.size + 1) (.int .i64 3) (.int .i64 0) (.string ⟨#[]⟩) (.slice a3 (R.item x.items s).length c3) _ _ _ _ y0 y1 y2 y3
    have hK : Kept (fun k => k = w.heap.size + 1) w3 ((((w3.setCell ⟨w.heap.size + 1, 0, none⟩ (.int .i64 3)).setCell ⟨w.heap.size + 1, 1, none⟩ (.int .i64 0)).setCell ⟨w.heap.size + 1, 2, none⟩ (.string ⟨#[]⟩)).setCell ⟨w.heap.size + 1, 3, none⟩ (.slice a3 (R.item x.items s).length c3)) :=
      ((((Kept.refl (fun k => k = w.heap.size + 1) w3).setCell (p := ⟨w.heap.size + 1, 0, none⟩) (.inl rfl) _).setCell (p := ⟨w.heap.size + 1, 1, none⟩) (.inl rfl) _).setCell (p := ⟨w.heap.size + 1, 2, none⟩) (.inl rfl) _).setCell (p := ⟨w.heap.size + 1, 3, none⟩) (.inl rfl) _
    have hB4 : Below w.heap.size w ((((w3.setCell ⟨w.heap.size + 1, 0, none⟩ (.int .i64 3)).setCell ⟨w.heap.size + 1, 1, none⟩ (.int .i64 0)).setCell ⟨w.heap.size + 1, 2, none⟩ (.string ⟨#[]⟩)).setCell ⟨w.heap.size + 1, 3, none⟩ (.slice a3 (R.item x.items s).length c3)) :=
      (((HB3.out.setCell (p := ⟨w.heap.size + 1, 0, none⟩) (Nat.le_succ _) _).setCell (p := ⟨w.heap.size + 1, 1, none⟩) (Nat.le_succ _) _).setCell (p := ⟨w.heap.size + 1, 2, none⟩) (Nat.le_succ _) _).setCell (p := ⟨w.heap.size + 1, 3, none⟩) (Nat.le_succ _) _
    generalize ((((w3.setCell ⟨w.heap.size + 1, 0, none⟩ (.int .i64 3)).setCell ⟨w.heap.size + 1, 1, none⟩ (.int .i64 0)).setCell ⟨w.heap.size + 1, 2, none⟩ (.string ⟨#[]⟩)).setCell ⟨w.heap.size + 1, 3, none⟩ (.slice a3 (R.item x.items s).length c3)) = w9 at *
    have hrow := ownsRow_kept HO3.out hK (fun g e e2 => hne3 (by rw [e, e2]))
    exact bodyPost_ret (v := .agg #[.int .i64 3, .int .i64 0, .string ⟨#[]⟩, .slice a3 (R.item x.items s).length c3]) (by simp [results, Tryz.results99, go_sem, z0, z1, z2, z3]) rfl ⟨a3, c3, rfl, Rd.of_owns hrow (fun b hb => by have := hM b hb; omega), hB4⟩
  · have hko : OkL x ∧ x.kind = 42 := by
      rcases hk with hk | hk
      · rw [hk] at hany; simp [R.none] at hany
      · exact hk
    have hx : x = bagOf x x.items := by
      rcases hko.1.kind with h | h | h
      · rw [hko.2] at h; simp at h
      · rw [hko.2] at h; simp at h
      · cases x; simp only [bagOf] at h ⊢; simp only [R.Leaf.mk.injEq]; exact ⟨trivial, h.1, h.2.1, h.2.2.1, trivial⟩
    have hp3 : pk x = 3 := by unfold pk; rw [hko.2]; simp
    have hn0 : x.n = 0 := by rw [hx]; rfl
    have ht0 : x.text = [] := by rw [hx]; rfl
    rw [item_hit hsort s hany, hp3, hn0, ht0]
    rw [hx] at hit
    rw [hany] at hbs
    have HIT : Hid (It w M (bagOf x x.items, .slice ia x.items.length ic)) := hit
    clear h1 h2 h3 hsort hk hko hx hp3 hn0 ht0 hit hany hcl
    generalize posS x.items s = p at *
    generalize x.items.length = n at *
    go_enter Tryz.func99, Tryz.ntmps99
    go_wp2_with fail
    refine (hbs _ (((Below.refl _ _).alloc (Nat.le_refl _) _).alloc (by simp) _)).mono ?_
    rintro e w1 ⟨rfl, hw1⟩
    subst hw1
    go_wp2
    have HB : Below w.heap.size w ((w.alloc (Obj.cells #[.int .i64 3, .int .i64 0, .string ⟨#[]⟩, .slice ia n ic] 137)).alloc (Obj.cells #[.int .i64 3, .int .i64 0, .string ⟨#[]⟩, .slice ia n ic] 137)) := ((Below.refl _ _).alloc (Nat.le_refl _) _).alloc (by simp) _
    exact bodyPost_ret (v := .agg #[.int .i64 3, .int .i64 0, .string ⟨#[]⟩, .slice ia n ic]) (by simp [results, Tryz.results99, go_sem]) rfl ⟨ia, ic, rfl, Rd.below HIT.out HB, HB⟩
end Go.Proofs.YtolgebdmffcemaaGreatDoor
namespace Go.Proofs.YtolgebdmffcemaaGreatDoor
open Go.RowKit
/-- the bag without an item; nothing, if it was the last one -/
def lessOf (x : R.Leaf) (s : List UInt8) : R.Leaf := { path := x.path, kind := if R.without x.items s = [] then 0 else 42, n := 0, text := [], items := R.without x.items s }
set_option maxHeartbeats 1600000 in
set_option maxRecDepth 1000000 in
theorem g_withoutItem (x : R.Leaf) (iv : Value) (s : List UInt8) (w : World) (M : Nat → Prop) (hM : ∀ b, M b → b < w.heap.size) (h : It w M (x, iv)) (hko : OkL x) (hany : (x.items.any fun y => y == s) = true) :
    Calls Tryz.prog 102 #[.agg #[.int .i64 (pk x), .int .i64 x.n, .string ⟨x.text.toArray⟩, iv], .string ⟨s.toArray⟩] w fun e w' => ∃ ia ic, e = .returned (.agg #[.int .i64 (pk (lessOf x s)), .int .i64 0, .string ⟨#[]⟩, .slice ia (R.without x.items s).length ic]) ∧ It w' M (lessOf x s, .slice ia (R.without x.items s).length ic) ∧ Below w.heap.size w w' := by
  have hl := hko.many
  have hsort := hko.sort
  obtain ⟨ia, ic, hiv, h1, h2, h3⟩ := h
  dsimp only at hiv h1 h2 h3
  subst hiv
  have hit : It w M (x, .slice ia x.items.length ic) := ⟨ia, ic, rfl, h1, h2, h3⟩
  have hbs := fun W (hW : Below w.heap.size w W) => s_BinarySearch (.slice ia x.items.length ic) x.items s W M (Rd.below hit hW) (by omega) hsort (hsort.mono s)
  have hcl := fun W (hW : Below w.heap.size w W) => s_CloneS (.slice ia x.items.length ic) x.items W M (Rd.below hit hW) (by omega)
  have HI : Hid (R.without x.items s = x.items.take (posS x.items s) ++ x.items.drop (posS x.items s + 1)) := without_hit hsort s hany
  have hpl : posS x.items s < x.items.length := (posK_hit (k := id) hsort.k hany).1
  rw [hany] at hbs
  have hwl : (R.without x.items s).length = x.items.length - 1 := by
    rw [HI.out]; simp only [List.length_append, List.length_take, List.length_drop]; omega
  clear h1 h2 h3 hsort hko hany
  generalize posS x.items s = p at *
  by_cases h1 : x.items.length = 1
  · have hw0 : R.without x.items s = [] := List.eq_nil_of_length_eq_zero (by omega)
    have hpk : pk (lessOf x s) = 0 := by simp [lessOf, hw0, pk]
    have hb1 : ((x.items.length : Int) == 1) = true := by simp [h1]
    have hlz : (R.without x.items s).length = 0 := by omega
    rw [hpk, hlz]
    clear hwl hcl HI
    clear h1
    go_enter Tryz.func102, Tryz.ntmps102
    go_wp2_with fail
    refine (hbs _ (((Below.refl _ _).alloc (Nat.le_refl _) _).alloc (by simp) _)).mono ?_
    rintro e w1 ⟨rfl, hw1⟩
    subst hw1
    go_wp2
    refine bodyPost_ret (v := .agg #[.int .i64 0, .int .i64 0, .string ⟨#[]⟩, .slice none 0 0]) (by simp [results, Tryz.results102, go_sem]) rfl ⟨none, 0, rfl, ⟨none, 0, by simp [lessOf, hlz], by simp [lessOf, hlz], by unfold maxLen; omega, fun h => by simp [lessOf, hlz] at h⟩, ?_⟩
    exact ((Below.refl _ _).alloc (Nat.le_refl _) _).alloc (by simp) _
  · have hwn : R.without x.items s ≠ [] := by intro e; rw [e] at hwl; simp at hwl; omega
    have hpk : pk (lessOf x s) = 3 := by simp [lessOf, hwn, pk]
    have hb1 : ((x.items.length : Int) == 1) = false := by rw [Bool.eq_false_iff]; simp; omega
    rw [hpk]
    clear hpk
    go_enter Tryz.func102, Tryz.ntmps102
    go_wp2_with fail
    refine (hbs _ (((Below.refl _ _).alloc (Nat.le_refl _) _).alloc (by simp) _)).mono ?_
    rintro e w1 ⟨rfl, hw1⟩
    subst hw1
    go_wp2_with fail
    refine (hcl _ (((Below.refl _ _).alloc (Nat.le_refl _) _).alloc (by simp) _)).mono ?_
    rintro e w2 ⟨v2, rfl, ho, hb2⟩
    have hs2 : w.heap.size + 2 ≤ w2.heap.size := by have := hb2.size; simpa using this
    have x0 : w2.cell? ⟨w.heap.size + 1, 0, none⟩ = some (.int .i64 0) := by rw [hb2.cell (p := ⟨w.heap.size + 1, 0, none⟩) (by simp)]; simp
    have x1 : w2.cell? ⟨w.heap.size + 1, 1, none⟩ = some (.int .i64 0) := by rw [hb2.cell (p := ⟨w.heap.size + 1, 1, none⟩) (by simp)]; simp
    have x2 : w2.cell? ⟨w.heap.size + 1, 2, none⟩ = some (.string ⟨#[]⟩) := by rw [hb2.cell (p := ⟨w.heap.size + 1, 2, none⟩) (by simp)]; simp
    have x3 : w2.cell? ⟨w.heap.size + 1, 3, none⟩ = some (.slice none 0 0) := by rw [hb2.cell (p := ⟨w.heap.size + 1, 3, none⟩) (by simp)]; simp
    have fz : ∀ j, w2.frozen? ⟨w.heap.size + 1, j, none⟩ = false := fun j => by rw [hb2.frozen (p := ⟨w.heap.size + 1, j, none⟩) (by simp)]; simp
    have HB2 : Hid (Below w.heap.size w w2) := (((Below.refl _ _).alloc (Nat.le_refl _) _).alloc (by simp) _).trans (hb2.mono (by simp; omega))
    have ho' : w2.ownsRow (w.heap.size + 2) 9 1 v2 x.items.length (x.items.map S) := by simpa using ho
    have HDel := s_DelS v2 x.items.length p (w.heap.size + 2) (x.items.map S) w2 ho' hpl (S_one _)
    have HOL : Hid (∀ g, v2.ownBlock = some g → w.heap.size + 2 ≤ g ∧ g < w2.heap.size) := ho'.lt
    clear hb2 ho ho' hit hcl hbs
    go_wp2_with fail
    refine HDel.mono ?_
    rintro e w3 ⟨v3, rfl, ho3, hg3, _⟩
    have hs3 : w2.heap.size ≤ w3.heap.size := hg3.size
    have hbk : w3.heap[w.heap.size + 1]? = w2.heap[w.heap.size + 1]? := by
      exact hg3.block _ (by omega) (fun e => by have := HOL.out _ e.symm; omega)
    have y0 := (World.cell?_of_block (a := ⟨w.heap.size + 1, 0, none⟩) hbk).trans x0
    have y1 := (World.cell?_of_block (a := ⟨w.heap.size + 1, 1, none⟩) hbk).trans x1
    have y2 := (World.cell?_of_block (a := ⟨w.heap.size + 1, 2, none⟩) hbk).trans x2
    have y3 := (World.cell?_of_block (a := ⟨w.heap.size + 1, 3, none⟩) hbk).trans x3
    have f0 := (World.frozen?_of_block (a := ⟨w.heap.size + 1, 0, none⟩) hbk).trans (fz 0)
    have f1 := (World.frozen?_of_block (a := ⟨w.heap.size + 1, 1, none⟩) hbk).trans (fz 1)
    have f2 := (World.frozen?_of_block (a := ⟨w.heap.size + 1, 2, none⟩) hbk).trans (fz 2)
    have f3 := (World.frozen?_of_block (a := ⟨w.heap.size + 1, 3, none⟩) hbk).trans (fz 3)
    have HB3 : Hid (Below w.heap.size w w3) := HB2.out.grown hg3 (by omega) (fun k hk => by have := HOL.out k hk; omega)
    have HO3 : Hid (w3.ownsRow (w.heap.size + 2) 9 1 v3 (R.without x.items s).length ((R.without x.items s).map S)) := by
      show w3.ownsRow _ _ _ _ _ _
      rw [hwl, HI.out]
      simpa [S, List.map_take, List.map_drop] using ho3
    have hne3 : v3.ownBlock ≠ some (w.heap.size + 1) := fun e => by have := (ho3.lt _ e).1; omega
    obtain ⟨a3, c3, hv3, _, _, _, _⟩ := owns_form HO3.out
    have HV3 := hide3 hv3
    subst hv3
    clear hbk x0 x1 x2 x3 fz hg3 ho3 HDel HB2 HOL hwl
    go_wp2
    obtain ⟨z0, z1, z2, z3⟩ := four_set w3 (w.heap.size + 1) (.int .i64 3) (.int .i64 0) (.string ⟨#[]⟩) (.slice a3 (R.without x.items s).length c3) _ _ _ _ y0 y1 y2 y3
    have hK : Kept (fun k => k = w.heap.size + 1) w3 ((((w3.setCell ⟨w.heap.size + 1, 0, none⟩ (.int .i64 3)).setCell ⟨w.heap.size + 1, 1, none⟩ (.int .i64 0)).setCell ⟨w.heap.size + 1, 2, none⟩ (.string ⟨#[]⟩)).setCell ⟨w.heap.size + 1, 3, none⟩ (.slice a3 (R.without x.items s).length c3)) :=
      ((((Kept.refl (fun k => k = w.heap.size + 1) w3).setCell (p := ⟨w.heap.size + 1, 0, none⟩) (.inl rfl) _).setCell (p := ⟨w.heap.size + 1, 1, none⟩) (.inl rfl) _).setCell (p := ⟨w.heap.size + 1, 2, none⟩) (.inl rfl) _).setCell (p := ⟨w.heap.size + 1, 3, none⟩) (.inl rfl) _
    have hB4 : Below w.heap.size w ((((w3.setCell ⟨w.heap.size + 1, 0, none⟩ (.int .i64 3)).setCell ⟨w.heap.size + 1, 1, none⟩ (.int .i64 0)).setCell ⟨w.heap.size + 1, 2, none⟩ (.string ⟨#[]⟩)).setCell ⟨w.heap.size + 1, 3, none⟩ (.slice a3 (R.without x.items s).length c3)) :=
      (((HB3.out.setCell (p := ⟨w.heap.size + 1, 0, none⟩) (Nat.le_succ _) _).setCell (p := ⟨w.heap.size + 1, 1, none⟩) (Nat.le_succ _) _).setCell (p := ⟨w.heap.size + 1, 2, none⟩) (Nat.le_succ _) _).setCell (p := ⟨w.heap.size + 1, 3, none⟩) (Nat.le_succ _) _
    generalize ((((w3.setCell ⟨w.heap.size + 1, 0, none⟩ (.int .i64 3)).setCell ⟨w.heap.size + 1, 1, none⟩ (.int .i64 0)).setCell ⟨w.heap.size + 1, 2, none⟩ (.string ⟨#[]⟩)).setCell ⟨w.heap.size + 1, 3, none⟩ (.slice a3 (R.without x.items s).length c3)) = w9 at *
    have hrow := ownsRow_kept HO3.out hK (fun g e e2 => hne3 (by rw [e, e2]))
    exact bodyPost_ret (v := .agg #[.int .i64 3, .int .i64 0, .string ⟨#[]⟩, .slice a3 (R.without x.items s).length c3]) (by simp [results, Tryz.results102, go_sem, z0, z1, z2, z3]) rfl ⟨a3, c3, rfl, Rd.of_owns hrow (fun b hb => by have := hM b hb; omega), hB4⟩
end Go.Proofs.YtolgebdmffcemaaGreatDoor
namespace Go.Proofs.YtolgebdmffcemaaGreatDoor
open Go.RowKit
set_option maxHeartbeats 1600000 in
set_option maxRecDepth 1000000 in
theorem g_put (v : Value) (t : List R.Leaf) (s text : List UInt8) (w : World) (M : Nat → Prop) (hM : ∀ b, M b → b < w.heap.size) (h : PT w M v t) (hok : OkT t) (hs : R.isPath s = true) (htl : text.length ≤ maxLen) :
    Calls Tryz.prog 61 #[v, .string ⟨s.toArray⟩, .string ⟨text.toArray⟩] w fun e w' => Left1 w w' M e t (R.putV t (R.at_ t s) s text) := by
  have hfew := hok.few
  have hsl : s.length ≤ 1000 := by have := isPath_len _ hs; omega
  have hgp : ∀ x ∈ t, x.path.length ≤ 1000 := fun x hx => (hok.ok x hx).good.path
  have htx := g_isItem text w htl
  have had := g_admits v t s 3 w M h (by omega) hok.sort hgp hsl
  have hat := fun W (hW : Below w.heap.size w W) => g_at v t s W M (h.below hW) (by omega) hok.sort
  have hfl := fun W (hW : Below w.heap.size w W) => g_full v t s W M (h.below hW) (by omega) hok.sort
  have hAt := atX hok s
  have HM := hide3 hM
  have HWith := fun W (hW : Below w.heap.size w W) (x : R.Leaf) (iv : Value) (hit : It W M (bagOf x (R.item x.items text), iv)) (hp : x.path = s) (hx : OkL (bagOf x (R.item x.items text))) => g_with v t (bagOf x (R.item x.items text)) iv W M (fun b hb => by have := hM b hb; have := hW.size; omega) (h.below hW) hok (by rw [show (bagOf x (R.item x.items text)).path = s from hp]; exact hs) hit (.inr hx) (by simp [bagOf])
  clear h hok hgp hM
  generalize R.at_ t s = x at *
  by_cases c0 : (!R.isText text || text == []) = true
  · have HR : Hid (R.putV t x s text = (3, x)) := by show _ = _; rw [R.putV, if_pos c0]
    rw [c0] at htx
    clear hAt c0 HWith
    go_enter Tryz.func61, Tryz.ntmps61
    go_wp2_with fail
    refine htx.mono ?_
    rintro e w0 ⟨rfl, hw0⟩
    subst hw0
    go_wp2
    go_ret2
    exact ⟨none, 0, 0, ret_ti (by rw [HR.out]), (fun h => by rw [HR.out] at h; cases h), by first | exact Below.refl _ _ | exact (Below.refl _ _).alloc (Nat.le_refl _) _⟩
  have c0' : (!R.isText text || text == []) = false := by simpa using c0
  have hT : R.isText text = true ∧ text ≠ [] := by simpa using c0'
  rw [c0'] at htx
  by_cases c1 : x.kind ≠ 0 ∧ x.kind ≠ 42
  · have e1 : ((pk x != 0) && (pk x != 3)) = true := by
      rw [hAt.oth 3 42 (by simp)]; exact decide_eq_true c1
    have HR : Hid (R.putV t x s text = (6, x)) := by show _ = _; rw [R.putV, if_neg c0, if_pos c1]
    rw [e1] at had
    simp only [if_true] at had
    clear hAt c1 e1 c0 c0' hT HWith
    go_enter Tryz.func61, Tryz.ntmps61
    go_wp2_with fail
    refine htx.mono ?_
    rintro e w0 ⟨rfl, hw0⟩
    subst hw0
    go_wp2_with fail
    refine had.mono ?_
    rintro e w1 ⟨rfl, hb1⟩
    go_wp2
    go_ret2
    exact ⟨none, 0, 0, ret_ti (by rw [HR.out]), (fun h => by rw [HR.out] at h; cases h), by first | exact hb1 | exact hb1.alloc hb1.size _⟩
  have e1 : ((pk x != 0) && (pk x != 3)) = false := by
    rw [hAt.oth 3 42 (by simp)]; exact decide_eq_false c1
  rw [e1] at had
  simp only [Bool.false_eq_true, if_false] at had
  by_cases c2 : R.blocked t s = true
  · have HR : Hid (R.putV t x s text = (7, x)) := by show _ = _; rw [R.putV, if_neg c0, if_neg c1, if_pos c2]
    rw [if_pos c2] at had
    clear hAt c1 e1 c2 c0 c0' hT HWith
    go_enter Tryz.func61, Tryz.ntmps61
    go_wp2_with fail
    refine htx.mono ?_
    rintro e w0 ⟨rfl, hw0⟩
    subst hw0
    go_wp2_with fail
    refine had.mono ?_
    rintro e w1 ⟨rfl, hb1⟩
    go_wp2
    go_ret2
    exact ⟨none, 0, 0, ret_ti (by rw [HR.out]), (fun h => by rw [HR.out] at h; cases h), by first | exact hb1 | exact hb1.alloc hb1.size _⟩
  rw [if_neg c2] at had
  have hk : x = R.none x.path ∨ (OkL x ∧ x.kind = 42) := by
    rcases hAt.kinds with k | k | k | k
    · exact .inl (by rw [hAt.path]; exact k.2.2)
    · exact absurd ⟨by rw [k.1]; decide, by rw [k.1]; decide⟩ c1
    · exact absurd ⟨by rw [k.1]; decide, by rw [k.1]; decide⟩ c1
    · exact .inr ⟨k.2.2, k.1⟩
  have HIt := fun W (hW : Below w.heap.size w W) (ia : Option Addr) (ic : Nat) (hit : It W M (x, .slice ia x.items.length ic)) => g_withItem x (.slice ia x.items.length ic) text W M (fun b hb => by have := HM.out b hb; have := hW.size; omega) hit hk
  have hil : (R.item x.items text).length ≤ 9 := by
    have h1 := R.item_length text x.items false
    have h2 : x.items.length ≤ 8 := by
      rcases hk with hk | ⟨hk, _⟩
      · rw [hk]; simp [R.none]
      · exact hk.many
    unfold R.item; omega
  have hzz := hAt.zero
  have hpath := hAt.path
  have hsI : SortedI x.items := by
    rcases hk with hk | ⟨hk, _⟩
    · rw [hk]; intro i j hi; simp [R.none] at hi
    · exact hk.sort
  have HOK : Hid ((R.item x.items text).length ≤ 8 → OkL (bagOf x (R.item x.items text))) := by
    intro h8
    refine ⟨by show R.isPath x.path = true; rw [hpath]; exact hs, .inr (.inr ⟨rfl, rfl, rfl, item_ne _ hsI _⟩), by simp [bagOf], by simp [bagOf], rfl, h8, fun i hi => ?_, item_sort hsI text⟩
    rcases item_mem hi with rfl | hi
    · exact hT
    · rcases hk with hk | ⟨hk, _⟩
      · rw [hk] at hi; simp [R.none] at hi
      · exact hk.item i hi
  have HB : Hid (bagOf x (R.item x.items text) = { path := s, kind := 42, n := 0, text := [], items := R.item x.items text }) := by show _ = _; rw [bagOf, hpath]
  have HWith' := fun W hW iv hit hx => HWith W hW x iv hit hpath hx
  have hpkb : pk (bagOf x (R.item x.items text)) = 3 := by simp [pk, bagOf]
  have hpb : (bagOf x (R.item x.items text)).path = s := hpath
  simp only [hpkb, hpb] at HWith'
  have HXP := hide3 hpath
  have HC0 := hide3 c0
  have HC1 := hide3 c1
  have HC2 := hide3 c2
  clear hAt hk HWith hsI hT c0 c0' e1 hpath hpkb hpb c1 c2
  cases hF : ((pk x == 0) && decide (24 ≤ t.length))
  · rw [hF] at hfl
    have hnk : ¬ (x.kind = 0 ∧ 24 ≤ t.length) := by
      rw [hzz, ← Bool.decide_and] at hF
      exact of_decide_eq_false hF
    clear hF hzz
    by_cases c5 : 8 < (R.item x.items text).length
    · have HR : Hid (R.putV t x s text = (4, x)) := by
        show _ = _
        rw [R.putV, if_neg HC0.out, if_neg HC1.out, if_neg HC2.out, if_pos c5]
      clear HWith' hnk
      go_enter Tryz.func61, Tryz.ntmps61
      go_wp2_with fail
      refine htx.mono ?_
      rintro e w0 ⟨rfl, hw0⟩
      subst hw0
      go_wp2_with fail
      refine had.mono ?_
      rintro e w1 ⟨rfl, hb1⟩
      go_wp2_with fail
      refine (hat _ hb1).mono ?_
      rintro e w2 ⟨ia, ic, rfl, hit, hb2⟩
      have hB2 := hb1.trans (hb2.mono hb1.size)
      go_wp2_with fail
      refine (HIt _ hB2 ia ic (Rd.below hit hb2)).mono ?_
      rintro e w3 ⟨ja, jc, rfl, hit3, hb3⟩
      have hB3 := hB2.trans (hb3.mono hB2.size)
      go_wp2_with fail
      refine (hfl _ (hB3.alloc hB3.size _)).mono ?_
      rintro e w4 ⟨rfl, hb4⟩
      have hB4 := (hB3.alloc hB3.size _).trans (hb4.mono (by simp; exact Nat.le_succ_of_le hB3.size))
      have y0 : w4.cell? ⟨w3.heap.size, 0, none⟩ = some (.int .i64 3) := by rw [hb4.cell (p := ⟨w3.heap.size, 0, none⟩) (by simp)]; simp
      have y1 : w4.cell? ⟨w3.heap.size, 1, none⟩ = some (.int .i64 0) := by rw [hb4.cell (p := ⟨w3.heap.size, 1, none⟩) (by simp)]; simp
      have y2 : w4.cell? ⟨w3.heap.size, 2, none⟩ = some (.string ⟨#[]⟩) := by rw [hb4.cell (p := ⟨w3.heap.size, 2, none⟩) (by simp)]; simp
      have y3 : w4.cell? ⟨w3.heap.size, 3, none⟩ = some (.slice ja (R.item x.items text).length jc) := by rw [hb4.cell (p := ⟨w3.heap.size, 3, none⟩) (by simp)]; simp
      have HIT4 : Hid (It w4 M (bagOf x (R.item x.items text), .slice ja (R.item x.items text).length jc)) := Rd.below hit3 (((Below.refl _ _).alloc (Nat.le_refl _) _).trans (hb4.mono (by simp)))
      have HB4 := hide3 hB4
      clear hb4 hit3 hb3 hit hb2 hb1 hB2 hB3 hB4
      go_wp2
      go_ret2
      exact ⟨none, 0, 0, ret_ti (by rw [HR.out]), (fun h => by rw [HR.out] at h; cases h), HB4.out⟩
    · have HR : Hid (R.putV t x s text = (0, bagOf x (R.item x.items text))) := by
        show _ = _
        rw [R.putV, if_neg HC0.out, if_neg HC1.out, if_neg HC2.out, if_neg c5, if_neg hnk, HB.out]
      have HO8 := hide3 (HOK.out (by omega))
      clear hnk
      go_enter Tryz.func61, Tryz.ntmps61
      go_wp2_with fail
      refine htx.mono ?_
      rintro e w0 ⟨rfl, hw0⟩
      subst hw0
      go_wp2_with fail
      refine had.mono ?_
      rintro e w1 ⟨rfl, hb1⟩
      go_wp2_with fail
      refine (hat _ hb1).mono ?_
      rintro e w2 ⟨ia, ic, rfl, hit, hb2⟩
      have hB2 := hb1.trans (hb2.mono hb1.size)
      go_wp2_with fail
      refine (HIt _ hB2 ia ic (Rd.below hit hb2)).mono ?_
      rintro e w3 ⟨ja, jc, rfl, hit3, hb3⟩
      have hB3 := hB2.trans (hb3.mono hB2.size)
      go_wp2_with fail
      refine (hfl _ (hB3.alloc hB3.size _)).mono ?_
      rintro e w4 ⟨rfl, hb4⟩
      have hB4 := (hB3.alloc hB3.size _).trans (hb4.mono (by simp; exact Nat.le_succ_of_le hB3.size))
      have y0 : w4.cell? ⟨w3.heap.size, 0, none⟩ = some (.int .i64 3) := by rw [hb4.cell (p := ⟨w3.heap.size, 0, none⟩) (by simp)]; simp
      have y1 : w4.cell? ⟨w3.heap.size, 1, none⟩ = some (.int .i64 0) := by rw [hb4.cell (p := ⟨w3.heap.size, 1, none⟩) (by simp)]; simp
      have y2 : w4.cell? ⟨w3.heap.size, 2, none⟩ = some (.string ⟨#[]⟩) := by rw [hb4.cell (p := ⟨w3.heap.size, 2, none⟩) (by simp)]; simp
      have y3 : w4.cell? ⟨w3.heap.size, 3, none⟩ = some (.slice ja (R.item x.items text).length jc) := by rw [hb4.cell (p := ⟨w3.heap.size, 3, none⟩) (by simp)]; simp
      have HIT4 : Hid (It w4 M (bagOf x (R.item x.items text), .slice ja (R.item x.items text).length jc)) := Rd.below hit3 (((Below.refl _ _).alloc (Nat.le_refl _) _).trans (hb4.mono (by simp)))
      have HB4 := hide3 hB4
      clear hb4 hit3 hb3 hit hb2 hb1 hB2 hB3 hB4
      go_wp2_with fail
      refine (HWith' _ HB4.out _ HIT4.out HO8.out).mono ?_
      rintro e w5 ⟨v5, rfl, hp5, hb5⟩
      obtain ⟨va, vc, rfl⟩ := pt_form hp5
      go_wp2
      go_ret2
      exact ⟨va, _, vc, ret_ti (by rw [HR.out]), (fun _ => by rw [HR.out]; exact hp5), HB4.out.trans (hb5.mono HB4.out.size)⟩
  · rw [hF] at hfl
    have HR : Hid (R.putV t x s text = (4, x)) := by
      show _ = _
      rw [hzz, ← Bool.decide_and] at hF
      rw [R.putV, if_neg HC0.out, if_neg HC1.out, if_neg HC2.out, if_pos (of_decide_eq_true hF)]
      split <;> rfl
    clear hF hzz HWith'
    go_enter Tryz.func61, Tryz.ntmps61
    go_wp2_with fail
    refine htx.mono ?_
    rintro e w0 ⟨rfl, hw0⟩
    subst hw0
    go_wp2_with fail
    refine had.mono ?_
    rintro e w1 ⟨rfl, hb1⟩
    go_wp2_with fail
    refine (hat _ hb1).mono ?_
    rintro e w2 ⟨ia, ic, rfl, hit, hb2⟩
    have hB2 := hb1.trans (hb2.mono hb1.size)
    go_wp2_with fail
    refine (HIt _ hB2 ia ic (Rd.below hit hb2)).mono ?_
    rintro e w3 ⟨ja, jc, rfl, hit3, hb3⟩
    have hB3 := hB2.trans (hb3.mono hB2.size)
    go_wp2_with fail
    refine (hfl _ (hB3.alloc hB3.size _)).mono ?_
    rintro e w4 ⟨rfl, hb4⟩
    have hB4 := (hB3.alloc hB3.size _).trans (hb4.mono (by simp; exact Nat.le_succ_of_le hB3.size))
    go_wp2
    go_ret2
    exact ⟨none, 0, 0, ret_ti (by rw [HR.out]), (fun h => by rw [HR.out] at h; cases h), hB4⟩
end Go.Proofs.YtolgebdmffcemaaGreatDoor
