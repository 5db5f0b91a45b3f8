/-
  What Go's slices.Insert makes of a row of its caller's own (branches): one element more, at its place.
  Laws of append in place and of clear, for rows whose elements take several cells.
-/
import Derived.Test.YtolgebdmffcemaaGreatDoorPart12
import Derived.Test.YtolgebdmffcemaaGreatDoorPart02
import Derived.Deep.AppendSrc
set_option linter.unusedVariables false
namespace Go.Proofs.YtolgebdmffcemaaGreatDoor
open Go.RowKit
theorem Tryz.info88 : (Tryz.prog.info? 88).map (fun i => (i.zero, i.size, i.bytes)) = some (some (.pointer none), 1, 8) := by kernel_rfl
set_option maxHeartbeats 1600000 in
set_option maxRecDepth 1000000 in
theorem s_InsB_end (v : Value) (n vb base : Nat) (xs : List Value) (C : Array Value) (w : World) (hown : w.ownsRow base 88 1 v n xs) (hB : base ≤ w.heap.size) (hl : n ≤ 1000000)
    (hbox : w.heap[vb]? = some (.cells C 88 (0, 0))) (hC : C.size = 1) (h1c : ∀ u ∈ C.toList, u.oneCell' = true) :
    Calls Tryz.prog 85 #[v, .int .i64 (n : Int), .slice (some ⟨vb, 0, none⟩) 1 1] w fun e w' => ∃ v', e = .returned v' ∧ w'.ownsRow base 88 1 v' (n + 1) (xs ++ C.toList) ∧ w.grownBy w' v.ownBlock ∧ (∀ g, v'.ownBlock = some g → v.ownBlock = some g ∨ w.heap.size ≤ g) := by
  have hcl : C.toList.length = 1 * 1 := by simpa using hC
  have hbc : ∀ j u, C.toList[j]? = some u → w.cell? ((⟨vb, 0, none⟩ : Addr).add j) = some u := fun j u hu => by
    rw [addr_lit, Nat.zero_add]; simp only [World.cell?, hbox]; simpa using hu
  obtain ⟨a, cap, hv, h1, h2, h3, _⟩ := owns_form hown
  subst hv
  unfold maxLen at h2
  clear hbox
  cases a with
  | none =>
    obtain ⟨hn0, hc0⟩ := h3 rfl
    subst hn0 hc0
    go_enter Tryz.func85, Tryz.ntmps85
    go_wp2_with (at_builtin; go_loud (refine wpl_app2 _ (by rfl) _ _ 98 98 _ (by rfl) base 88 (Value.pointer none) 1 8 Tryz.underlying98 Tryz.underlying98 Tryz.info88 (by rfl) (by decide) hown ⟨vb, 0, none⟩ 1 1 C.toList hcl hbc (by rfl) (by rfl) h1c (by unfold maxLen; omega) (by omega) hB ?_))
    intro v' w1 ho hgr hlies
    go_wp2
    go_ret
    exact ⟨_, rfl, ho, hgr, hlies⟩
  | some ad =>
    go_enter Tryz.func85, Tryz.ntmps85
    go_wp2_with (at_builtin; go_loud (refine wpl_app2 _ (by rfl) _ _ 98 98 _ (by rfl) base 88 (Value.pointer none) 1 8 Tryz.underlying98 Tryz.underlying98 Tryz.info88 (by rfl) (by decide) hown ⟨vb, 0, none⟩ 1 1 C.toList hcl hbc (by rfl) (by rfl) h1c (by unfold maxLen; omega) (by omega) hB ?_))
    all_goals
      intro v' w1 ho hgr hlies
      go_wp2
      go_ret
      exact ⟨_, rfl, ho, hgr, hlies⟩
set_option maxHeartbeats 3200000 in
set_option maxRecDepth 1000000 in
theorem s_InsB_room (g n cap i vb base : Nat) (xs : List Value) (C cur : Array Value) (w : World) (hi : i < n) (hg : w.heap[g]? = some (.cells cur 88 (0, 0))) (hbg : base ≤ g) (hcap : n + 1 ≤ cap) (hcm : cap ≤ 9223372036854775807) (hcs : cur.size = cap * 1) (hxs : cur.toList.take (n * 1) = xs)
    (hbox : w.heap[vb]? = some (.cells C 88 (0, 0))) (hC : C.size = 1) (hne : vb ≠ g) (h1x : ∀ u ∈ xs, u.oneCell' = true) (h1c : ∀ u ∈ C.toList, u.oneCell' = true) :
    Calls Tryz.prog 85 #[.slice (some ⟨g, 0, none⟩) n cap, .int .i64 (i : Int), .slice (some ⟨vb, 0, none⟩) 1 1] w fun e w' => ∃ v', e = .returned v' ∧ w'.ownsRow base 88 1 v' (n + 1) (xs.take (i * 1) ++ (C.toList ++ xs.drop (i * 1))) ∧ w.grownBy w' (some g) ∧ (∀ g', v'.ownBlock = some g' → some g = some g' ∨ w.heap.size ≤ g') := by
  have hcl : C.toList.length = 1 := by simpa using hC
  have hxl : xs.length = n * 1 := by rw [← hxs, List.length_take, Array.length_toList]; omega
  obtain ⟨r1, r2, r3⟩ := row_ins cur.toList xs C.toList n i 1 (by omega) hxl hcl (by rw [Array.length_toList, hcs]; omega) hxs
  have hgl : g < w.heap.size := (Array.getElem?_eq_some_iff.1 hg).1
  have hsz : (Tryz.prog.info? 88).map (·.size) = some 1 := by
    obtain ⟨i0, hi0, h0, h1, h2⟩ := info_parts Tryz.info88
    rw [hi0]; simp [h1]
  have hzz : ∀ w, (Go.sizeOf 88).run Tryz.prog w = .ok 1 w := fun w => by
    obtain ⟨i0, hi0, h0, h1, h2⟩ := info_parts Tryz.info88
    simp [Go.sizeOf, typeInfo, hi0, h1]
  have hov : ∀ lb cb, (callFunc 134 #[.slice (some ⟨vb, 0, none⟩) 1 1, .slice (some ⟨g, (i + 1) * 1, none⟩) lb cb]).run Tryz.prog w = .ok (.value (.bool false)) w := fun lb cb => by
    rw [run_callFunc_extern Tryz.func134 (by kernel_rfl) (by kernel_rfl) (by kernel_rfl) (e := Extern.SlicesOverlaps.overlaps #[98, 98] #[4]) (by kernel_rfl),
      Lib.run_overlaps_apart w 98 4 88 Tryz.underlying98 1 hzz ⟨vb, 0, none⟩ ⟨g, (i + 1) * 1, none⟩ 1 1 lb cb hne 88 88 C.size cur.size (by simp [World.shape?, hbox]) (by simp [World.shape?, hg]) (by rw [hcs]; omega) (by simp [World.frozen?, hbox]) (by simp [World.frozen?, hbox])]
    rfl
  have hcp1 : ∀ ty dc sc, (Builtin.copy_ #[98, 98] ty #[.slice (some ⟨g, (i + 1) * 1, none⟩) (n - i) dc, .slice (some ⟨g, i * 1, none⟩) (n + 1 - i) sc]).run Tryz.prog w.drew = .ok (goInt (Nat.min (n + 1 - i) (n - i))) (w.drew.setRow g (cur.toList.take ((i + 1) * 1) ++ xs.drop (i * 1) ++ cur.toList.drop ((i + 1) * 1 + (xs.drop (i * 1)).length)).toArray) := fun ty dc sc =>
    run_copyN w.drew _ _ ty 88 g ((i + 1) * 1) (n - i) dc 1 ⟨g, i * 1, none⟩ (n + 1 - i) sc cur 88 (xs.drop (i * 1)) Tryz.underlying98 hsz hg (by rw [List.length_drop, hxl]; simp only [Nat.min_def]; split <;> omega)
      (fun j u hj => by
        rw [addr_lit]
        rw [List.getElem?_drop, ← hxs, List.getElem?_take] at hj
        split at hj
        · show w.cell? _ = _
          simp only [World.cell?, hg]; simpa using hj
        · cases hj)
      (by rw [List.length_drop, hxl, hcs]; omega) (fun u hu => h1x u (List.mem_of_mem_drop hu))
  obtain ⟨c1, hc1⟩ : ∃ c1 : Array Value, c1 = (cur.toList.take ((i + 1) * 1) ++ xs.drop (i * 1) ++ cur.toList.drop ((i + 1) * 1 + (xs.drop (i * 1)).length)).toArray := ⟨_, rfl⟩
  rw [← hc1] at hcp1
  have hc1l : c1.toList = cur.toList.take ((i + 1) * 1) ++ xs.drop (i * 1) ++ cur.toList.drop ((i + 1) * 1 + (xs.drop (i * 1)).length) := by rw [hc1]
  rw [← hc1l] at r1 r2 r3
  have hcp2 : ∀ ty dc, (Builtin.copy_ #[98, 98] ty #[.slice (some ⟨g, i * 1, none⟩) (n + 1 - i) dc, .slice (some ⟨vb, 0, none⟩) 1 1]).run Tryz.prog (w.drew.setRow g c1) = .ok (goInt (Nat.min 1 (n + 1 - i))) ((w.drew.setRow g c1).setRow g (c1.toList.take (i * 1) ++ C.toList ++ c1.toList.drop (i * 1 + C.toList.length)).toArray) := fun ty dc =>
    run_copyN (w.drew.setRow g c1) _ _ ty 88 g (i * 1) (n + 1 - i) dc 1 ⟨vb, 0, none⟩ 1 1 c1 88 C.toList Tryz.underlying98 hsz (setRow_heap w.drew g cur c1 88 _ hg) (by rw [hcl]; simp only [Nat.min_def]; split <;> omega)
      (fun j u hj => by
        rw [addr_lit, Nat.zero_add, cell_setRow_other _ _ _ _ hne]
        show w.cell? _ = _
        simp only [World.cell?, hbox]; simpa using hj)
      (by rw [hcl, ← Array.length_toList, r1, Array.length_toList, hcs]; omega) h1c
  obtain ⟨c2, hc2⟩ : ∃ c2 : Array Value, c2 = (c1.toList.take (i * 1) ++ C.toList ++ c1.toList.drop (i * 1 + C.toList.length)).toArray := ⟨_, rfl⟩
  have hc2l : c2.toList = c1.toList.take (i * 1) ++ C.toList ++ c1.toList.drop (i * 1 + C.toList.length) := by rw [hc2]
  rw [← hc2l] at r2 r3
  rw [← hc2] at hcp2
  have hin : i ≤ n := by omega
  have hz2 : ¬ ((i : Int) = (n : Int)) := by omega
  have hb2 : ¬ (cap = i + 1) := by omega
  have hb4 : ¬ (cap = i) := by omega
  have hb3 : (i : Int) ≤ (n : Int) + 1 := by omega
  have htn : ((i : Int) + 1).toNat = i + 1 := by omega
  have hw1 : IntKind.i64.wrap ((i : Int) + 1) = (i : Int) + 1 := by rw [IntKind.wrap_i64]; omega
  have hb1 : (0 : Int) ≤ (i : Int) + 1 := by omega
  have FIN : Hid (((w.drew.setRow g c1).setRow g c2).ownsRow base 88 1 (.slice (some ⟨g, 0, none⟩) (n + 1) cap) (n + 1) (xs.take (i * 1) ++ (C.toList ++ xs.drop (i * 1))) ∧ w.grownBy ((w.drew.setRow g c1).setRow g c2) (some g)) := by
    refine ⟨⟨?_, .inr ⟨g, cap, c2, rfl, hbg, ?_, hcap, by unfold maxLen; omega, by rw [← Array.length_toList, r2, Array.length_toList, hcs], r3⟩⟩, ⟨rfl, rfl, rfl, by simp, fun k hk hkn => ?_⟩⟩
    · simp only [List.length_append, List.length_take, List.length_drop, hxl, hcl]; omega
    · exact setRow_heap _ g c1 c2 88 _ (setRow_heap w.drew g cur c1 88 _ hg)
    · rw [setRow_other _ _ _ _ (by rintro rfl; exact hkn rfl), setRow_other _ _ _ _ (by rintro rfl; exact hkn rfl)]; rfl
  clear hg hbox r1 r2 r3 hc1 hc1l hc2 hc2l h1x h1c hcs hxs hxl
  simp only [Nat.mul_one] at hov hcp1 hcp2
  go_enter Tryz.func85, Tryz.ntmps85
  go_wp2_with (simp only [hov])
  go_region_law (refine stp_copy (by rfl) _ _ 98 98 (by rfl) _ _ (by simp [Act.eval, Act.put]) (by simp [Act.eval, Act.put]) (hcp1 _ _ _) ?_)
  go_wp2_with (at_builtin; refine wpl_copy _ (by rfl) _ _ 98 98 (by rfl) _ _ (by rfl) (by rfl) (hcp2 _ _) ?_)
  go_ret
  exact ⟨_, rfl, FIN.out.1, FIN.out.2, fun g' e => .inl e⟩
theorem zeroNB (k : Nat) : (Builtin.zeroCells (Value.pointer none).cells k).size = k * 1 := by simp [Builtin.zeroCells, Value.cells]
set_option maxHeartbeats 3200000 in
set_option maxRecDepth 1000000 in
theorem s_InsB_grow (g n cap i vb base : Nat) (xs : List Value) (C cur : Array Value) (w : World) (hi : i < n) (hg : w.heap[g]? = some (.cells cur 88 (0, 0))) (hB : base ≤ w.heap.size) (hnc : n ≤ cap) (hcap : cap < n + 1) (hl : n ≤ 1000000) (hcs : cur.size = cap * 1) (hxs : cur.toList.take (n * 1) = xs)
    (hbox : w.heap[vb]? = some (.cells C 88 (0, 0))) (hC : C.size = 1) (h1x : ∀ u ∈ xs, u.oneCell' = true) (h1c : ∀ u ∈ C.toList, u.oneCell' = true) :
    Calls Tryz.prog 85 #[.slice (some ⟨g, 0, none⟩) n cap, .int .i64 (i : Int), .slice (some ⟨vb, 0, none⟩) 1 1] w fun e w' => ∃ v', e = .returned v' ∧ w'.ownsRow base 88 1 v' (n + 1) (xs.take (i * 1) ++ (C.toList ++ xs.drop (i * 1))) ∧ w.grownBy w' (some g) ∧ (∀ g', v'.ownBlock = some g' → some g = some g' ∨ w.heap.size ≤ g') := by
  have hcl : C.toList.length = 1 := by simpa using hC
  have hxl : xs.length = n * 1 := by rw [← hxs, List.length_take, Array.length_toList]; omega
  have hgl : g < w.heap.size := (Array.getElem?_eq_some_iff.1 hg).1
  have hvl : vb < w.heap.size := (Array.getElem?_eq_some_iff.1 hbox).1
  obtain ⟨i0, hi0, hz0, hz1, hz2⟩ := info_parts Tryz.info88
  have hsz : (Tryz.prog.info? 88).map (·.size) = some 1 := by rw [hi0]; simp [hz1]
  have hkk : (n : Int) + 1 - (i : Int) = ((n + 1 - i : Nat) : Int) := by omega
  have hik : i + (n + 1 - i) = n + 1 := by omega
  have hxc : ∀ j u, xs[j]? = some u → w.cell? ⟨g, j, none⟩ = some u := fun j u hj => by
    rw [← hxs, List.getElem?_take] at hj
    split at hj
    · simp only [World.cell?, hg]; simpa using hj
    · cases hj
  have hold : (Builtin.firstCells i0.size i (.slice (some ⟨g, 0, none⟩) i cap)).run Tryz.prog w.drew = .ok (xs.take (i * 1)).toArray w.drew := by
    rw [hz1]
    exact run_firstCells_some w.drew 1 i ⟨g, 0, none⟩ i cap (xs.take (i * 1)) (by rw [List.length_take]; omega) (fun j u hj => by
      rw [addr_lit, Nat.zero_add]
      rw [List.getElem?_take] at hj
      split at hj
      · exact hxc j u hj
      · cases hj)
  obtain ⟨G, hG⟩ : ∃ G, G = grownCap w (n + 1) cap 88 := ⟨_, rfl⟩
  have hGn : n + 1 ≤ G := by rw [hG]; exact grownCap_ge w _ _ _
  have hG63 : G ≤ 9223372036854775807 := by
    have := grownCap_le_maxLen w (n + 1) cap 88 (by unfold maxLen; omega)
    rw [← hG] at this; unfold maxLen at this; omega
  obtain ⟨ROW, hROW⟩ : ∃ ROW : Array Value, ROW = (xs.take (i * 1)).toArray ++ Builtin.zeroCells (Value.pointer none).cells (n + 1 - i) ++ Builtin.zeroCells (Value.pointer none).cells (G - (n + 1)) := ⟨_, rfl⟩
  have hrz : ∀ ty, (Builtin.append_ #[98, 3] ty #[.slice (some ⟨g, 0, none⟩) i cap, .int .i64 ((n : Int) + 1 - (i : Int))]).run Tryz.prog w = .ok (.slice (some ⟨w.heap.size, 0, none⟩) (n + 1) G) (w.drew.alloc (.cells ROW 88)) := fun ty => by
    have h := Lib.run_append_grow_zeros w 98 3 ty 88 i0 (Value.pointer none) .i64 .i64 Tryz.underlying98 Tryz.underlying3 hi0 hz0 (some ⟨g, 0, none⟩) i cap (xs.take (i * 1)) hold (n + 1 - i) (by omega) (by omega) (by omega) (by omega) (by rw [hz2]; omega) (by rw [hz2, hik]; exact growslice_fits hcap (by omega))
    rw [hik, ← hG, ← hROW] at h
    rw [hkk]
    exact h
  have hRl : ROW.size = G * 1 := by
    rw [hROW]
    simp only [Array.size_append, zeroNB, List.size_toArray, List.length_take, hxl]
    omega
  have hRt : ROW.toList.take (i * 1) = xs.take (i * 1) := by
    rw [hROW]
    simp only [Array.toList_append, List.append_assoc]
    rw [List.take_append_of_le_length (by simp only [List.length_take, hxl]; omega), List.take_of_length_le (by simp only [List.length_take, hxl]; omega)]
  obtain ⟨r1, r2, r3⟩ := row_new ROW.toList xs C.toList n i 1 (by omega) hxl hcl (by rw [Array.length_toList, hRl]; omega) hRt
  obtain ⟨c1, hc1⟩ : ∃ c1 : Array Value, c1 = (ROW.toList.take (i * 1) ++ C.toList ++ ROW.toList.drop (i * 1 + C.toList.length)).toArray := ⟨_, rfl⟩
  have hc1l : c1.toList = ROW.toList.take (i * 1) ++ C.toList ++ ROW.toList.drop (i * 1 + C.toList.length) := by rw [hc1]
  rw [← hc1l] at r1 r2 r3
  obtain ⟨c2, hc2⟩ : ∃ c2 : Array Value, c2 = (c1.toList.take ((i + 1) * 1) ++ xs.drop (i * 1) ++ c1.toList.drop ((i + 1) * 1 + (xs.drop (i * 1)).length)).toArray := ⟨_, rfl⟩
  have hc2l : c2.toList = c1.toList.take ((i + 1) * 1) ++ xs.drop (i * 1) ++ c1.toList.drop ((i + 1) * 1 + (xs.drop (i * 1)).length) := by rw [hc2]
  rw [← hc2l] at r2 r3
  have hA0 : (w.alloc (.cells ROW 88)).heap[w.heap.size]? = some (.cells ROW 88 (0, 0)) := heap_alloc_new w _
  have hcpA : ∀ W : World, W.heap = (w.alloc (.cells ROW 88)).heap → ∀ ty dc, (Builtin.copy_ #[98, 98] ty #[.slice (some ⟨w.heap.size, i * 1, none⟩) (n + 1 - i) dc, .slice (some ⟨vb, 0, none⟩) 1 1]).run Tryz.prog W = .ok (goInt (Nat.min 1 (n + 1 - i))) (W.setRow w.heap.size c1) := fun W hW ty dc => by
    have h := run_copyN (P := Tryz.prog) W 98 98 ty 88 w.heap.size (i * 1) (n + 1 - i) dc 1 ⟨vb, 0, none⟩ 1 1 ROW 88 C.toList Tryz.underlying98 hsz (by rw [hW]; exact hA0) (by rw [hcl]; simp only [Nat.min_def]; split <;> omega)
      (fun j u hj => by
        rw [addr_lit, Nat.zero_add]
        simp only [World.cell?, hW]
        rw [heap_alloc_old w _ hvl, hbox]
        simpa using hj)
      (by rw [hcl, hRl]; omega) h1c
    rw [← hc1] at h
    exact h
  have hcpB : ∀ W : World, W.heap = ((w.alloc (.cells ROW 88)).setRow w.heap.size c1).heap → ∀ ty dc sc, (Builtin.copy_ #[98, 98] ty #[.slice (some ⟨w.heap.size, (i + 1) * 1, none⟩) (n - i) dc, .slice (some ⟨g, i * 1, none⟩) (n - i) sc]).run Tryz.prog W = .ok (goInt (Nat.min (n - i) (n - i))) (W.setRow w.heap.size c2) := fun W hW ty dc sc => by
    have h := run_copyN (P := Tryz.prog) W 98 98 ty 88 w.heap.size ((i + 1) * 1) (n - i) dc 1 ⟨g, i * 1, none⟩ (n - i) sc c1 88 (xs.drop (i * 1)) Tryz.underlying98 hsz (by rw [hW]; exact setRow_heap _ _ ROW c1 88 _ hA0) (by rw [List.length_drop, hxl]; simp only [Nat.min_def]; split <;> omega)
      (fun j u hj => by
        rw [addr_lit]
        simp only [World.cell?, hW]
        rw [setRow_other _ _ _ _ (by omega), heap_alloc_old w _ hgl]
        rw [List.getElem?_drop] at hj
        have := hxc _ _ hj
        simp only [World.cell?] at this
        exact this)
      (by rw [List.length_drop, hxl, ← Array.length_toList, r1, Array.length_toList, hRl]; omega) (fun u hu => h1x u (List.mem_of_mem_drop hu))
    rw [← hc2] at h
    exact h
  have FIN : ∀ W : World, W.heap = (((w.alloc (.cells ROW 88)).setRow w.heap.size c1).setRow w.heap.size c2).heap → W.os = w.os → W.tape = w.tape → W.output = w.output → (W.ownsRow base 88 1 (.slice (some ⟨w.heap.size, 0, none⟩) (n + 1) G) (n + 1) (xs.take (i * 1) ++ (C.toList ++ xs.drop (i * 1))) ∧ w.grownBy W (some g)) := by
    intro W hW e1 e2 e3
    refine ⟨⟨?_, .inr ⟨w.heap.size, G, c2, rfl, hB, ?_, hGn, by unfold maxLen; omega, by rw [← Array.length_toList, r2, Array.length_toList, hRl], r3⟩⟩, ⟨e1, e2, e3, by rw [hW]; simp, fun k hk hkn => ?_⟩⟩
    · simp only [List.length_append, List.length_take, List.length_drop, hxl, hcl]; omega
    · rw [hW]; exact setRow_heap _ _ c1 c2 88 _ (setRow_heap _ _ ROW c1 88 _ hA0)
    · rw [hW, setRow_other _ _ _ _ (by omega), setRow_other _ _ _ _ (by omega)]; exact heap_alloc_old w _ hk
  have hcpA2 := hcpA (w.alloc (.cells ROW 88)).drew rfl
  have hcpB2 := hcpB ((w.alloc (.cells ROW 88)).drew.setRow w.heap.size c1).drew rfl
  clear hcpA hcpB
  have hin : i ≤ n := by omega
  have hz2 : ¬ ((i : Int) = (n : Int)) := by omega
  have hz3 : (cap : Int) < (n : Int) + 1 := by omega
  have hGi : ¬ (G = i) := by omega
  have hGim : ¬ (G = i + 1) := by omega
  have hci : ¬ (cap = i) := by omega
  have htn : ((i : Int) + 1).toNat = i + 1 := by omega
  have hw1 : IntKind.i64.wrap ((i : Int) + 1) = (i : Int) + 1 := by rw [IntKind.wrap_i64]; omega
  have hb1 : (0 : Int) ≤ (i : Int) + 1 := by omega
  have hb3 : (i : Int) ≤ (n : Int) := by omega
  have HF : Hid (∀ W : World, W.heap = (((w.alloc (.cells ROW 88)).setRow w.heap.size c1).setRow w.heap.size c2).heap → W.os = w.os → W.tape = w.tape → W.output = w.output → (W.ownsRow base 88 1 (.slice (some ⟨w.heap.size, 0, none⟩) (n + 1) G) (n + 1) (xs.take (i * 1) ++ (C.toList ++ xs.drop (i * 1))) ∧ w.grownBy W (some g))) := FIN
  clear hg hbox r1 r2 r3 hc1 hc1l hc2 hc2l h1x h1c hcs hxs hxl hkk hik hold hROW hG hRl hRt hA0 hxc FIN hz0 hz1
  simp only [Nat.mul_one] at hcpA2 hcpB2
  go_enter Tryz.func85, Tryz.ntmps85
  go_wp2_with (first
    | (at_builtin; refine Lib.wpList_append_run _ (by rfl) _ _ _ _ (by rfl) _ _ (by rfl) (by rfl) _ _ (hrz _) ?_)
    | (simp only [hcpA2]))
  go_region_law (refine stp_copy (by rfl) _ _ 98 98 (by rfl) _ _ (by simp [Act.eval, Act.put]) (by simp [Act.eval, Act.put]) (hcpB2 _ _ _) ?_)
  go_wp2
  go_ret
  exact ⟨_, rfl, (HF.out _ (by rfl) (by rfl) (by rfl) (by rfl)).1, (HF.out _ (by rfl) (by rfl) (by rfl) (by rfl)).2, fun g' e => .inr (by simp [Value.ownBlock] at e; omega)⟩
/-- one element more, at place i -/
theorem s_InsB (v : Value) (n i vb base : Nat) (xs : List Value) (C : Array Value) (w : World) (hown : w.ownsRow base 88 1 v n xs) (hB : base ≤ w.heap.size) (hi : i ≤ n) (hl : n ≤ 1000000)
    (hbox : w.heap[vb]? = some (.cells C 88 (0, 0))) (hC : C.size = 1) (hne : v.ownBlock ≠ some vb) (h1x : ∀ u ∈ xs, u.oneCell' = true) (h1c : ∀ u ∈ C.toList, u.oneCell' = true) :
    Calls Tryz.prog 85 #[v, .int .i64 (i : Int), .slice (some ⟨vb, 0, none⟩) 1 1] w fun e w' => ∃ v', e = .returned v' ∧ w'.ownsRow base 88 1 v' (n + 1) (xs.take (i * 1) ++ (C.toList ++ xs.drop (i * 1))) ∧ w.grownBy w' v.ownBlock ∧ (∀ g, v'.ownBlock = some g → v.ownBlock = some g ∨ w.heap.size ≤ g) := by
  by_cases hin : i = n
  · subst hin
    have htk : xs.take (i * 1) = xs := List.take_of_length_le (by rw [hown.1]; exact Nat.le_refl _)
    have hdr : xs.drop (i * 1) = [] := List.drop_eq_nil_of_le (by rw [hown.1]; exact Nat.le_refl _)
    rw [htk, hdr, List.append_nil]
    exact s_InsB_end v i vb base xs C w hown hB hl hbox hC h1c
  · obtain ⟨h1, h2⟩ := hown
    rcases h2 with ⟨rfl, rfl⟩ | ⟨g, cap, cur, rfl, hb, hg, hn, hcm, hs, ht⟩
    · omega
    · have hvg : vb ≠ g := fun e => hne (by rw [e]; rfl)
      unfold maxLen at hcm
      by_cases hr : n + 1 ≤ cap
      · exact s_InsB_room g n cap i vb base xs C cur w (by omega) hg hb hr (by omega) hs ht hbox hC hvg h1x h1c
      · exact s_InsB_grow g n cap i vb base xs C cur w (by omega) hg hB hn (by omega) hl hs ht hbox hC h1x h1c
end Go.Proofs.YtolgebdmffcemaaGreatDoor
namespace Go.Proofs.YtolgebdmffcemaaGreatDoor
open Go.RowKit
theorem run_appN {P : Program} (w : World) (t ty e : TypeId) (i : TypeInfo) (size g sLen sCap : Nat) (a : Addr) (m c : Nat) (cur : Array Value) (t0 : TypeId) (news : List Value) (ht : P.underlying t = some (.slice e)) (hi : P.info? e = some i) (hs : i.size = size)
    (hg : w.heap[g]? = some (.cells cur t0 (0, 0))) (hn : news.length = m * size) (hsrc : ∀ j v, news[j]? = some v → w.cell? (a.add j) = some v) (h1 : ∀ v ∈ news, v.oneCell' = true) (hroom : sLen + m ≤ sCap) (hfit : sLen * size + news.length ≤ cur.size) :
    (Builtin.append_ #[t, t] ty #[.slice (some ⟨g, 0, none⟩) sLen sCap, .slice (some a) m c]).run P w = .ok (.slice (some ⟨g, 0, none⟩) (sLen + m) sCap) (w.setRow g (cur.toList.take (sLen * size) ++ news ++ cur.toList.drop (sLen * size + news.length)).toArray) := by
  have hl := run_loadCells_list (P := P) w a news hsrc
  have hst := run_storeCells_at P g (sLen * size) t0 news 0 cur w hg (by simpa using hfit) h1
  rw [hn] at hl
  simp only [Nat.add_zero] at hst
  have ha : (⟨g, 0, none⟩ : Addr).add (sLen * size) = ⟨g, sLen * size, none⟩ := by rw [addr_lit, Nat.zero_add]
  simp [Builtin.append_, run_underlying ht, sizeOf, typeInfo, hi, hs, Builtin.lenOf, hroom, Builtin.firstCells, hl, ha, hst]
theorem run_clearN {P : Program} (w : World) (t ty e : TypeId) (i : TypeInfo) (z : Value) (size g o k c : Nat) (cur : Array Value) (t0 : TypeId) (ht : P.underlying t = some (.slice e)) (hi : P.info? e = some i) (hz : i.zero = some z) (hzs : z.cells.size = size) (hz1 : ∀ v ∈ z.cells.toList, v.oneCell' = true)
    (hg : w.heap[g]? = some (.cells cur t0 (0, 0))) (hfit : o + size ≤ cur.size) (_hsz : 0 < size) (hk : k = 1) :
    (Builtin.clear_ #[t] ty #[.slice (some ⟨g, o, none⟩) k c]).run P w = .ok (.tuple #[]) (w.setRow g (cur.toList.take o ++ z.cells.toList ++ cur.toList.drop (o + z.cells.toList.length)).toArray) := by
  subst hk
  have hzc : (Builtin.zeroCells z.cells 1).toList = z.cells.toList := by
    apply List.ext_getElem?
    intro j
    simp only [Builtin.zeroCells, Array.getElem?_toList, Array.getElem?_map, Nat.one_mul]
    by_cases hj : j < z.cells.size
    · simp [hj, Nat.mod_eq_of_lt hj]
    · simp [hj]
  have hst := run_storeCells_at P g o t0 z.cells.toList 0 cur w hg (by simp only [Array.length_toList, Nat.add_zero]; omega) hz1
  simp only [Nat.add_zero] at hst
  simp [Builtin.clear_, run_underlying ht, zeroValue, typeInfo, hi, hz, hzc, hst]
theorem stp_append {P : Program} {ops : Array Oper} {o : Oper} {a : Act} {w : World} {K : Act → World → Prop} {Q : Exit → Act → World → Prop} {E : Prop}
    (hg : o.guard = none) (d x : Operand) (dT sT : TypeId) (hop : o.op = Op.call { callee := Callee.builtin Builtin.append, args := #[d, x], argTypes := #[dT, sT] })
    (v u : Value) (hd : a.eval d = v) (hx : a.eval x = u) {v' : Value} {w' : World} (hr : (Builtin.append_ #[dT, sT] o.type #[v, u]).run P w = .ok v' w') (hK : K (a.put o.dst v') w') :
    if Region.wanted o (yielded ops a.tmps) = true then Oper.wp P o a w K Q else E := by
  have hw : Region.wanted o (yielded ops a.tmps) = true := by simp [Region.wanted, hg]
  rw [if_pos hw]
  unfold Oper.wp
  simp [execOp, hop, resolve, invoke, builtin, hd, hx, hr, Result.andThen]
  exact hK
theorem row_del (cur xs Z : List Value) (m i size : Nat) (hi : i ≤ m) (hx : xs.length = (m + 1) * size) (hZ : Z.length = size) (hc : (m + 1) * size ≤ cur.length) (ht : cur.take ((m + 1) * size) = xs) :
    let c1 := cur.take (i * size) ++ xs.drop ((i + 1) * size) ++ cur.drop (i * size + (xs.drop ((i + 1) * size)).length)
    let c2 := c1.take (m * size) ++ Z ++ c1.drop (m * size + Z.length)
    c1.length = cur.length ∧ c2.length = cur.length ∧ c2.take (m * size) = xs.take (i * size) ++ xs.drop ((i + 1) * size) := by
  have e1 : (i + 1) * size = i * size + size := by rw [Nat.add_mul, Nat.one_mul]
  have e2 : (m + 1) * size = m * size + size := by rw [Nat.add_mul, Nat.one_mul]
  have hle : i * size ≤ m * size := Nat.mul_le_mul_right _ hi
  rw [e2] at hc hx ht
  rw [e1]
  generalize i * size = p at *
  generalize m * size = q at *
  have hpx : xs.take p = cur.take p := by rw [← ht, List.take_take]; congr 1; omega
  intro c1 c2
  have l1 : c1.length = cur.length := by
    show (cur.take p ++ xs.drop (p + size) ++ cur.drop (p + (xs.drop (p + size)).length)).length = _
    simp only [List.length_append, List.length_take, List.length_drop]; omega
  have hc1p : c1.take q = cur.take p ++ xs.drop (p + size) := by
    show (cur.take p ++ xs.drop (p + size) ++ cur.drop (p + (xs.drop (p + size)).length)).take q = _
    rw [List.take_append_of_le_length (by simp only [List.length_append, List.length_take, List.length_drop]; omega), List.take_of_length_le (by simp only [List.length_append, List.length_take, List.length_drop]; omega)]
  refine ⟨l1, ?_, ?_⟩
  · show (c1.take q ++ Z ++ c1.drop (q + Z.length)).length = _
    simp only [List.length_append, List.length_take, List.length_drop]; omega
  · show (c1.take q ++ Z ++ c1.drop (q + Z.length)).take q = _
    rw [List.append_assoc, List.take_append_of_le_length (by simp only [List.length_take]; omega), List.take_take, Nat.min_self, hc1p, hpx]
/-- append to a row of one's own: in place, or into a new row, and then all that was there stands as it stood -/
theorem run_append_own2 {P : Program} (w : World) (base : Nat) (t ty e : TypeId) (i : TypeInfo) (z : Value) (size bytes : Nat) (ht : P.underlying t = some (.slice e)) (hi : P.info? e = some i) (hz : i.zero = some z) (hsize : i.size = size) (hby : i.bytes = bytes) (hzs : z.cells.size = size) (hsz : 0 < size)
    (v : Value) (n : Nat) (xs : List Value) (hown : w.ownsRow base e size v n xs) (a : Addr) (m c : Nat) (news : List Value) (hl : news.length = m * size) (hnews : ∀ j u, news[j]? = some u → w.cell? (a.add j) = some u) (h1 : ∀ u ∈ news, u.oneCell' = true)
    (h63 : n + m ≤ maxLen) (hbytes : (n + m) * bytes ≤ 140737488355328) (hbase : base ≤ w.heap.size) :
    ∃ v' w', (Builtin.append_ #[t, t] ty #[v, .slice (some a) m c]).run P w = .ok v' w' ∧ w'.ownsRow base e size v' (n + m) (xs ++ news) ∧ ((v'.ownBlock = v.ownBlock ∧ w.grownBy w' v.ownBlock) ∨ (v'.ownBlock = some w.heap.size ∧ w.grownBy w' none)) := by
  obtain ⟨v', w', hr, h2, h3, _, h5⟩ := run_append_own_at (P := P) w base t ty e i z size bytes ht hi hz hsize hby hzs hsz v n xs hown a m c news hl hnews h1 h63 hbytes hbase
  refine ⟨v', w', hr, h2, ?_⟩
  have hown' := hown
  obtain ⟨hxl, ho⟩ := hown
  rcases ho with ⟨rfl, rfl⟩ | ⟨g, cap, cur, rfl, hg, hh, hn, hcm, hs, htk⟩
  · have e0 : (Value.slice none 0 0).ownBlock = none := rfl
    rw [e0] at h3 h5 ⊢
    rcases h5 with h5 | h5
    · exact .inl ⟨h5, h3⟩
    · exact .inr ⟨h5, h3⟩
  · by_cases hroom : n + m ≤ cap
    · have hrun := run_appN (P := P) w t ty e i size g n cap a m c cur e news ht hi hsize hh hl hnews h1 hroom (by
        rw [hl, hs, ← Nat.add_mul]; exact Nat.mul_le_mul_right _ hroom)
      rw [hr] at hrun
      injection hrun with e1 e2
      subst e1
      exact .inl ⟨rfl, h3⟩
    · unfold maxLen at h63
      have hold : (Builtin.firstCells i.size n (.slice (some ⟨g, 0, none⟩) n cap)).run P w.drew = .ok xs.toArray w.drew := by
        rw [hsize]
        refine run_firstCells_some w.drew size n ⟨g, 0, none⟩ n cap xs hxl (fun j u hj => ?_)
        rw [addr_lit, Nat.zero_add]
        rw [← htk, List.getElem?_take] at hj
        split at hj
        · show w.cell? _ = _
          simp only [World.cell?, hh]; simpa using hj
        · cases hj
      have hsrc : Src P i.size t (.slice (some a) m c) m news w := by
        rw [hsize]; exact Src.ofSlice w ht a m c news hl hnews h1
      have hrun := run_append_grow_src (P := P) w t t ty e i z ht hi hz (some ⟨g, 0, none⟩) n cap xs hold (.slice (some a) m c) m news hsrc (by omega) (by omega) (by rw [hby]; exact growslice_fits (by omega) hbytes)
      rw [hr] at hrun
      injection hrun with e1 e2
      subst e1 e2
      refine .inr ⟨rfl, ⟨rfl, rfl, rfl, by simp, fun k hk _ => ?_⟩⟩
      exact heap_alloc_old w.drew _ hk
theorem wpl_app3 {P : Program} (w : World) {ops : Array Oper} {rest : List Oper} {o : Oper} {a : Act} {Q : Exit → Act → World → Prop}
    (hg : o.guard = none) (s x : Operand) (t : TypeId) (hop : o.op = Op.call { callee := Callee.builtin Builtin.append, args := #[s, x], argTypes := #[t, t] })
    (base : Nat) (e : TypeId) (z : Value) (size bytes : Nat) (h1 : P.underlying t = some (.slice e)) (h2 : (P.info? e).map (fun i => (i.zero, i.size, i.bytes)) = some (some z, size, bytes)) (h6 : z.cells.size = size) (h7 : 0 < size)
    {v : Value} {n : Nat} {xs : List Value} (hown : w.ownsRow base e size v n xs) (ad : Addr) (m c : Nat) (news : List Value) (hn : news.length = m * size)
    (hc : ∀ j u, news[j]? = some u → w.cell? (ad.add j) = some u) (hs : a.eval s = v)
    (hx : a.eval x = .slice (some ad) m c) (h1c : ∀ u ∈ news, u.oneCell' = true) (b1 : n + m ≤ maxLen) (b2 : (n + m) * bytes ≤ 140737488355328) (hB : base ≤ w.heap.size)
    (hK : ∀ v' w', w'.ownsRow base e size v' (n + m) (xs ++ news) → ((v'.ownBlock = v.ownBlock ∧ w.grownBy w' v.ownBlock) ∨ (v'.ownBlock = some w.heap.size ∧ w.grownBy w' none)) → wpList P ops Q rest (a.put o.dst v') w') :
    wpList P ops Q (o :: rest) a w := by
  obtain ⟨i0, hi, hz0, hz1, hz2⟩ := info_parts h2
  obtain ⟨v', w', hr, h3, h4⟩ := run_append_own2 (P := P) w base t o.type e i0 z size bytes h1 hi hz0 hz1 hz2 h6 h7 v n xs hown ad m c news hn hc h1c b1 b2 hB
  exact Lib.wpList_append_run w hg s x t t hop v (.slice (some ad) m c) hs hx v' w' hr (hK v' w' h3 h4)
end Go.Proofs.YtolgebdmffcemaaGreatDoor
