/-
  What Go's slices.Insert makes of a row of its caller's own (strings): one element more, at its place.
  What Go's slices.Delete makes of a row of its caller's own (strings): one element less.
-/
import Derived.Test.YtolgebdmffcemaaGreatDoorPart12
import Derived.Test.YtolgebdmffcemaaGreatDoorPart02
import Derived.Test.YtolgebdmffcemaaGreatDoorPart13
set_option linter.unusedVariables false
namespace Go.Proofs.YtolgebdmffcemaaGreatDoor
open Go.RowKit
set_option maxHeartbeats 1600000 in
set_option maxRecDepth 1000000 in
theorem s_InsS_end (v : Value) (n vb base : Nat) (xs : List Value) (C : Array Value) (w : World) (hown : w.ownsRow base 9 1 v n xs) (hB : base ≤ w.heap.size) (hl : n ≤ 1000000)
    (hbox : w.heap[vb]? = some (.cells C 9 (0, 0))) (hC : C.size = 1) (h1c : ∀ u ∈ C.toList, u.oneCell' = true) :
    Calls Tryz.prog 149 #[v, .int .i64 (n : Int), .slice (some ⟨vb, 0, none⟩) 1 1] w fun e w' => ∃ v', e = .returned v' ∧ w'.ownsRow base 9 1 v' (n + 1) (xs ++ C.toList) ∧ w.grownBy w' v.ownBlock ∧ (∀ g, v'.ownBlock = some g → v.ownBlock = some g ∨ w.heap.size ≤ g) := by
  have hcl : C.toList.length = 1 * 1 := by simpa using hC
  have hbc : ∀ j u, C.toList[j]? = some u → w.cell? ((⟨vb, 0, none⟩ : Addr).add j) = some u := fun j u hu => by
    rw [addr_lit, Nat.zero_add]; simp only [World.cell?, hbox]; simpa using hu
  obtain ⟨a, cap, hv, h1, h2, h3, _⟩ := owns_form hown
  subst hv
  unfold maxLen at h2
  clear hbox
  cases a with
  | none =>
    obtain ⟨hn0, hc0⟩ := h3 rfl
    subst hn0 hc0
    go_enter Tryz.func149, Tryz.ntmps149
    go_wp2_with (at_builtin; go_loud (refine wpl_app2 _ (by rfl) _ _ 45 45 _ (by rfl) base 9 (Value.string ⟨#[]⟩) 1 16 Tryz.underlying45 Tryz.underlying45 Tryz.info9 (by rfl) (by decide) hown ⟨vb, 0, none⟩ 1 1 C.toList hcl hbc (by rfl) (by rfl) h1c (by unfold maxLen; omega) (by omega) hB ?_))
    intro v' w1 ho hgr hlies
    go_wp2
    go_ret
    exact ⟨_, rfl, ho, hgr, hlies⟩
  | some ad =>
    go_enter Tryz.func149, Tryz.ntmps149
    go_wp2_with (at_builtin; go_loud (refine wpl_app2 _ (by rfl) _ _ 45 45 _ (by rfl) base 9 (Value.string ⟨#[]⟩) 1 16 Tryz.underlying45 Tryz.underlying45 Tryz.info9 (by rfl) (by decide) hown ⟨vb, 0, none⟩ 1 1 C.toList hcl hbc (by rfl) (by rfl) h1c (by unfold maxLen; omega) (by omega) hB ?_))
    all_goals
      intro v' w1 ho hgr hlies
      go_wp2
      go_ret
      exact ⟨_, rfl, ho, hgr, hlies⟩
set_option maxHeartbeats 3200000 in
set_option maxRecDepth 1000000 in
theorem s_InsS_room (g n cap i vb base : Nat) (xs : List Value) (C cur : Array Value) (w : World) (hi : i < n) (hg : w.heap[g]? = some (.cells cur 9 (0, 0))) (hbg : base ≤ g) (hcap : n + 1 ≤ cap) (hcm : cap ≤ 9223372036854775807) (hcs : cur.size = cap * 1) (hxs : cur.toList.take (n * 1) = xs)
    (hbox : w.heap[vb]? = some (.cells C 9 (0, 0))) (hC : C.size = 1) (hne : vb ≠ g) (h1x : ∀ u ∈ xs, u.oneCell' = true) (h1c : ∀ u ∈ C.toList, u.oneCell' = true) :
    Calls Tryz.prog 149 #[.slice (some ⟨g, 0, none⟩) n cap, .int .i64 (i : Int), .slice (some ⟨vb, 0, none⟩) 1 1] w fun e w' => ∃ v', e = .returned v' ∧ w'.ownsRow base 9 1 v' (n + 1) (xs.take (i * 1) ++ (C.toList ++ xs.drop (i * 1))) ∧ w.grownBy w' (some g) ∧ (∀ g', v'.ownBlock = some g' → some g = some g' ∨ w.heap.size ≤ g') := by
  have hcl : C.toList.length = 1 := by simpa using hC
  have hxl : xs.length = n * 1 := by rw [← hxs, List.length_take, Array.length_toList]; omega
  obtain ⟨r1, r2, r3⟩ := row_ins cur.toList xs C.toList n i 1 (by omega) hxl hcl (by rw [Array.length_toList, hcs]; omega) hxs
  have hgl : g < w.heap.size := (Array.getElem?_eq_some_iff.1 hg).1
  have hsz : (Tryz.prog.info? 9).map (·.size) = some 1 := by
    obtain ⟨i0, hi0, h0, h1, h2⟩ := info_parts Tryz.info9
    rw [hi0]; simp [h1]
  have hzz : ∀ w, (Go.sizeOf 9).run Tryz.prog w = .ok 1 w := fun w => by
    obtain ⟨i0, hi0, h0, h1, h2⟩ := info_parts Tryz.info9
    simp [Go.sizeOf, typeInfo, hi0, h1]
  have hov : ∀ lb cb, (callFunc 200 #[.slice (some ⟨vb, 0, none⟩) 1 1, .slice (some ⟨g, (i + 1) * 1, none⟩) lb cb]).run Tryz.prog w = .ok (.value (.bool false)) w := fun lb cb => by
    rw [run_callFunc_extern Tryz.func200 (by kernel_rfl) (by kernel_rfl) (by kernel_rfl) (e := Extern.SlicesOverlaps.overlaps #[45, 45] #[4]) (by kernel_rfl),
      Lib.run_overlaps_apart w 45 4 9 Tryz.underlying45 1 hzz ⟨vb, 0, none⟩ ⟨g, (i + 1) * 1, none⟩ 1 1 lb cb hne 9 9 C.size cur.size (by simp [World.shape?, hbox]) (by simp [World.shape?, hg]) (by rw [hcs]; omega) (by simp [World.frozen?, hbox]) (by simp [World.frozen?, hbox])]
    rfl
  have hcp1 : ∀ ty dc sc, (Builtin.copy_ #[45, 45] ty #[.slice (some ⟨g, (i + 1) * 1, none⟩) (n - i) dc, .slice (some ⟨g, i * 1, none⟩) (n + 1 - i) sc]).run Tryz.prog w.drew = .ok (goInt (Nat.min (n + 1 - i) (n - i))) (w.drew.setRow g (cur.toList.take ((i + 1) * 1) ++ xs.drop (i * 1) ++ cur.toList.drop ((i + 1) * 1 + (xs.drop (i * 1)).length)).toArray) := fun ty dc sc =>
    run_copyN w.drew _ _ ty 9 g ((i + 1) * 1) (n - i) dc 1 ⟨g, i * 1, none⟩ (n + 1 - i) sc cur 9 (xs.drop (i * 1)) Tryz.underlying45 hsz hg (by rw [List.length_drop, hxl]; simp only [Nat.min_def]; split <;> omega)
      (fun j u hj => by
        rw [addr_lit]
        rw [List.getElem?_drop, ← hxs, List.getElem?_take] at hj
        split at hj
        · show w.cell? _ = _
          simp only [World.cell?, hg]; simpa using hj
        · cases hj)
      (by rw [List.length_drop, hxl, hcs]; omega) (fun u hu => h1x u (List.mem_of_mem_drop hu))
  obtain ⟨c1, hc1⟩ : ∃ c1 : Array Value, c1 = (cur.toList.take ((i + 1) * 1) ++ xs.drop (i * 1) ++ cur.toList.drop ((i + 1) * 1 + (xs.drop (i * 1)).length)).toArray := ⟨_, rfl⟩
  rw [← hc1] at hcp1
  have hc1l : c1.toList = cur.toList.take ((i + 1) * 1) ++ xs.drop (i * 1) ++ cur.toList.drop ((i + 1) * 1 + (xs.drop (i * 1)).length) := by rw [hc1]
  rw [← hc1l] at r1 r2 r3
  have hcp2 : ∀ ty dc, (Builtin.copy_ #[45, 45] ty #[.slice (some ⟨g, i * 1, none⟩) (n + 1 - i) dc, .slice (some ⟨vb, 0, none⟩) 1 1]).run Tryz.prog (w.drew.setRow g c1) = .ok (goInt (Nat.min 1 (n + 1 - i))) ((w.drew.setRow g c1).setRow g (c1.toList.take (i * 1) ++ C.toList ++ c1.toList.drop (i * 1 + C.toList.length)).toArray) := fun ty dc =>
    run_copyN (w.drew.setRow g c1) _ _ ty 9 g (i * 1) (n + 1 - i) dc 1 ⟨vb, 0, none⟩ 1 1 c1 9 C.toList Tryz.underlying45 hsz (setRow_heap w.drew g cur c1 9 _ hg) (by rw [hcl]; simp only [Nat.min_def]; split <;> omega)
      (fun j u hj => by
        rw [addr_lit, Nat.zero_add, cell_setRow_other _ _ _ _ hne]
        show w.cell? _ = _
        simp only [World.cell?, hbox]; simpa using hj)
      (by rw [hcl, ← Array.length_toList, r1, Array.length_toList, hcs]; omega) h1c
  obtain ⟨c2, hc2⟩ : ∃ c2 : Array Value, c2 = (c1.toList.take (i * 1) ++ C.toList ++ c1.toList.drop (i * 1 + C.toList.length)).toArray := ⟨_, rfl⟩
  have hc2l : c2.toList = c1.toList.take (i * 1) ++ C.toList ++ c1.toList.drop (i * 1 + C.toList.length) := by rw [hc2]
  rw [← hc2l] at r2 r3
  rw [← hc2] at hcp2
  have hin : i ≤ n := by omega
  have hz2 : ¬ ((i : Int) = (n : Int)) := by omega
  have hb2 : ¬ (cap = i + 1) := by omega
  have hb4 : ¬ (cap = i) := by omega
  have hb3 : (i : Int) ≤ (n : Int) + 1 := by omega
  have htn : ((i : Int) + 1).toNat = i + 1 := by omega
  have hw1 : IntKind.i64.wrap ((i : Int) + 1) = (i : Int) + 1 := by rw [IntKind.wrap_i64]; omega
  have hb1 : (0 : Int) ≤ (i : Int) + 1 := by omega
  have FIN : Hid (((w.drew.setRow g c1).setRow g c2).ownsRow base 9 1 (.slice (some ⟨g, 0, none⟩) (n + 1) cap) (n + 1) (xs.take (i * 1) ++ (C.toList ++ xs.drop (i * 1))) ∧ w.grownBy ((w.drew.setRow g c1).setRow g c2) (some g)) := by
    refine ⟨⟨?_, .inr ⟨g, cap, c2, rfl, hbg, ?_, hcap, by unfold maxLen; omega, by rw [← Array.length_toList, r2, Array.length_toList, hcs], r3⟩⟩, ⟨rfl, rfl, rfl, by simp, fun k hk hkn => ?_⟩⟩
    · simp only [List.length_append, List.length_take, List.length_drop, hxl, hcl]; omega
    · exact setRow_heap _ g c1 c2 9 _ (setRow_heap w.drew g cur c1 9 _ hg)
    · rw [setRow_other _ _ _ _ (by rintro rfl; exact hkn rfl), setRow_other _ _ _ _ (by rintro rfl; exact hkn rfl)]; rfl
  clear hg hbox r1 r2 r3 hc1 hc1l hc2 hc2l h1x h1c hcs hxs hxl
  simp only [Nat.mul_one] at hov hcp1 hcp2
  go_enter Tryz.func149, Tryz.ntmps149
  go_wp2_with (simp only [hov])
  go_region_law (refine stp_copy (by rfl) _ _ 45 45 (by rfl) _ _ (by simp [Act.eval, Act.put]) (by simp [Act.eval, Act.put]) (hcp1 _ _ _) ?_)
  go_wp2_with (at_builtin; refine wpl_copy _ (by rfl) _ _ 45 45 (by rfl) _ _ (by rfl) (by rfl) (hcp2 _ _) ?_)
  go_ret
  exact ⟨_, rfl, FIN.out.1, FIN.out.2, fun g' e => .inl e⟩
theorem zeroNS (k : Nat) : (Builtin.zeroCells (Value.string ⟨#[]⟩).cells k).size = k * 1 := by simp [Builtin.zeroCells, Value.cells]
set_option maxHeartbeats 3200000 in
set_option maxRecDepth 1000000 in
theorem s_InsS_grow (g n cap i vb base : Nat) (xs : List Value) (C cur : Array Value) (w : World) (hi : i < n) (hg : w.heap[g]? = some (.cells cur 9 (0, 0))) (hB : base ≤ w.heap.size) (hnc : n ≤ cap) (hcap : cap < n + 1) (hl : n ≤ 1000000) (hcs : cur.size = cap * 1) (hxs : cur.toList.take (n * 1) = xs)
    (hbox : w.heap[vb]? = some (.cells C 9 (0, 0))) (hC : C.size = 1) (h1x : ∀ u ∈ xs, u.oneCell' = true) (h1c : ∀ u ∈ C.toList, u.oneCell' = true) :
    Calls Tryz.prog 149 #[.slice (some ⟨g, 0, none⟩) n cap, .int .i64 (i : Int), .slice (some ⟨vb, 0, none⟩) 1 1] w fun e w' => ∃ v', e = .returned v' ∧ w'.ownsRow base 9 1 v' (n + 1) (xs.take (i * 1) ++ (C.toList ++ xs.drop (i * 1))) ∧ w.grownBy w' (some g) ∧ (∀ g', v'.ownBlock = some g' → some g = some g' ∨ w.heap.size ≤ g') := by
  have hcl : C.toList.length = 1 := by simpa using hC
  have hxl : xs.length = n * 1 := by rw [← hxs, List.length_take, Array.length_toList]; omega
  have hgl : g < w.heap.size := (Array.getElem?_eq_some_iff.1 hg).1
  have hvl : vb < w.heap.size := (Array.getElem?_eq_some_iff.1 hbox).1
  obtain ⟨i0, hi0, hz0, hz1, hz2⟩ := info_parts Tryz.info9
  have hsz : (Tryz.prog.info? 9).map (·.size) = some 1 := by rw [hi0]; simp [hz1]
  have hkk : (n : Int) + 1 - (i : Int) = ((n + 1 - i : Nat) : Int) := by omega
  have hik : i + (n + 1 - i) = n + 1 := by omega
  have hxc : ∀ j u, xs[j]? = some u → w.cell? ⟨g, j, none⟩ = some u := fun j u hj => by
    rw [← hxs, List.getElem?_take] at hj
    split at hj
    · simp only [World.cell?, hg]; simpa using hj
    · cases hj
  have hold : (Builtin.firstCells i0.size i (.slice (some ⟨g, 0, none⟩) i cap)).run Tryz.prog w.drew = .ok (xs.take (i * 1)).toArray w.drew := by
    rw [hz1]
    exact run_firstCells_some w.drew 1 i ⟨g, 0, none⟩ i cap (xs.take (i * 1)) (by rw [List.length_take]; omega) (fun j u hj => by
      rw [addr_lit, Nat.zero_add]
      rw [List.getElem?_take] at hj
      split at hj
      · exact hxc j u hj
      · cases hj)
  obtain ⟨G, hG⟩ : ∃ G, G = grownCap w (n + 1) cap 9 := ⟨_, rfl⟩
  have hGn : n + 1 ≤ G := by rw [hG]; exact grownCap_ge w _ _ _
  have hG63 : G ≤ 9223372036854775807 := by
    have := grownCap_le_maxLen w (n + 1) cap 9 (by unfold maxLen; omega)
    rw [← hG] at this; unfold maxLen at this; omega
  obtain ⟨ROW, hROW⟩ : ∃ ROW : Array Value, ROW = (xs.take (i * 1)).toArray ++ Builtin.zeroCells (Value.string ⟨#[]⟩).cells (n + 1 - i) ++ Builtin.zeroCells (Value.string ⟨#[]⟩).cells (G - (n + 1)) := ⟨_, rfl⟩
  have hrz : ∀ ty, (Builtin.append_ #[45, 3] ty #[.slice (some ⟨g, 0, none⟩) i cap, .int .i64 ((n : Int) + 1 - (i : Int))]).run Tryz.prog w = .ok (.slice (some ⟨w.heap.size, 0, none⟩) (n + 1) G) (w.drew.alloc (.cells ROW 9)) := fun ty => by
    have h := Lib.run_append_grow_zeros w 45 3 ty 9 i0 (Value.string ⟨#[]⟩) .i64 .i64 Tryz.underlying45 Tryz.underlying3 hi0 hz0 (some ⟨g, 0, none⟩) i cap (xs.take (i * 1)) hold (n + 1 - i) (by omega) (by omega) (by omega) (by omega) (by rw [hz2]; omega) (by rw [hz2, hik]; exact growslice_fits hcap (by omega))
    rw [hik, ← hG, ← hROW] at h
    rw [hkk]
    exact h
  have hRl : ROW.size = G * 1 := by
    rw [hROW]
    simp only [Array.size_append, zeroNS, List.size_toArray, List.length_take, hxl]
    omega
  have hRt : ROW.toList.take (i * 1) = xs.take (i * 1) := by
    rw [hROW]
    simp only [Array.toList_append, List.append_assoc]
    rw [List.take_append_of_le_length (by simp only [List.length_take, hxl]; omega), List.take_of_length_le (by simp only [List.length_take, hxl]; omega)]
  obtain ⟨r1, r2, r3⟩ := row_new ROW.toList xs C.toList n i 1 (by omega) hxl hcl (by rw [Array.length_toList, hRl]; omega) hRt
  obtain ⟨c1, hc1⟩ : ∃ c1 : Array Value, c1 = (ROW.toList.take (i * 1) ++ C.toList ++ ROW.toList.drop (i * 1 + C.toList.length)).toArray := ⟨_, rfl⟩
  have hc1l : c1.toList = ROW.toList.take (i * 1) ++ C.toList ++ ROW.toList.drop (i * 1 + C.toList.length) := by rw [hc1]
  rw [← hc1l] at r1 r2 r3
  obtain ⟨c2, hc2⟩ : ∃ c2 : Array Value, c2 = (c1.toList.take ((i + 1) * 1) ++ xs.drop (i * 1) ++ c1.toList.drop ((i + 1) * 1 + (xs.drop (i * 1)).length)).toArray := ⟨_, rfl⟩
  have hc2l : c2.toList = c1.toList.take ((i + 1) * 1) ++ xs.drop (i * 1) ++ c1.toList.drop ((i + 1) * 1 + (xs.drop (i * 1)).length) := by rw [hc2]
  rw [← hc2l] at r2 r3
  have hA0 : (w.alloc (.cells ROW 9)).heap[w.heap.size]? = some (.cells ROW 9 (0, 0)) := heap_alloc_new w _
  have hcpA : ∀ W : World, W.heap = (w.alloc (.cells ROW 9)).heap → ∀ ty dc, (Builtin.copy_ #[45, 45] ty #[.slice (some ⟨w.heap.size, i * 1, none⟩) (n + 1 - i) dc, .slice (some ⟨vb, 0, none⟩) 1 1]).run Tryz.prog W = .ok (goInt (Nat.min 1 (n + 1 - i))) (W.setRow w.heap.size c1) := fun W hW ty dc => by
    have h := run_copyN (P := Tryz.prog) W 45 45 ty 9 w.heap.size (i * 1) (n + 1 - i) dc 1 ⟨vb, 0, none⟩ 1 1 ROW 9 C.toList Tryz.underlying45 hsz (by rw [hW]; exact hA0) (by rw [hcl]; simp only [Nat.min_def]; split <;> omega)
      (fun j u hj => by
        rw [addr_lit, Nat.zero_add]
        simp only [World.cell?, hW]
        rw [heap_alloc_old w _ hvl, hbox]
        simpa using hj)
      (by rw [hcl, hRl]; omega) h1c
    rw [← hc1] at h
    exact h
  have hcpB : ∀ W : World, W.heap = ((w.alloc (.cells ROW 9)).setRow w.heap.size c1).heap → ∀ ty dc sc, (Builtin.copy_ #[45, 45] ty #[.slice (some ⟨w.heap.size, (i + 1) * 1, none⟩) (n - i) dc, .slice (some ⟨g, i * 1, none⟩) (n - i) sc]).run Tryz.prog W = .ok (goInt (Nat.min (n - i) (n - i))) (W.setRow w.heap.size c2) := fun W hW ty dc sc => by
    have h := run_copyN (P := Tryz.prog) W 45 45 ty 9 w.heap.size ((i + 1) * 1) (n - i) dc 1 ⟨g, i * 1, none⟩ (n - i) sc c1 9 (xs.drop (i * 1)) Tryz.underlying45 hsz (by rw [hW]; exact setRow_heap _ _ ROW c1 9 _ hA0) (by rw [List.length_drop, hxl]; simp only [Nat.min_def]; split <;> omega)
      (fun j u hj => by
        rw [addr_lit]
        simp only [World.cell?, hW]
        rw [setRow_other _ _ _ _ (by omega), heap_alloc_old w _ hgl]
        rw [List.getElem?_drop] at hj
        have := hxc _ _ hj
        simp only [World.cell?] at this
        exact this)
      (by rw [List.length_drop, hxl, ← Array.length_toList, r1, Array.length_toList, hRl]; omega) (fun u hu => h1x u (List.mem_of_mem_drop hu))
    rw [← hc2] at h
    exact h
  have FIN : ∀ W : World, W.heap = (((w.alloc (.cells ROW 9)).setRow w.heap.size c1).setRow w.heap.size c2).heap → W.os = w.os → W.tape = w.tape → W.output = w.output → (W.ownsRow base 9 1 (.slice (some ⟨w.heap.size, 0, none⟩) (n + 1) G) (n + 1) (xs.take (i * 1) ++ (C.toList ++ xs.drop (i * 1))) ∧ w.grownBy W (some g)) := by
    intro W hW e1 e2 e3
    refine ⟨⟨?_, .inr ⟨w.heap.size, G, c2, rfl, hB, ?_, hGn, by unfold maxLen; omega, by rw [← Array.length_toList, r2, Array.length_toList, hRl], r3⟩⟩, ⟨e1, e2, e3, by rw [hW]; simp, fun k hk hkn => ?_⟩⟩
    · simp only [List.length_append, List.length_take, List.length_drop, hxl, hcl]; omega
    · rw [hW]; exact setRow_heap _ _ c1 c2 9 _ (setRow_heap _ _ ROW c1 9 _ hA0)
    · rw [hW, setRow_other _ _ _ _ (by omega), setRow_other _ _ _ _ (by omega)]; exact heap_alloc_old w _ hk
  have hcpA2 := hcpA (w.alloc (.cells ROW 9)).drew rfl
  have hcpB2 := hcpB ((w.alloc (.cells ROW 9)).drew.setRow w.heap.size c1).drew rfl
  clear hcpA hcpB
  have hin : i ≤ n := by omega
  have hz2 : ¬ ((i : Int) = (n : Int)) := by omega
  have hz3 : (cap : Int) < (n : Int) + 1 := by omega
  have hGi : ¬ (G = i) := by omega
  have hGim : ¬ (G = i + 1) := by omega
  have hci : ¬ (cap = i) := by omega
  have htn : ((i : Int) + 1).toNat = i + 1 := by omega
  have hw1 : IntKind.i64.wrap ((i : Int) + 1) = (i : Int) + 1 := by rw [IntKind.wrap_i64]; omega
  have hb1 : (0 : Int) ≤ (i : Int) + 1 := by omega
  have hb3 : (i : Int) ≤ (n : Int) := by omega
  have HF : Hid (∀ W : World, W.heap = (((w.alloc (.cells ROW 9)).setRow w.heap.size c1).setRow w.heap.size c2).heap → W.os = w.os → W.tape = w.tape → W.output = w.output → (W.ownsRow base 9 1 (.slice (some ⟨w.heap.size, 0, none⟩) (n + 1) G) (n + 1) (xs.take (i * 1) ++ (C.toList ++ xs.drop (i * 1))) ∧ w.grownBy W (some g))) := FIN
  clear hg hbox r1 r2 r3 hc1 hc1l hc2 hc2l h1x h1c hcs hxs hxl hkk hik hold hROW hG hRl hRt hA0 hxc FIN hz0 hz1
  simp only [Nat.mul_one] at hcpA2 hcpB2
  go_enter Tryz.func149, Tryz.ntmps149
  go_wp2_with (first
    | (at_builtin; refine Lib.wpList_append_run _ (by rfl) _ _ _ _ (by rfl) _ _ (by rfl) (by rfl) _ _ (hrz _) ?_)
    | (simp only [hcpA2]))
  go_region_law (refine stp_copy (by rfl) _ _ 45 45 (by rfl) _ _ (by simp [Act.eval, Act.put]) (by simp [Act.eval, Act.put]) (hcpB2 _ _ _) ?_)
  go_wp2
  go_ret
  exact ⟨_, rfl, (HF.out _ (by rfl) (by rfl) (by rfl) (by rfl)).1, (HF.out _ (by rfl) (by rfl) (by rfl) (by rfl)).2, fun g' e => .inr (by simp [Value.ownBlock] at e; omega)⟩
/-- one element more, at place i -/
theorem s_InsS (v : Value) (n i vb base : Nat) (xs : List Value) (C : Array Value) (w : World) (hown : w.ownsRow base 9 1 v n xs) (hB : base ≤ w.heap.size) (hi : i ≤ n) (hl : n ≤ 1000000)
    (hbox : w.heap[vb]? = some (.cells C 9 (0, 0))) (hC : C.size = 1) (hne : v.ownBlock ≠ some vb) (h1x : ∀ u ∈ xs, u.oneCell' = true) (h1c : ∀ u ∈ C.toList, u.oneCell' = true) :
    Calls Tryz.prog 149 #[v, .int .i64 (i : Int), .slice (some ⟨vb, 0, none⟩) 1 1] w fun e w' => ∃ v', e = .returned v' ∧ w'.ownsRow base 9 1 v' (n + 1) (xs.take (i * 1) ++ (C.toList ++ xs.drop (i * 1))) ∧ w.grownBy w' v.ownBlock ∧ (∀ g, v'.ownBlock = some g → v.ownBlock = some g ∨ w.heap.size ≤ g) := by
  by_cases hin : i = n
  · subst hin
    have htk : xs.take (i * 1) = xs := List.take_of_length_le (by rw [hown.1]; exact Nat.le_refl _)
    have hdr : xs.drop (i * 1) = [] := List.drop_eq_nil_of_le (by rw [hown.1]; exact Nat.le_refl _)
    rw [htk, hdr, List.append_nil]
    exact s_InsS_end v i vb base xs C w hown hB hl hbox hC h1c
  · obtain ⟨h1, h2⟩ := hown
    rcases h2 with ⟨rfl, rfl⟩ | ⟨g, cap, cur, rfl, hb, hg, hn, hcm, hs, ht⟩
    · omega
    · have hvg : vb ≠ g := fun e => hne (by rw [e]; rfl)
      unfold maxLen at hcm
      by_cases hr : n + 1 ≤ cap
      · exact s_InsS_room g n cap i vb base xs C cur w (by omega) hg hb hr (by omega) hs ht hbox hC hvg h1x h1c
      · exact s_InsS_grow g n cap i vb base xs C cur w (by omega) hg hB hn (by omega) hl hs ht hbox hC h1x h1c
end Go.Proofs.YtolgebdmffcemaaGreatDoor
namespace Go.Proofs.YtolgebdmffcemaaGreatDoor
open Go.RowKit
set_option maxHeartbeats 3200000 in
set_option maxRecDepth 1000000 in
theorem s_DelS_at (g m cap i base : Nat) (xs : List Value) (cur : Array Value) (w : World) (hi : i ≤ m) (hg : w.heap[g]? = some (.cells cur 9 (0, 0))) (hbg : base ≤ g) (hcap : m + 1 ≤ cap) (hcm : cap ≤ 9223372036854775807) (hcs : cur.size = cap * 1) (hxs : cur.toList.take ((m + 1) * 1) = xs)
    (h1x : ∀ u ∈ xs, u.oneCell' = true) :
    Calls Tryz.prog 151 #[.slice (some ⟨g, 0, none⟩) (m + 1) cap, .int .i64 (i : Int), .int .i64 ((i : Int) + 1)] w fun e w' => ∃ v', e = .returned v' ∧ w'.ownsRow base 9 1 v' m (xs.take (i * 1) ++ xs.drop ((i + 1) * 1)) ∧ w.grownBy w' (some g) ∧ (∀ g', v'.ownBlock = some g' → some g = some g' ∨ w.heap.size ≤ g') := by
  have hxl : xs.length = (m + 1) * 1 := by rw [← hxs, List.length_take, Array.length_toList]; omega
  obtain ⟨i0, hi0, hz0, hz1, hz2⟩ := info_parts Tryz.info9
  have hZ1 : ∀ v ∈ (Value.string ⟨#[]⟩).cells.toList, v.oneCell' = true := by
    intro v hv; simp [Value.cells] at hv; rw [hv]; rfl
  have hZs : (Value.string ⟨#[]⟩).cells.toList.length = 1 := by simp [Value.cells]
  obtain ⟨r1, r2, r3⟩ := row_del cur.toList xs (Value.string ⟨#[]⟩).cells.toList m i 1 hi hxl hZs (by rw [Array.length_toList, hcs]; omega) hxs
  have hxc : ∀ j u, xs[j]? = some u → w.cell? ⟨g, j, none⟩ = some u := fun j u hj => by
    rw [← hxs, List.getElem?_take] at hj
    split at hj
    · simp only [World.cell?, hg]; simpa using hj
    · cases hj
  obtain ⟨A, hA, hsrc⟩ : ∃ A : Addr, (if cap = i + 1 then some (⟨g, 0, none⟩ : Addr) else some ⟨g, (i + 1) * 1, none⟩) = some A ∧ ∀ j u, (xs.drop ((i + 1) * 1))[j]? = some u → w.cell? (A.add j) = some u := by
    by_cases h : cap = i + 1
    · refine ⟨⟨g, 0, none⟩, by simp [h], fun j u hu => ?_⟩
      rw [List.drop_eq_nil_of_le (by rw [hxl]; omega)] at hu
      simp at hu
    · refine ⟨⟨g, (i + 1) * 1, none⟩, by simp [h], fun j u hu => ?_⟩
      rw [addr_lit]; rw [List.getElem?_drop] at hu; exact hxc _ _ hu
  obtain ⟨c1, hc1⟩ : ∃ c1 : Array Value, c1 = (cur.toList.take (i * 1) ++ xs.drop ((i + 1) * 1) ++ cur.toList.drop (i * 1 + (xs.drop ((i + 1) * 1)).length)).toArray := ⟨_, rfl⟩
  have hc1l : c1.toList = cur.toList.take (i * 1) ++ xs.drop ((i + 1) * 1) ++ cur.toList.drop (i * 1 + (xs.drop ((i + 1) * 1)).length) := by rw [hc1]
  rw [← hc1l] at r1 r2 r3
  obtain ⟨c2, hc2⟩ : ∃ c2 : Array Value, c2 = (c1.toList.take (m * 1) ++ (Value.string ⟨#[]⟩).cells.toList ++ c1.toList.drop (m * 1 + (Value.string ⟨#[]⟩).cells.toList.length)).toArray := ⟨_, rfl⟩
  have hc2l : c2.toList = c1.toList.take (m * 1) ++ (Value.string ⟨#[]⟩).cells.toList ++ c1.toList.drop (m * 1 + (Value.string ⟨#[]⟩).cells.toList.length) := by rw [hc2]
  rw [← hc2l] at r2 r3
  have hap : ∀ ty dc, (Builtin.append_ #[45, 45] ty #[.slice (some ⟨g, 0, none⟩) i cap, .slice (some A) (m - i) dc]).run Tryz.prog w.drew = .ok (.slice (some ⟨g, 0, none⟩) (i + (m - i)) cap) (w.drew.setRow g c1) := fun ty dc => by
    have h := run_appN (P := Tryz.prog) w.drew 45 ty 9 i0 1 g i cap A (m - i) dc cur 9 (xs.drop ((i + 1) * 1)) Tryz.underlying45 hi0 hz1 hg (by rw [List.length_drop, hxl]; omega) hsrc (fun u hu => h1x u (List.mem_of_mem_drop hu)) (by omega) (by rw [List.length_drop, hxl, hcs]; omega)
    rw [← hc1] at h
    exact h
  have hcr : ∀ ty dc, (Builtin.clear_ #[45] ty #[.slice (some ⟨g, m * 1, none⟩) 1 dc]).run Tryz.prog (w.drew.setRow g c1) = .ok (.tuple #[]) ((w.drew.setRow g c1).setRow g c2) := fun ty dc => by
    have h := run_clearN (P := Tryz.prog) (w.drew.setRow g c1) 45 ty 9 i0 (Value.string ⟨#[]⟩) 1 g (m * 1) 1 dc c1 9 Tryz.underlying45 hi0 hz0 (by simpa using hZs) hZ1 (setRow_heap w.drew g cur c1 9 _ hg) (by rw [← Array.length_toList, r1, Array.length_toList, hcs]; omega) (by decide) rfl
    rw [← hc2] at h
    exact h
  have HF : Hid (((w.drew.setRow g c1).setRow g c2).ownsRow base 9 1 (.slice (some ⟨g, 0, none⟩) m cap) m (xs.take (i * 1) ++ xs.drop ((i + 1) * 1)) ∧ w.grownBy ((w.drew.setRow g c1).setRow g c2) (some g)) := by
    refine ⟨⟨?_, .inr ⟨g, cap, c2, rfl, hbg, ?_, by omega, by unfold maxLen; omega, by rw [← Array.length_toList, r2, Array.length_toList, hcs], r3⟩⟩, ⟨rfl, rfl, rfl, by simp, fun k hk hkn => ?_⟩⟩
    · simp only [List.length_append, List.length_take, List.length_drop, hxl]; omega
    · exact setRow_heap _ g c1 c2 9 _ (setRow_heap w.drew g cur c1 9 _ hg)
    · rw [setRow_other _ _ _ _ (by rintro rfl; exact hkn rfl), setRow_other _ _ _ _ (by rintro rfl; exact hkn rfl)]; rfl
  have hic : i ≤ cap := by omega
  have hn1 : ¬ ((i : Int) = (i : Int) + 1) := by omega
  have hw1 : IntKind.i64.wrap ((i : Int) + 1) = (i : Int) + 1 := by rw [IntKind.wrap_i64]; omega
  have htn : ((i : Int) + 1).toNat = i + 1 := by omega
  have hb1 : (0 : Int) ≤ (i : Int) + 1 := by omega
  have him : i + (m - i) = m := by omega
  have hcm1 : ¬ (cap = m) := by omega
  have hiI : (i : Int) ≤ (m : Int) := by omega
  rw [him] at hap
  clear hg r1 r2 r3 hc1 hc1l hc2 hc2l h1x hcs hxs hxl hxc hsrc hZ1 hZs hz0 hz1 hz2 hi0
  simp only [Nat.mul_one] at hap hcr hA
  go_enter Tryz.func151, Tryz.ntmps151
  go_wp2_with fail
  go_region_law (refine stp_append (by rfl) (.tmp 22) (.tmp 25) 45 45 (by rfl) (.slice (some ⟨g, 0, none⟩) i cap) (.slice (some A) (m - i) (cap - (i + 1))) (by simp [Act.eval, Act.put]) (by simp [Act.eval, Act.put]) (hap _ _) ?_)
  go_wp2_with (simp only [hcr])
  go_ret
  exact ⟨_, rfl, HF.out.1, HF.out.2, fun g' e => .inl e⟩
theorem s_DelS (v : Value) (n i base : Nat) (xs : List Value) (w : World) (hown : w.ownsRow base 9 1 v n xs) (hi : i < n) (h1x : ∀ u ∈ xs, u.oneCell' = true) :
    Calls Tryz.prog 151 #[v, .int .i64 (i : Int), .int .i64 ((i : Int) + 1)] w fun e w' => ∃ v', e = .returned v' ∧ w'.ownsRow base 9 1 v' (n - 1) (xs.take (i * 1) ++ xs.drop ((i + 1) * 1)) ∧ w.grownBy w' v.ownBlock ∧ (∀ g, v'.ownBlock = some g → v.ownBlock = some g ∨ w.heap.size ≤ g) := by
  obtain ⟨h1, h2⟩ := hown
  rcases h2 with ⟨rfl, rfl⟩ | ⟨g, cap, cur, rfl, hb, hg, hn, hcm, hs, ht⟩
  · omega
  · unfold maxLen at hcm
    obtain ⟨m, rfl⟩ : ∃ m, n = m + 1 := ⟨n - 1, by omega⟩
    exact s_DelS_at g m cap i base xs cur w (by omega) hg hb hn (by omega) hs ht h1x
end Go.Proofs.YtolgebdmffcemaaGreatDoor
