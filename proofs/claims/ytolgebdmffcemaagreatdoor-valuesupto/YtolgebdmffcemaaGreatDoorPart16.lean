/-
  What Go's slices.Clone makes of a tree of the program: the same leaves in memory of its own.
  What Go's slices.Insert makes of a row of its caller's own (leaves of a tree): one element more, at its place.
  What Go's slices.Delete makes of a row of its caller's own (leaves of a tree): one element less.
  What Show of the document's answer (graftref) tells; how Drop takes a branch away.
-/
import Derived.Test.YtolgebdmffcemaaGreatDoorPart06
import Derived.Test.YtolgebdmffcemaaGreatDoorPart02
import Derived.Test.YtolgebdmffcemaaGreatDoorPart12
import Derived.Test.YtolgebdmffcemaaGreatDoorPart13
import Derived.Test.YtolgebdmffcemaaGreatDoorPart08
set_option linter.unusedVariables false
namespace Go.Proofs.YtolgebdmffcemaaGreatDoor
open Go.RowKit
theorem Tryz.info139 : (Tryz.prog.info? 139).map (fun i => (i.zero, i.size, i.bytes)) = some (some (.agg #[.string ⟨#[]⟩, .int .i64 0, .int .i64 0, .string ⟨#[]⟩, .slice none 0 0]), 5, 72) := by kernel_rfl
theorem cellsP_one {w : World} {M : Nat → Prop} (L : List (R.Leaf × Value)) (h : ∀ p ∈ L, It w M p) : ∀ u ∈ cellsP L, u.oneCell' = true := by
  intro u hu
  unfold cellsP PC at hu
  obtain ⟨p, hp, hu⟩ := List.mem_flatMap.1 hu
  obtain ⟨a, cap, e, _⟩ := h p hp
  simp only [List.mem_cons, List.not_mem_nil, or_false] at hu
  rcases hu with rfl | rfl | rfl | rfl | rfl
  · rfl
  · rfl
  · rfl
  · rfl
  · rw [e]; rfl
theorem eql_nil (t e : TypeId) (a : Option Addr) (n c : Nat) (h : Tryz.prog.underlying t = some (.slice e)) (w : World) : (binOp .eql t (.slice a n c) (.slice none 0 0)).run Tryz.prog w = .ok (.bool a.isNone) w := by
  simp only [binOp]
  simp [Op.equal, Op.maxDepth, Lib.run_equalIn_slice_nil w 9999 t e a n c 0 0 h]
set_option maxHeartbeats 800000 in
set_option maxRecDepth 1000000 in
theorem s_CloneLeaf (v : Value) (t : List R.Leaf) (w : World) (M : Nat → Prop) (h : PT w M v t) (hl : t.length ≤ 1000000) :
    Calls Tryz.prog 146 #[v] w fun e w' => ∃ L v', L.map (·.1) = t ∧ e = .returned v' ∧ w'.ownsRow w.heap.size 139 5 v' L.length (cellsP L) ∧ (∀ p ∈ L, It w M p) ∧ Below w.heap.size w w' := by
  obtain ⟨L, hL, ⟨a, cap, rfl, hn, hm, hc⟩, hI⟩ := h
  have HL := hL
  have hlen : L.length ≤ 1000000 := by rw [← hL, List.length_map] at hl; exact hl
  have hone := cellsP_one L hI
  have hnil := eql_nil 93 _ a L.length cap Tryz.underlying93
  cases a with
  | none =>
    simp only [Option.isNone_none] at hnil
    have h0 : L.length = 0 := by
      rcases Nat.eq_zero_or_pos L.length with h | h
      · exact h
      · obtain ⟨_, _, e, _⟩ := hc h; cases e
    have hLn : L = [] := List.eq_nil_of_length_eq_zero h0
    subst hLn
    simp only [List.length_nil] at hnil
    go_enter Tryz.func146, Tryz.ntmps146
    go_wp2
    go_ret
    exact ⟨[], _, hL, rfl, World.ownsRow_nil _ _ _ _, hI, Below.refl _ _⟩
  | some ad =>
    simp only [Option.isNone_some] at hnil
    have hcs : ∀ ad', some ad = some ad' → ∀ j u, (cellsP L)[j]? = some u → (w.alloc (.cells #[] 139)).cell? (ad'.add j) = some u := by
      intro ad' e j u hu
      simp only [Option.some.injEq] at e
      subst e
      have hpos : 0 < L.length := by
        rcases Nat.eq_zero_or_pos L.length with h | h
        · have hLn : L = [] := List.eq_nil_of_length_eq_zero h
          subst hLn; simp [cellsP] at hu
        · exact h
      obtain ⟨b, off, e, hb, _, hcell⟩ := hc hpos
      simp only [Option.some.injEq] at e
      subst e
      have hadd : (⟨b, off, none⟩ : Addr).add j = ⟨b, off + j, none⟩ := by unfold Addr.add; split <;> simp_all
      rw [hadd, World.cell?_alloc_past _ _ _ hb]
      exact hcell j u hu
    unfold maxLen at hm
    clear hc
    go_enter Tryz.func146, Tryz.ntmps146
    go_wp2_with (at_builtin; go_loud (refine wp_app_src _ rfl _ _ 93 rfl w.heap.size 139 (.agg #[.string ⟨#[]⟩, .int .i64 0, .int .i64 0, .string ⟨#[]⟩, .slice none 0 0]) 5 72 Tryz.underlying93 Tryz.info139 rfl (by decide) (World.ownsRow_made (base := w.heap.size) (e := 139) (size := 5) w #[] 0 (Nat.le_refl _) (by unfold maxLen; omega) rfl) (some ad) L.length cap (cellsP L) (cellsP_length L) (fun e => by cases e) hcs (by rfl) (by rfl) hone (by unfold maxLen; omega) (by omega) (by simp) ?_))
    intro v' w1 ho hgr
    go_wp2
    go_ret
    refine ⟨L, _, hL, rfl, by simpa using ho, hI, ?_⟩
    exact ((Below.refl _ _).alloc (Nat.le_refl _) _).grown hgr (by simp) (fun j hj => by simp [Value.ownBlock] at hj; omega)
end Go.Proofs.YtolgebdmffcemaaGreatDoor
namespace Go.Proofs.YtolgebdmffcemaaGreatDoor
open Go.RowKit
set_option maxHeartbeats 1600000 in
set_option maxRecDepth 1000000 in
theorem s_InsL_end (v : Value) (n vb base : Nat) (xs : List Value) (C : Array Value) (w : World) (hown : w.ownsRow base 139 5 v n xs) (hB : base ≤ w.heap.size) (hl : n ≤ 1000000)
    (hbox : w.heap[vb]? = some (.cells C 139 (0, 0))) (hC : C.size = 5) (h1c : ∀ u ∈ C.toList, u.oneCell' = true) :
    Calls Tryz.prog 147 #[v, .int .i64 (n : Int), .slice (some ⟨vb, 0, none⟩) 1 1] w fun e w' => ∃ v', e = .returned v' ∧ w'.ownsRow base 139 5 v' (n + 1) (xs ++ C.toList) ∧ w.grownBy w' v.ownBlock ∧ (∀ g, v'.ownBlock = some g → v.ownBlock = some g ∨ w.heap.size ≤ g) := by
  have hcl : C.toList.length = 1 * 5 := by simpa using hC
  have hbc : ∀ j u, C.toList[j]? = some u → w.cell? ((⟨vb, 0, none⟩ : Addr).add j) = some u := fun j u hu => by
    rw [addr_lit, Nat.zero_add]; simp only [World.cell?, hbox]; simpa using hu
  obtain ⟨a, cap, hv, h1, h2, h3, _⟩ := owns_form hown
  subst hv
  unfold maxLen at h2
  clear hbox
  cases a with
  | none =>
    obtain ⟨hn0, hc0⟩ := h3 rfl
    subst hn0 hc0
    go_enter Tryz.func147, Tryz.ntmps147
    go_wp2_with (at_builtin; go_loud (refine wpl_app2 _ (by rfl) _ _ 93 92 _ (by rfl) base 139 (Value.agg #[.string ⟨#[]⟩, .int .i64 0, .int .i64 0, .string ⟨#[]⟩, .slice none 0 0]) 5 72 Tryz.underlying93 Tryz.underlying92 Tryz.info139 (by rfl) (by decide) hown ⟨vb, 0, none⟩ 1 1 C.toList hcl hbc (by rfl) (by rfl) h1c (by unfold maxLen; omega) (by omega) hB ?_))
    intro v' w1 ho hgr hlies
    go_wp2
    go_ret
    exact ⟨_, rfl, ho, hgr, hlies⟩
  | some ad =>
    go_enter Tryz.func147, Tryz.ntmps147
    go_wp2_with (at_builtin; go_loud (refine wpl_app2 _ (by rfl) _ _ 93 92 _ (by rfl) base 139 (Value.agg #[.string ⟨#[]⟩, .int .i64 0, .int .i64 0, .string ⟨#[]⟩, .slice none 0 0]) 5 72 Tryz.underlying93 Tryz.underlying92 Tryz.info139 (by rfl) (by decide) hown ⟨vb, 0, none⟩ 1 1 C.toList hcl hbc (by rfl) (by rfl) h1c (by unfold maxLen; omega) (by omega) hB ?_))
    all_goals
      intro v' w1 ho hgr hlies
      go_wp2
      go_ret
      exact ⟨_, rfl, ho, hgr, hlies⟩
set_option maxHeartbeats 3200000 in
set_option maxRecDepth 1000000 in
theorem s_InsL_room (g n cap i vb base : Nat) (xs : List Value) (C cur : Array Value) (w : World) (hi : i < n) (hg : w.heap[g]? = some (.cells cur 139 (0, 0))) (hbg : base ≤ g) (hcap : n + 1 ≤ cap) (hcm : cap ≤ 9223372036854775807) (hcs : cur.size = cap * 5) (hxs : cur.toList.take (n * 5) = xs)
    (hbox : w.heap[vb]? = some (.cells C 139 (0, 0))) (hC : C.size = 5) (hne : vb ≠ g) (h1x : ∀ u ∈ xs, u.oneCell' = true) (h1c : ∀ u ∈ C.toList, u.oneCell' = true) :
    Calls Tryz.prog 147 #[.slice (some ⟨g, 0, none⟩) n cap, .int .i64 (i : Int), .slice (some ⟨vb, 0, none⟩) 1 1] w fun e w' => ∃ v', e = .returned v' ∧ w'.ownsRow base 139 5 v' (n + 1) (xs.take (i * 5) ++ (C.toList ++ xs.drop (i * 5))) ∧ w.grownBy w' (some g) ∧ (∀ g', v'.ownBlock = some g' → some g = some g' ∨ w.heap.size ≤ g') := by
  have hcl : C.toList.length = 5 := by simpa using hC
  have hxl : xs.length = n * 5 := by rw [← hxs, List.length_take, Array.length_toList]; omega
  obtain ⟨r1, r2, r3⟩ := row_ins cur.toList xs C.toList n i 5 (by omega) hxl hcl (by rw [Array.length_toList, hcs]; omega) hxs
  have hgl : g < w.heap.size := (Array.getElem?_eq_some_iff.1 hg).1
  have hsz : (Tryz.prog.info? 139).map (·.size) = some 5 := by
    obtain ⟨i0, hi0, h0, h1, h2⟩ := info_parts Tryz.info139
    rw [hi0]; simp [h1]
  have hzz : ∀ w, (Go.sizeOf 139).run Tryz.prog w = .ok 5 w := fun w => by
    obtain ⟨i0, hi0, h0, h1, h2⟩ := info_parts Tryz.info139
    simp [Go.sizeOf, typeInfo, hi0, h1]
  have hov : ∀ lb cb, (callFunc 196 #[.slice (some ⟨vb, 0, none⟩) 1 1, .slice (some ⟨g, (i + 1) * 5, none⟩) lb cb]).run Tryz.prog w = .ok (.value (.bool false)) w := fun lb cb => by
    rw [run_callFunc_extern Tryz.func196 (by kernel_rfl) (by kernel_rfl) (by kernel_rfl) (e := Extern.SlicesOverlaps.overlaps #[92, 92] #[4]) (by kernel_rfl),
      Lib.run_overlaps_apart w 92 4 139 Tryz.underlying92 5 hzz ⟨vb, 0, none⟩ ⟨g, (i + 1) * 5, none⟩ 1 1 lb cb hne 139 139 C.size cur.size (by simp [World.shape?, hbox]) (by simp [World.shape?, hg]) (by rw [hcs]; omega) (by simp [World.frozen?, hbox]) (by simp [World.frozen?, hbox])]
    rfl
  have hcp1 : ∀ ty dc sc, (Builtin.copy_ #[93, 93] ty #[.slice (some ⟨g, (i + 1) * 5, none⟩) (n - i) dc, .slice (some ⟨g, i * 5, none⟩) (n + 1 - i) sc]).run Tryz.prog w.drew = .ok (goInt (Nat.min (n + 1 - i) (n - i))) (w.drew.setRow g (cur.toList.take ((i + 1) * 5) ++ xs.drop (i * 5) ++ cur.toList.drop ((i + 1) * 5 + (xs.drop (i * 5)).length)).toArray) := fun ty dc sc =>
    run_copyN w.drew _ _ ty 139 g ((i + 1) * 5) (n - i) dc 5 ⟨g, i * 5, none⟩ (n + 1 - i) sc cur 139 (xs.drop (i * 5)) Tryz.underlying93 hsz hg (by rw [List.length_drop, hxl]; simp only [Nat.min_def]; split <;> omega)
      (fun j u hj => by
        rw [addr_lit]
        rw [List.getElem?_drop, ← hxs, List.getElem?_take] at hj
        split at hj
        · show w.cell? _ = _
          simp only [World.cell?, hg]; simpa using hj
        · cases hj)
      (by rw [List.length_drop, hxl, hcs]; omega) (fun u hu => h1x u (List.mem_of_mem_drop hu))
  obtain ⟨c1, hc1⟩ : ∃ c1 : Array Value, c1 = (cur.toList.take ((i + 1) * 5) ++ xs.drop (i * 5) ++ cur.toList.drop ((i + 1) * 5 + (xs.drop (i * 5)).length)).toArray := ⟨_, rfl⟩
  rw [← hc1] at hcp1
  have hc1l : c1.toList = cur.toList.take ((i + 1) * 5) ++ xs.drop (i * 5) ++ cur.toList.drop ((i + 1) * 5 + (xs.drop (i * 5)).length) := by rw [hc1]
  rw [← hc1l] at r1 r2 r3
  have hcp2 : ∀ ty dc, (Builtin.copy_ #[93, 92] ty #[.slice (some ⟨g, i * 5, none⟩) (n + 1 - i) dc, .slice (some ⟨vb, 0, none⟩) 1 1]).run Tryz.prog (w.drew.setRow g c1) = .ok (goInt (Nat.min 1 (n + 1 - i))) ((w.drew.setRow g c1).setRow g (c1.toList.take (i * 5) ++ C.toList ++ c1.toList.drop (i * 5 + C.toList.length)).toArray) := fun ty dc =>
    run_copyN (w.drew.setRow g c1) _ _ ty 139 g (i * 5) (n + 1 - i) dc 5 ⟨vb, 0, none⟩ 1 1 c1 139 C.toList Tryz.underlying93 hsz (setRow_heap w.drew g cur c1 139 _ hg) (by rw [hcl]; simp only [Nat.min_def]; split <;> omega)
      (fun j u hj => by
        rw [addr_lit, Nat.zero_add, cell_setRow_other _ _ _ _ hne]
        show w.cell? _ = _
        simp only [World.cell?, hbox]; simpa using hj)
      (by rw [hcl, ← Array.length_toList, r1, Array.length_toList, hcs]; omega) h1c
  obtain ⟨c2, hc2⟩ : ∃ c2 : Array Value, c2 = (c1.toList.take (i * 5) ++ C.toList ++ c1.toList.drop (i * 5 + C.toList.length)).toArray := ⟨_, rfl⟩
  have hc2l : c2.toList = c1.toList.take (i * 5) ++ C.toList ++ c1.toList.drop (i * 5 + C.toList.length) := by rw [hc2]
  rw [← hc2l] at r2 r3
  rw [← hc2] at hcp2
  have hin : i ≤ n := by omega
  have hz2 : ¬ ((i : Int) = (n : Int)) := by omega
  have hb2 : ¬ (cap = i + 1) := by omega
  have hb4 : ¬ (cap = i) := by omega
  have hb3 : (i : Int) ≤ (n : Int) + 1 := by omega
  have htn : ((i : Int) + 1).toNat = i + 1 := by omega
  have hw1 : IntKind.i64.wrap ((i : Int) + 1) = (i : Int) + 1 := by rw [IntKind.wrap_i64]; omega
  have hb1 : (0 : Int) ≤ (i : Int) + 1 := by omega
  have FIN : Hid (((w.drew.setRow g c1).setRow g c2).ownsRow base 139 5 (.slice (some ⟨g, 0, none⟩) (n + 1) cap) (n + 1) (xs.take (i * 5) ++ (C.toList ++ xs.drop (i * 5))) ∧ w.grownBy ((w.drew.setRow g c1).setRow g c2) (some g)) := by
    refine ⟨⟨?_, .inr ⟨g, cap, c2, rfl, hbg, ?_, hcap, by unfold maxLen; omega, by rw [← Array.length_toList, r2, Array.length_toList, hcs], r3⟩⟩, ⟨rfl, rfl, rfl, by simp, fun k hk hkn => ?_⟩⟩
    · simp only [List.length_append, List.length_take, List.length_drop, hxl, hcl]; omega
    · exact setRow_heap _ g c1 c2 139 _ (setRow_heap w.drew g cur c1 139 _ hg)
    · rw [setRow_other _ _ _ _ (by rintro rfl; exact hkn rfl), setRow_other _ _ _ _ (by rintro rfl; exact hkn rfl)]; rfl
  clear hg hbox r1 r2 r3 hc1 hc1l hc2 hc2l h1x h1c hcs hxs hxl
  go_enter Tryz.func147, Tryz.ntmps147
  go_wp2_with (simp only [hov])
  go_region_law (refine stp_copy (by rfl) _ _ 93 93 (by rfl) _ _ (by simp [Act.eval, Act.put]) (by simp [Act.eval, Act.put]) (hcp1 _ _ _) ?_)
  go_wp2_with (at_builtin; refine wpl_copy _ (by rfl) _ _ 93 92 (by rfl) _ _ (by rfl) (by rfl) (hcp2 _ _) ?_)
  go_ret
  exact ⟨_, rfl, FIN.out.1, FIN.out.2, fun g' e => .inl e⟩
theorem zeroNL (k : Nat) : (Builtin.zeroCells (Value.agg #[.string ⟨#[]⟩, .int .i64 0, .int .i64 0, .string ⟨#[]⟩, .slice none 0 0]).cells k).size = k * 5 := by simp [Builtin.zeroCells, Value.cells]
set_option maxHeartbeats 3200000 in
set_option maxRecDepth 1000000 in
theorem s_InsL_grow (g n cap i vb base : Nat) (xs : List Value) (C cur : Array Value) (w : World) (hi : i < n) (hg : w.heap[g]? = some (.cells cur 139 (0, 0))) (hB : base ≤ w.heap.size) (hnc : n ≤ cap) (hcap : cap < n + 1) (hl : n ≤ 1000000) (hcs : cur.size = cap * 5) (hxs : cur.toList.take (n * 5) = xs)
    (hbox : w.heap[vb]? = some (.cells C 139 (0, 0))) (hC : C.size = 5) (h1x : ∀ u ∈ xs, u.oneCell' = true) (h1c : ∀ u ∈ C.toList, u.oneCell' = true) :
    Calls Tryz.prog 147 #[.slice (some ⟨g, 0, none⟩) n cap, .int .i64 (i : Int), .slice (some ⟨vb, 0, none⟩) 1 1] w fun e w' => ∃ v', e = .returned v' ∧ w'.ownsRow base 139 5 v' (n + 1) (xs.take (i * 5) ++ (C.toList ++ xs.drop (i * 5))) ∧ w.grownBy w' (some g) ∧ (∀ g', v'.ownBlock = some g' → some g = some g' ∨ w.heap.size ≤ g') := by
  have hcl : C.toList.length = 5 := by simpa using hC
  have hxl : xs.length = n * 5 := by rw [← hxs, List.length_take, Array.length_toList]; omega
  have hgl : g < w.heap.size := (Array.getElem?_eq_some_iff.1 hg).1
  have hvl : vb < w.heap.size := (Array.getElem?_eq_some_iff.1 hbox).1
  obtain ⟨i0, hi0, hz0, hz1, hz2⟩ := info_parts Tryz.info139
  have hsz : (Tryz.prog.info? 139).map (·.size) = some 5 := by rw [hi0]; simp [hz1]
  have hkk : (n : Int) + 1 - (i : Int) = ((n + 1 - i : Nat) : Int) := by omega
  have hik : i + (n + 1 - i) = n + 1 := by omega
  have hxc : ∀ j u, xs[j]? = some u → w.cell? ⟨g, j, none⟩ = some u := fun j u hj => by
    rw [← hxs, List.getElem?_take] at hj
    split at hj
    · simp only [World.cell?, hg]; simpa using hj
    · cases hj
  have hold : (Builtin.firstCells i0.size i (.slice (some ⟨g, 0, none⟩) i cap)).run Tryz.prog w.drew = .ok (xs.take (i * 5)).toArray w.drew := by
    rw [hz1]
    exact run_firstCells_some w.drew 5 i ⟨g, 0, none⟩ i cap (xs.take (i * 5)) (by rw [List.length_take]; omega) (fun j u hj => by
      rw [addr_lit, Nat.zero_add]
      rw [List.getElem?_take] at hj
      split at hj
      · exact hxc j u hj
      · cases hj)
  obtain ⟨G, hG⟩ : ∃ G, G = grownCap w (n + 1) cap 139 := ⟨_, rfl⟩
  have hGn : n + 1 ≤ G := by rw [hG]; exact grownCap_ge w _ _ _
  have hG63 : G ≤ 9223372036854775807 := by
    have := grownCap_le_maxLen w (n + 1) cap 139 (by unfold maxLen; omega)
    rw [← hG] at this; unfold maxLen at this; omega
  obtain ⟨ROW, hROW⟩ : ∃ ROW : Array Value, ROW = (xs.take (i * 5)).toArray ++ Builtin.zeroCells (Value.agg #[.string ⟨#[]⟩, .int .i64 0, .int .i64 0, .string ⟨#[]⟩, .slice none 0 0]).cells (n + 1 - i) ++ Builtin.zeroCells (Value.agg #[.string ⟨#[]⟩, .int .i64 0, .int .i64 0, .string ⟨#[]⟩, .slice none 0 0]).cells (G - (n + 1)) := ⟨_, rfl⟩
  have hrz : ∀ ty, (Builtin.append_ #[93, 3] ty #[.slice (some ⟨g, 0, none⟩) i cap, .int .i64 ((n : Int) + 1 - (i : Int))]).run Tryz.prog w = .ok (.slice (some ⟨w.heap.size, 0, none⟩) (n + 1) G) (w.drew.alloc (.cells ROW 139)) := fun ty => by
    have h := Lib.run_append_grow_zeros w 93 3 ty 139 i0 (Value.agg #[.string ⟨#[]⟩, .int .i64 0, .int .i64 0, .string ⟨#[]⟩, .slice none 0 0]) .i64 .i64 Tryz.underlying93 Tryz.underlying3 hi0 hz0 (some ⟨g, 0, none⟩) i cap (xs.take (i * 5)) hold (n + 1 - i) (by omega) (by omega) (by omega) (by omega) (by rw [hz2]; omega) (by rw [hz2, hik]; exact growslice_fits hcap (by omega))
    rw [hik, ← hG, ← hROW] at h
    rw [hkk]
    exact h
  have hRl : ROW.size = G * 5 := by
    rw [hROW]
    simp only [Array.size_append, zeroNL, List.size_toArray, List.length_take, hxl]
    omega
  have hRt : ROW.toList.take (i * 5) = xs.take (i * 5) := by
    rw [hROW]
    simp only [Array.toList_append, List.append_assoc]
    rw [List.take_append_of_le_length (by simp only [List.length_take, hxl]; omega), List.take_of_length_le (by simp only [List.length_take, hxl]; omega)]
  obtain ⟨r1, r2, r3⟩ := row_new ROW.toList xs C.toList n i 5 (by omega) hxl hcl (by rw [Array.length_toList, hRl]; omega) hRt
  obtain ⟨c1, hc1⟩ : ∃ c1 : Array Value, c1 = (ROW.toList.take (i * 5) ++ C.toList ++ ROW.toList.drop (i * 5 + C.toList.length)).toArray := ⟨_, rfl⟩
  have hc1l : c1.toList = ROW.toList.take (i * 5) ++ C.toList ++ ROW.toList.drop (i * 5 + C.toList.length) := by rw [hc1]
  rw [← hc1l] at r1 r2 r3
  obtain ⟨c2, hc2⟩ : ∃ c2 : Array Value, c2 = (c1.toList.take ((i + 1) * 5) ++ xs.drop (i * 5) ++ c1.toList.drop ((i + 1) * 5 + (xs.drop (i * 5)).length)).toArray := ⟨_, rfl⟩
  have hc2l : c2.toList = c1.toList.take ((i + 1) * 5) ++ xs.drop (i * 5) ++ c1.toList.drop ((i + 1) * 5 + (xs.drop (i * 5)).length) := by rw [hc2]
  rw [← hc2l] at r2 r3
  have hA0 : (w.alloc (.cells ROW 139)).heap[w.heap.size]? = some (.cells ROW 139 (0, 0)) := heap_alloc_new w _
  have hcpA : ∀ W : World, W.heap = (w.alloc (.cells ROW 139)).heap → ∀ ty dc, (Builtin.copy_ #[93, 92] ty #[.slice (some ⟨w.heap.size, i * 5, none⟩) (n + 1 - i) dc, .slice (some ⟨vb, 0, none⟩) 1 1]).run Tryz.prog W = .ok (goInt (Nat.min 1 (n + 1 - i))) (W.setRow w.heap.size c1) := fun W hW ty dc => by
    have h := run_copyN (P := Tryz.prog) W 93 92 ty 139 w.heap.size (i * 5) (n + 1 - i) dc 5 ⟨vb, 0, none⟩ 1 1 ROW 139 C.toList Tryz.underlying93 hsz (by rw [hW]; exact hA0) (by rw [hcl]; simp only [Nat.min_def]; split <;> omega)
      (fun j u hj => by
        rw [addr_lit, Nat.zero_add]
        simp only [World.cell?, hW]
        rw [heap_alloc_old w _ hvl, hbox]
        simpa using hj)
      (by rw [hcl, hRl]; omega) h1c
    rw [← hc1] at h
    exact h
  have hcpB : ∀ W : World, W.heap = ((w.alloc (.cells ROW 139)).setRow w.heap.size c1).heap → ∀ ty dc sc, (Builtin.copy_ #[93, 93] ty #[.slice (some ⟨w.heap.size, (i + 1) * 5, none⟩) (n - i) dc, .slice (some ⟨g, i * 5, none⟩) (n - i) sc]).run Tryz.prog W = .ok (goInt (Nat.min (n - i) (n - i))) (W.setRow w.heap.size c2) := fun W hW ty dc sc => by
    have h := run_copyN (P := Tryz.prog) W 93 93 ty 139 w.heap.size ((i + 1) * 5) (n - i) dc 5 ⟨g, i * 5, none⟩ (n - i) sc c1 139 (xs.drop (i * 5)) Tryz.underlying93 hsz (by rw [hW]; exact setRow_heap _ _ ROW c1 139 _ hA0) (by rw [List.length_drop, hxl]; simp only [Nat.min_def]; split <;> omega)
      (fun j u hj => by
        rw [addr_lit]
        simp only [World.cell?, hW]
        rw [setRow_other _ _ _ _ (by omega), heap_alloc_old w _ hgl]
        rw [List.getElem?_drop] at hj
        have := hxc _ _ hj
        simp only [World.cell?] at this
        exact this)
      (by rw [List.length_drop, hxl, ← Array.length_toList, r1, Array.length_toList, hRl]; omega) (fun u hu => h1x u (List.mem_of_mem_drop hu))
    rw [← hc2] at h
    exact h
  have FIN : ∀ W : World, W.heap = (((w.alloc (.cells ROW 139)).setRow w.heap.size c1).setRow w.heap.size c2).heap → W.os = w.os → W.tape = w.tape → W.output = w.output → (W.ownsRow base 139 5 (.slice (some ⟨w.heap.size, 0, none⟩) (n + 1) G) (n + 1) (xs.take (i * 5) ++ (C.toList ++ xs.drop (i * 5))) ∧ w.grownBy W (some g)) := by
    intro W hW e1 e2 e3
    refine ⟨⟨?_, .inr ⟨w.heap.size, G, c2, rfl, hB, ?_, hGn, by unfold maxLen; omega, by rw [← Array.length_toList, r2, Array.length_toList, hRl], r3⟩⟩, ⟨e1, e2, e3, by rw [hW]; simp, fun k hk hkn => ?_⟩⟩
    · simp only [List.length_append, List.length_take, List.length_drop, hxl, hcl]; omega
    · rw [hW]; exact setRow_heap _ _ c1 c2 139 _ (setRow_heap _ _ ROW c1 139 _ hA0)
    · rw [hW, setRow_other _ _ _ _ (by omega), setRow_other _ _ _ _ (by omega)]; exact heap_alloc_old w _ hk
  have hcpA2 := hcpA (w.alloc (.cells ROW 139)).drew rfl
  have hcpB2 := hcpB ((w.alloc (.cells ROW 139)).drew.setRow w.heap.size c1).drew rfl
  clear hcpA hcpB
  have hin : i ≤ n := by omega
  have hz2 : ¬ ((i : Int) = (n : Int)) := by omega
  have hz3 : (cap : Int) < (n : Int) + 1 := by omega
  have hGi : ¬ (G = i) := by omega
  have hGim : ¬ (G = i + 1) := by omega
  have hci : ¬ (cap = i) := by omega
  have htn : ((i : Int) + 1).toNat = i + 1 := by omega
  have hw1 : IntKind.i64.wrap ((i : Int) + 1) = (i : Int) + 1 := by rw [IntKind.wrap_i64]; omega
  have hb1 : (0 : Int) ≤ (i : Int) + 1 := by omega
  have hb3 : (i : Int) ≤ (n : Int) := by omega
  have HF : Hid (∀ W : World, W.heap = (((w.alloc (.cells ROW 139)).setRow w.heap.size c1).setRow w.heap.size c2).heap → W.os = w.os → W.tape = w.tape → W.output = w.output → (W.ownsRow base 139 5 (.slice (some ⟨w.heap.size, 0, none⟩) (n + 1) G) (n + 1) (xs.take (i * 5) ++ (C.toList ++ xs.drop (i * 5))) ∧ w.grownBy W (some g))) := FIN
  clear hg hbox r1 r2 r3 hc1 hc1l hc2 hc2l h1x h1c hcs hxs hxl hkk hik hold hROW hG hRl hRt hA0 hxc FIN hz0 hz1
  go_enter Tryz.func147, Tryz.ntmps147
  go_wp2_with (first
    | (at_builtin; refine Lib.wpList_append_run _ (by rfl) _ _ _ _ (by rfl) _ _ (by rfl) (by rfl) _ _ (hrz _) ?_)
    | (simp only [hcpA2]))
  go_region_law (refine stp_copy (by rfl) _ _ 93 93 (by rfl) _ _ (by simp [Act.eval, Act.put]) (by simp [Act.eval, Act.put]) (hcpB2 _ _ _) ?_)
  go_wp2
  go_ret
  exact ⟨_, rfl, (HF.out _ (by rfl) (by rfl) (by rfl) (by rfl)).1, (HF.out _ (by rfl) (by rfl) (by rfl) (by rfl)).2, fun g' e => .inr (by simp [Value.ownBlock] at e; omega)⟩
/-- one element more, at place i -/
theorem s_InsL (v : Value) (n i vb base : Nat) (xs : List Value) (C : Array Value) (w : World) (hown : w.ownsRow base 139 5 v n xs) (hB : base ≤ w.heap.size) (hi : i ≤ n) (hl : n ≤ 1000000)
    (hbox : w.heap[vb]? = some (.cells C 139 (0, 0))) (hC : C.size = 5) (hne : v.ownBlock ≠ some vb) (h1x : ∀ u ∈ xs, u.oneCell' = true) (h1c : ∀ u ∈ C.toList, u.oneCell' = true) :
    Calls Tryz.prog 147 #[v, .int .i64 (i : Int), .slice (some ⟨vb, 0, none⟩) 1 1] w fun e w' => ∃ v', e = .returned v' ∧ w'.ownsRow base 139 5 v' (n + 1) (xs.take (i * 5) ++ (C.toList ++ xs.drop (i * 5))) ∧ w.grownBy w' v.ownBlock ∧ (∀ g, v'.ownBlock = some g → v.ownBlock = some g ∨ w.heap.size ≤ g) := by
  by_cases hin : i = n
  · subst hin
    have htk : xs.take (i * 5) = xs := List.take_of_length_le (by rw [hown.1]; exact Nat.le_refl _)
    have hdr : xs.drop (i * 5) = [] := List.drop_eq_nil_of_le (by rw [hown.1]; exact Nat.le_refl _)
    rw [htk, hdr, List.append_nil]
    exact s_InsL_end v i vb base xs C w hown hB hl hbox hC h1c
  · obtain ⟨h1, h2⟩ := hown
    rcases h2 with ⟨rfl, rfl⟩ | ⟨g, cap, cur, rfl, hb, hg, hn, hcm, hs, ht⟩
    · omega
    · have hvg : vb ≠ g := fun e => hne (by rw [e]; rfl)
      unfold maxLen at hcm
      by_cases hr : n + 1 ≤ cap
      · exact s_InsL_room g n cap i vb base xs C cur w (by omega) hg hb hr (by omega) hs ht hbox hC hvg h1x h1c
      · exact s_InsL_grow g n cap i vb base xs C cur w (by omega) hg hB hn (by omega) hl hs ht hbox hC h1x h1c
end Go.Proofs.YtolgebdmffcemaaGreatDoor
namespace Go.Proofs.YtolgebdmffcemaaGreatDoor
open Go.RowKit
set_option maxHeartbeats 3200000 in
set_option maxRecDepth 1000000 in
theorem s_DelL_at (g m cap i base : Nat) (xs : List Value) (cur : Array Value) (w : World) (hi : i ≤ m) (hg : w.heap[g]? = some (.cells cur 139 (0, 0))) (hbg : base ≤ g) (hcap : m + 1 ≤ cap) (hcm : cap ≤ 9223372036854775807) (hcs : cur.size = cap * 5) (hxs : cur.toList.take ((m + 1) * 5) = xs)
    (h1x : ∀ u ∈ xs, u.oneCell' = true) :
    Calls Tryz.prog 161 #[.slice (some ⟨g, 0, none⟩) (m + 1) cap, .int .i64 (i : Int), .int .i64 ((i : Int) + 1)] w fun e w' => ∃ v', e = .returned v' ∧ w'.ownsRow base 139 5 v' m (xs.take (i * 5) ++ xs.drop ((i + 1) * 5)) ∧ w.grownBy w' (some g) ∧ (∀ g', v'.ownBlock = some g' → some g = some g' ∨ w.heap.size ≤ g') := by
  have hxl : xs.length = (m + 1) * 5 := by rw [← hxs, List.length_take, Array.length_toList]; omega
  obtain ⟨i0, hi0, hz0, hz1, hz2⟩ := info_parts Tryz.info139
  have hZ1 : ∀ v ∈ (Value.agg #[.string ⟨#[]⟩, .int .i64 0, .int .i64 0, .string ⟨#[]⟩, .slice none 0 0]).cells.toList, v.oneCell' = true := by
    intro v hv; simp [Value.cells] at hv; rcases hv with rfl | rfl | rfl | rfl <;> rfl
  have hZs : (Value.agg #[.string ⟨#[]⟩, .int .i64 0, .int .i64 0, .string ⟨#[]⟩, .slice none 0 0]).cells.toList.length = 5 := by simp [Value.cells]
  obtain ⟨r1, r2, r3⟩ := row_del cur.toList xs (Value.agg #[.string ⟨#[]⟩, .int .i64 0, .int .i64 0, .string ⟨#[]⟩, .slice none 0 0]).cells.toList m i 5 hi hxl hZs (by rw [Array.length_toList, hcs]; omega) hxs
  have hxc : ∀ j u, xs[j]? = some u → w.cell? ⟨g, j, none⟩ = some u := fun j u hj => by
    rw [← hxs, List.getElem?_take] at hj
    split at hj
    · simp only [World.cell?, hg]; simpa using hj
    · cases hj
  obtain ⟨A, hA, hsrc⟩ : ∃ A : Addr, (if cap = i + 1 then some (⟨g, 0, none⟩ : Addr) else some ⟨g, (i + 1) * 5, none⟩) = some A ∧ ∀ j u, (xs.drop ((i + 1) * 5))[j]? = some u → w.cell? (A.add j) = some u := by
    by_cases h : cap = i + 1
    · refine ⟨⟨g, 0, none⟩, by simp [h], fun j u hu => ?_⟩
      rw [List.drop_eq_nil_of_le (by rw [hxl]; omega)] at hu
      simp at hu
    · refine ⟨⟨g, (i + 1) * 5, none⟩, by simp [h], fun j u hu => ?_⟩
      rw [addr_lit]; rw [List.getElem?_drop] at hu; exact hxc _ _ hu
  obtain ⟨c1, hc1⟩ : ∃ c1 : Array Value, c1 = (cur.toList.take (i * 5) ++ xs.drop ((i + 1) * 5) ++ cur.toList.drop (i * 5 + (xs.drop ((i + 1) * 5)).length)).toArray := ⟨_, rfl⟩
  have hc1l : c1.toList = cur.toList.take (i * 5) ++ xs.drop ((i + 1) * 5) ++ cur.toList.drop (i * 5 + (xs.drop ((i + 1) * 5)).length) := by rw [hc1]
  rw [← hc1l] at r1 r2 r3
  obtain ⟨c2, hc2⟩ : ∃ c2 : Array Value, c2 = (c1.toList.take (m * 5) ++ (Value.agg #[.string ⟨#[]⟩, .int .i64 0, .int .i64 0, .string ⟨#[]⟩, .slice none 0 0]).cells.toList ++ c1.toList.drop (m * 5 + (Value.agg #[.string ⟨#[]⟩, .int .i64 0, .int .i64 0, .string ⟨#[]⟩, .slice none 0 0]).cells.toList.length)).toArray := ⟨_, rfl⟩
  have hc2l : c2.toList = c1.toList.take (m * 5) ++ (Value.agg #[.string ⟨#[]⟩, .int .i64 0, .int .i64 0, .string ⟨#[]⟩, .slice none 0 0]).cells.toList ++ c1.toList.drop (m * 5 + (Value.agg #[.string ⟨#[]⟩, .int .i64 0, .int .i64 0, .string ⟨#[]⟩, .slice none 0 0]).cells.toList.length) := by rw [hc2]
  rw [← hc2l] at r2 r3
  have hap : ∀ ty dc, (Builtin.append_ #[93, 93] ty #[.slice (some ⟨g, 0, none⟩) i cap, .slice (some A) (m - i) dc]).run Tryz.prog w.drew = .ok (.slice (some ⟨g, 0, none⟩) (i + (m - i)) cap) (w.drew.setRow g c1) := fun ty dc => by
    have h := run_appN (P := Tryz.prog) w.drew 93 ty 139 i0 5 g i cap A (m - i) dc cur 139 (xs.drop ((i + 1) * 5)) Tryz.underlying93 hi0 hz1 hg (by rw [List.length_drop, hxl]; omega) hsrc (fun u hu => h1x u (List.mem_of_mem_drop hu)) (by omega) (by rw [List.length_drop, hxl, hcs]; omega)
    rw [← hc1] at h
    exact h
  have hcr : ∀ ty dc, (Builtin.clear_ #[93] ty #[.slice (some ⟨g, m * 5, none⟩) 1 dc]).run Tryz.prog (w.drew.setRow g c1) = .ok (.tuple #[]) ((w.drew.setRow g c1).setRow g c2) := fun ty dc => by
    have h := run_clearN (P := Tryz.prog) (w.drew.setRow g c1) 93 ty 139 i0 (Value.agg #[.string ⟨#[]⟩, .int .i64 0, .int .i64 0, .string ⟨#[]⟩, .slice none 0 0]) 5 g (m * 5) 1 dc c1 139 Tryz.underlying93 hi0 hz0 (by simpa using hZs) hZ1 (setRow_heap w.drew g cur c1 139 _ hg) (by rw [← Array.length_toList, r1, Array.length_toList, hcs]; omega) (by decide) rfl
    rw [← hc2] at h
    exact h
  have HF : Hid (((w.drew.setRow g c1).setRow g c2).ownsRow base 139 5 (.slice (some ⟨g, 0, none⟩) m cap) m (xs.take (i * 5) ++ xs.drop ((i + 1) * 5)) ∧ w.grownBy ((w.drew.setRow g c1).setRow g c2) (some g)) := by
    refine ⟨⟨?_, .inr ⟨g, cap, c2, rfl, hbg, ?_, by omega, by unfold maxLen; omega, by rw [← Array.length_toList, r2, Array.length_toList, hcs], r3⟩⟩, ⟨rfl, rfl, rfl, by simp, fun k hk hkn => ?_⟩⟩
    · simp only [List.length_append, List.length_take, List.length_drop, hxl]; omega
    · exact setRow_heap _ g c1 c2 139 _ (setRow_heap w.drew g cur c1 139 _ hg)
    · rw [setRow_other _ _ _ _ (by rintro rfl; exact hkn rfl), setRow_other _ _ _ _ (by rintro rfl; exact hkn rfl)]; rfl
  have hic : i ≤ cap := by omega
  have hn1 : ¬ ((i : Int) = (i : Int) + 1) := by omega
  have hw1 : IntKind.i64.wrap ((i : Int) + 1) = (i : Int) + 1 := by rw [IntKind.wrap_i64]; omega
  have htn : ((i : Int) + 1).toNat = i + 1 := by omega
  have hb1 : (0 : Int) ≤ (i : Int) + 1 := by omega
  have him : i + (m - i) = m := by omega
  have hcm1 : ¬ (cap = m) := by omega
  have hiI : (i : Int) ≤ (m : Int) := by omega
  rw [him] at hap
  clear hg r1 r2 r3 hc1 hc1l hc2 hc2l h1x hcs hxs hxl hxc hsrc hZ1 hZs hz0 hz1 hz2 hi0
  go_enter Tryz.func161, Tryz.ntmps161
  go_wp2_with fail
  go_region_law (refine stp_append (by rfl) (.tmp 22) (.tmp 25) 93 93 (by rfl) (.slice (some ⟨g, 0, none⟩) i cap) (.slice (some A) (m - i) (cap - (i + 1))) (by simp [Act.eval, Act.put]) (by simp [Act.eval, Act.put]) (hap _ _) ?_)
  go_wp2_with (simp only [hcr])
  go_ret
  exact ⟨_, rfl, HF.out.1, HF.out.2, fun g' e => .inl e⟩
theorem s_DelL (v : Value) (n i base : Nat) (xs : List Value) (w : World) (hown : w.ownsRow base 139 5 v n xs) (hi : i < n) (h1x : ∀ u ∈ xs, u.oneCell' = true) :
    Calls Tryz.prog 161 #[v, .int .i64 (i : Int), .int .i64 ((i : Int) + 1)] w fun e w' => ∃ v', e = .returned v' ∧ w'.ownsRow base 139 5 v' (n - 1) (xs.take (i * 5) ++ xs.drop ((i + 1) * 5)) ∧ w.grownBy w' v.ownBlock ∧ (∀ g, v'.ownBlock = some g → v.ownBlock = some g ∨ w.heap.size ≤ g) := by
  obtain ⟨h1, h2⟩ := hown
  rcases h2 with ⟨rfl, rfl⟩ | ⟨g, cap, cur, rfl, hb, hg, hn, hcm, hs, ht⟩
  · omega
  · unfold maxLen at hcm
    obtain ⟨m, rfl⟩ : ∃ m, n = m + 1 := ⟨n - 1, by omega⟩
    exact s_DelL_at g m cap i base xs cur w (by omega) hg hb hn (by omega) hs ht h1x
end Go.Proofs.YtolgebdmffcemaaGreatDoor
namespace Go.Proofs.YtolgebdmffcemaaGreatDoor
open Go.RowKit
set_option maxHeartbeats 800000 in
set_option maxRecDepth 1000000 in
theorem r_Show (B : Nat) (st : R.St) (name : List UInt8) (w : World) (M O : Nat → Prop) (h : RS w M O B st) (hf : R.Fine st) :
    Calls Tryz.prog 123 #[.pointer (some ⟨B, 0, none⟩), .string ⟨name.toArray⟩] w fun e w' =>
      e = .returned (.tuple #[.string ⟨(R.shown st name).1.toArray⟩, .int .i64 (R.shown st name).2]) ∧ Below w.heap.size w w' := by
  have hRS := h
  obtain ⟨cv, bv, LB, LCm, hR⟩ := h
  have c1 := hR.c1
  obtain ⟨a, cap, rfl, hnc, hm, hno, hso⟩ := owns_form hR.row
  have HL : Hid (LB.length = st.brs.length) := by show _ = _; rw [← hR.brs, List.length_map]
  have hf0 := r_find B st name w M O hRS
  unfold maxLen at hm
  rcases R.fndI_cases st.brs name with ⟨f1, f2⟩ | ⟨f1, f2⟩
  · have HS : Hid (R.shown st name = ([], 5)) := by show _ = _; rw [R.shown, if_pos (by omega)]
    rw [HS.out]
    rw [f1] at hf0
    clear hso hno f1 f2
    go_enter Tryz.func123, Tryz.ntmps123
    go_wp2_with fail
    refine hf0.mono ?_
    rintro e w1 ⟨rfl, rfl⟩
    go_wp2
    go_ret2
    exact ⟨rfl, Below.refl _ _⟩
  · have hfl : R.fnd st.brs name < LB.length := by rw [HL.out]; exact f2
    have hw : R.workOf st name = (LB[R.fnd st.brs name]'hfl).1.work := by
      rw [R.workOf, List.getElem?_eq_getElem f2]
      simp [← hR.brs]
    have HS : Hid (R.shown st name = (R.Written (LB[R.fnd st.brs name]'hfl).1.work, 0)) := by show _ = _; rw [R.shown, if_neg (by omega), hw]
    have htr := hR.work _ (List.getElem_mem hfl)
    have hmb := hR.mem_brs (List.getElem_mem hfl)
    have hg := hf.good _ hmb
    have hl := hf.few _ hmb
    rw [f1] at hf0
    cases a with
    | none => have := (hno rfl).1; omega
    | some ad =>
      obtain ⟨g, rfl, _, hg0, _, hcell⟩ := hso ad rfl
      obtain ⟨-, -, d2⟩ := br_cells hcell _ hfl
      rw [HS.out]
      have hone : (LB[R.fnd st.brs name]'hfl).2.oneCell' = true := by
        obtain ⟨_, _, ⟨a, cap, e, _⟩, _⟩ := htr
        rw [e]; rfl
      generalize (LB[R.fnd st.brs name]'hfl).1.work = t at *
      generalize (LB[R.fnd st.brs name]'hfl).2 = tv at *
      generalize R.fnd st.brs name = i at *
      clear hso hno f1 hcell hw HS
      go_enter Tryz.func123, Tryz.ntmps123
      go_wp2_with fail
      refine hf0.mono ?_
      rintro e w1 ⟨rfl, rfl⟩
      go_wp2_with fail
      refine (r_Written tv t _ M htr hg (by omega)).mono ?_
      rintro e w2 ⟨rfl, hb⟩
      go_wp2
      go_ret2
      exact ⟨rfl, hb⟩
end Go.Proofs.YtolgebdmffcemaaGreatDoor
