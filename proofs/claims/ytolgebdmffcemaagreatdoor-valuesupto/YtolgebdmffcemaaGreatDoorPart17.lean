/-
  How Drop of the document's answer (graftref) takes a branch away.
  How Change of the document's answer (graftref) lays a tree down; Delete.
  What the program makes of a tree (tree.without, tree.with): as the document's answer has it.
-/
import Derived.Test.YtolgebdmffcemaaGreatDoorPart16
import Derived.Test.YtolgebdmffcemaaGreatDoorPart06
import Derived.Test.YtolgebdmffcemaaGreatDoorPart10
set_option linter.unusedVariables false
namespace Go.Proofs.YtolgebdmffcemaaGreatDoor
open Go.RowKit
theorem newRow_RS {w w5 w6 : World} {M O : Nat → Prop} {B : Nat} {st : R.St} {cv bv : Value} {LB LB' : List (R.Br × Value)} {LCm : List (R.Cm × Value × Value)} (hR : RSx w M O B st cv bv LB LCm) {v3 : Value} (hb5 : Below w.heap.size w w5)
    (hwk : ∀ p ∈ LB', Tr w M p.2 p.1.work) (ho3 : w5.ownsRow w.heap.size 87 3 v3 LB'.length (cellsB LB')) (hb6 : Below w5.heap.size (w5.setCell ⟨B, 1, none⟩ v3) w6) (packed : List UInt8) :
    ∃ O', RS (w6.setCell ⟨B, 2, none⟩ (.string ⟨packed.toArray⟩)) (fun b => M b ∨ O' b) O' B { st with brs := LB'.map (·.1), packed := packed } ∧ Kept (fun b => b = B) w (w6.setCell ⟨B, 2, none⟩ (.string ⟨packed.toArray⟩)) ∧ (∀ b, O' b → O b ∨ w.heap.size ≤ b) := by
  have hBl := hR.lt B hR.own
  have hs5 := hb5.size
  have hs6 := hb6.size
  simp only [World.size_setCell] at hs6
  have hK5 : Kept (fun b => b = B) w5 w6 := ((Kept.refl (fun b => b = B) w5).setCell (p := ⟨B, 1, none⟩) (.inl rfl) v3).trans (Kept.of_below (by rw [World.size_setCell]; exact hb6))
  have hK5' := hK5.setCell (p := ⟨B, 2, none⟩) (.inl rfl) (.string ⟨packed.toArray⟩)
  have hK := (Kept.of_below (M := fun b => b = B) hb5).trans hK5'
  have hg3 : ∀ g, v3.ownBlock = some g → w.heap.size ≤ g ∧ g < w5.heap.size := fun g hg => ho3.lt g hg
  have e6 : ∀ o, w6.cell? ⟨B, o, none⟩ = (w5.setCell ⟨B, 1, none⟩ v3).cell? ⟨B, o, none⟩ := fun o => hb6.cell (p := ⟨B, o, none⟩) (Nat.lt_of_lt_of_le hBl hs5)
  have e5 : ∀ o, w5.cell? ⟨B, o, none⟩ = w.cell? ⟨B, o, none⟩ := fun o => hb5.cell (p := ⟨B, o, none⟩) hBl
  have f6 : ∀ o, w6.frozen? ⟨B, o, none⟩ = w.frozen? ⟨B, o, none⟩ := fun o => by
    rw [hb6.frozen (p := ⟨B, o, none⟩) (Nat.lt_of_lt_of_le hBl hs5), World.frozen?_setCell, hb5.frozen (p := ⟨B, o, none⟩) hBl]
  have hMs : ∀ b, (M b ∨ O b ∨ v3.ownBlock = some b) → M b ∨ w.heap.size ≤ b := by
    rintro b (h | h | h)
    · exact .inl h
    · exact .inl (hR.sub b h)
    · exact .inr (hg3 b h).1
  have hBM : ∀ b, b = B → M b := fun b e => e ▸ hR.sub B hR.own
  refine ⟨fun b => O b ∨ v3.ownBlock = some b, ⟨cv, v3, LB', LCm, fun b hb => .inr hb, ?_, .inl hR.own, ?_, ?_, ?_, ?_, rfl, ?_, ?_, ?_, hR.cms, ?_, ?_, ?_, ?_⟩, hK, ?_⟩
  · rintro b (h | h)
    · exact Nat.lt_of_lt_of_le (hR.lt b h) hK.size
    · exact Nat.lt_of_lt_of_le (hg3 b h).2 hK5'.size
  · rw [sc_other _ _ _ _ _ (by omega), e6, sc_other _ _ _ _ _ (by omega), e5]; exact hR.c0
  · rw [sc_other _ _ _ _ _ (by omega), e6]
    exact sc_same _ _ _ _ _ ((e5 1).trans hR.c1)
  · refine sc_same _ _ _ _ (.string ⟨st.packed.toArray⟩) ?_
    rw [e6, sc_other _ _ _ _ _ (by omega), e5]; exact hR.c2
  · intro o; rw [World.frozen?_setCell, f6]; exact hR.fr o
  · exact ownsRow_kept (ownsRow_base ho3 (Nat.zero_le _)) hK5' (fun g hg e => by have := (hg3 g hg).1; omega)
  · intro g hg
    exact ⟨.inr hg, by have := (hg3 g hg).1; omega⟩
  · exact fun p hp => (hwk p hp).step hK hBM hMs
  · exact ownsRow_kept hR.crow hK (fun g hg e => (hR.crowO g hg).2.1 e)
  · intro g hg
    have h1 := hR.crowO g hg
    exact ⟨.inl h1.1, h1.2.1, fun e => by have := (hg3 g e).1; have := hR.lt g h1.1; omega⟩
  · exact fun p hp => (hR.ctree p hp).step hK hBM hMs
  · exact fun p hp => (hR.cpar p hp).step hK hBM hMs
  · rintro b (h | h)
    · exact .inl h
    · exact .inr (hg3 b h).1
set_option maxHeartbeats 1600000 in
set_option maxRecDepth 1000000 in
theorem r_TakeD (B : Nat) (st : R.St) (name : List UInt8) (w : World) (M O : Nat → Prop) (h : RS w M O B st) (hf : R.Fine st) (hpk : st.packed.length ≤ 1000000000000) :
    Calls Tryz.prog 116 #[.pointer (some ⟨B, 0, none⟩), .int .u8 68, .string ⟨name.toArray⟩] w fun e w' =>
      e = .returned (.bool (decide ((R.dropped st name).1 = 0))) ∧ Step w w' M O B (R.dropped st name).2 := by
  have hRS := h
  obtain ⟨cv, bv, LB, LCm, hR⟩ := h
  have c1 := hR.c1
  have hBl := hR.lt B hR.own
  obtain ⟨a, cap, rfl, hnc, hm, hno, hso⟩ := owns_form hR.row
  have HL : Hid (LB.length = st.brs.length) := by show _ = _; rw [← hR.brs, List.length_map]
  have hf0 := r_find B st name w M O hRS
  unfold maxLen at hm
  rcases R.fndI_cases st.brs name with ⟨f1, f2⟩ | ⟨f1, f2⟩
  · have HS : Hid (R.dropped st name = (5, st)) := by show _ = _; rw [R.dropped, if_pos (by omega)]
    rw [HS.out]
    rw [f1] at hf0
    clear hso hno f1 f2
    go_enter Tryz.func116, Tryz.ntmps116
    go_wp2_with fail
    refine hf0.mono ?_
    rintro e w1 ⟨rfl, rfl⟩
    go_wp2
    go_ret
    exact ⟨ret_bool (by simp), Step.same hRS (Below.refl _ _)⟩
  · have hfl : R.fnd st.brs name < LB.length := by rw [HL.out]; exact f2
    have HS : Hid (R.dropped st name = (0, { st with brs := st.brs.take (R.fnd st.brs name) ++ st.brs.drop (R.fnd st.brs name + 1), packed := st.packed ++ R.record 68 name })) := by show _ = _; rw [R.dropped, if_neg (by omega)]
    have hnl : name.length ≤ 8 := by
      have := hf.name _ (List.getElem_mem f2)
      rwa [R.fnd_name _ _ f2] at this
    have h6 : LB.length ≤ 6 := by rw [HL.out]; exact hf.many
    rw [f1] at hf0
    cases a with
    | none => have := (hno rfl).1; omega
    | some ad =>
      obtain ⟨g, rfl, _, hg0, _, hcell⟩ := hso ad rfl
      rw [HS.out]
      generalize R.fnd st.brs name = k at *
      have hone := cellsB_one LB hR.work
      have hgl := hR.lt g (hR.rowO g rfl).1
      clear hso hno f1 HS
      by_cases hck : cap = k + 1
      · subst hck
        go_enter Tryz.func116, Tryz.ntmps116
        go_wp2_with fail
        refine hf0.mono ?_
        rintro e w1 ⟨rfl, rfl⟩
        go_wp2_with (at_builtin; go_loud (refine wp_app_src _ rfl _ _ 75 rfl w1.heap.size 87 (.agg #[.string ⟨#[]⟩, .int .i64 0, .slice none 0 0]) 3 48 Tryz.underlying75 Tryz.info87 rfl (by decide) (World.ownsRow_nil _ _ _ _) (some ⟨g, 0, none⟩) k (k + 1) ((cellsB LB).take (k * 3)) (by rw [List.length_take, cellsB_length]; omega) (fun e => by cases e) (take_cells hcell) (by rfl) (by rfl) (fun u hu => hone u (List.mem_of_mem_take hu)) (by unfold maxLen; omega) (by omega) (by omega) ?_))
        intro v1 w3 ho1 hgr1
        have c1' := hgr1.cell c1 (by simp [Value.ownBlock])
        have hcell3 : ∀ j u, (cellsB LB)[j]? = some u → w3.cell? ⟨g, j, none⟩ = some u := fun j u hu => hgr1.cell (hcell j u hu) (by simp [Value.ownBlock])
        have hs3 := hgr1.size
        clear c1 hcell
        go_wp2_with (at_builtin; go_loud (refine wp_app_src w3 rfl _ _ 75 rfl w1.heap.size 87 (.agg #[.string ⟨#[]⟩, .int .i64 0, .slice none 0 0]) 3 48 Tryz.underlying75 Tryz.info87 rfl (by decide) ho1 (some ⟨g, 0, none⟩) 0 0 [] (by simp) (fun e => by cases e) (fun ad _ j u hu => by simp at hu) (by rfl) (by rfl) (fun u hu => by cases hu) (by unfold maxLen; omega) (by omega) (by omega) ?_))
        intro v3 w5 ho3 hgr3
        have hs5 := hgr3.size
        have cB := hgr3.cell c1' (fun e => by have := (ho1.lt B e.symm).1; omega)
        clear c1' hcell3
        have hbw5 : Below w1.heap.size w1 w5 := ((Below.refl _ _).grown hgr1 (Nat.le_refl _) (fun j hj => by simp [Value.ownBlock] at hj)).grown hgr3 (by omega) (fun j hj => by have := (ho1.lt j hj).1; omega)
        have fB : ∀ o, w5.frozen? ⟨B, o, none⟩ = false := fun o => (hbw5.frozen (p := ⟨B, o, none⟩) hBl).trans (hR.fr o)
        have fB1 := fB 1
        have pB := (hbw5.cell (p := ⟨B, 2, none⟩) hBl).trans hR.c2
        have hLl : (LB.take k ++ LB.drop (k + 1)).length = LB.length - 1 := by simp; omega
        have ho4 : w5.ownsRow w1.heap.size 87 3 v3 (LB.take k ++ LB.drop (k + 1)).length (cellsB (LB.take k ++ LB.drop (k + 1))) := by
          rw [hLl, cellsB_append, cellsB_take, cellsB_drop, List.drop_eq_nil_of_le (by rw [cellsB_length]; omega)]
          have hq : LB.length - 1 = k + 0 := by omega
          rw [hq]; simpa using ho3
        clear ho3
        obtain ⟨a3, cap3, rfl, _, _, _, _⟩ := owns_form ho4
        clear hgr1 hgr3
        go_wp2_with fail
        refine (r_note' 68 B 68 rfl st.packed name _ (by simp; omega) (by rw [sc_other _ _ _ _ _ (by omega)]; exact pB) (fun o => by rw [World.frozen?_setCell]; exact fB o) (by omega) (by omega)).mono ?_
        rintro e w' ⟨rfl, w6, hb6, rfl⟩
        go_wp2
        go_ret
        rw [World.size_setCell, ← hLl] at hb6
        obtain ⟨O', g1, g2, g3⟩ := newRow_RS hR hbw5 (fun p hp => hR.work p (by rcases List.mem_append.1 hp with h | h; exact List.mem_of_mem_take h; exact List.mem_of_mem_drop h)) ho4 hb6 (st.packed ++ R.record 68 name)
        refine ⟨ret_bool (by simp), O', ?_, g2.mono (fun b e => e ▸ hR.own), g3⟩
        have e : (LB.take k ++ LB.drop (k + 1)).map (·.1) = st.brs.take k ++ st.brs.drop (k + 1) := by rw [List.map_append, List.map_take, List.map_drop, hR.brs]
        rw [e] at g1
        exact g1
      · have hck' : k + 1 < cap := by omega
        go_enter Tryz.func116, Tryz.ntmps116
        go_wp2_with fail
        refine hf0.mono ?_
        rintro e w1 ⟨rfl, rfl⟩
        go_wp2_with (at_builtin; go_loud (refine wp_app_src _ rfl _ _ 75 rfl w1.heap.size 87 (.agg #[.string ⟨#[]⟩, .int .i64 0, .slice none 0 0]) 3 48 Tryz.underlying75 Tryz.info87 rfl (by decide) (World.ownsRow_nil _ _ _ _) (some ⟨g, 0, none⟩) k cap ((cellsB LB).take (k * 3)) (by rw [List.length_take, cellsB_length]; omega) (fun e => by cases e) (take_cells hcell) (by rfl) (by rfl) (fun u hu => hone u (List.mem_of_mem_take hu)) (by unfold maxLen; omega) (by omega) (by omega) ?_))
        intro v1 w3 ho1 hgr1
        have c1' := hgr1.cell c1 (by simp [Value.ownBlock])
        have hcell3 : ∀ j u, (cellsB LB)[j]? = some u → w3.cell? ⟨g, j, none⟩ = some u := fun j u hu => hgr1.cell (hcell j u hu) (by simp [Value.ownBlock])
        have hs3 := hgr1.size
        clear c1 hcell
        go_wp2_with (at_builtin; go_loud (refine wp_app_src w3 rfl _ _ 75 rfl w1.heap.size 87 (.agg #[.string ⟨#[]⟩, .int .i64 0, .slice none 0 0]) 3 48 Tryz.underlying75 Tryz.info87 rfl (by decide) ho1 (some ⟨g, (k + 1) * 3, none⟩) (LB.length - (k + 1)) (cap - (k + 1)) ((cellsB LB).drop ((k + 1) * 3)) (by rw [List.length_drop, cellsB_length]; omega) (fun e => by cases e) (drop_cells hcell3) (by rfl) (by rfl) (fun u hu => hone u (List.mem_of_mem_drop hu)) (by unfold maxLen; omega) (by omega) (by omega) ?_))
        intro v3 w5 ho3 hgr3
        have hs5 := hgr3.size
        have cB := hgr3.cell c1' (fun e => by have := (ho1.lt B e.symm).1; omega)
        clear c1' hcell3
        have hbw5 : Below w1.heap.size w1 w5 := ((Below.refl _ _).grown hgr1 (Nat.le_refl _) (fun j hj => by simp [Value.ownBlock] at hj)).grown hgr3 (by omega) (fun j hj => by have := (ho1.lt j hj).1; omega)
        have fB : ∀ o, w5.frozen? ⟨B, o, none⟩ = false := fun o => (hbw5.frozen (p := ⟨B, o, none⟩) hBl).trans (hR.fr o)
        have fB1 := fB 1
        have pB := (hbw5.cell (p := ⟨B, 2, none⟩) hBl).trans hR.c2
        have hLl : (LB.take k ++ LB.drop (k + 1)).length = LB.length - 1 := by simp; omega
        have ho4 : w5.ownsRow w1.heap.size 87 3 v3 (LB.take k ++ LB.drop (k + 1)).length (cellsB (LB.take k ++ LB.drop (k + 1))) := by
          rw [hLl, cellsB_append, cellsB_take, cellsB_drop]
          have hq : LB.length - 1 = k + (LB.length - (k + 1)) := by omega
          rw [hq]; simpa using ho3
        clear ho3
        obtain ⟨a3, cap3, rfl, _, _, _, _⟩ := owns_form ho4
        clear hgr1 hgr3
        go_wp2_with fail
        refine (r_note' 68 B 68 rfl st.packed name _ (by simp; omega) (by rw [sc_other _ _ _ _ _ (by omega)]; exact pB) (fun o => by rw [World.frozen?_setCell]; exact fB o) (by omega) (by omega)).mono ?_
        rintro e w' ⟨rfl, w6, hb6, rfl⟩
        go_wp2
        go_ret
        rw [World.size_setCell, ← hLl] at hb6
        obtain ⟨O', g1, g2, g3⟩ := newRow_RS hR hbw5 (fun p hp => hR.work p (by rcases List.mem_append.1 hp with h | h; exact List.mem_of_mem_take h; exact List.mem_of_mem_drop h)) ho4 hb6 (st.packed ++ R.record 68 name)
        refine ⟨ret_bool (by simp), O', ?_, g2.mono (fun b e => e ▸ hR.own), g3⟩
        have e : (LB.take k ++ LB.drop (k + 1)).map (·.1) = st.brs.take k ++ st.brs.drop (k + 1) := by rw [List.map_append, List.map_take, List.map_drop, hR.brs]
        rw [e] at g1
        exact g1

set_option maxHeartbeats 400000 in
theorem r_Drop (B : Nat) (st : R.St) (name : List UInt8) (w : World) (M O : Nat → Prop) (h : RS w M O B st) (hf : R.Fine st) (hpk : st.packed.length ≤ 1000000000000) :
    Calls Tryz.prog 120 #[.pointer (some ⟨B, 0, none⟩), .string ⟨name.toArray⟩] w fun e w' =>
      e = .returned (.int .i64 (R.dropped st name).1) ∧ Step w w' M O B (R.dropped st name).2 := by
  have hd : (R.dropped st name).1 = 0 ∨ (R.dropped st name).1 = 5 := by
    unfold R.dropped; split
    · exact .inr rfl
    · exact .inl rfl
  generalize hD : (R.dropped st name).1 = d at hd
  have HD : Hid ((R.dropped st name).1 = d) := hD
  clear hD
  have hT := r_TakeD B st name w M O h hf hpk
  rw [HD.out] at hT
  rcases hd with rfl | rfl
  all_goals
    go_enter Tryz.func120, Tryz.ntmps120
    go_wp2_with fail
    refine hT.mono ?_
    rintro e w1 ⟨rfl, hs⟩
    go_wp2
    go_ret
    exact ⟨rfl, hs⟩
end Go.Proofs.YtolgebdmffcemaaGreatDoor
namespace Go.Proofs.YtolgebdmffcemaaGreatDoor
open Go.RowKit
theorem ownsRow_set {w : World} {base : Nat} {e : TypeId} {size : Nat} {g n cap : Nat} {xs : List Value} (h : w.ownsRow base e size (.slice (some ⟨g, 0, none⟩) n cap) n xs) (j : Nat) (hj : j < xs.length) (u : Value) :
    (w.setCell ⟨g, j, none⟩ u).ownsRow base e size (.slice (some ⟨g, 0, none⟩) n cap) n (xs.set j u) := by
  obtain ⟨h1, h2⟩ := h
  refine ⟨by rw [List.length_set]; exact h1, ?_⟩
  rcases h2 with ⟨h2, _⟩ | ⟨g', cap', cur, hv, hg, hh, hn, hcm, hs, ht⟩
  · cases h2
  · injection hv with ha _ hcap
    injection ha with ha
    injection ha with ha _ _
    subst ha hcap
    refine .inr ⟨g, cap, cur.setIfInBounds j u, rfl, hg, heap_setCell_same w g j cur e u hh, hn, hcm, by simpa using hs, ?_⟩
    rw [← ht]
    have hjn : j < n * size := by omega
    rw [Array.toList_setIfInBounds, List.take_set]
theorem cellsB_modify : ∀ (L : List (R.Br × Value)) (i : Nat) (h : i < L.length) (tv : Value) (t : List R.Leaf), cellsB (L.set i ({ (L[i]'h).1 with work := t }, tv)) = (cellsB L).set (i * 3 + 2) tv
  | p :: r, 0, _, tv, t => by simp [cellsB]
  | p :: r, i + 1, h, tv, t => by
    have ih := cellsB_modify r i (by simpa using h) tv t
    unfold cellsB at ih ⊢
    simp only [List.set_cons_succ, List.flatMap_cons, List.getElem_cons_succ]
    rw [ih, show (i + 1) * 3 + 2 = (i * 3 + 2) + 3 from by omega]
    simp
theorem setWork_RS {w w5 : World} {M O : Nat → Prop} {B : Nat} {st : R.St} {cv : Value} {g cap : Nat} {LB : List (R.Br × Value)} {LCm : List (R.Cm × Value × Value)} (hR : RSx w M O B st cv (.slice (some ⟨g, 0, none⟩) LB.length cap) LB LCm)
    {i : Nat} (hi : i < LB.length) {tv : Value} {t : List R.Leaf} (hb5 : Below w.heap.size w w5) (htr : Tr w5 M tv t) :
    Step w (w5.setCell ⟨g, i * 3 + 2, none⟩ tv) M O B (R.setWork st i t) := by
  have hgO := hR.rowO g rfl
  have hgl := hR.lt g hgO.1
  have hK : Kept (fun b => b = g) w (w5.setCell ⟨g, i * 3 + 2, none⟩ tv) := (Kept.of_below (M := fun b => b = g) hb5).setCell (p := ⟨g, i * 3 + 2, none⟩) (.inl rfl) tv
  have hK5 : Kept (fun b => b = g) w5 (w5.setCell ⟨g, i * 3 + 2, none⟩ tv) := (Kept.refl (fun b => b = g) w5).setCell (p := ⟨g, i * 3 + 2, none⟩) (.inl rfl) tv
  have hgM : ∀ b, b = g → M b := fun b e => e ▸ hR.sub g hgO.1
  have hMs : ∀ b, (M b ∨ O b) → M b ∨ w.heap.size ≤ b := by
    rintro b (h | h)
    · exact .inl h
    · exact .inl (hR.sub b h)
  have hMs5 : ∀ b, (M b ∨ O b) → M b ∨ w5.heap.size ≤ b := by
    rintro b (h | h)
    · exact .inl h
    · exact .inl (hR.sub b h)
  have hBl := hR.lt B hR.own
  have eB : ∀ o, (w5.setCell ⟨g, i * 3 + 2, none⟩ tv).cell? ⟨B, o, none⟩ = w.cell? ⟨B, o, none⟩ := fun o => hK.cell (p := ⟨B, o, none⟩) hBl (fun e => hgO.2 e.symm)
  have fB : ∀ o, (w5.setCell ⟨g, i * 3 + 2, none⟩ tv).frozen? ⟨B, o, none⟩ = w.frozen? ⟨B, o, none⟩ := fun o => hK.frozen (p := ⟨B, o, none⟩) hBl (fun e => hgO.2 e.symm)
  have hlen : (LB.set i ({ (LB[i]'hi).1 with work := t }, tv)).length = LB.length := by simp
  refine ⟨O, ⟨cv, .slice (some ⟨g, 0, none⟩) LB.length cap, LB.set i ({ (LB[i]'hi).1 with work := t }, tv), LCm, fun b hb => .inr hb, fun b hb => Nat.lt_of_lt_of_le (hR.lt b hb) hK.size, hR.own, by rw [eB]; exact hR.c0, by rw [eB]; exact hR.c1, by rw [eB]; exact hR.c2, fun o => by rw [fB]; exact hR.fr o, ?_, ?_, hR.rowO, ?_, hR.cms, ?_, hR.crowO, ?_, ?_⟩, hK.mono (fun b e => e ▸ hgO.1), fun b hb => .inl hb⟩
  · show _ = (R.setWork st i t).brs
    unfold R.setWork
    dsimp only
    rw [← hR.brs, List.getElem?_map, List.getElem?_eq_getElem hi, List.map_set]
    rfl
  · rw [hlen, cellsB_modify]
    exact ownsRow_set (ownsRow_below hR.row hb5) _ (by rw [cellsB_length]; omega) tv
  · intro p hp
    rcases List.mem_or_eq_of_mem_set hp with hp | rfl
    · exact (hR.work p hp).step hK hgM hMs
    · exact htr.step hK5 hgM hMs5
  · exact ownsRow_kept hR.crow hK (fun q hq e => (hR.crowO q hq).2.2 (by rw [e]; rfl))
  · exact fun p hp => (hR.ctree p hp).step hK hgM hMs
  · exact fun p hp => (hR.cpar p hp).step hK hgM hMs
end Go.Proofs.YtolgebdmffcemaaGreatDoor
namespace Go.Proofs.YtolgebdmffcemaaGreatDoor
open Go.RowKit
theorem cellsP_append (a b : List (R.Leaf × Value)) : cellsP (a ++ b) = cellsP a ++ cellsP b := by simp [cellsP]
theorem cellsP_take : ∀ (L : List (R.Leaf × Value)) (k : Nat), cellsP (L.take k) = (cellsP L).take (k * 5)
  | [], k => by simp [cellsP]
  | p :: r, 0 => by simp [cellsP]
  | p :: r, k + 1 => by
    have ih := cellsP_take r k
    unfold cellsP PC at ih ⊢
    rw [List.take_succ_cons, List.flatMap_cons, ih, List.flatMap_cons, show (k + 1) * 5 = k * 5 + 5 from by omega]
    simp
theorem cellsP_drop : ∀ (L : List (R.Leaf × Value)) (k : Nat), cellsP (L.drop k) = (cellsP L).drop (k * 5)
  | [], k => by simp [cellsP]
  | p :: r, 0 => by simp
  | p :: r, k + 1 => by
    have ih := cellsP_drop r k
    unfold cellsP PC at ih ⊢
    rw [List.drop_succ_cons, ih, List.flatMap_cons, show (k + 1) * 5 = k * 5 + 5 from by omega]
    simp
theorem cellsP_set : ∀ (L : List (R.Leaf × Value)) (i : Nat) (h : i < L.length) (y : R.Leaf) (iv : Value), (L[i]'h).1.path = y.path →
    cellsP (L.set i (y, iv)) = ((((cellsP L).set (i * 5 + 1) (.int .i64 (pk y))).set (i * 5 + 2) (.int .i64 y.n)).set (i * 5 + 3) (.string ⟨y.text.toArray⟩)).set (i * 5 + 4) iv
  | p :: r, 0, _, y, iv, he => by simp at he; simp [cellsP, PC, he]
  | p :: r, i + 1, h, y, iv, he => by
    have ih := cellsP_set r i (by simpa using h) y iv (by simpa using he)
    unfold cellsP at ih ⊢
    simp only [List.set_cons_succ, List.flatMap_cons]
    rw [ih, show (i + 1) * 5 + 1 = (i * 5 + 1) + 5 from by omega, show (i + 1) * 5 + 2 = (i * 5 + 2) + 5 from by omega, show (i + 1) * 5 + 3 = (i * 5 + 3) + 5 from by omega, show (i + 1) * 5 + 4 = (i * 5 + 4) + 5 from by omega]
    simp [PC]
set_option maxHeartbeats 800000 in
set_option maxRecDepth 1000000 in
theorem g_without (v : Value) (t : List R.Leaf) (s : List UInt8) (w : World) (M : Nat → Prop) (hM : ∀ b, M b → b < w.heap.size) (h : PT w M v t) (hok : OkT t) (hs : R.isPath s = true) :
    Calls Tryz.prog 114 #[v, .string ⟨s.toArray⟩] w fun e w' => ∃ v', e = .returned v' ∧ PT w' M v' (R.set t (R.none s)) ∧ Below w.heap.size w w' := by
  have hfew := hok.few
  have hpl := g_place v t s w M h (by omega) hok.sort
  have hcl := fun W (hW : Below w.heap.size w W) => s_CloneLeaf v t W M (h.below hW) (by omega)
  cases hany : (t.any fun x => x.path == s)
  · rw [hany] at hpl
    rw [set_same hok (R.none s) hs rfl hany]
    have HT := hide3 h
    clear hcl hok h
    go_enter Tryz.func114, Tryz.ntmps114
    go_wp2_with fail
    refine hpl.mono ?_
    rintro e w1 ⟨rfl, hb1⟩
    go_wp2
    go_ret
    exact ⟨_, rfl, HT.out.below hb1, hb1⟩
  · rw [hany] at hpl
    have HS : Hid (R.set t (R.none s) = t.take (posT t s) ++ t.drop (posT t s + 1)) := set_cut hok (R.none s) hs rfl hany
    have hlt : posT t s < t.length := (posK_hit (k := R.Leaf.path) hok.sort.k hany).1
    clear hok h
    generalize posT t s = p at *
    go_enter Tryz.func114, Tryz.ntmps114
    go_wp2_with fail
    refine hpl.mono ?_
    rintro e w1 ⟨rfl, hb1⟩
    go_wp2_with fail
    refine (hcl _ hb1).mono ?_
    rintro e w2 ⟨L, v2, hL, rfl, ho, hI, hb2⟩
    have hLl : L.length = t.length := by rw [← hL, List.length_map]
    have hD := s_DelL v2 L.length p w1.heap.size (cellsP L) w2 ho (by omega) (cellsP_one L hI)
    have HO := hide3 ho
    have hs1 := hb1.size
    have hs2 := hb2.size
    clear ho hcl
    go_wp2_with fail
    refine hD.mono ?_
    rintro e w3 ⟨v3, rfl, ho3, hg3, _⟩
    have hB3 : Below w1.heap.size w1 w3 := hb2.grown hg3 hs2 (fun k hk => (HO.out.lt k hk).1)
    go_wp2
    go_ret
    refine ⟨v3, rfl, ⟨L.take p ++ L.drop (p + 1), ?_, ?_, ?_⟩, hb1.trans (hB3.mono hs1)⟩
    · rw [HS.out, ← hL, List.map_append, List.map_take, List.map_drop]
    · have hlen : (L.take p ++ L.drop (p + 1)).length = L.length - 1 := by simp only [List.length_append, List.length_take, List.length_drop]; omega
      rw [hlen, cellsP_append, cellsP_take, cellsP_drop]
      exact Rd.of_owns ho3 (fun b hb => by have := hM b hb; omega)
    · intro q hq
      have hq' : q ∈ L := by
        rcases List.mem_append.1 hq with h | h
        · exact List.mem_of_mem_take h
        · exact List.mem_of_mem_drop h
      exact Rd.below (hI q hq') hB3
set_option maxHeartbeats 1600000 in
set_option maxRecDepth 1000000 in
theorem g_with (tv : Value) (t : List R.Leaf) (y : R.Leaf) (iv : Value) (w : World) (M : Nat → Prop) (hM : ∀ b, M b → b < w.heap.size) (h : PT w M tv t) (hok : OkT t) (hs : R.isPath y.path = true) (hy : It w M (y, iv)) (hyk : y.kind = 0 ∨ OkL y) (hy0 : y.kind = 0 → pk y = 0) :
    Calls Tryz.prog 96 #[tv, .string ⟨y.path.toArray⟩, .agg #[.int .i64 (pk y), .int .i64 y.n, .string ⟨y.text.toArray⟩, iv]] w fun e w' => ∃ v', e = .returned v' ∧ PT w' M v' (R.set t y) ∧ Below w.heap.size w w' := by
  have hfew := hok.few
  obtain ⟨ia, ic, hiv, _, _, _⟩ := id hy
  dsimp only at hiv
  subst hiv
  by_cases hk0 : y.kind = 0
  · have hset : R.set t y = R.set t (R.none y.path) := by
      rw [set_gone hok y hs hk0, set_gone hok (R.none y.path) hs rfl]; rfl
    have hwo := fun W (hW : Below w.heap.size w W) => g_without tv t y.path W M (fun b hb => by have := hM b hb; have := hW.size; omega) (h.below hW) hok hs
    rw [hset, hy0 hk0]
    clear hok h hset hy hyk hy0 hk0
    go_enter Tryz.func96, Tryz.ntmps96
    go_wp2_with fail
    refine (hwo _ ((Below.refl _ _).alloc (Nat.le_refl _) _)).mono ?_
    rintro e w1 ⟨v1, rfl, hp1, hb1⟩
    go_wp2
    go_ret
    exact ⟨v1, rfl, hp1, ((Below.refl _ _).alloc (Nat.le_refl _) _).trans (hb1.mono (by simp))⟩
  · have hoky : OkL y := hyk.resolve_left hk0
    have hpk : (pk y == 0) = false := by rcases pk_of hoky with h | h | h <;> rw [h.1] <;> rfl
    have hpl := fun W (hW : Below w.heap.size w W) => g_place tv t y.path W M (h.below hW) (by omega) hok.sort
    have hcl := fun W (hW : Below w.heap.size w W) => s_CloneLeaf tv t W M (h.below hW) (by omega)
    have HY := hide3 hy
    cases hany : (t.any fun x => x.path == y.path)
    · rw [hany] at hpl
      have HS : Hid (R.set t y = t.take (posT t y.path) ++ y :: t.drop (posT t y.path)) := set_miss hok y hs hk0 hany
      have hlt : posT t y.path ≤ t.length := List.findIdx_le_length
      clear hok h hy hyk hy0 hoky hk0
      generalize posT t y.path = p at *
      go_enter Tryz.func96, Tryz.ntmps96
      go_wp2_with fail
      refine (hpl _ ((Below.refl _ _).alloc (Nat.le_refl _) _)).mono ?_
      rintro e w1 ⟨rfl, hb1⟩
      have hB1 : Below w.heap.size w w1 := ((Below.refl _ _).alloc (Nat.le_refl _) _).trans (hb1.mono (by simp))
      have b0 : w1.cell? ⟨w.heap.size, 0, none⟩ = some (.int .i64 (pk y)) := by rw [hb1.cell (p := ⟨w.heap.size, 0, none⟩) (by simp)]; simp
      have b1 : w1.cell? ⟨w.heap.size, 1, none⟩ = some (.int .i64 y.n) := by rw [hb1.cell (p := ⟨w.heap.size, 1, none⟩) (by simp)]; simp
      have b2 : w1.cell? ⟨w.heap.size, 2, none⟩ = some (.string ⟨y.text.toArray⟩) := by rw [hb1.cell (p := ⟨w.heap.size, 2, none⟩) (by simp)]; simp
      have b3 : w1.cell? ⟨w.heap.size, 3, none⟩ = some (.slice ia y.items.length ic) := by rw [hb1.cell (p := ⟨w.heap.size, 3, none⟩) (by simp)]; simp
      have hs1 : w.heap.size + 1 ≤ w1.heap.size := by have := hb1.size; simpa using this
      clear hb1
      go_wp2_with fail
      refine (hcl _ hB1).mono ?_
      rintro e w2 ⟨L, v2, hL, rfl, ho, hI, hb2⟩
      have hLl : L.length = t.length := by rw [← hL, List.length_map]
      have hs2 := hb2.size
      have d0 := (hb2.cell (p := ⟨w.heap.size, 0, none⟩) hs1).trans b0
      have d1 := (hb2.cell (p := ⟨w.heap.size, 1, none⟩) hs1).trans b1
      have d2 := (hb2.cell (p := ⟨w.heap.size, 2, none⟩) hs1).trans b2
      have d3 := (hb2.cell (p := ⟨w.heap.size, 3, none⟩) hs1).trans b3
      have HO := hide3 ho
      have HL := hide3 hL
      have HI2 := hide3 hI
      have HB2 : Hid (Below w.heap.size w w2) := hB1.trans (hb2.mono hB1.size)
      have HPL : Hid (p ≤ L.length) := by rw [hLl]; exact hlt
      have HIns := fun W (hW : Below w2.heap.size w2 W) vb (hvb : W.heap[vb]? = some (.cells #[.string ⟨y.path.toArray⟩, .int .i64 (pk y), .int .i64 y.n, .string ⟨y.text.toArray⟩, .slice ia y.items.length ic] 139 (0, 0))) (hne : v2.ownBlock ≠ some vb) => s_InsL v2 L.length p vb w1.heap.size (cellsP L) #[.string ⟨y.path.toArray⟩, .int .i64 (pk y), .int .i64 y.n, .string ⟨y.text.toArray⟩, .slice ia y.items.length ic] W (ownsRow_below HO.out hW) (by have := hW.size; omega) HPL.out (by omega) hvb rfl hne (cellsP_one L HI2.out) (by
        intro u hu
        simp only [List.mem_cons, List.not_mem_nil, or_false] at hu
        rcases hu with rfl | rfl | rfl | rfl | rfl <;> rfl)
      clear b0 b1 b2 b3 ho hI hL hcl hpl hany
      go_wp2_with fail
      refine (HIns _ ((Below.refl _ _).alloc (Nat.le_refl _) _) w2.heap.size (heap_alloc_new w2 _) (fun e => by have := (HO.out.lt _ e).2; omega)).mono ?_
      rintro e w3 ⟨v3, rfl, ho3, hg3, _⟩
      have hB3 : Below w1.heap.size w1 w3 := (hb2.alloc hs2 _).grown hg3 (by simp; omega) (fun k hk => (HO.out.lt k hk).1)
      go_wp2
      go_ret
      refine ⟨v3, rfl, ⟨L.take p ++ (y, .slice ia y.items.length ic) :: L.drop p, ?_, ?_, ?_⟩, hB1.trans (hB3.mono (by omega))⟩
      · rw [HS.out, ← HL.out, List.map_append, List.map_take, List.map_cons, List.map_drop]
      · have hlen : (L.take p ++ (y, Value.slice ia y.items.length ic) :: L.drop p).length = L.length + 1 := by have := HPL.out; simp only [List.length_append, List.length_take, List.length_cons, List.length_drop]; omega
        rw [hlen]
        have hcc : cellsP (L.take p ++ (y, Value.slice ia y.items.length ic) :: L.drop p) = (cellsP L).take (p * 5) ++ ((#[Value.string ⟨y.path.toArray⟩, .int .i64 (pk y), .int .i64 y.n, .string ⟨y.text.toArray⟩, .slice ia y.items.length ic]).toList ++ (cellsP L).drop (p * 5)) := by
          rw [cellsP_append, cellsP_take, ← cellsP_drop]; simp [cellsP, PC]
        rw [hcc]
        exact Rd.of_owns ho3 (fun b hb => by have := hM b hb; omega)
      · intro q hq
        rcases List.mem_append.1 hq with h | h
        · exact Rd.below (HI2.out q (List.mem_of_mem_take h)) hB3
        · rcases List.mem_cons.1 h with rfl | h
          · exact Rd.below HY.out (hB1.trans (hB3.mono (by omega)))
          · exact Rd.below (HI2.out q (List.mem_of_mem_drop h)) hB3
    · rw [hany] at hpl
      have HS : Hid (R.set t y = t.take (posT t y.path) ++ y :: t.drop (posT t y.path + 1)) := set_hit hok y hs hk0 hany
      obtain ⟨hlt, hpath⟩ := posK_hit (k := R.Leaf.path) hok.sort.k hany
      change posT t y.path < t.length at hlt
      have HPath : Hid (∀ h : posT t y.path < t.length, (t[posT t y.path]'h).path = y.path) := fun _ => hpath
      clear hok h hy hyk hy0 hoky hk0 hpath
      generalize posT t y.path = p at *
      go_enter Tryz.func96, Tryz.ntmps96
      go_wp2_with fail
      refine (hpl _ ((Below.refl _ _).alloc (Nat.le_refl _) _)).mono ?_
      rintro e w1 ⟨rfl, hb1⟩
      have hB1 : Below w.heap.size w w1 := ((Below.refl _ _).alloc (Nat.le_refl _) _).trans (hb1.mono (by simp))
      have b0 : w1.cell? ⟨w.heap.size, 0, none⟩ = some (.int .i64 (pk y)) := by rw [hb1.cell (p := ⟨w.heap.size, 0, none⟩) (by simp)]; simp
      have b1 : w1.cell? ⟨w.heap.size, 1, none⟩ = some (.int .i64 y.n) := by rw [hb1.cell (p := ⟨w.heap.size, 1, none⟩) (by simp)]; simp
      have b2 : w1.cell? ⟨w.heap.size, 2, none⟩ = some (.string ⟨y.text.toArray⟩) := by rw [hb1.cell (p := ⟨w.heap.size, 2, none⟩) (by simp)]; simp
      have b3 : w1.cell? ⟨w.heap.size, 3, none⟩ = some (.slice ia y.items.length ic) := by rw [hb1.cell (p := ⟨w.heap.size, 3, none⟩) (by simp)]; simp
      have hs1 : w.heap.size + 1 ≤ w1.heap.size := by have := hb1.size; simpa using this
      clear hb1
      go_wp2_with fail
      refine (hcl _ hB1).mono ?_
      rintro e w2 ⟨L, v2, hL, rfl, ho, hI, hb2⟩
      have hLl : L.length = t.length := by rw [← hL, List.length_map]
      have hs2 := hb2.size
      have d0 := (hb2.cell (p := ⟨w.heap.size, 0, none⟩) hs1).trans b0
      have d1 := (hb2.cell (p := ⟨w.heap.size, 1, none⟩) hs1).trans b1
      have d2 := (hb2.cell (p := ⟨w.heap.size, 2, none⟩) hs1).trans b2
      have d3 := (hb2.cell (p := ⟨w.heap.size, 3, none⟩) hs1).trans b3
      have HO := hide3 ho
      have HL := hide3 hL
      have HI2 := hide3 hI
      have HB2 : Hid (Below w.heap.size w w2) := hB1.trans (hb2.mono hB1.size)
      have HPL : Hid (p ≤ L.length) := by rw [hLl]; exact Nat.le_of_lt hlt
      have hpL : p < L.length := by rw [hLl]; exact hlt
      obtain ⟨a2, c2, rfl, hn2, hm2, hnil, hsome⟩ := owns_form ho
      cases a2 with
      | none => have := (hnil rfl).1; omega
      | some ad =>
        obtain ⟨g, rfl, hg1, hg2, hfz, hcell⟩ := hsome ad rfl
        obtain ⟨e0, e1, e2, e3, e4⟩ := leafP (off := 0) (by simpa using hcell) p hpL
        simp only [Nat.zero_add] at e0 e1 e2 e3 e4
        have f1 := hfz (p * 5 + 1)
        have f2 := hfz (p * 5 + 2)
        have f3 := hfz (p * 5 + 3)
        have f4 := hfz (p * 5 + 4)
        unfold maxLen at hm2
        clear b0 b1 b2 b3 ho hI hL hcl hpl hany hcell hfz hsome hnil
        have hxl := cellsP_length L
        have o1 := ownsRow_set HO.out (p * 5 + 1) (by omega) (.int .i64 (pk y))
        have o2 := ownsRow_set o1 (p * 5 + 2) (by rw [List.length_set]; omega) (.int .i64 y.n)
        have o3 := ownsRow_set o2 (p * 5 + 3) (by rw [List.length_set, List.length_set]; omega) (.string ⟨y.text.toArray⟩)
        have o4 := ownsRow_set o3 (p * 5 + 4) (by rw [List.length_set, List.length_set, List.length_set]; omega) (.slice ia y.items.length ic)
        have hpp : (L[p]'hpL).1.path = y.path := by
          have := HPath.out hlt
          simp only [← HL.out, List.getElem_map] at this
          exact this
        rw [← cellsP_set L p hpL y (.slice ia y.items.length ic) hpp] at o4
        have HO4 := hide3 o4
        have HB4 : Hid (Below w1.heap.size w1 ((((w2.setCell ⟨g, p * 5 + 1, none⟩ (.int .i64 (pk y))).setCell ⟨g, p * 5 + 2, none⟩ (.int .i64 y.n)).setCell ⟨g, p * 5 + 3, none⟩ (.string ⟨y.text.toArray⟩)).setCell ⟨g, p * 5 + 4, none⟩ (.slice ia y.items.length ic))) :=
          (((hb2.setCell (p := ⟨g, p * 5 + 1, none⟩) hg1 _).setCell (p := ⟨g, p * 5 + 2, none⟩) hg1 _).setCell (p := ⟨g, p * 5 + 3, none⟩) hg1 _).setCell (p := ⟨g, p * 5 + 4, none⟩) hg1 _
        clear o1 o2 o3 o4 hxl
        go_wp2
        go_ret
        refine ⟨_, rfl, ⟨L.set p (y, .slice ia y.items.length ic), ?_, ?_, ?_⟩, hB1.trans (HB4.out.mono (by omega))⟩
        · rw [HS.out, ← HL.out, List.map_set, List.set_eq_take_append_cons_drop, if_pos (by simpa using hpL)]
        · rw [List.length_set, ← hLl]
          exact Rd.of_owns HO4.out (fun b hb => by have := hM b hb; omega)
        · intro q hq
          rcases List.mem_or_eq_of_mem_set hq with h | rfl
          · exact Rd.below (HI2.out q h) HB4.out
          · exact Rd.below HY.out (hB1.trans (HB4.out.mono (by omega)))
end Go.Proofs.YtolgebdmffcemaaGreatDoor
