/-
  How the document's answer (graftref) makes a branch.
-/
import Derived.Test.YtolgebdmffcemaaGreatDoorPart04
set_option linter.unusedVariables false
namespace Go.Proofs.YtolgebdmffcemaaGreatDoor
open Go.RowKit
theorem sc_other (w : World) (B i j : Nat) (v : Value) (h : j ≠ i) : (w.setCell ⟨B, i, none⟩ v).cell? ⟨B, j, none⟩ = w.cell? ⟨B, j, none⟩ :=
  World.cell?_setCell_other (w := w) (a := ⟨B, i, none⟩) (b := ⟨B, j, none⟩) (v := v) (fun e => h (by injection e with _ e _; exact e.symm))
theorem sc_same (w : World) (B i : Nat) (v u : Value) (h : w.cell? ⟨B, i, none⟩ = some u) : (w.setCell ⟨B, i, none⟩ v).cell? ⟨B, i, none⟩ = some v :=
  World.cell?_setCell_same (w := w) (a := ⟨B, i, none⟩) (v := v) h
theorem ownsRow_kept {O : Nat → Prop} {w w' : World} {base : Nat} {e : TypeId} {size : Nat} {v : Value} {n : Nat} {xs : List Value} (h : w.ownsRow base e size v n xs) (hk : Kept O w w') (hne : ∀ g, v.ownBlock = some g → ¬ O g) : w'.ownsRow base e size v n xs := by
  obtain ⟨h1, h2⟩ := h
  refine ⟨h1, ?_⟩
  rcases h2 with h2 | ⟨g, cap, cur, rfl, hg, hh, r⟩
  · exact .inl h2
  · exact .inr ⟨g, cap, cur, rfl, hg, by rw [hk.block g (Array.getElem?_eq_some_iff.1 hh).1 (hne g rfl)]; exact hh, r⟩
theorem RS.kept {w w' : World} {M O : Nat → Prop} {B : Nat} {st : R.St} (h : RS w M O B st) {Z : Nat → Prop} (hk : Kept Z w w') (hZ : ∀ b, Z b → M b ∧ ¬ O b) {M' : Nat → Prop} (hM : ∀ b, M' b → M b ∨ w.heap.size ≤ b) (hOM : ∀ b, O b → M' b) : RS w' M' O B st := by
  obtain ⟨cv, bv, LB, LCm, h⟩ := h
  have hs := hk.size
  have hB : ∀ o, w'.cell? ⟨B, o, none⟩ = w.cell? ⟨B, o, none⟩ := fun o => hk.cell (p := ⟨B, o, none⟩) (h.lt B h.own) (fun e => (hZ B e).2 h.own)
  have hF : ∀ o, w'.frozen? ⟨B, o, none⟩ = w.frozen? ⟨B, o, none⟩ := fun o => hk.frozen (p := ⟨B, o, none⟩) (h.lt B h.own) (fun e => (hZ B e).2 h.own)
  exact ⟨cv, bv, LB, LCm, hOM, fun b hb => Nat.lt_of_lt_of_le (h.lt b hb) hs, h.own, by rw [hB]; exact h.c0, by rw [hB]; exact h.c1, by rw [hB]; exact h.c2, fun o => by rw [hF]; exact h.fr o, h.brs,
    ownsRow_kept h.row hk (fun g hg e => (hZ g e).2 (h.rowO g hg).1), h.rowO, fun p hp => (h.work p hp).step hk (fun b hb => (hZ b hb).1) hM, h.cms, ownsRow_kept h.crow hk (fun g hg e => (hZ g e).2 (h.crowO g hg).1), h.crowO,
    fun p hp => (h.ctree p hp).step hk (fun b hb => (hZ b hb).1) hM, fun p hp => (h.cpar p hp).step hk (fun b hb => (hZ b hb).1) hM⟩
theorem RS.below {w w' : World} {M O : Nat → Prop} {B : Nat} {st : R.St} (h : RS w M O B st) (hb : Below w.heap.size w w') : RS w' M O B st :=
  h.kept (Z := fun _ => False) (Kept.of_below hb) (fun _ e => e.elim) (fun _ h => .inl h) (by obtain ⟨_, _, _, _, h⟩ := h; exact h.sub)
theorem ownsRow_base {w : World} {base base' : Nat} {e : TypeId} {size : Nat} {v : Value} {n : Nat} {xs : List Value} (h : w.ownsRow base e size v n xs) (hb : base' ≤ base) : w.ownsRow base' e size v n xs := by
  obtain ⟨h1, h2⟩ := h
  refine ⟨h1, ?_⟩
  rcases h2 with h2 | ⟨g, cap, cur, rfl, hg, r⟩
  · exact .inl h2
  · exact .inr ⟨g, cap, cur, rfl, Nat.le_trans hb hg, r⟩
theorem cellsB_append (a b : List (R.Br × Value)) : cellsB (a ++ b) = cellsB a ++ cellsB b := by simp [cellsB]
theorem cellsB_take : ∀ (L : List (R.Br × Value)) (k : Nat), cellsB (L.take k) = (cellsB L).take (k * 3)
  | [], k => by simp [cellsB]
  | p :: r, 0 => by simp [cellsB]
  | p :: r, k + 1 => by
    have ih := cellsB_take r k
    unfold cellsB at ih ⊢
    rw [List.take_succ_cons, List.flatMap_cons, ih, List.flatMap_cons, show (k + 1) * 3 = k * 3 + 3 from by omega]
    simp
theorem cellsB_drop : ∀ (L : List (R.Br × Value)) (k : Nat), cellsB (L.drop k) = (cellsB L).drop (k * 3)
  | [], k => by simp [cellsB]
  | p :: r, 0 => by simp
  | p :: r, k + 1 => by
    have ih := cellsB_drop r k
    unfold cellsB at ih ⊢
    rw [List.drop_succ_cons, ih, List.flatMap_cons, show (k + 1) * 3 = k * 3 + 3 from by omega]
    simp
theorem headNew_RS {w w5 w6 : World} {M O : Nat → Prop} {B : Nat} {st : R.St} {cv bv : Value} {LB : List (R.Br × Value)} {LCm : List (R.Cm × Value × Value)} (hR : RSx w M O B st cv bv LB LCm) {name : List UInt8} {n k : Nat} {tv v3 : Value} {tree : List R.Leaf} (htr : Tr w M tv tree)
    (hb5 : Below w.heap.size w w5) (hk : k ≤ LB.length) (hpos : R.pos st.brs name = k) {m : Nat} (hm : m = LB.length + 1) {xs : List Value} (hxs : xs = (cellsB LB).take (k * 3) ++ ([.string ⟨name.toArray⟩, .int .i64 (n : Int), tv] ++ (cellsB LB).drop (k * 3)))
    (ho3 : w5.ownsRow (w.heap.size + 1) 87 3 v3 m xs) (hb6 : Below w5.heap.size (w5.setCell ⟨B, 1, none⟩ v3) w6) :
    ∃ O', RS (w6.setCell ⟨B, 2, none⟩ (.string ⟨(st.packed ++ R.record 66 (UInt8.ofNat n :: name)).toArray⟩)) (fun b => M b ∨ O' b) O' B (R.headNew st { name := name, head := n, work := tree }) ∧ Kept (fun b => b = B) w (w6.setCell ⟨B, 2, none⟩ (.string ⟨(st.packed ++ R.record 66 (UInt8.ofNat n :: name)).toArray⟩)) ∧ (∀ b, O' b → O b ∨ w.heap.size ≤ b) := by
  have hBl := hR.lt B hR.own
  have hs5 := hb5.size
  have hs6 := hb6.size
  simp only [World.size_setCell] at hs6
  have hK5 : Kept (fun b => b = B) w5 w6 := ((Kept.refl (fun b => b = B) w5).setCell (p := ⟨B, 1, none⟩) (.inl rfl) v3).trans (Kept.of_below (by rw [World.size_setCell]; exact hb6))
  have hK5' := hK5.setCell (p := ⟨B, 2, none⟩) (.inl rfl) (.string ⟨(st.packed ++ R.record 66 (UInt8.ofNat n :: name)).toArray⟩)
  have hK := (Kept.of_below (M := fun b => b = B) hb5).trans hK5'
  have hg3 : ∀ g, v3.ownBlock = some g → w.heap.size + 1 ≤ g ∧ g < w5.heap.size := fun g hg => ho3.lt g hg
  have e6 : ∀ o, w6.cell? ⟨B, o, none⟩ = (w5.setCell ⟨B, 1, none⟩ v3).cell? ⟨B, o, none⟩ := fun o => hb6.cell (p := ⟨B, o, none⟩) (Nat.lt_of_lt_of_le hBl hs5)
  have e5 : ∀ o, w5.cell? ⟨B, o, none⟩ = w.cell? ⟨B, o, none⟩ := fun o => hb5.cell (p := ⟨B, o, none⟩) hBl
  have f6 : ∀ o, w6.frozen? ⟨B, o, none⟩ = w.frozen? ⟨B, o, none⟩ := fun o => by
    rw [hb6.frozen (p := ⟨B, o, none⟩) (Nat.lt_of_lt_of_le hBl hs5), World.frozen?_setCell, hb5.frozen (p := ⟨B, o, none⟩) hBl]
  have hMs : ∀ b, (M b ∨ O b ∨ v3.ownBlock = some b) → M b ∨ w.heap.size ≤ b := by
    rintro b (h | h | h)
    · exact .inl h
    · exact .inl (hR.sub b h)
    · exact .inr (by have := (hg3 b h).1; omega)
  have hBM : ∀ b, b = B → M b := fun b e => e ▸ hR.sub B hR.own
  refine ⟨fun b => O b ∨ v3.ownBlock = some b, ⟨cv, v3, LB.take k ++ ([({ name := name, head := n, work := tree }, tv)] ++ LB.drop k), LCm, fun b hb => .inr hb, ?_, .inl hR.own, ?_, ?_, ?_, ?_, ?_, ?_, ?_, ?_, hR.cms, ?_, ?_, ?_, ?_⟩, hK, ?_⟩
  · rintro b (h | h)
    · exact Nat.lt_of_lt_of_le (hR.lt b h) hK.size
    · exact Nat.lt_of_lt_of_le (hg3 b h).2 hK5'.size
  · rw [sc_other _ _ _ _ _ (by omega), e6, sc_other _ _ _ _ _ (by omega), e5]; exact hR.c0
  · rw [sc_other _ _ _ _ _ (by omega), e6]
    exact sc_same _ _ _ _ _ ((e5 1).trans hR.c1)
  · refine sc_same _ _ _ _ (.string ⟨st.packed.toArray⟩) ?_
    rw [e6, sc_other _ _ _ _ _ (by omega), e5]; exact hR.c2
  · intro o; rw [World.frozen?_setCell, f6]; exact hR.fr o
  · simp only [R.headNew, R.insB, List.map_append, List.map_take, List.map_drop, hR.brs, hpos]; rfl
  · have h1 := ownsRow_kept (ownsRow_base ho3 (Nat.zero_le _)) hK5' (fun g hg e => by have := (hg3 g hg).1; omega)
    have hl : (LB.take k ++ ([(({ name := name, head := n, work := tree } : R.Br), tv)] ++ LB.drop k)).length = m := by simp; omega
    rw [hl]
    rw [cellsB_append, cellsB_append, cellsB_take, cellsB_drop]
    rw [hxs] at h1
    exact h1
  · intro g hg
    exact ⟨.inr hg, by have := (hg3 g hg).1; omega⟩
  · intro p hp
    rcases List.mem_append.1 hp with hp | hp
    · exact (hR.work p (List.mem_of_mem_take hp)).step hK hBM hMs
    · rcases List.mem_append.1 hp with hp | hp
      · rw [List.mem_singleton] at hp; subst hp; exact htr.step hK hBM hMs
      · exact (hR.work p (List.mem_of_mem_drop hp)).step hK hBM hMs
  · exact ownsRow_kept hR.crow hK (fun g hg e => (hR.crowO g hg).2.1 e)
  · intro g hg
    have h1 := hR.crowO g hg
    exact ⟨.inl h1.1, h1.2.1, fun e => by have := (hg3 g e).1; have := hR.lt g h1.1; omega⟩
  · exact fun p hp => (hR.ctree p hp).step hK hBM hMs
  · exact fun p hp => (hR.cpar p hp).step hK hBM hMs
  · rintro b (h | h)
    · exact .inl h
    · exact .inr (by have := (hg3 b h).1; omega)
theorem conv1' (W : World) (H : Nat) (hH : W.heap.size = H) (a : UInt8) (x : Int) (hx : (a.toNat : Int) = x) :
    (convert 100 9 (.slice (some ⟨H, 0, none⟩) 1 1)).run Tryz.prog (W.alloc (.cells #[.int .u8 x] 5)) = .ok (.string ⟨[a].toArray⟩) (W.alloc (.cells #[.int .u8 x] 5)) := by
  subst hH; exact conv1 W a x hx
theorem r_note' (ci : Int) (B : Nat) (c : UInt8) (hci : (c.toNat : Int) = ci) (packed body : List UInt8) (w : World) (hB : B < w.heap.size) (h2 : w.cell? ⟨B, 2, none⟩ = some (.string ⟨packed.toArray⟩)) (hf : ∀ o, w.frozen? ⟨B, o, none⟩ = false) (hp : packed.length ≤ 1000000000000000) (hb : body.length ≤ 1000000) :
    Calls Tryz.prog 166 #[.pointer (some ⟨B, 0, none⟩), .int .u8 ci, .string ⟨body.toArray⟩] w fun e w' =>
      e = .returned (.tuple #[]) ∧ ∃ w1, Below w.heap.size w w1 ∧ w' = w1.setCell ⟨B, 2, none⟩ (.string ⟨(packed ++ R.record c body).toArray⟩) := by
  subst hci; exact r_note B c packed body w hB h2 hf hp hb
theorem cellsB_one {w : World} {M : Nat → Prop} (L : List (R.Br × Value)) (h : ∀ p ∈ L, Tr w M p.2 p.1.work) : ∀ u ∈ cellsB L, u.oneCell' = true := by
  intro u hu
  unfold cellsB at hu
  obtain ⟨p, hp, hu⟩ := List.mem_flatMap.1 hu
  obtain ⟨_, _, ⟨a, cap, e, _⟩, _⟩ := h p hp
  simp only [List.mem_cons, List.not_mem_nil, or_false] at hu
  rcases hu with rfl | rfl | rfl
  · rfl
  · rfl
  · rw [e]; rfl
theorem take_cells {w : World} {g n : Nat} {xs : List Value} (hc : ∀ j u, xs[j]? = some u → w.cell? ⟨g, j, none⟩ = some u) : ∀ ad, some (⟨g, 0, none⟩ : Addr) = some ad → ∀ j u, (xs.take n)[j]? = some u → w.cell? (ad.add j) = some u := by
  intro ad e j u hu
  simp only [Option.some.injEq] at e
  subst e
  have hadd : (⟨g, 0, none⟩ : Addr).add j = ⟨g, j, none⟩ := by unfold Addr.add; split <;> simp_all
  rw [hadd]
  rw [List.getElem?_take] at hu
  split at hu
  · exact hc j u hu
  · cases hu
theorem drop_cells {w : World} {g n : Nat} {xs : List Value} (hc : ∀ j u, xs[j]? = some u → w.cell? ⟨g, j, none⟩ = some u) : ∀ ad, some (⟨g, n, none⟩ : Addr) = some ad → ∀ j u, (xs.drop n)[j]? = some u → w.cell? (ad.add j) = some u := by
  intro ad e j u hu
  simp only [Option.some.injEq] at e
  subst e
  have hadd : (⟨g, n, none⟩ : Addr).add j = ⟨g, n + j, none⟩ := by unfold Addr.add; split <;> simp_all
  rw [hadd]
  rw [List.getElem?_drop] at hu
  exact hc _ u hu
theorem three_one (a : List UInt8) (n : Int) (ia : Option Addr) (il ic : Nat) : ∀ u ∈ #[Value.string ⟨a.toArray⟩, .int .i64 n, .slice ia il ic].toList, u.oneCell' = true := by
  intro u hu
  simp only [List.mem_cons, List.not_mem_nil, or_false] at hu
  rcases hu with rfl | rfl | rfl <;> rfl
set_option maxHeartbeats 3200000 in
set_option maxRecDepth 1000000 in
theorem r_head_new (B : Nat) (st : R.St) (name : List UInt8) (n : Nat) (tv : Value) (tree : List R.Leaf) (w : World) (M O : Nat → Prop) (h : RS w M O B st) (hM : ∀ b, M b → b < w.heap.size)
    (hnew : R.fndI st.brs name = -1) (hlen : st.brs.length ≤ 1000) (hpk : st.packed.length ≤ 1000000000000) (hnl : name.length ≤ 1000) (hn : n ≤ 255)
    (hat : ∀ W, Below w.heap.size w W → Calls Tryz.prog 176 #[.pointer (some ⟨B, 0, none⟩), .int .i64 (n : Int)] W fun e w' => e = .returned tv ∧ w' = W) (htr : Tr w M tv tree) :
    Calls Tryz.prog 165 #[.pointer (some ⟨B, 0, none⟩), .string ⟨name.toArray⟩, .int .i64 (n : Int)] w fun e w' =>
      e = .returned (.tuple #[]) ∧ ∃ O', RS w' (fun b => M b ∨ O' b) O' B (R.headNew st { name := name, head := n, work := tree }) ∧ Kept (fun b => b = B) w w' ∧ (∀ b, O' b → O b ∨ w.heap.size ≤ b) := by
  obtain ⟨ta, tcap, htv⟩ : ∃ ta tcap, tv = .slice ta tree.length tcap := by
    obtain ⟨L, hL, ⟨a, cap, rfl, _⟩, _⟩ := htr
    exact ⟨a, cap, by rw [← hL, List.length_map]⟩
  subst htv
  have hRS := h
  obtain ⟨cv, bv, LB, LCm, hR⟩ := h
  have hBl := hR.lt B hR.own
  go_enter Tryz.func165, Tryz.ntmps165
  go_wp2_with fail
  refine (hat _ (Below.refl _ _)).mono ?_
  rintro e w1 ⟨rfl, rfl⟩
  go_wp2_with fail
  generalize hA : w1.alloc (.cells #[.string ⟨name.toArray⟩, .int .i64 (n : Int), .slice ta tree.length tcap] 87) = wA
  have hbA : Below w1.heap.size w1 wA := by rw [← hA]; exact (Below.refl _ _).alloc (Nat.le_refl _) _
  have hzA : wA.heap.size = w1.heap.size + 1 := by rw [← hA]; simp
  have x0 : wA.cell? ⟨w1.heap.size, 0, none⟩ = some (.string ⟨name.toArray⟩) := by rw [← hA]; simp
  have x1 : wA.cell? ⟨w1.heap.size, 1, none⟩ = some (.int .i64 (n : Int)) := by rw [← hA]; simp
  have x2 : wA.cell? ⟨w1.heap.size, 2, none⟩ = some (.slice ta tree.length tcap) := by rw [← hA]; simp
  clear hA
  refine (r_find B st name _ M O (hRS.below hbA)).mono ?_
  rintro e w2 ⟨rfl, rfl⟩
  rw [hnew]
  have hrow := ownsRow_below hR.row hbA
  have c1 := (hbA.cell (p := ⟨B, 1, none⟩) hBl).trans hR.c1
  obtain ⟨a, cap, rfl, hnc, hm, hno, hso⟩ := owns_form hrow
  have hLB : LB.length ≤ 1000 := by rw [← hR.brs, List.length_map] at hlen; exact hlen
  unfold maxLen at hm
  go_wp2
  go_loop [8] (fun i => ∃ k : Nat, k ≤ LB.length ∧ i = .int .i64 k ∧ ((LB.map (·.1)).take k).all (R.less name) = true) (fun i => LB.length - (intOf i).toNat)
  case atStart => exact ⟨0, Nat.zero_le _, rfl, rfl⟩
  case round =>
    obtain ⟨k, hk, rfl, hall⟩ := hrel
    have HA : Hid (((LB.map (·.1)).take k).all (R.less name) = true) := hall
    clear hall
    by_cases hgo : ∃ h : k < LB.length, R.less name (LB[k]'h).1 = true
    · obtain ⟨hlt, hle⟩ := hgo
      cases a with
      | none => have := (hno rfl).1; omega
      | some ad =>
        obtain ⟨g, rfl, _, hg, _, hcell⟩ := hso ad rfl
        obtain ⟨d0, -, -⟩ := br_cells hcell k hlt
        have hbl : Op.bytesLess (LB[k]'hlt).1.name name = true := hle
        have HL : Hid (R.less name ((LB.map (·.1))[k]'(by simpa using hlt)) = true) := by show _ = _; simpa using hle
        generalize (LB[k]'hlt).1 = y at hbl d0
        clear hcell hso hno hle
        go_wp2
        go_round
        case rel => exact ⟨k + 1, by omega, by go_num, R.all_snoc _ _ k (by simpa using hlt) HA.out HL.out⟩
        case measure => simp [intOf]; omega
    · have HP : Hid (R.pos st.brs name = k) := by
        show _ = _
        rw [← hR.brs]
        refine R.pos_eq _ _ k (by simpa using hk) HA.out fun h => ?_
        rw [Bool.eq_false_iff]
        intro e
        exact hgo ⟨by simpa using h, by simpa using e⟩
      by_cases hlt : k < LB.length
      · have hbl : Op.bytesLess (LB[k]'hlt).1.name name = false := by
          rw [Bool.eq_false_iff]; intro e; exact hgo ⟨hlt, e⟩
        cases a with
        | none => have := (hno rfl).1; omega
        | some ad =>
          obtain ⟨g, rfl, _, hg, _, hcell⟩ := hso ad rfl
          obtain ⟨d0, -, -⟩ := br_cells hcell k hlt
          generalize (LB[k]'hlt).1 = y at hbl d0
          clear hgo
          have hone := cellsB_one LB hR.work
          go_wp2_with (at_builtin; go_loud (refine wp_app_src w2 rfl _ _ 75 rfl (w1.heap.size + 1) 87 (.agg #[.string ⟨#[]⟩, .int .i64 0, .slice none 0 0]) 3 48 Tryz.underlying75 Tryz.info87 rfl (by decide) (World.ownsRow_nil _ _ _ _) (some ⟨g, 0, none⟩) k cap ((cellsB LB).take (k * 3)) (by rw [List.length_take, cellsB_length]; omega) (fun e => by cases e) (take_cells hcell) (by rfl) (by rfl) (fun u hu => hone u (List.mem_of_mem_take hu)) (by unfold maxLen; omega) (by omega) (by omega) ?_))
          intro v1 w3 ho1 hgr1
          have y0 := hgr1.cell x0 (by simp [Value.ownBlock])
          have y1 := hgr1.cell x1 (by simp [Value.ownBlock])
          have y2 := hgr1.cell x2 (by simp [Value.ownBlock])
          have c1' := hgr1.cell c1 (by simp [Value.ownBlock])
          have hcell3 : ∀ j u, (cellsB LB)[j]? = some u → w3.cell? ⟨g, j, none⟩ = some u := fun j u hu => hgr1.cell (hcell j u hu) (by simp [Value.ownBlock])
          have hs3 := hgr1.size
          clear x0 x1 x2 c1 hcell
          go_wp2_with (at_builtin; go_loud (refine wp_app w3 rfl _ _ 75 rfl (w1.heap.size + 1) 87 (.agg #[.string ⟨#[]⟩, .int .i64 0, .slice none 0 0]) 3 48 Tryz.underlying75 Tryz.info87 rfl (by decide) ho1 _ rfl (by rfl) (by rfl) (three_one _ _ _ _ _) (by unfold maxLen; omega) (by omega) (by omega) ?_))
          intro v2 w4 ho2 hgr2
          have hs4 := hgr2.size
          have hgl := hR.lt g (hR.rowO g rfl).1
          have c1'' := hgr2.cell c1' (fun e => by have := (ho1.lt B e.symm).1; omega)
          have hcell4 : ∀ j u, (cellsB LB)[j]? = some u → w4.cell? ⟨g, j, none⟩ = some u := fun j u hu => hgr2.cell (hcell3 j u hu) (fun e => by have := (ho1.lt g e.symm).1; omega)
          clear y0 y1 y2 c1' hcell3
          go_wp2_with (at_builtin; go_loud (refine wp_app_src w4 rfl _ _ 75 rfl (w1.heap.size + 1) 87 (.agg #[.string ⟨#[]⟩, .int .i64 0, .slice none 0 0]) 3 48 Tryz.underlying75 Tryz.info87 rfl (by decide) ho2 (some ⟨g, k * 3, none⟩) (LB.length - k) (cap - k) ((cellsB LB).drop (k * 3)) (by rw [List.length_drop, cellsB_length]; omega) (fun e => by cases e) (drop_cells hcell4) (by rfl) (by rfl) (fun u hu => hone u (List.mem_of_mem_drop hu)) (by unfold maxLen; omega) (by omega) (by omega) ?_))
          intro v3 w5 ho3 hgr3
          have hs5 := hgr3.size
          have cB := hgr3.cell c1'' (fun e => by have := (ho2.lt B e.symm).1; omega)
          clear c1'' hcell4
          have hbw5 : Below w1.heap.size w1 w5 := ((hbA.grown hgr1 (by omega) (fun j hj => by simp [Value.ownBlock] at hj)).grown hgr2 (by omega) (fun j hj => by have := (ho1.lt j hj).1; omega)).grown hgr3 (by omega) (fun j hj => by have := (ho2.lt j hj).1; omega)
          have fB : ∀ o, w5.frozen? ⟨B, o, none⟩ = false := fun o => (hbw5.frozen (p := ⟨B, o, none⟩) hBl).trans (hR.fr o)
          have fB1 := fB 1
          have pB := (hbw5.cell (p := ⟨B, 2, none⟩) hBl).trans hR.c2
          obtain ⟨a3, cap3, rfl, _, _, _, _⟩ := owns_form ho3
          have hcv := conv1' (w5.setCell ⟨B, 1, none⟩ (.slice a3 (k + 1 + (LB.length - k)) cap3)) w5.heap.size (by simp) (UInt8.ofNat n) (n : Int) (by rw [u8_ofNat]; omega)
          clear hgr1 hgr2 hgr3
          go_wp2_with fail
          rw [mk_lit [UInt8.ofNat n] #[UInt8.ofNat n] rfl, mk_add]
          refine (r_note' 66 B 66 rfl st.packed (UInt8.ofNat n :: name) _ (by simp; omega) (by rw [World.cell?_alloc_past _ _ _ (by simp; omega), sc_other _ _ _ _ _ (by omega)]; exact pB) (fun o => by rw [World.frozen?_alloc_past _ _ _ (by simp; omega), World.frozen?_setCell]; exact fB o) (by omega) (by simp; omega)).mono ?_
          rintro e w' ⟨rfl, w6, hb6, rfl⟩
          go_wp2
          go_end0
          refine ⟨rfl, headNew_RS hR htr hbw5 hk HP.out (by omega) (by simp) ho3 ?_⟩
          have hb7 : Below w5.heap.size (w5.setCell ⟨B, 1, none⟩ (.slice a3 (k + 1 + (LB.length - k)) cap3)) ((w5.setCell ⟨B, 1, none⟩ (.slice a3 (k + 1 + (LB.length - k)) cap3)).alloc (.cells #[.int .u8 (n : Int)] 5)) := (Below.refl _ _).alloc (by simp) _
          exact hb7.trans (hb6.mono (by simp))
      · cases a with
        | some ad =>
          obtain ⟨g, rfl, _, hg, _, hcell⟩ := hso ad rfl
          by_cases hck : cap = k
          · subst hck
            clear hgo
            have hone := cellsB_one LB hR.work
            go_wp2_with (at_builtin; go_loud (refine wp_app_src w2 rfl _ _ 75 rfl (w1.heap.size + 1) 87 (.agg #[.string ⟨#[]⟩, .int .i64 0, .slice none 0 0]) 3 48 Tryz.underlying75 Tryz.info87 rfl (by decide) (World.ownsRow_nil _ _ _ _) (some ⟨g, 0, none⟩) cap cap ((cellsB LB).take (cap * 3)) (by rw [List.length_take, cellsB_length]; omega) (fun e => by cases e) (take_cells hcell) (by rfl) (by rfl) (fun u hu => hone u (List.mem_of_mem_take hu)) (by unfold maxLen; omega) (by omega) (by omega) ?_))
            intro v1 w3 ho1 hgr1
            have y0 := hgr1.cell x0 (by simp [Value.ownBlock])
            have y1 := hgr1.cell x1 (by simp [Value.ownBlock])
            have y2 := hgr1.cell x2 (by simp [Value.ownBlock])
            have c1' := hgr1.cell c1 (by simp [Value.ownBlock])
            have hcell3 : ∀ j u, (cellsB LB)[j]? = some u → w3.cell? ⟨g, j, none⟩ = some u := fun j u hu => hgr1.cell (hcell j u hu) (by simp [Value.ownBlock])
            have hs3 := hgr1.size
            clear x0 x1 x2 c1 hcell
            go_wp2_with (at_builtin; go_loud (refine wp_app w3 rfl _ _ 75 rfl (w1.heap.size + 1) 87 (.agg #[.string ⟨#[]⟩, .int .i64 0, .slice none 0 0]) 3 48 Tryz.underlying75 Tryz.info87 rfl (by decide) ho1 _ rfl (by rfl) (by rfl) (three_one _ _ _ _ _) (by unfold maxLen; omega) (by omega) (by omega) ?_))
            intro v2 w4 ho2 hgr2
            have hs4 := hgr2.size
            have hgl := hR.lt g (hR.rowO g rfl).1
            have c1'' := hgr2.cell c1' (fun e => by have := (ho1.lt B e.symm).1; omega)
            have hcell4 : ∀ j u, (cellsB LB)[j]? = some u → w4.cell? ⟨g, j, none⟩ = some u := fun j u hu => hgr2.cell (hcell3 j u hu) (fun e => by have := (ho1.lt g e.symm).1; omega)
            clear y0 y1 y2 c1' hcell3
            go_wp2_with (at_builtin; go_loud (refine wp_app_src w4 rfl _ _ 75 rfl (w1.heap.size + 1) 87 (.agg #[.string ⟨#[]⟩, .int .i64 0, .slice none 0 0]) 3 48 Tryz.underlying75 Tryz.info87 rfl (by decide) ho2 (some ⟨g, 0, none⟩) 0 0 [] (by simp) (fun e => by cases e) (fun ad _ j u hu => by simp at hu) (by rfl) (by rfl) (fun u hu => by cases hu) (by unfold maxLen; omega) (by omega) (by omega) ?_))
            intro v3 w5 ho3 hgr3
            have hs5 := hgr3.size
            have cB := hgr3.cell c1'' (fun e => by have := (ho2.lt B e.symm).1; omega)
            clear c1'' hcell4
            have hbw5 : Below w1.heap.size w1 w5 := ((hbA.grown hgr1 (by omega) (fun j hj => by simp [Value.ownBlock] at hj)).grown hgr2 (by omega) (fun j hj => by have := (ho1.lt j hj).1; omega)).grown hgr3 (by omega) (fun j hj => by have := (ho2.lt j hj).1; omega)
            have fB : ∀ o, w5.frozen? ⟨B, o, none⟩ = false := fun o => (hbw5.frozen (p := ⟨B, o, none⟩) hBl).trans (hR.fr o)
            have fB1 := fB 1
            have pB := (hbw5.cell (p := ⟨B, 2, none⟩) hBl).trans hR.c2
            obtain ⟨a3, cap3, rfl, _, _, _, _⟩ := owns_form ho3
            have hcv := conv1' (w5.setCell ⟨B, 1, none⟩ (.slice a3 (cap + 1 + 0) cap3)) w5.heap.size (by simp) (UInt8.ofNat n) (n : Int) (by rw [u8_ofNat]; omega)
            clear hgr1 hgr2 hgr3
            go_wp2_with fail
            rw [mk_lit [UInt8.ofNat n] #[UInt8.ofNat n] rfl, mk_add]
            refine (r_note' 66 B 66 rfl st.packed (UInt8.ofNat n :: name) _ (by simp; omega) (by rw [World.cell?_alloc_past _ _ _ (by simp; omega), sc_other _ _ _ _ _ (by omega)]; exact pB) (fun o => by rw [World.frozen?_alloc_past _ _ _ (by simp; omega), World.frozen?_setCell]; exact fB o) (by omega) (by simp; omega)).mono ?_
            rintro e w' ⟨rfl, w6, hb6, rfl⟩
            go_wp2
            go_end0
            refine ⟨rfl, headNew_RS hR htr hbw5 hk HP.out (by omega) (by rw [List.drop_eq_nil_of_le (by rw [cellsB_length]; omega)]; simp) ho3 ?_⟩
            have hb7 : Below w5.heap.size (w5.setCell ⟨B, 1, none⟩ (.slice a3 (cap + 1 + 0) cap3)) ((w5.setCell ⟨B, 1, none⟩ (.slice a3 (cap + 1 + 0) cap3)).alloc (.cells #[.int .u8 (n : Int)] 5)) := (Below.refl _ _).alloc (by simp) _
            exact hb7.trans (hb6.mono (by simp))
          · have hck' : k < cap := by omega
            clear hgo
            have hone := cellsB_one LB hR.work
            go_wp2_with (at_builtin; go_loud (refine wp_app_src w2 rfl _ _ 75 rfl (w1.heap.size + 1) 87 (.agg #[.string ⟨#[]⟩, .int .i64 0, .slice none 0 0]) 3 48 Tryz.underlying75 Tryz.info87 rfl (by decide) (World.ownsRow_nil _ _ _ _) (some ⟨g, 0, none⟩) k cap ((cellsB LB).take (k * 3)) (by rw [List.length_take, cellsB_length]; omega) (fun e => by cases e) (take_cells hcell) (by rfl) (by rfl) (fun u hu => hone u (List.mem_of_mem_take hu)) (by unfold maxLen; omega) (by omega) (by omega) ?_))
            intro v1 w3 ho1 hgr1
            have y0 := hgr1.cell x0 (by simp [Value.ownBlock])
            have y1 := hgr1.cell x1 (by simp [Value.ownBlock])
            have y2 := hgr1.cell x2 (by simp [Value.ownBlock])
            have c1' := hgr1.cell c1 (by simp [Value.ownBlock])
            have hcell3 : ∀ j u, (cellsB LB)[j]? = some u → w3.cell? ⟨g, j, none⟩ = some u := fun j u hu => hgr1.cell (hcell j u hu) (by simp [Value.ownBlock])
            have hs3 := hgr1.size
            clear x0 x1 x2 c1 hcell
            go_wp2_with (at_builtin; go_loud (refine wp_app w3 rfl _ _ 75 rfl (w1.heap.size + 1) 87 (.agg #[.string ⟨#[]⟩, .int .i64 0, .slice none 0 0]) 3 48 Tryz.underlying75 Tryz.info87 rfl (by decide) ho1 _ rfl (by rfl) (by rfl) (three_one _ _ _ _ _) (by unfold maxLen; omega) (by omega) (by omega) ?_))
            intro v2 w4 ho2 hgr2
            have hs4 := hgr2.size
            have hgl := hR.lt g (hR.rowO g rfl).1
            have c1'' := hgr2.cell c1' (fun e => by have := (ho1.lt B e.symm).1; omega)
            have hcell4 : ∀ j u, (cellsB LB)[j]? = some u → w4.cell? ⟨g, j, none⟩ = some u := fun j u hu => hgr2.cell (hcell3 j u hu) (fun e => by have := (ho1.lt g e.symm).1; omega)
            clear y0 y1 y2 c1' hcell3
            go_wp2_with (at_builtin; go_loud (refine wp_app_src w4 rfl _ _ 75 rfl (w1.heap.size + 1) 87 (.agg #[.string ⟨#[]⟩, .int .i64 0, .slice none 0 0]) 3 48 Tryz.underlying75 Tryz.info87 rfl (by decide) ho2 (some ⟨g, k * 3, none⟩) (LB.length - k) (cap - k) [] (by simp; omega) (fun e => by cases e) (fun ad _ j u hu => by simp at hu) (by rfl) (by rfl) (fun u hu => by cases hu) (by unfold maxLen; omega) (by omega) (by omega) ?_))
            intro v3 w5 ho3 hgr3
            have hs5 := hgr3.size
            have cB := hgr3.cell c1'' (fun e => by have := (ho2.lt B e.symm).1; omega)
            clear c1'' hcell4
            have hbw5 : Below w1.heap.size w1 w5 := ((hbA.grown hgr1 (by omega) (fun j hj => by simp [Value.ownBlock] at hj)).grown hgr2 (by omega) (fun j hj => by have := (ho1.lt j hj).1; omega)).grown hgr3 (by omega) (fun j hj => by have := (ho2.lt j hj).1; omega)
            have fB : ∀ o, w5.frozen? ⟨B, o, none⟩ = false := fun o => (hbw5.frozen (p := ⟨B, o, none⟩) hBl).trans (hR.fr o)
            have fB1 := fB 1
            have pB := (hbw5.cell (p := ⟨B, 2, none⟩) hBl).trans hR.c2
            obtain ⟨a3, cap3, rfl, _, _, _, _⟩ := owns_form ho3
            have hcv := conv1' (w5.setCell ⟨B, 1, none⟩ (.slice a3 (k + 1 + (LB.length - k)) cap3)) w5.heap.size (by simp) (UInt8.ofNat n) (n : Int) (by rw [u8_ofNat]; omega)
            clear hgr1 hgr2 hgr3
            go_wp2_with fail
            rw [mk_lit [UInt8.ofNat n] #[UInt8.ofNat n] rfl, mk_add]
            refine (r_note' 66 B 66 rfl st.packed (UInt8.ofNat n :: name) _ (by simp; omega) (by rw [World.cell?_alloc_past _ _ _ (by simp; omega), sc_other _ _ _ _ _ (by omega)]; exact pB) (fun o => by rw [World.frozen?_alloc_past _ _ _ (by simp; omega), World.frozen?_setCell]; exact fB o) (by omega) (by simp; omega)).mono ?_
            rintro e w' ⟨rfl, w6, hb6, rfl⟩
            go_wp2
            go_end0
            refine ⟨rfl, headNew_RS hR htr hbw5 hk HP.out (by omega) (by rw [List.drop_eq_nil_of_le (by rw [cellsB_length]; omega)]; simp) ho3 ?_⟩
            have hb7 : Below w5.heap.size (w5.setCell ⟨B, 1, none⟩ (.slice a3 (k + 1 + (LB.length - k)) cap3)) ((w5.setCell ⟨B, 1, none⟩ (.slice a3 (k + 1 + (LB.length - k)) cap3)).alloc (.cells #[.int .u8 (n : Int)] 5)) := (Below.refl _ _).alloc (by simp) _
            exact hb7.trans (hb6.mono (by simp))
        | none =>
          clear hgo
          obtain ⟨h0, rfl⟩ := hno rfl
          obtain rfl : k = 0 := by omega
          have hL : LB = [] := List.eq_nil_of_length_eq_zero h0
          subst hL
          go_wp2_with (at_builtin; go_loud (refine wp_app_src w2 rfl _ _ 75 rfl (w1.heap.size + 1) 87 (.agg #[.string ⟨#[]⟩, .int .i64 0, .slice none 0 0]) 3 48 Tryz.underlying75 Tryz.info87 rfl (by decide) (World.ownsRow_nil _ _ _ _) none 0 0 [] rfl (fun _ => ⟨rfl, rfl⟩) (fun ad e => by cases e) (by rfl) (by rfl) (fun u hu => by cases hu) (by unfold maxLen; omega) (by omega) (by omega) ?_))
          intro v1 w3 ho1 hgr1
          have y0 := hgr1.cell x0 (by simp [Value.ownBlock])
          have y1 := hgr1.cell x1 (by simp [Value.ownBlock])
          have y2 := hgr1.cell x2 (by simp [Value.ownBlock])
          have c1' := hgr1.cell c1 (by simp [Value.ownBlock])
          have hs3 := hgr1.size
          clear x0 x1 x2 c1
          go_wp2_with (at_builtin; go_loud (refine wp_app w3 rfl _ _ 75 rfl (w1.heap.size + 1) 87 (.agg #[.string ⟨#[]⟩, .int .i64 0, .slice none 0 0]) 3 48 Tryz.underlying75 Tryz.info87 rfl (by decide) ho1 _ rfl (by rfl) (by rfl) (three_one _ _ _ _ _) (by unfold maxLen; omega) (by omega) (by omega) ?_))
          intro v2 w4 ho2 hgr2
          have hs4 := hgr2.size
          have c1'' := hgr2.cell c1' (fun e => by have := (ho1.lt B e.symm).1; omega)
          clear y0 y1 y2 c1'
          go_wp2_with (at_builtin; go_loud (refine wp_app_src w4 rfl _ _ 75 rfl (w1.heap.size + 1) 87 (.agg #[.string ⟨#[]⟩, .int .i64 0, .slice none 0 0]) 3 48 Tryz.underlying75 Tryz.info87 rfl (by decide) ho2 none 0 0 [] rfl (fun _ => ⟨rfl, rfl⟩) (fun ad e => by cases e) (by rfl) (by rfl) (fun u hu => by cases hu) (by unfold maxLen; omega) (by omega) (by omega) ?_))
          intro v3 w5 ho3 hgr3
          have hs5 := hgr3.size
          have cB := hgr3.cell c1'' (fun e => by have := (ho2.lt B e.symm).1; omega)
          clear c1''
          have hbw5 : Below w1.heap.size w1 w5 := ((hbA.grown hgr1 (by omega) (fun j hj => by simp [Value.ownBlock] at hj)).grown hgr2 (by omega) (fun j hj => by have := (ho1.lt j hj).1; omega)).grown hgr3 (by omega) (fun j hj => by have := (ho2.lt j hj).1; omega)
          have fB : ∀ o, w5.frozen? ⟨B, o, none⟩ = false := fun o => (hbw5.frozen (p := ⟨B, o, none⟩) hBl).trans (hR.fr o)
          have fB1 := fB 1
          have pB := (hbw5.cell (p := ⟨B, 2, none⟩) hBl).trans hR.c2
          obtain ⟨a3, cap3, rfl, _, _, _, _⟩ := owns_form ho3
          have hcv := conv1' (w5.setCell ⟨B, 1, none⟩ (.slice a3 (0 + 0 + 1 + 0) cap3)) w5.heap.size (by simp) (UInt8.ofNat n) (n : Int) (by rw [u8_ofNat]; omega)
          clear hgr1 hgr2 hgr3
          go_wp2_with fail
          rw [mk_lit [UInt8.ofNat n] #[UInt8.ofNat n] rfl, mk_add]
          refine (r_note' 66 B 66 rfl st.packed (UInt8.ofNat n :: name) _ (by simp; omega) (by rw [World.cell?_alloc_past _ _ _ (by simp; omega), sc_other _ _ _ _ _ (by omega)]; exact pB) (fun o => by rw [World.frozen?_alloc_past _ _ _ (by simp; omega), World.frozen?_setCell]; exact fB o) (by omega) (by simp; omega)).mono ?_
          rintro e w' ⟨rfl, w6, hb6, rfl⟩
          go_wp2
          go_end0
          refine ⟨rfl, headNew_RS hR htr hbw5 (k := 0) (Nat.zero_le _) HP.out (by simp) (by simp [cellsB]) ho3 ?_⟩
          have hb7 : Below w5.heap.size (w5.setCell ⟨B, 1, none⟩ (.slice a3 (0 + 0 + 1 + 0) cap3)) ((w5.setCell ⟨B, 1, none⟩ (.slice a3 (0 + 0 + 1 + 0) cap3)).alloc (.cells #[.int .u8 (n : Int)] 5)) := (Below.refl _ _).alloc (by simp) _
          exact hb7.trans (hb6.mono (by simp))
end Go.Proofs.YtolgebdmffcemaaGreatDoor
