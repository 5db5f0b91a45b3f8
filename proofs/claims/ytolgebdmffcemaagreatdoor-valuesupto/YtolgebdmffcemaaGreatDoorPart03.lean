/-
  What the document's answer (graftref) reads off a tree.
  How the document's answer (graftref) writes a value and a tree.
  How the document's answer (graftref) writes a tree.
  How the document's answer (graftref) lays a value into a tree.
  How the document's answer (graftref) makes a record.
-/
import Derived.Test.YtolgebdmffcemaaGreatDoorPart02
import Derived.Deep.RegionWith
import Derived.Deep.RegionHeld3
set_option linter.unusedVariables false
namespace Go.Proofs.YtolgebdmffcemaaGreatDoor
open Go.RowKit
theorem find_none {t : List R.Leaf} {p : List UInt8} {k : Nat} (h : ¬ k < t.length) (ha : ((t.take k).any fun x => x.path == p) = false) : R.at_ t p = R.none p := by
  have := R.any_end t _ k h ha
  unfold R.at_
  rw [List.find?_eq_none.2 (by intro x hx; have := List.any_eq_false.1 this x hx; simpa using this)]; rfl
theorem find_hit {t : List R.Leaf} {p : List UInt8} {k : Nat} (h : k < t.length) (ha : ((t.take k).any fun x => x.path == p) = false) (hp : (t[k].path == p) = true) : R.at_ t p = t[k] := by
  unfold R.at_
  have e : t.find? (fun x => x.path == p) = some t[k] := by
    conv => lhs; rw [← List.take_append_drop k t, List.find?_append, List.find?_eq_none.2 (by intro x hx; have := List.any_eq_false.1 ha x hx; simpa using this), List.drop_eq_getElem_cons h, List.find?_cons_of_pos (by simpa using hp)]
    rfl
  rw [e]; rfl
set_option maxHeartbeats 800000 in
set_option maxRecDepth 1000000 in
theorem r_at (v : Value) (t : List R.Leaf) (s : List UInt8) (w : World) (M : Nat → Prop) (h : Tr w M v t) :
    Calls Tryz.prog 169 #[v, .string ⟨s.toArray⟩] w fun e w' => ∃ iv, e = .returned (.agg (LC (R.at_ t s) iv).toArray) ∧ It w M (R.at_ t s, iv) ∧ Below w.heap.size w w' := by
  obtain ⟨L, rfl, ⟨a, cap, rfl, hn, hm, hc⟩, hI⟩ := h
  unfold maxLen at hm
  go_enter Tryz.func169, Tryz.ntmps169
  go_wp2
  go_loop [5] (fun i => ∃ k : Nat, k ≤ L.length ∧ i = .int .i64 k ∧ (((L.map (·.1)).take k).any fun x => x.path == s) = false) (fun i => L.length - (intOf i).toNat)
  case atStart => exact ⟨0, Nat.zero_le _, rfl, rfl⟩
  case round =>
    obtain ⟨k, hk, rfl, hall⟩ := hrel
    have HA : Hid ((((L.map (·.1)).take k).any fun x => x.path == s) = false) := hall
    clear hall
    by_cases hlt : k < L.length
    · obtain ⟨b, off, rfl, hbs, _, hcell⟩ := hc (by omega)
      obtain ⟨x, ia, ic, HL, hit, c0, c1, c2, c3, c4⟩ := leaf_cells' hI hcell k hlt
      have HP : Hid ((L.map (·.1))[k]'(by simpa using hlt) = x) := by show _ = _; simp [HL.out]
      clear hcell hc hI
      go_wp2
      · have hp : (x.path == s) = true := by assumption
        have e : R.at_ (L.map (·.1)) s = x := by rw [find_hit (by simpa using hlt) HA.out (by rw [HP.out]; exact hp), HP.out]
        refine bodyPost_ret (v := .agg (LC x (.slice ia x.items.length ic)).toArray) (by simp [results, Tryz.results169, go_sem, LC]) rfl ⟨_, by rw [e], by rw [e]; exact hit, (Below.refl _ _).alloc (Nat.le_refl _) _⟩
      · have hp : (x.path == s) = false := by assumption
        go_round
        case rel => exact ⟨k + 1, by omega, by go_num, R.any_snoc _ _ k (by simpa using hlt) HA.out (by rw [HP.out]; exact hp)⟩
        case measure => simp [intOf]; omega
    · go_wp2
      have e : R.at_ (L.map (·.1)) s = R.none s := find_none (by simpa using hlt) HA.out
      refine bodyPost_ret (v := .agg (LC (R.none s) (.slice none 0 0)).toArray) (by simp [results, Tryz.results169, go_sem, LC, R.none]) rfl ⟨_, by rw [e], by rw [e]; exact ⟨none, 0, rfl, Nat.le_refl _, by unfold maxLen; omega, fun h => absurd h (Nat.lt_irrefl _)⟩, (Below.refl _ _).alloc (Nat.le_refl _) _⟩
set_option maxHeartbeats 800000 in
set_option maxRecDepth 1000000 in
theorem r_blocked (v : Value) (t : List R.Leaf) (s : List UInt8) (w : World) (M : Nat → Prop) (h : Tr w M v t) :
    Calls Tryz.prog 173 #[v, .string ⟨s.toArray⟩] w fun e w' => e = .returned (.bool (R.blocked t s)) ∧ w' = w := by
  obtain ⟨L, rfl, ⟨a, cap, rfl, hn, hm, hc⟩, hI⟩ := h
  unfold maxLen at hm
  go_enter Tryz.func173, Tryz.ntmps173
  go_wp2
  go_loop [5] (fun i => ∃ k : Nat, k ≤ L.length ∧ i = .int .i64 k ∧ (((L.map (·.1)).take k).any fun x => R.leads x.path s || R.leads s x.path) = false) (fun i => L.length - (intOf i).toNat)
  case atStart => exact ⟨0, Nat.zero_le _, rfl, rfl⟩
  case round =>
    obtain ⟨k, hk, rfl, hall⟩ := hrel
    have HA : Hid ((((L.map (·.1)).take k).any fun x => R.leads x.path s || R.leads s x.path) = false) := hall
    clear hall
    by_cases hlt : k < L.length
    · obtain ⟨b, off, rfl, hbs, _, hcell⟩ := hc (by omega)
      obtain ⟨x, ia, ic, HL, hit, c0, c1, c2, c3, c4⟩ := leaf_cells' hI hcell k hlt
      have HP : Hid ((L.map (·.1))[k]'(by simpa using hlt) = x) := by show _ = _; simp [HL.out]
      clear hcell hc hI
      go_wp2_with fail
      refine (r_leads _ _ _).mono ?_
      rintro e w2 ⟨rfl, rfl⟩
      go_wp2_with fail
      refine (r_leads _ _ _).mono ?_
      rintro e w2 ⟨rfl, rfl⟩
      have HB : Hid (∀ c, (R.leads x.path s || R.leads s x.path) = c → ((fun x : R.Leaf => R.leads x.path s || R.leads s x.path) ((L.map (·.1))[k]'(by simpa using hlt))) = c) := by
        intro c hc; rw [HP.out]; exact hc
      generalize R.leads x.path s = l1 at HB ⊢
      generalize R.leads s x.path = l2 at HB ⊢
      cases l1 <;> cases l2
      case false.false =>
        go_wp2
        go_round
        case rel => exact ⟨k + 1, by omega, by go_num, R.any_snoc _ _ k (by simpa using hlt) HA.out (HB.out _ rfl)⟩
        case measure => simp [intOf]; omega
      all_goals
        go_wp2
        go_ret
        exact ⟨ret_bool (R.any_hit _ _ k (by simpa using hlt) (HB.out _ rfl)), rfl⟩
    · go_wp2
      go_ret
      exact ⟨ret_bool (R.any_end _ _ k (by simpa using hlt) HA.out), rfl⟩
end Go.Proofs.YtolgebdmffcemaaGreatDoor
namespace Go.Proofs.YtolgebdmffcemaaGreatDoor
open Go.RowKit
theorem mk_lit (l : List UInt8) (a : Array UInt8) (h : a.toList = l) : ({ data := a } : ByteArray) = ⟨l.toArray⟩ := by subst h; simp
theorem written_length (x : R.Leaf) (hg : R.Good x) : (R.written x).length ≤ 200000 := by
  obtain ⟨_, g1, g2, g3, g4, g5⟩ := hg
  have g6 := R.joinI_length _ g5
  have hlen := Lib.itoa_length_le x.n (by omega) (by omega)
  unfold R.written
  split
  · simp only [List.length_cons]; omega
  · split <;> simp only [List.length_cons] <;> omega
set_option maxHeartbeats 800000 in
set_option maxRecDepth 1000000 in
theorem r_written (x : R.Leaf) (iv : Value) (w : World) (M : Nat → Prop) (h : It w M (x, iv)) (hg : R.Good x) :
    Calls Tryz.prog 217 #[.agg (LC x iv).toArray] w fun e w' => e = .returned (.string ⟨(R.written x).toArray⟩) ∧ Below w.heap.size w w' := by
  obtain ⟨a, cap, hiv, hn, hm, hc⟩ := h
  dsimp only at hiv hn hm hc
  subst hiv
  unfold maxLen at hm
  obtain ⟨_, g1, g2, g3, g4, g5⟩ := hg
  have g6 := R.joinI_length _ g5
  show Calls Tryz.prog 217 #[.agg #[.string ⟨x.path.toArray⟩, .int .u8 x.kind, .int .i64 x.n, .string ⟨x.text.toArray⟩, .slice a x.items.length cap]] w _
  rcases bool_eq x.kind 35 with ⟨b35, h35⟩ | ⟨b35, h35⟩
  · have hlen := Lib.itoa_length_le x.n (by omega) (by omega)
    have HW : Hid (R.written x = 35 :: Lib.itoa x.n) := by show _ = _; rw [R.written, if_pos h35]
    clear h35
    go_enter Tryz.func217, Tryz.ntmps217
    go_wp2_with fail
    refine (r_digits _ _ g1 g2).mono ?_
    rintro e w1 ⟨rfl, rfl⟩
    go_wp2
    go_ret
    exact ⟨ret_str (by rw [HW.out, mk_lit [35] #[35] rfl, mk_add]; rfl), (Below.refl _ _).alloc (Nat.le_refl _) _⟩
  rcases bool_eq x.kind 61 with ⟨b61, h61⟩ | ⟨b61, h61⟩
  · have HW : Hid (R.written x = 61 :: x.text) := by show _ = _; rw [R.written, if_neg h35, if_pos h61]
    clear h35 h61
    go_enter Tryz.func217, Tryz.ntmps217
    go_wp2
    go_ret
    exact ⟨ret_str (by rw [HW.out, mk_lit [61] #[61] rfl, mk_add]; rfl), (Below.refl _ _).alloc (Nat.le_refl _) _⟩
  have HW : Hid (R.written x = 42 :: R.joinI x.items) := by show _ = _; rw [R.written, if_neg h35, if_neg h61]
  clear h35 h61
  go_enter Tryz.func217, Tryz.ntmps217
  go_wp2
  go_loop [3, 4] (fun s i => ∃ k : Nat, k ≤ x.items.length ∧ i = .int .i64 k ∧ s = .string ⟨(42 :: R.joinI (x.items.take k)).toArray⟩) (fun _ i => x.items.length - (intOf i).toNat)
  case atStart => exact ⟨0, Nat.zero_le _, rfl, by simp [R.joinI]⟩
  case round =>
    obtain ⟨k, hk, rfl, rfl⟩ := hrel
    by_cases hlt : k < x.items.length
    · obtain ⟨b, off, rfl, hbs, _, hcell⟩ := hc (by omega)
      have hx : w.cell? ⟨b, off + k, none⟩ = some (.string ⟨x.items[k].toArray⟩) := hcell k _ (by simp [S, hlt])
      have hxl := g5 x.items[k] (List.getElem_mem hlt)
      have hjl := R.joinI_length (x.items.take k) (fun i hi => g5 i (List.mem_of_mem_take hi))
      have hkl : (x.items.take k).length ≤ 100 := by simp; omega
      have HJ : Hid (R.joinI (x.items.take (k + 1)) = if k = 0 then x.items[k] else R.joinI (x.items.take k) ++ 59 :: x.items[k]) := by
        show _ = _
        rw [List.take_succ_eq_append_getElem hlt]
        by_cases h0 : k = 0
        · subst h0; simp [R.joinI]
        · rw [if_neg h0, R.joinI_snoc _ _ (by intro e; have h := congrArg List.length e; rw [List.length_take, List.length_nil] at h; omega)]
      have HK : Hid (k = 0 → R.joinI (x.items.take k) = []) := by intro h0; subst h0; simp [R.joinI]
      generalize R.joinI (x.items.take k) = jj at *
      generalize x.items[k] = xk at *
      clear hcell hc
      by_cases h0 : 0 < k
      · go_wp2
        go_round
        case rel => exact ⟨k + 1, by omega, by go_num, by rw [HJ.out, if_neg (by omega), mk_lit [59] #[59] rfl, mk_add, mk_add]; simp⟩
        case measure => simp [intOf]; omega
      · go_wp2
        go_round
        case rel => exact ⟨k + 1, by omega, by go_num, by rw [HJ.out, if_pos (by omega), HK.out (by omega), mk_add]; simp⟩
        case measure => simp [intOf]; omega
    · go_wp2
      go_ret
      exact ⟨ret_str (by rw [HW.out, List.take_of_length_le (by omega)]), (Below.refl _ _).alloc (Nat.le_refl _) _⟩
end Go.Proofs.YtolgebdmffcemaaGreatDoor
namespace Go.Proofs.YtolgebdmffcemaaGreatDoor
open Go.RowKit
set_option maxHeartbeats 1600000 in
set_option maxRecDepth 1000000 in
theorem r_Written (v : Value) (t : List R.Leaf) (w : World) (M : Nat → Prop) (h : Tr w M v t) (hg : ∀ x ∈ t, R.Good x) (hl : t.length ≤ 1000) :
    Calls Tryz.prog 175 #[v] w fun e w' => e = .returned (.string ⟨(R.Written t).toArray⟩) ∧ Below w.heap.size w w' := by
  obtain ⟨L, rfl, ⟨a, cap, rfl, hn, hm, hc⟩, hI⟩ := h
  unfold maxLen at hm
  rw [List.length_map] at hl
  go_enter Tryz.func175, Tryz.ntmps175
  go_wp2
  go_loopw [3, 4] (fun s i wr => ∃ (k : Nat) (acc : List UInt8), k ≤ L.length ∧ i = .int .i64 k ∧ s = .string ⟨acc.toArray⟩ ∧ acc = R.Written ((L.map (·.1)).take k) ∧ acc.length ≤ k * 1000000 ∧ Below w.heap.size w wr) (fun _ i _ => L.length - (intOf i).toNat)
  case atStart => exact ⟨0, [], Nat.zero_le _, rfl, rfl, rfl, by simp, Below.refl _ _⟩
  case round =>
    obtain ⟨k, acc, hk, rfl, rfl, he, hal, hb⟩ := hrel
    have HE : Hid (acc = R.Written ((L.map (·.1)).take k)) := he
    clear he
    by_cases hlt : k < L.length
    · obtain ⟨b, off, rfl, hbs, _, hcell⟩ := hc (by omega)
      obtain ⟨x, ia, ic, HL, hit, c0, c1, c2, c3, c4⟩ := leaf_cells' hI hcell k hlt
      have HP : Hid ((L.map (·.1))[k]'(by simpa using hlt) = x) := by show _ = _; simp [HL.out]
      have hgx : R.Good x := by
        have := hg _ (List.getElem_mem (l := L.map (·.1)) (n := k) (by simpa using hlt))
        rwa [HP.out] at this
      have hp := hgx.path
      have hwl := written_length x hgx
      clear hcell hc hI hg
      have e0 := hb.cell (p := ⟨b, off + k * 5, none⟩) hbs
      have e1 := hb.cell (p := ⟨b, off + k * 5 + 1, none⟩) hbs
      have e2 := hb.cell (p := ⟨b, off + k * 5 + 2, none⟩) hbs
      have e3 := hb.cell (p := ⟨b, off + k * 5 + 3, none⟩) hbs
      have e4 := hb.cell (p := ⟨b, off + k * 5 + 4, none⟩) hbs
      rw [c0] at e0; rw [c1] at e1; rw [c2] at e2; rw [c3] at e3; rw [c4] at e4
      have hit' : It wr M (x, .slice ia x.items.length ic) := Rd.below hit hb
      clear c0 c1 c2 c3 c4
      have q1 : ¬ 9223372036854775807 < acc.length + x.path.length := by omega
      have q2 : ¬ 9223372036854775807 < acc.length + x.path.length + 1 := by omega
      have q3 : ¬ 9223372036854775807 < acc.length + x.path.length + 1 + (R.written x).length := by omega
      have q4 : ¬ 9223372036854775807 < acc.length + x.path.length + 1 + (R.written x).length + 1 := by omega
      go_wp2
      go_region_held3 (fun w' => w'.cell? ⟨b, off + k * 5, none⟩ = some (.string ⟨x.path.toArray⟩) ∧ w'.cell? ⟨b, off + k * 5 + 1, none⟩ = some (.int .u8 x.kind) ∧ w'.cell? ⟨b, off + k * 5 + 2, none⟩ = some (.int .i64 x.n) ∧ w'.cell? ⟨b, off + k * 5 + 3, none⟩ = some (.string ⟨x.text.toArray⟩) ∧ w'.cell? ⟨b, off + k * 5 + 4, none⟩ = some (.slice ia x.items.length ic))
        (go_keep) (((go_at_call 217; refine (r_written x (.slice ia x.items.length ic) _ M (by exact hit') hgx).mono ?_; rintro e w' ⟨rfl, hb'⟩; have hcc : ∀ o, w'.cell? ⟨b, o, none⟩ = wr.cell? ⟨b, o, none⟩ := fun o => hb'.cell (p := ⟨b, o, none⟩) (Nat.lt_of_lt_of_le hbs hb.size))))
      go_wp2
      go_roundw
      case rel =>
        refine ⟨k + 1, acc ++ R.line x, by omega, by go_num, ?_, ?_, ?_, hb.drew.trans (hb'.mono hb.size)⟩
        · rw [mk_lit [32] #[32] rfl, mk_lit [10] #[10] rfl, mk_add, mk_add, mk_add, mk_add]; simp [R.line]
        · rw [R.Written_snoc _ k (by simpa using hlt), HP.out, ← HE.out]
        · have := R.line_length x hwl hp; rw [List.length_append]; omega
      case measure => simp [intOf]; omega
    · go_wp2
      go_ret
      exact ⟨ret_str (by rw [HE.out, List.take_of_length_le (by simp; omega)]), hb⟩
end Go.Proofs.YtolgebdmffcemaaGreatDoor
namespace Go.Proofs.YtolgebdmffcemaaGreatDoor
open Go.RowKit
set_option maxHeartbeats 3200000 in
set_option maxRecDepth 1000000 in
theorem r_set (v : Value) (t : List R.Leaf) (x : R.Leaf) (iv : Value) (w : World) (M : Nat → Prop) (h : Tr w M v t) (hxi : It w M (x, iv)) (hM : ∀ b, M b → b < w.heap.size) (hg : ∀ y ∈ t, y.path.length ≤ 1000) (hpx : x.path.length ≤ 1000) (hl : t.length ≤ 1000) :
    Calls Tryz.prog 170 #[v, .agg (LC x iv).toArray] w fun e w' => ∃ v', e = .returned v' ∧ Tr w' M v' (R.set t x) ∧ Below w.heap.size w w' := by
  obtain ⟨L, rfl, ⟨a, cap, rfl, hn, hm, hc⟩, hI⟩ := h
  obtain ⟨xa, xc, hiv, hx1, hx2, hx3⟩ := hxi
  dsimp only at hiv hx1 hx2 hx3
  subst hiv
  have hxi : It w M (x, .slice xa x.items.length xc) := ⟨xa, xc, rfl, hx1, hx2, hx3⟩
  clear hx1 hx2 hx3
  unfold maxLen at hm
  rw [List.length_map] at hl
  show Calls Tryz.prog 170 #[.slice a L.length cap, .agg #[.string ⟨x.path.toArray⟩, .int .u8 x.kind, .int .i64 x.n, .string ⟨x.text.toArray⟩, .slice xa x.items.length xc]] w _
  have hk0 : ((x.kind == 0) : Bool) = decide (x.kind = 0) := by rw [Bool.eq_iff_iff]; simp
  have HK0 : Hid ((x.kind == 0) = decide (x.kind = 0)) := hk0
  clear hk0
  go_enter Tryz.func170, Tryz.ntmps170
  go_wp2
  generalize hbox : w.alloc (.cells #[.string ⟨x.path.toArray⟩, .int .u8 x.kind, .int .i64 x.n, .string ⟨x.text.toArray⟩, .slice xa x.items.length xc] 216) = wb
  have hwb : wb.heap.size = w.heap.size + 1 := by rw [← hbox]; simp
  have hB0 : Below w.heap.size w wb := by rw [← hbox]; exact (Below.refl _ _).alloc (Nat.le_refl _) _
  have x0 : wb.cell? ⟨w.heap.size, 0, none⟩ = some (.string ⟨x.path.toArray⟩) := by rw [← hbox]; simp
  have x1 : wb.cell? ⟨w.heap.size, 1, none⟩ = some (.int .u8 x.kind) := by rw [← hbox]; simp
  have x2 : wb.cell? ⟨w.heap.size, 2, none⟩ = some (.int .i64 x.n) := by rw [← hbox]; simp
  have x3 : wb.cell? ⟨w.heap.size, 3, none⟩ = some (.string ⟨x.text.toArray⟩) := by rw [← hbox]; simp
  have x4 : wb.cell? ⟨w.heap.size, 4, none⟩ = some (.slice xa x.items.length xc) := by rw [← hbox]; simp
  clear hbox
  go_loopw [5, 6, 7] (fun o d i wr => ∃ (k : Nat) (done : Bool) (acc : List (R.Leaf × Value)), k ≤ L.length ∧ i = .int .i64 k ∧ d = .bool done ∧ wr.ownsRow (w.heap.size + 1) 216 5 o acc.length (cellsT acc) ∧ Below (w.heap.size + 1) wb wr ∧ acc.length ≤ 2 * k ∧
      (∀ p ∈ acc, It w M p) ∧ R.set (L.map (·.1)) x = acc.map (·.1) ++ R.setL x done ((L.map (·.1)).drop k)) (fun _ _ i _ => L.length - (intOf i).toNat)
  case atStart => exact ⟨0, _, [], Nat.zero_le _, rfl, rfl, World.ownsRow_nil _ _ _ _, Below.refl _ _, by simp, by simp, by simp [R.set, HK0.out]⟩
  case round =>
    obtain ⟨k, done, acc, hk, rfl, rfl, hown, hb, hal, hmem, he⟩ := hrel
    have HM : Hid (∀ p ∈ acc, It w M p) := hmem
    have HE : Hid (R.set (L.map (·.1)) x = acc.map (·.1) ++ R.setL x done ((L.map (·.1)).drop k)) := he
    clear he hmem
    have hsz := hb.size
    by_cases hlt : k < L.length
    · obtain ⟨b, off, rfl, hbs, _, hcell⟩ := hc (by omega)
      obtain ⟨y, ia, ic, HL, hit, c0, c1, c2, c3, c4⟩ := leaf_cells' hI hcell k hlt
      have HP : Hid ((L.map (·.1))[k]'(by simpa using hlt) = y) := by show _ = _; simp [HL.out]
      have hpy : y.path.length ≤ 1000 := by
        have := hg _ (List.getElem_mem (l := L.map (·.1)) (n := k) (by simpa using hlt))
        rwa [HP.out] at this
      clear hcell hc hI hg
      have up : ∀ (bb o : Nat) (u : Value), bb < w.heap.size → w.cell? ⟨bb, o, none⟩ = some u → wr.cell? ⟨bb, o, none⟩ = some u := fun bb o u h1 h2 => by
        rw [hb.cell (p := ⟨bb, o, none⟩) (Nat.lt_succ_of_lt h1), hB0.cell (p := ⟨bb, o, none⟩) h1]; exact h2
      have ux : ∀ (o : Nat) (u : Value), wb.cell? ⟨w.heap.size, o, none⟩ = some u → wr.cell? ⟨w.heap.size, o, none⟩ = some u := fun o u h2 => by
        rw [hb.cell (p := ⟨w.heap.size, o, none⟩) (Nat.lt_succ_self _)]; exact h2
      have d0 := up _ _ _ hbs c0
      have d1 := up _ _ _ hbs c1
      have d2 := up _ _ _ hbs c2
      have d3 := up _ _ _ hbs c3
      have d4 := up _ _ _ hbs c4
      have p0 := ux _ _ x0
      have p1 := ux _ _ x1
      have p2 := ux _ _ x2
      have p3 := ux _ _ x3
      have p4 := ux _ _ x4
      clear c0 c1 c2 c3 c4 up ux x0 x1 x2 x3 x4
      cases done
      · go_wp2
        go_region_held3 (fun w' => w'.cell? ⟨w.heap.size, 0, none⟩ = some (.string ⟨x.path.toArray⟩) ∧ w'.cell? ⟨b, off + k * 5, none⟩ = some (.string ⟨y.path.toArray⟩)) (go_keep)
          (((go_at_call 214; refine (r_ahead x.path y.path _ hpx hpy).mono ?_; rintro e w1 ⟨rfl, hb1⟩; have hcb : ∀ o, w1.cell? ⟨b, o, none⟩ = wr.cell? ⟨b, o, none⟩ := fun o => hb1.cell (p := ⟨b, o, none⟩) (show b < wr.heap.size by omega); have hcx : ∀ o, w1.cell? ⟨w.heap.size, o, none⟩ = wr.cell? ⟨w.heap.size, o, none⟩ := fun o => hb1.cell (p := ⟨w.heap.size, o, none⟩) (show w.heap.size < wr.heap.size by omega))))
        rename_i hHeld
        clear hHeld
        have hbw : Below wr.heap.size wr w1 := ⟨hb1.os, hb1.tape, hb1.output, hb1.size, hb1.block⟩
        have hown1 := ownsRow_below hown hbw
        have hB1 : Below (w.heap.size + 1) wb w1 := hb.trans (hbw.mono (by omega))
        have hsz1 := hB1.size
        rw [← hcb] at d0 d1 d2 d3 d4
        rw [← hcx] at p0 p1 p2 p3 p4
        clear hcb hcx hown hb1 hbw hb
        generalize hF : R.ahead x.path y.path = fst
        have HF : Hid (R.ahead x.path y.path = fst) := hF
        clear hF
        rcases Bool.eq_false_or_eq_true (y.path == x.path) with b3 | b3
        · have b2 : (x.path == y.path) = true := by simpa using (beq_iff_eq.1 b3).symm
          cases fst
          all_goals
            go_wp2
            go_quiet (fail)
            go_wp2_with (at_builtin; go_loud (refine wp_app _ rfl _ _ 78 rfl (w.heap.size + 1) 216 (.agg #[.string ⟨#[]⟩, .int .u8 0, .int .i64 0, .string ⟨#[]⟩, .slice none 0 0]) 5 72 Tryz.underlying78 Tryz.info216 rfl (by decide) (by exact hown1) _ rfl (by rfl) (by rfl) (five_one _ _ _ _ _ _ _) (by unfold maxLen; omega) (by omega) (by first | omega | (simp; omega)) ?_))
            intro v' w2 hown2 hgr
            have d0' := hgr.cell d0 (fun e => by have := (hown1.lt b e.symm).1; omega)
            have d1' := hgr.cell d1 (fun e => by have := (hown1.lt b e.symm).1; omega)
            have d2' := hgr.cell d2 (fun e => by have := (hown1.lt b e.symm).1; omega)
            have d3' := hgr.cell d3 (fun e => by have := (hown1.lt b e.symm).1; omega)
            have d4' := hgr.cell d4 (fun e => by have := (hown1.lt b e.symm).1; omega)
            have p0' := hgr.cell p0 (fun e => by have := (hown1.lt w.heap.size e.symm).1; omega)
            have p1' := hgr.cell p1 (fun e => by have := (hown1.lt w.heap.size e.symm).1; omega)
            have p2' := hgr.cell p2 (fun e => by have := (hown1.lt w.heap.size e.symm).1; omega)
            have p3' := hgr.cell p3 (fun e => by have := (hown1.lt w.heap.size e.symm).1; omega)
            have p4' := hgr.cell p4 (fun e => by have := (hown1.lt w.heap.size e.symm).1; omega)
            clear d0 d1 d2 d3 d4 p0 p1 p2 p3 p4
            go_wp2
            go_quiet (fail)
            go_wp2
            go_roundw
            case rel => exact ⟨k + 1, true, acc ++ [(x, .slice xa x.items.length xc)], by omega, by go_num, rfl, by first | (simpa [cellsT_snoc, cellsT, LC] using hown2) | (refine ownsRow_drewN ?_; simpa [cellsT_snoc, cellsT, LC] using hown2), below_drewN ((below_drewN hB1 _).grown hgr (by simp; omega) (fun j hj => (hown1.lt j hj).1)) _, by (try simp); omega, (fun p hp => by rcases List.mem_append.1 hp with h | h; exact HM.out p h; rw [List.mem_singleton] at h; subst h; exact hxi), by rw [HE.out, R.setL_from x _ k (by simpa using hlt), HP.out]; simp [b2, b3, HF.out]⟩
            case measure => simp [intOf]; omega
        · have b2 : (x.path == y.path) = false := by
            rw [Bool.eq_false_iff] at b3 ⊢; intro h; exact b3 (by simpa using (beq_iff_eq.1 h).symm)
          cases fst
          · go_wp2
            go_quiet (fail)
            go_wp2
            go_quiet (fail)
            go_wp2_with (at_builtin; go_loud (refine wp_app _ rfl _ _ 78 rfl (w.heap.size + 1) 216 (.agg #[.string ⟨#[]⟩, .int .u8 0, .int .i64 0, .string ⟨#[]⟩, .slice none 0 0]) 5 72 Tryz.underlying78 Tryz.info216 rfl (by decide) (by exact hown1) _ rfl (by rfl) (by rfl) (five_one _ _ _ _ _ _ _) (by unfold maxLen; omega) (by omega) (by first | omega | (simp; omega)) ?_))
            intro v' w2 hown2 hgr
            go_wp2
            go_roundw
            case rel => exact ⟨k + 1, false, acc ++ [(y, .slice ia y.items.length ic)], by omega, by go_num, rfl, by first | (simpa [cellsT_snoc, cellsT, LC] using hown2) | (refine ownsRow_drewN ?_; simpa [cellsT_snoc, cellsT, LC] using hown2), (below_drewN hB1 _).grown hgr (by simp; omega) (fun j hj => (hown1.lt j hj).1), by (try simp); omega, (fun p hp => by rcases List.mem_append.1 hp with h | h; exact HM.out p h; rw [List.mem_singleton] at h; subst h; exact hit), by rw [HE.out, R.setL_from x _ k (by simpa using hlt), HP.out]; simp [b2, b3, HF.out]⟩
            case measure => simp [intOf]; omega
          · go_wp2
            go_quiet (fail)
            go_wp2_with (at_builtin; go_loud (refine wp_app _ rfl _ _ 78 rfl (w.heap.size + 1) 216 (.agg #[.string ⟨#[]⟩, .int .u8 0, .int .i64 0, .string ⟨#[]⟩, .slice none 0 0]) 5 72 Tryz.underlying78 Tryz.info216 rfl (by decide) (by exact hown1) _ rfl (by rfl) (by rfl) (five_one _ _ _ _ _ _ _) (by unfold maxLen; omega) (by omega) (by first | omega | (simp; omega)) ?_))
            intro v' w2 hown2 hgr
            have d0' := hgr.cell d0 (fun e => by have := (hown1.lt b e.symm).1; omega)
            have d1' := hgr.cell d1 (fun e => by have := (hown1.lt b e.symm).1; omega)
            have d2' := hgr.cell d2 (fun e => by have := (hown1.lt b e.symm).1; omega)
            have d3' := hgr.cell d3 (fun e => by have := (hown1.lt b e.symm).1; omega)
            have d4' := hgr.cell d4 (fun e => by have := (hown1.lt b e.symm).1; omega)
            have p0' := hgr.cell p0 (fun e => by have := (hown1.lt w.heap.size e.symm).1; omega)
            have p1' := hgr.cell p1 (fun e => by have := (hown1.lt w.heap.size e.symm).1; omega)
            have p2' := hgr.cell p2 (fun e => by have := (hown1.lt w.heap.size e.symm).1; omega)
            have p3' := hgr.cell p3 (fun e => by have := (hown1.lt w.heap.size e.symm).1; omega)
            have p4' := hgr.cell p4 (fun e => by have := (hown1.lt w.heap.size e.symm).1; omega)
            clear d0 d1 d2 d3 d4 p0 p1 p2 p3 p4
            have hsz2 := hgr.size
            simp only [World.heap_drewN] at hsz2
            go_wp2
            go_quiet (fail)
            go_wp2_with (at_builtin; go_loud (refine wp_app _ rfl _ _ 78 rfl (w.heap.size + 1) 216 (.agg #[.string ⟨#[]⟩, .int .u8 0, .int .i64 0, .string ⟨#[]⟩, .slice none 0 0]) 5 72 Tryz.underlying78 Tryz.info216 rfl (by decide) (by exact hown2) _ rfl (by rfl) (by rfl) (five_one _ _ _ _ _ _ _) (by unfold maxLen; omega) (by omega) (by first | omega | (simp; omega)) ?_))
            intro v3 w3 hown3 hgr3
            go_wp2
            go_roundw
            case rel => exact ⟨k + 1, true, acc ++ [(x, .slice xa x.items.length xc), (y, .slice ia y.items.length ic)], by omega, by go_num, rfl, by first | (simpa [cellsT_snoc, cellsT, LC] using hown3) | (refine ownsRow_drewN ?_; simpa [cellsT_snoc, cellsT, LC] using hown3), (below_drewN ((below_drewN hB1 _).grown hgr (by simp; omega) (fun j hj => (hown1.lt j hj).1)) _).grown hgr3 (by simp; omega) (fun j hj => (hown2.lt j hj).1), by (try simp); omega, (fun p hp => by rcases List.mem_append.1 hp with h | h; exact HM.out p h; simp at h; rcases h with rfl | rfl; exact hxi; exact hit), by rw [HE.out, R.setL_from x _ k (by simpa using hlt), HP.out]; simp [b2, b3, HF.out]⟩
            case measure => simp [intOf]; omega
      · rcases Bool.eq_false_or_eq_true (y.path == x.path) with b3 | b3
        · go_wp2
          go_quiet (fail)
          go_wp2
          go_roundw
          case rel => exact ⟨k + 1, true, acc, by omega, by go_num, rfl, by first | (simpa [cellsT_snoc, cellsT, LC] using hown) | (refine ownsRow_drewN ?_; simpa [cellsT_snoc, cellsT, LC] using hown), below_drewN hb _, by (try simp); omega, HM.out, by rw [HE.out, R.setL_from x _ k (by simpa using hlt), HP.out]; simp [b3]⟩
          case measure => simp [intOf]; omega
        · go_wp2
          go_quiet (fail)
          go_wp2_with (at_builtin; go_loud (refine wp_app _ rfl _ _ 78 rfl (w.heap.size + 1) 216 (.agg #[.string ⟨#[]⟩, .int .u8 0, .int .i64 0, .string ⟨#[]⟩, .slice none 0 0]) 5 72 Tryz.underlying78 Tryz.info216 rfl (by decide) (by exact hown) _ rfl (by rfl) (by rfl) (five_one _ _ _ _ _ _ _) (by unfold maxLen; omega) (by omega) (by first | omega | (simp; omega)) ?_))
          intro v' w2 hown2 hgr
          go_wp2
          go_roundw
          case rel => exact ⟨k + 1, true, acc ++ [(y, .slice ia y.items.length ic)], by omega, by go_num, rfl, by first | (simpa [cellsT_snoc, cellsT, LC] using hown2) | (refine ownsRow_drewN ?_; simpa [cellsT_snoc, cellsT, LC] using hown2), (below_drewN hb _).grown hgr (by simp; omega) (fun j hj => (hown.lt j hj).1), by (try simp); omega, (fun p hp => by rcases List.mem_append.1 hp with h | h; exact HM.out p h; rw [List.mem_singleton] at h; subst h; exact hit), by rw [HE.out, R.setL_from x _ k (by simpa using hlt), HP.out]; simp [b3]⟩
          case measure => simp [intOf]; omega
    · have ux : ∀ (o : Nat) (u : Value), wb.cell? ⟨w.heap.size, o, none⟩ = some u → wr.cell? ⟨w.heap.size, o, none⟩ = some u := fun o u h2 => by
        rw [hb.cell (p := ⟨w.heap.size, o, none⟩) (Nat.lt_succ_self _)]; exact h2
      have p0 := ux _ _ x0
      have p1 := ux _ _ x1
      have p2 := ux _ _ x2
      have p3 := ux _ _ x3
      have p4 := ux _ _ x4
      clear ux x0 x1 x2 x3 x4
      have HD : Hid (R.set (L.map (·.1)) x = acc.map (·.1) ++ if done then [] else [x]) := by
        show R.set (L.map (·.1)) x = _
        rw [HE.out, List.drop_eq_nil_of_le (by simp; omega), R.setL]
      clear HE
      cases done
      · go_wp2_with (at_builtin; go_loud (refine wp_app wr rfl _ _ 78 rfl (w.heap.size + 1) 216 (.agg #[.string ⟨#[]⟩, .int .u8 0, .int .i64 0, .string ⟨#[]⟩, .slice none 0 0]) 5 72 Tryz.underlying78 Tryz.info216 rfl (by decide) hown _ rfl (by rfl) (by rfl) (five_one _ _ _ _ _ _ _) (by unfold maxLen; omega) (by omega) (by first | omega | (simp; omega)) ?_))
        intro v' w2 hown2 hgr
        go_wp2
        go_ret
        have hB2 : Below w.heap.size w w2 := hB0.trans ((hb.grown hgr (by omega) (fun j hj => (hown.lt j hj).1)).mono (by omega))
        refine ⟨_, rfl, ⟨acc ++ [(x, .slice xa x.items.length xc)], by rw [HD.out]; simp, ?_, fun p hp => Rd.below (((fun p hp => by rcases List.mem_append.1 hp with h | h; exact HM.out p h; rw [List.mem_singleton] at h; subst h; exact hxi) : ∀ p ∈ acc ++ [(x, .slice xa x.items.length xc)], It w M p) p hp) hB2⟩, hB2⟩
        have := Rd.of_owns (M := M) hown2 (fun b hb => by have := hM b hb; omega)
        simpa [cellsT_snoc, cellsT, LC] using this
      · go_wp2
        go_ret
        have hB2 : Below w.heap.size w wr := hB0.trans (hb.mono (by omega))
        exact ⟨_, rfl, ⟨acc, by rw [HD.out]; simp, Rd.of_owns (M := M) hown (fun b hb => by have := hM b hb; omega), fun p hp => Rd.below (HM.out p hp) hB2⟩, hB2⟩
end Go.Proofs.YtolgebdmffcemaaGreatDoor
namespace Go.Proofs.YtolgebdmffcemaaGreatDoor
open Go.RowKit
theorem u8_ofNat (n : Nat) : ((UInt8.ofNat n).toNat : Int) = (n : Int) % 256 := by simp
theorem conv3 (w : World) (a b c : UInt8) (x y z : Int) (hx : (a.toNat : Int) = x) (hy : (b.toNat : Int) = y) (hz : (c.toNat : Int) = z) :
    (convert 100 9 (.slice (some ⟨w.heap.size, 0, none⟩) 3 3)).run Tryz.prog (w.alloc (.cells #[.int .u8 x, .int .u8 y, .int .u8 z] 5)) = .ok (.string ⟨[a, b, c].toArray⟩) (w.alloc (.cells #[.int .u8 x, .int .u8 y, .int .u8 z] 5)) := by
  subst hx hy hz
  refine run_convert_bytes_back _ 100 9 5 ⟨w.heap.size, 0, none⟩ 3 [a, b, c] Tryz.underlying100 Tryz.underlying5 Tryz.underlying9 ?_
  intro j hj
  exact cells_of_new w #[.int .u8 (a.toNat : Int), .int .u8 (b.toNat : Int), .int .u8 (c.toNat : Int)] 5 j _ (by
    match j, hj with
    | 0, _ => rfl
    | 1, _ => rfl
    | 2, _ => rfl)
theorem conv1 (w : World) (a : UInt8) (x : Int) (hx : (a.toNat : Int) = x) :
    (convert 100 9 (.slice (some ⟨w.heap.size, 0, none⟩) 1 1)).run Tryz.prog (w.alloc (.cells #[.int .u8 x] 5)) = .ok (.string ⟨[a].toArray⟩) (w.alloc (.cells #[.int .u8 x] 5)) := by
  subst hx
  refine run_convert_bytes_back _ 100 9 5 ⟨w.heap.size, 0, none⟩ 1 [a] Tryz.underlying100 Tryz.underlying5 Tryz.underlying9 ?_
  intro j hj
  exact cells_of_new w #[.int .u8 (a.toNat : Int)] 5 j _ (by
    match j, hj with
    | 0, _ => rfl)
set_option maxHeartbeats 800000 in
set_option maxRecDepth 1000000 in
theorem r_Record (c : UInt8) (body : List UInt8) (w : World) (hl : body.length ≤ 1000000000) :
    Calls Tryz.prog 115 #[.int .u8 (c.toNat : Int), .string ⟨body.toArray⟩] w fun e w' => e = .returned (.string ⟨(R.record c body).toArray⟩) ∧ Below w.heap.size w w' := by
  have hc : (c.toNat : Int) < 256 := by have := c.toNat_lt; omega
  have hcv := conv3 w c (UInt8.ofNat (body.length / 256)) (UInt8.ofNat (body.length % 256)) (c.toNat : Int) ((body.length : Int) / 256 % 256) ((body.length : Int) % 256) rfl (by rw [u8_ofNat]; omega) (by rw [u8_ofNat]; omega)
  generalize hw1 : w.alloc (.cells #[.int .u8 (c.toNat : Int), .int .u8 ((body.length : Int) / 256 % 256), .int .u8 ((body.length : Int) % 256)] 5) = w1 at hcv
  have HB : Below w.heap.size w w1 := by rw [← hw1]; exact (Below.refl _ _).alloc (Nat.le_refl _) _
  have hrl : (R.recHead c body).length ≤ 1000000003 := by simp [R.recHead]; omega
  have hsl := R.sumB_le (R.recHead c body)
  have HR : Hid (R.record c body = R.recHead c body ++ [UInt8.ofNat ((1 + R.sumB (R.recHead c body)) % 251)]) := rfl
  have HH : Hid (R.recHead c body = [c, UInt8.ofNat (body.length / 256), UInt8.ofNat (body.length % 256)] ++ body) := rfl
  go_enter Tryz.func115, Tryz.ntmps115
  go_wp2
  rw [mk_add, ← HH.out]
  generalize R.recHead c body = s at *
  clear hcv
  go_loop [6, 7] (fun t i => ∃ k : Nat, k ≤ s.length ∧ i = .int .i64 k ∧ t = .int .i64 ((1 + R.sumB (s.take k) : Nat) : Int)) (fun _ i => s.length - (intOf i).toNat)
  case atStart => exact ⟨0, Nat.zero_le _, rfl, rfl⟩
  case round =>
    obtain ⟨k, hk, rfl, rfl⟩ := hrel
    have hsk := R.sumB_le (s.take k)
    have htl : (s.take k).length ≤ s.length := List.length_take_le' _ _
    by_cases hlt : k < s.length
    · have ha := at_mk s k hlt (by simpa [ByteArray.size] using hlt)
      have HS : Hid (R.sumB (s.take (k + 1)) = R.sumB (s.take k) + s[k].toNat) := R.sumB_take s k hlt
      have h8 : s[k].toNat < 256 := s[k].toNat_lt
      go_wp2
      go_round
      case rel => exact ⟨k + 1, by omega, by go_num, by rw [HS.out]; go_num⟩
      case measure => simp [intOf]; omega
    · have HT : Hid (s.take k = s) := List.take_of_length_le (by omega)
      rw [HT.out] at *
      have hcv := conv1 w1 (UInt8.ofNat ((1 + R.sumB s) % 251)) ((1 + (R.sumB s : Int)) % 251) (by rw [u8_ofNat]; omega)
      go_wp2
      go_ret
      exact ⟨ret_str (by rw [HR.out, ← mk_add]), HB.alloc HB.size _⟩
end Go.Proofs.YtolgebdmffcemaaGreatDoor
