/-
  What the program's words (package graft, words.go) give: names and texts, as the document's answer has them.
  What the program's words (package graft, words.go) give: paths, and which leads to which, as the document's answer has them.
  What the program reads off a tree (tree.at, full, otherKind, blocks, admits; value.hasItem), as the document's answer has it.
  What the program asks of a tree ahead of a change (tree.full, otherKind, blocks, admits; value.hasItem), as the document's answer has it.
-/
import Derived.Test.YtolgebdmffcemaaGreatDoorPart01
import Derived.Test.YtolgebdmffcemaaGreatDoorPart02
import Derived.Test.YtolgebdmffcemaaGreatDoorShelf
import Derived.Lib.IndexBytes
import Derived.Lib.SplitLaws
import Derived.Test.YtolgebdmffcemaaGreatDoorPart08
import Derived.Test.YtolgebdmffcemaaGreatDoorPart03
import Derived.Test.YtolgebdmffcemaaGreatDoorPart05
set_option linter.unusedVariables false
namespace Go.Proofs.YtolgebdmffcemaaGreatDoor
open Go.RowKit
theorem nb_eq (c : UInt8) : R.nb c = ((decide (97 ≤ (c.toNat : Int)) && decide ((c.toNat : Int) ≤ 122)) || (decide (48 ≤ (c.toNat : Int)) && decide ((c.toNat : Int) ≤ 57))) := by
  rw [Bool.eq_iff_iff]; simp [R.nb]; omega
theorem tb_eq (c : UInt8) : R.tb c = (decide (32 ≤ (c.toNat : Int)) && (decide ((c.toNat : Int) ≤ 126) && ((c.toNat : Int) != 59))) := by
  rw [Bool.eq_iff_iff]; simp [R.tb]; omega
set_option maxHeartbeats 400000 in
theorem g_isNameByte (c : UInt8) (ci : Int) (hc : (c.toNat : Int) = ci) (w : World) :
    Calls Tryz.prog 91 #[.int .u8 ci] w fun e w' => e = .returned (.bool (R.nb c)) ∧ w' = w := by
  have HB : Hid (R.nb c = ((decide (97 ≤ ci) && decide (ci ≤ 122)) || (decide (48 ≤ ci) && decide (ci ≤ 57)))) := by show _ = _; rw [nb_eq, hc]
  clear hc
  by_cases h1 : 97 ≤ ci <;> by_cases h2 : ci ≤ 122 <;> by_cases h3 : 48 ≤ ci <;> by_cases h4 : ci ≤ 57
  all_goals
    go_enter Tryz.func91, Tryz.ntmps91
    go_wp2
    go_ret
    exact ⟨ret_bool (by rw [HB.out]; simp <;> omega), rfl⟩
set_option maxHeartbeats 400000 in
theorem g_isTextByte (c : UInt8) (ci : Int) (hc : (c.toNat : Int) = ci) (w : World) :
    Calls Tryz.prog 160 #[.int .u8 ci] w fun e w' => e = .returned (.bool (R.tb c)) ∧ w' = w := by
  have HB : Hid (R.tb c = (decide (32 ≤ ci) && (decide (ci ≤ 126) && (ci != 59)))) := by show _ = _; rw [tb_eq, hc]
  clear hc
  by_cases h1 : 32 ≤ ci <;> by_cases h2 : ci ≤ 126
  all_goals
    go_enter Tryz.func160, Tryz.ntmps160
    go_wp2
    go_ret
    exact ⟨ret_bool (by rw [HB.out]; first | rfl | (simp [h1, h2]; done) | (simp; omega)), rfl⟩
set_option maxHeartbeats 800000 in
theorem g_isName (s : ByteArray) (w : World) (hs : s.size ≤ maxLen) :
    Calls Tryz.prog 53 #[.string s] w fun e w' => e = .returned (.bool (R.isName s.data.toList)) ∧ w' = w := by
  unfold maxLen at hs
  by_cases h1 : s.size < 1
  · go_enter Tryz.func53, Tryz.ntmps53
    go_wp2
    go_ret
    exact ⟨ret_bool (by rw [R.isName, R.size_list, decide_eq_false (show ¬ 1 ≤ s.size by omega)]; simp), rfl⟩
  by_cases h8 : 8 < s.size
  · go_enter Tryz.func53, Tryz.ntmps53
    go_wp2
    go_ret
    exact ⟨ret_bool (by rw [R.isName, R.size_list, decide_eq_false (show ¬ s.size ≤ 8 by omega)]; simp), rfl⟩
  go_enter Tryz.func53, Tryz.ntmps53
  go_wp2
  go_loop [14] (fun i => ∃ k : Nat, k ≤ s.size ∧ i = .int .i64 k ∧ (s.data.toList.take k).all R.nb = true) (fun i => s.size - (intOf i).toNat)
  case atStart => exact ⟨0, Nat.zero_le _, rfl, rfl⟩
  case round =>
    obtain ⟨k, hk, rfl, hall⟩ := hrel
    have HA : Hid ((s.data.toList.take k).all R.nb = true) := hall
    clear hall
    by_cases hlt : k < s.size
    · go_wp2_with fail
      refine (g_isNameByte s[k] _ rfl _).mono ?_
      rintro e w2 ⟨rfl, rfl⟩
      generalize hb : R.nb s[k] = b
      have HB : Hid (R.nb s[k] = b) := hb
      clear hb
      cases b
      · go_wp2
        go_ret
        exact ⟨ret_bool (R.isName_bad s k hlt HB.out), rfl⟩
      · go_wp2
        go_round
        case rel => exact ⟨k + 1, by omega, by go_num, R.take_all s R.nb k hlt HA.out HB.out⟩
        case measure => simp [intOf]; omega
    · go_wp2
      go_ret
      exact ⟨ret_bool (by rw [R.isName_end s k hlt HA.out]; simp; omega), rfl⟩
set_option maxHeartbeats 800000 in
theorem g_isText (s : ByteArray) (w : World) (hs : s.size ≤ maxLen) :
    Calls Tryz.prog 113 #[.string s] w fun e w' => e = .returned (.bool (R.isText s.data.toList)) ∧ w' = w := by
  unfold maxLen at hs
  by_cases h20 : 20 < s.size
  · go_enter Tryz.func113, Tryz.ntmps113
    go_wp2
    go_ret
    exact ⟨ret_bool (R.isText_long s (by omega)), rfl⟩
  go_enter Tryz.func113, Tryz.ntmps113
  go_wp2
  go_loop [9] (fun i => ∃ k : Nat, k ≤ s.size ∧ i = .int .i64 k ∧ (s.data.toList.take k).all R.tb = true) (fun i => s.size - (intOf i).toNat)
  case atStart => exact ⟨0, Nat.zero_le _, rfl, rfl⟩
  case round =>
    obtain ⟨k, hk, rfl, hall⟩ := hrel
    have HA : Hid ((s.data.toList.take k).all R.tb = true) := hall
    clear hall
    by_cases hlt : k < s.size
    · go_wp2_with fail
      refine (g_isTextByte s[k] _ rfl _).mono ?_
      rintro e w2 ⟨rfl, rfl⟩
      generalize hb : R.tb s[k] = b
      have HB : Hid (R.tb s[k] = b) := hb
      clear hb
      cases b
      · go_wp2
        go_ret
        exact ⟨ret_bool (R.isText_bad s k hlt HB.out), rfl⟩
      · go_wp2
        go_round
        case rel => exact ⟨k + 1, by omega, by go_num, R.take_all s R.tb k hlt HA.out HB.out⟩
        case measure => simp [intOf]; omega
    · go_wp2
      go_ret
      exact ⟨ret_bool (R.isText_end s k hlt (by omega) HA.out), rfl⟩
set_option maxHeartbeats 400000 in
theorem g_isItem (s : List UInt8) (w : World) (hs : s.length ≤ maxLen) :
    Calls Tryz.prog 98 #[.string ⟨s.toArray⟩] w fun e w' => e = .returned (.bool (!(!R.isText s || s == []))) ∧ w' = w := by
  have hT := g_isText ⟨s.toArray⟩ w (by simpa [ByteArray.size] using hs)
  simp only at hT
  generalize R.isText s = b at hT ⊢
  cases hE : (s == ([] : List UInt8))
  · have hN : (s != ([] : List UInt8)) = true := by rw [bne, hE]; rfl
    go_enter Tryz.func98, Tryz.ntmps98
    go_wp2_with fail
    refine hT.mono ?_
    rintro e w2 ⟨rfl, rfl⟩
    go_wp2
    go_ret
    exact ⟨ret_bool (by simp), rfl⟩
  · have hN : (s != ([] : List UInt8)) = false := by rw [bne, hE]; rfl
    go_enter Tryz.func98, Tryz.ntmps98
    go_wp2
    go_ret
    exact ⟨ret_bool (by simp), rfl⟩
end Go.Proofs.YtolgebdmffcemaaGreatDoor
namespace Go.Proofs.YtolgebdmffcemaaGreatDoor
open Go.RowKit
theorem indexByte_parts (c : UInt8) : ∀ s : List UInt8, (Lib.indexByte s c = -1 ∧ ∀ x ∈ s, x ≠ c) ∨ ∃ a r, s = a ++ c :: r ∧ (∀ x ∈ a, x ≠ c) ∧ Lib.indexByte s c = (a.length : Int)
  | [] => .inl ⟨rfl, by simp⟩
  | b :: l => by
    by_cases hb : b = c
    · exact .inr ⟨[], l, by rw [hb]; rfl, by simp, by rw [Lib.indexByte, if_pos (by simpa using hb)]; rfl⟩
    · rcases indexByte_parts c l with ⟨h1, h2⟩ | ⟨a, r, h1, h2, h3⟩
      · refine .inl ⟨by rw [Lib.indexByte, if_neg (by simpa using hb), if_pos (by simpa using h1)], fun x hx => ?_⟩
        rcases List.mem_cons.1 hx with rfl | hx
        · exact hb
        · exact h2 x hx
      · refine .inr ⟨b :: a, r, by rw [h1]; rfl, fun x hx => ?_, ?_⟩
        · rcases List.mem_cons.1 hx with rfl | hx
          · exact hb
          · exact h2 x hx
        · rw [Lib.indexByte, if_neg (by simpa using hb), if_neg (by rw [h3]; simp), h3]; simp
theorem spl_eq : ∀ (n : Nat) (s : List UInt8), s.length ≤ n → Lib.splitK [47] 0 (Lib.count s [47]) s = R.spl s
  | n, s, hn => by
    rcases indexByte_parts 47 s with ⟨h1, h2⟩ | ⟨a, r, h1, h2, h3⟩
    · have hi : Lib.index s [47] = -1 := by rw [Lib.index_one, h1]
      rw [Lib.count_miss hi, R.spl_plain s h2]; rfl
    · have hi : Lib.index s [47] = (a.length : Int) := by rw [Lib.index_one, h3]
      cases n with
      | zero => rw [h1] at hn; simp at hn
      | succ n =>
        have hd : s.drop (a.length + 1) = r := by rw [h1]; simp
        have ht : s.take a.length = a := by rw [h1]; simp
        have ih := spl_eq n r (by rw [h1] at hn; simp at hn; omega)
        rw [Lib.count_hit (by simp) hi]
        simp only [List.length_cons, List.length_nil, Nat.zero_add]
        rw [hd, Nat.add_comm, Lib.splitK, if_neg (by rw [hi]; simp), hi]
        simp only [Int.toNat_natCast, Nat.add_zero, List.length_cons, List.length_nil, Nat.zero_add]
        rw [hd, ht, ih]
        conv => rhs; rw [h1, R.spl_cut a r h2]
theorem hasPrefix_leads (a b : List UInt8) : Lib.hasPrefix b (a ++ [47]) = R.leads a b := by
  rw [Bool.eq_iff_iff]
  unfold Lib.hasPrefix R.leads
  rw [List.isPrefixOf_iff_prefix]
  constructor
  · rintro ⟨t, rfl⟩
    simp
  · intro h
    simp only [Bool.and_eq_true, decide_eq_true_eq, beq_iff_eq] at h
    obtain ⟨h1, h2, h3⟩ := h
    refine ⟨b.drop (a.length + 1), ?_⟩
    rw [List.getElem?_eq_getElem h1] at h3
    have h4 : b[a.length] = 47 := by simpa using h3
    conv => rhs; rw [← List.take_append_drop a.length b, h2, List.drop_eq_getElem_cons h1, h4]
    simp
set_option maxHeartbeats 400000 in
theorem g_leads (s t : List UInt8) (w : World) (_hs : s.length ≤ 1000) :
    Calls Tryz.prog 193 #[.string ⟨s.toArray⟩, .string ⟨t.toArray⟩] w fun e w' => e = .returned (.bool (R.leads s t)) ∧ w' = w := by
  go_enter Tryz.func193, Tryz.ntmps193
  go_wp2_with fail
  refine (Tryz.strings_HasPrefix _ _ _).mono ?_
  rintro e w1 ⟨rfl, rfl⟩
  go_wp2
  go_ret
  exact ⟨ret_bool (by rw [← hasPrefix_leads]), rfl⟩
theorem spl_total : ∀ (l : List UInt8), l.length + 1 = ((R.spl l).map fun p => p.length + 1).sum
  | [] => by simp [R.spl]
  | c :: r => by
    have ih := spl_total r
    rw [R.spl]
    split
    · simp only [List.map_cons, List.sum_cons, List.length_nil, List.length_cons]; omega
    · split
      · rename_i e; rw [e] at ih; simp at ih
      · rename_i h t e
        rw [e] at ih
        simp only [List.map_cons, List.sum_cons, List.length_cons] at ih ⊢; omega
theorem names_total : ∀ (L : List (List UInt8)), L.all R.isName = true → (L.map fun p => p.length + 1).sum ≤ L.length * 9
  | [], _ => by simp
  | p :: t, h => by
    simp only [List.all_cons, Bool.and_eq_true] at h
    have h1 := names_total t h.2
    have h2 : p.length ≤ 8 := by have := h.1; simp [R.isName] at this; exact this.2.2
    simp only [List.map_cons, List.sum_cons, List.length_cons]; omega
/-- a path is short: four names, three signs between them -/
theorem spl_sum (l : List UInt8) (h : (R.spl l).all R.isName = true) : l.length + 1 ≤ (R.spl l).length * 9 := by
  rw [spl_total l]; exact names_total _ h
theorem isPath_short (s : List UInt8) (h : R.isPath s = true) : s.length ≤ 35 := by
  simp only [R.isPath, Bool.and_eq_true, decide_eq_true_eq] at h
  have := spl_sum s h.2.1
  omega
theorem splitB_strings (s : List UInt8) : (Lib.splitB ⟨[(47 : UInt8)].toArray⟩ 0 (Lib.countB ⟨s.toArray⟩ ⟨[(47 : UInt8)].toArray⟩) ⟨s.toArray⟩).map Value.string = (R.spl s).map S := by
  have h := Lib.splitB_data ⟨[(47 : UInt8)].toArray⟩ 0 (Lib.countB ⟨s.toArray⟩ ⟨[(47 : UInt8)].toArray⟩) ⟨s.toArray⟩
  rw [show (Lib.splitK (⟨[(47 : UInt8)].toArray⟩ : ByteArray).data.toList 0 (Lib.countB ⟨s.toArray⟩ ⟨[(47 : UInt8)].toArray⟩) (⟨s.toArray⟩ : ByteArray).data.toList) = R.spl s from spl_eq s.length s (Nat.le_refl _)] at h
  rw [← h, List.map_map]
  apply List.map_congr_left
  intro x _
  simp [S]
theorem countB_spl (s : List UInt8) : Lib.countB ⟨s.toArray⟩ ⟨[(47 : UInt8)].toArray⟩ + 1 = (R.spl s).length := by
  have h1 := Lib.splitB_all ⟨[(47 : UInt8)].toArray⟩ (by simp [ByteArray.size]) 0 _ ⟨s.toArray⟩ rfl
  have h2 := congrArg List.length (splitB_strings s)
  rw [List.length_map, List.length_map] at h2
  omega
set_option maxHeartbeats 800000 in
set_option maxRecDepth 1000000 in
/-- wM: some int lies in the library's variable MaxLen -/
theorem g_isPath (s : List UInt8) (w : World) (hs : s.length ≤ maxLen) (mx : Int) (hmx : w.cell? ⟨0, 0, none⟩ = some (.int .i64 mx)) :
    Calls Tryz.prog 92 #[.string ⟨s.toArray⟩] w fun e w' => e = .returned (.bool (R.isPath s)) ∧ Below w.heap.size w w' := by
  unfold maxLen at hs
  by_cases h35 : 35 < s.length
  · go_enter Tryz.func92, Tryz.ntmps92
    go_wp2
    go_ret
    exact ⟨ret_bool (by rw [Bool.eq_false_iff]; intro h; have := isPath_short s h; omega), Below.refl _ _⟩
  have hsp := Tryz.strings_Split ⟨s.toArray⟩ ⟨[(47 : UInt8)].toArray⟩ mx w (by simp [ByteArray.size]; omega) hmx (by simp [ByteArray.size])
  rw [splitB_strings, countB_spl] at hsp
  have HP : Hid (R.isPath s = ((R.spl s).all R.isName && decide ((R.spl s).length ≤ 4))) := by
    show _ = _
    rw [R.isPath, decide_eq_true (by omega), Bool.true_and]
  have HM : Hid (∀ p ∈ R.spl s, p.length ≤ 1000) := fun p hp => by have := R.spl_mem s p hp; omega
  have hln := (R.spl_length s).1
  generalize R.spl s = x at *
  go_enter Tryz.func92, Tryz.ntmps92
  go_wp2_with fail
  refine hsp.mono ?_
  rintro e w1 ⟨rfl, hw1⟩
  have hb1 : Below w.heap.size w w1 := by rw [hw1]; exact (Below.refl _ _).alloc (Nat.le_refl _) _
  have hc1 : ∀ j u, (x.map S)[j]? = some u → w1.cell? ⟨w.heap.size, j, none⟩ = some u := fun j u hu => by
    rw [hw1, World.cell?_alloc_at _ _ _ _ rfl]; simpa using hu
  clear hw1 hsp
  by_cases h4 : 4 < x.length
  · go_wp2
    go_ret
    exact ⟨ret_bool (by rw [HP.out, decide_eq_false (by omega), Bool.and_false]), hb1⟩
  go_wp2
  go_loop [16] (fun i => ∃ k : Nat, k ≤ x.length ∧ i = .int .i64 k ∧ (x.take k).all R.isName = true) (fun i => x.length - (intOf i).toNat)
  case atStart => exact ⟨0, Nat.zero_le _, rfl, rfl⟩
  case round =>
    obtain ⟨k, hk1, rfl, he⟩ := hrel
    have HE : Hid ((x.take k).all R.isName = true) := he
    clear he
    by_cases hx : k < x.length
    · have hx1 : w1.cell? ⟨w.heap.size, k, none⟩ = some (.string ⟨x[k].toArray⟩) := hc1 k _ (by simp [S, hx])
      clear hc1
      go_wp2_with fail
      refine (g_isName _ _ (by have := HM.out x[k] (List.getElem_mem hx); simp [ByteArray.size, maxLen]; omega)).mono ?_
      rintro e w2 ⟨rfl, rfl⟩
      cases hr : R.isName x[k]
      · have HR : Hid (R.isName x[k] = false) := hr
        clear hr
        go_wp2
        go_ret
        exact ⟨ret_bool (by rw [HP.out, R.all_bad x _ k hx HR.out]; rfl), hb1⟩
      · have HR : Hid (R.isName x[k] = true) := hr
        clear hr
        go_wp2
        go_round
        case rel => exact ⟨k + 1, by omega, by go_num, R.all_snoc x _ k hx HE.out HR.out⟩
        case measure => simp [intOf]; omega
    · go_wp2
      go_ret
      exact ⟨ret_bool (by rw [HP.out, R.all_end x _ k hx HE.out, Bool.true_and]; exact decide_eq_true (by omega)), hb1⟩
end Go.Proofs.YtolgebdmffcemaaGreatDoor
namespace Go.Proofs.YtolgebdmffcemaaGreatDoor
open Go.RowKit
theorem found_at {t : List R.Leaf} (hs : Sorted t) (s : List UInt8) (h : (t.any fun x => x.path == s) = true) : ∃ hp : posT t s < t.length, (t[posT t s]'hp).path = s ∧ R.at_ t s = t[posT t s]'hp := by
  obtain ⟨y, hy, hys⟩ := List.any_eq_true.1 h
  obtain ⟨k, hk, rfl⟩ := List.getElem_of_mem hy
  have hks : t[k].path = s := by simpa using hys
  have hp : posT t s = k := by
    unfold posT
    rw [List.findIdx_eq hk]
    refine ⟨by simp [lessS, hks, bytesLess_irrefl], fun j hj => ?_⟩
    have := hs j k (by omega) hk hj
    rw [hks] at this
    simp [lessS, this]
  have ha : ((t.take k).any fun x => x.path == s) = false := by
    rw [Bool.eq_false_iff]
    intro h
    obtain ⟨z, hz, hzs⟩ := List.any_eq_true.1 h
    obtain ⟨j, hj, rfl⟩ := List.mem_take_iff_getElem.1 hz
    have := hs j k (by omega) hk (by omega)
    rw [beq_iff_eq.1 hzs, hks, bytesLess_irrefl] at this; cases this
  refine ⟨by rw [hp]; exact hk, ?_, ?_⟩
  · simp only [hp]; exact hks
  · simp only [hp]; exact find_hit hk ha hys
theorem absent_at {t : List R.Leaf} (s : List UInt8) (h : (t.any fun x => x.path == s) = false) : R.at_ t s = R.none s :=
  find_none (k := t.length) (by omega) (by rw [List.take_length]; exact h)
/-- a value of the program as four cells -/
def PV (x : R.Leaf) (iv : Value) : Value := .agg #[.int .i64 (pk x), .int .i64 x.n, .string ⟨x.text.toArray⟩, iv]
theorem four_set (w : World) (W : Nat) (a b c d p q r s : Value) (h0 : w.cell? ⟨W, 0, none⟩ = some p) (h1 : w.cell? ⟨W, 1, none⟩ = some q) (h2 : w.cell? ⟨W, 2, none⟩ = some r) (h3 : w.cell? ⟨W, 3, none⟩ = some s) :
    ((((w.setCell ⟨W, 0, none⟩ a).setCell ⟨W, 1, none⟩ b).setCell ⟨W, 2, none⟩ c).setCell ⟨W, 3, none⟩ d).cell? ⟨W, 0, none⟩ = some a ∧ ((((w.setCell ⟨W, 0, none⟩ a).setCell ⟨W, 1, none⟩ b).setCell ⟨W, 2, none⟩ c).setCell ⟨W, 3, none⟩ d).cell? ⟨W, 1, none⟩ = some b ∧
    ((((w.setCell ⟨W, 0, none⟩ a).setCell ⟨W, 1, none⟩ b).setCell ⟨W, 2, none⟩ c).setCell ⟨W, 3, none⟩ d).cell? ⟨W, 2, none⟩ = some c ∧ ((((w.setCell ⟨W, 0, none⟩ a).setCell ⟨W, 1, none⟩ b).setCell ⟨W, 2, none⟩ c).setCell ⟨W, 3, none⟩ d).cell? ⟨W, 3, none⟩ = some d := by
  refine ⟨?_, ?_, ?_, ?_⟩
  · rw [sc_other _ _ _ _ _ (by omega), sc_other _ _ _ _ _ (by omega), sc_other _ _ _ _ _ (by omega)]; exact sc_same _ _ _ _ _ h0
  · rw [sc_other _ _ _ _ _ (by omega), sc_other _ _ _ _ _ (by omega)]; exact sc_same _ _ _ _ q (by rw [sc_other _ _ _ _ _ (by omega)]; exact h1)
  · rw [sc_other _ _ _ _ _ (by omega)]; exact sc_same _ _ _ _ r (by rw [sc_other _ _ _ _ _ (by omega), sc_other _ _ _ _ _ (by omega)]; exact h2)
  · exact sc_same _ _ _ _ s (by rw [sc_other _ _ _ _ _ (by omega), sc_other _ _ _ _ _ (by omega), sc_other _ _ _ _ _ (by omega)]; exact h3)
set_option maxHeartbeats 800000 in
set_option maxRecDepth 1000000 in
theorem g_at (v : Value) (t : List R.Leaf) (s : List UInt8) (w : World) (M : Nat → Prop) (h : PT w M v t) (hl : t.length ≤ 1000000) (hsort : Sorted t) :
    Calls Tryz.prog 94 #[v, .string ⟨s.toArray⟩] w fun e w' => ∃ ia ic, e = .returned (.agg #[.int .i64 (pk (R.at_ t s)), .int .i64 (R.at_ t s).n, .string ⟨(R.at_ t s).text.toArray⟩, .slice ia (R.at_ t s).items.length ic]) ∧ It w M (R.at_ t s, .slice ia (R.at_ t s).items.length ic) ∧ Below w.heap.size w w' := by
  have hpl := g_place v t s (w.alloc (.cells #[.int .i64 0, .int .i64 0, .string ⟨#[]⟩, .slice none 0 0] 137)) M (h.below ((Below.refl _ _).alloc (Nat.le_refl _) _)) hl hsort
  obtain ⟨L, hL, ⟨a, cap, rfl, hn, hm, hc⟩, hI⟩ := h
  unfold maxLen at hm
  cases hany : (t.any fun x => x.path == s)
  · have e0 := absent_at s hany
    rw [hany] at hpl
    rw [e0]
    generalize posT t s = p at hpl
    clear hc hI hsort e0 hany
    go_enter Tryz.func94, Tryz.ntmps94
    go_wp2_with fail
    refine hpl.mono ?_
    rintro e w1 ⟨rfl, hb1⟩
    have hs1 := hb1.size
    simp only [World.size_alloc] at hs1
    have hx : ∀ j u, #[Value.int .i64 0, .int .i64 0, .string ⟨#[]⟩, .slice none 0 0][j]? = some u → w1.cell? ⟨w.heap.size, j, none⟩ = some u := fun j u hu => by
      rw [hb1.cell (p := ⟨w.heap.size, j, none⟩) (by simp), World.cell?_alloc_at _ _ _ _ rfl]; exact hu
    have hf : ∀ j, w1.frozen? ⟨w.heap.size, j, none⟩ = false := fun j => by
      rw [hb1.frozen (p := ⟨w.heap.size, j, none⟩) (by simp), World.frozen?_alloc_at _ _ _ _ rfl]
    have x0 := hx 0 _ rfl
    have x1 := hx 1 _ rfl
    have x2 := hx 2 _ rfl
    have x3 := hx 3 _ rfl
    have f0 := hf 0
    have f1 := hf 1
    have f2 := hf 2
    have f3 := hf 3
    clear hx hf
    go_wp2
    obtain ⟨z0, z1, z2, z3⟩ := four_set w1 w.heap.size (.int .i64 0) (.int .i64 0) (.string ⟨#[]⟩) (.slice none 0 0) _ _ _ _ x0 x1 x2 x3
    have hB2 : Below w.heap.size w ((((w1.setCell ⟨w.heap.size, 0, none⟩ (.int .i64 0)).setCell ⟨w.heap.size, 1, none⟩ (.int .i64 0)).setCell ⟨w.heap.size, 2, none⟩ (.string ⟨#[]⟩)).setCell ⟨w.heap.size, 3, none⟩ (.slice none 0 0)) :=
      ((((((Below.refl _ _).alloc (Nat.le_refl _) _).trans (hb1.mono (by simp))).setCell (p := ⟨w.heap.size, 0, none⟩) (Nat.le_refl _) _).setCell (p := ⟨w.heap.size, 1, none⟩) (Nat.le_refl _) _).setCell (p := ⟨w.heap.size, 2, none⟩) (Nat.le_refl _) _).setCell (p := ⟨w.heap.size, 3, none⟩) (Nat.le_refl _) _
    generalize ((((w1.setCell ⟨w.heap.size, 0, none⟩ (.int .i64 0)).setCell ⟨w.heap.size, 1, none⟩ (.int .i64 0)).setCell ⟨w.heap.size, 2, none⟩ (.string ⟨#[]⟩)).setCell ⟨w.heap.size, 3, none⟩ (.slice none 0 0)) = w9 at *
    exact bodyPost_ret (v := .agg #[(.int .i64 0), (.int .i64 0), (.string ⟨#[]⟩), (.slice none 0 0)]) (by simp [results, Tryz.results94, go_sem, z0, z1, z2, z3]) rfl ⟨none, 0, rfl, ⟨none, 0, rfl, Nat.le_refl _, by unfold maxLen; omega, fun h => absurd h (Nat.lt_irrefl _)⟩, hB2⟩
  · obtain ⟨hp, -, hpa⟩ := found_at hsort s hany
    rw [hany] at hpl
    have hLn : t.length = L.length := by rw [← hL, List.length_map]
    have hpL : posT t s < L.length := by rw [← hLn]; exact hp
    obtain ⟨b, off, rfl, hbs, _, hcell⟩ := hc (by omega)
    obtain ⟨x, ia, ic, HL, hit, c0, c1, c2, c3, c4⟩ := leafP' hI hcell _ hpL
    have hx : R.at_ t s = x := by
      rw [hpa]
      have : t[posT t s]'hp = (L[posT t s]'hpL).1 := by subst hL; simp
      rw [this, HL.out]
    rw [hx]
    generalize posT t s = p at *
    clear hc hI hsort hany hcell hpa hx HL c0 hLn
    go_enter Tryz.func94, Tryz.ntmps94
    go_wp2_with fail
    refine hpl.mono ?_
    rintro e w1 ⟨rfl, hb1⟩
    have hs1 := hb1.size
    simp only [World.size_alloc] at hs1
    have hx : ∀ j u, #[Value.int .i64 0, .int .i64 0, .string ⟨#[]⟩, .slice none 0 0][j]? = some u → w1.cell? ⟨w.heap.size, j, none⟩ = some u := fun j u hu => by
      rw [hb1.cell (p := ⟨w.heap.size, j, none⟩) (by simp), World.cell?_alloc_at _ _ _ _ rfl]; exact hu
    have hf : ∀ j, w1.frozen? ⟨w.heap.size, j, none⟩ = false := fun j => by
      rw [hb1.frozen (p := ⟨w.heap.size, j, none⟩) (by simp), World.frozen?_alloc_at _ _ _ _ rfl]
    have x0 := hx 0 _ rfl
    have x1 := hx 1 _ rfl
    have x2 := hx 2 _ rfl
    have x3 := hx 3 _ rfl
    have f0 := hf 0
    have f1 := hf 1
    have f2 := hf 2
    have f3 := hf 3
    clear hx hf
    have up : ∀ o u, w.cell? ⟨b, o, none⟩ = some u → w1.cell? ⟨b, o, none⟩ = some u := fun o u hu => by
      rw [hb1.cell (p := ⟨b, o, none⟩) (by simp; omega), World.cell?_alloc_past _ _ _ hbs]; exact hu
    have d1 := up _ _ c1
    have d2 := up _ _ c2
    have d3 := up _ _ c3
    have d4 := up _ _ c4
    clear up c1 c2 c3 c4
    go_wp2
    obtain ⟨z0, z1, z2, z3⟩ := four_set w1 w.heap.size (.int .i64 (pk x)) (.int .i64 x.n) (.string ⟨x.text.toArray⟩) (.slice ia x.items.length ic) _ _ _ _ x0 x1 x2 x3
    have hB2 : Below w.heap.size w ((((w1.setCell ⟨w.heap.size, 0, none⟩ (.int .i64 (pk x))).setCell ⟨w.heap.size, 1, none⟩ (.int .i64 x.n)).setCell ⟨w.heap.size, 2, none⟩ (.string ⟨x.text.toArray⟩)).setCell ⟨w.heap.size, 3, none⟩ (.slice ia x.items.length ic)) :=
      ((((((Below.refl _ _).alloc (Nat.le_refl _) _).trans (hb1.mono (by simp))).setCell (p := ⟨w.heap.size, 0, none⟩) (Nat.le_refl _) _).setCell (p := ⟨w.heap.size, 1, none⟩) (Nat.le_refl _) _).setCell (p := ⟨w.heap.size, 2, none⟩) (Nat.le_refl _) _).setCell (p := ⟨w.heap.size, 3, none⟩) (Nat.le_refl _) _
    generalize ((((w1.setCell ⟨w.heap.size, 0, none⟩ (.int .i64 (pk x))).setCell ⟨w.heap.size, 1, none⟩ (.int .i64 x.n)).setCell ⟨w.heap.size, 2, none⟩ (.string ⟨x.text.toArray⟩)).setCell ⟨w.heap.size, 3, none⟩ (.slice ia x.items.length ic)) = w9 at *
    exact bodyPost_ret (v := .agg #[(.int .i64 (pk x)), (.int .i64 x.n), (.string ⟨x.text.toArray⟩), (.slice ia x.items.length ic)]) (by simp [results, Tryz.results94, go_sem, z0, z1, z2, z3]) rfl ⟨ia, ic, rfl, hit, hB2⟩
end Go.Proofs.YtolgebdmffcemaaGreatDoor
namespace Go.Proofs.YtolgebdmffcemaaGreatDoor
open Go.RowKit
theorem run_field_kind (k : Int) (b c d : Value) (w : World) : (Instr.field 137 (.agg #[.int .i64 k, b, c, d]) 0).run Tryz.prog w = .ok (.int .i64 k) w := by
  simp [Instr.field, go_sem, asAgg]
set_option maxHeartbeats 800000 in
set_option maxRecDepth 1000000 in
theorem g_full (v : Value) (t : List R.Leaf) (s : List UInt8) (w : World) (M : Nat → Prop) (h : PT w M v t) (hl : t.length ≤ 1000000) (hsort : Sorted t) :
    Calls Tryz.prog 95 #[v, .string ⟨s.toArray⟩] w fun e w' => e = .returned (.bool ((pk (R.at_ t s) == 0) && decide (24 ≤ t.length))) ∧ Below w.heap.size w w' := by
  have ha := g_at v t s w M h hl hsort
  obtain ⟨L, hL, ⟨a, cap, rfl, hn, hm, hc⟩, hI⟩ := h
  have hLn : t.length = L.length := by rw [← hL, List.length_map]
  have HLn := hide3 hLn
  unfold maxLen at hm
  clear hc hI hsort hL hLn
  generalize R.at_ t s = x at *
  have hfd := run_field_kind (pk x)
  cases hk : (pk x == 0)
  · have HK := hide3 hk
    go_enter Tryz.func95, Tryz.ntmps95
    go_wp2_with fail
    refine ha.mono ?_
    rintro e w1 ⟨ia, ic, rfl, hit, hb1⟩
    go_wp2
    go_ret
    exact ⟨ret_bool (by simp), hb1⟩
  · have HK := hide3 hk
    go_enter Tryz.func95, Tryz.ntmps95
    go_wp2_with fail
    refine ha.mono ?_
    rintro e w1 ⟨ia, ic, rfl, hit, hb1⟩
    go_wp2
    go_ret
    exact ⟨ret_bool (by rw [HLn.out]; simp; omega), hb1⟩
set_option maxHeartbeats 400000 in
theorem g_otherKind (v : Value) (t : List R.Leaf) (s : List UInt8) (k : Int) (w : World) (M : Nat → Prop) (h : PT w M v t) (hl : t.length ≤ 1000000) (hsort : Sorted t) :
    Calls Tryz.prog 100 #[v, .string ⟨s.toArray⟩, .int .i64 k] w fun e w' => e = .returned (.bool ((pk (R.at_ t s) != 0) && (pk (R.at_ t s) != k))) ∧ Below w.heap.size w w' := by
  have ha := g_at v t s w M h hl hsort
  clear h hsort
  generalize R.at_ t s = x at *
  cases hk : (pk x != 0)
  all_goals
    go_enter Tryz.func100, Tryz.ntmps100
    go_wp2_with fail
    refine ha.mono ?_
    rintro e w1 ⟨ia, ic, rfl, hit, hb1⟩
    go_wp2
    go_ret
    exact ⟨ret_bool (by simp), hb1.alloc hb1.size _⟩
set_option maxHeartbeats 1600000 in
set_option maxRecDepth 1000000 in
theorem g_blocks (v : Value) (t : List R.Leaf) (s : List UInt8) (w : World) (M : Nat → Prop) (h : PT w M v t) (hg : ∀ x ∈ t, x.path.length ≤ 1000) (hsl : s.length ≤ 1000) :
    Calls Tryz.prog 144 #[v, .string ⟨s.toArray⟩] w fun e w' => e = .returned (.bool (R.blocked t s)) ∧ Below w.heap.size w w' := by
  obtain ⟨L, rfl, ⟨a, cap, rfl, hn, hm, hc⟩, hI⟩ := h
  unfold maxLen at hm
  go_enter Tryz.func144, Tryz.ntmps144
  go_wp2
  go_loopw [9] (fun i wr => ∃ k : Nat, k ≤ L.length ∧ i = .int .i64 k ∧ (((L.map (·.1)).take k).any fun x => R.leads x.path s || R.leads s x.path) = false ∧ Below w.heap.size w wr) (fun i _ => L.length - (intOf i).toNat)
  case atStart => exact ⟨0, Nat.zero_le _, rfl, rfl, Below.refl _ _⟩
  case round =>
    obtain ⟨k, hk, rfl, hall, hb⟩ := hrel
    have HA : Hid ((((L.map (·.1)).take k).any fun x => R.leads x.path s || R.leads s x.path) = false) := hall
    clear hall
    by_cases hlt : k < L.length
    · obtain ⟨b, off, rfl, hbs, _, hcell⟩ := hc (by omega)
      obtain ⟨x, ia, ic, HL, hit, c0, c1, c2, c3, c4⟩ := leafP' hI hcell k hlt
      have HP : Hid ((L.map (·.1))[k]'(by simpa using hlt) = x) := by show _ = _; simp [HL.out]
      have hxl : x.path.length ≤ 1000 := by
        have := hg _ (List.getElem_mem (l := L.map (·.1)) (n := k) (by simpa using hlt))
        rwa [HP.out] at this
      have e0 := (hb.cell (p := ⟨b, off + k * 5, none⟩) hbs).trans c0
      have e1 := (hb.cell (p := ⟨b, off + k * 5 + 1, none⟩) hbs).trans c1
      have e2 := (hb.cell (p := ⟨b, off + k * 5 + 2, none⟩) hbs).trans c2
      have e3 := (hb.cell (p := ⟨b, off + k * 5 + 3, none⟩) hbs).trans c3
      have e4 := (hb.cell (p := ⟨b, off + k * 5 + 4, none⟩) hbs).trans c4
      have hsz := hb.size
      clear hcell hc hI hg c0 c1 c2 c3 c4
      have HB : Hid (∀ c, (R.leads x.path s || R.leads s x.path) = c → ((fun x : R.Leaf => R.leads x.path s || R.leads s x.path) ((L.map (·.1))[k]'(by simpa using hlt))) = c) := by
        intro c hc; rw [HP.out]; exact hc
      go_wp2_with fail
      refine (g_leads x.path s _ hxl).mono ?_
      rintro e w2 ⟨rfl, hw2⟩
      subst hw2
      generalize R.leads x.path s = l1 at HB ⊢
      cases l1
      · go_wp2_with fail
        refine (g_leads s x.path _ hsl).mono ?_
        rintro e w2 ⟨rfl, hw2⟩
        subst hw2
        generalize R.leads s x.path = l2 at HB ⊢
        cases l2
        · go_wp2
          go_roundw
          case rel => exact ⟨k + 1, by omega, by go_num, R.any_snoc _ _ k (by simpa using hlt) HA.out (HB.out _ rfl), hb.alloc hsz _⟩
          case measure => simp [intOf]; omega
        · go_wp2
          go_ret
          exact ⟨ret_bool (R.any_hit _ _ k (by simpa using hlt) (HB.out _ rfl)), hb.alloc hsz _⟩
      · go_wp2
        go_ret
        exact ⟨ret_bool (R.any_hit _ _ k (by simpa using hlt) (HB.out _ rfl)), hb.alloc hsz _⟩
    · go_wp2
      go_ret
      exact ⟨ret_bool (R.any_end _ _ k (by simpa using hlt) HA.out), hb⟩
set_option maxHeartbeats 400000 in
theorem g_admits (v : Value) (t : List R.Leaf) (s : List UInt8) (k : Int) (w : World) (M : Nat → Prop) (h : PT w M v t) (hl : t.length ≤ 1000000) (hsort : Sorted t) (hg : ∀ x ∈ t, x.path.length ≤ 1000) (hsl : s.length ≤ 1000) :
    Calls Tryz.prog 93 #[v, .string ⟨s.toArray⟩, .int .i64 k] w fun e w' => e = .returned (.int .i64 (if ((pk (R.at_ t s) != 0) && (pk (R.at_ t s) != k)) = true then 6 else if R.blocked t s = true then 7 else 0)) ∧ Below w.heap.size w w' := by
  have ha := g_otherKind v t s k w M h hl hsort
  have hb := fun W (hW : Below w.heap.size w W) => g_blocks v t s W M (h.below hW) hg hsl
  clear h hsort hg
  generalize ((pk (R.at_ t s) != 0) && (pk (R.at_ t s) != k)) = o at *
  generalize R.blocked t s = bb at *
  cases o
  · cases bb
    all_goals
      go_enter Tryz.func93, Tryz.ntmps93
      go_wp2_with fail
      refine ha.mono ?_
      rintro e w1 ⟨rfl, hb1⟩
      go_wp2_with fail
      refine (hb _ hb1).mono ?_
      rintro e w2 ⟨rfl, hb2⟩
      go_wp2
      go_ret
      exact ⟨rfl, hb1.trans (hb2.mono hb1.size)⟩
  · go_enter Tryz.func93, Tryz.ntmps93
    go_wp2_with fail
    refine ha.mono ?_
    rintro e w1 ⟨rfl, hb1⟩
    go_wp2
    go_ret
    exact ⟨rfl, hb1⟩
set_option maxHeartbeats 400000 in
theorem g_hasItem (x : R.Leaf) (iv : Value) (s : List UInt8) (w : World) (M : Nat → Prop) (h : It w M (x, iv)) (hl : x.items.length ≤ 1000000) (hsort : SortedI x.items) :
    Calls Tryz.prog 101 #[.agg #[.int .i64 (pk x), .int .i64 x.n, .string ⟨x.text.toArray⟩, iv], .string ⟨s.toArray⟩] w fun e w' => e = .returned (.bool (x.items.any fun y => y == s)) ∧ Below w.heap.size w w' := by
  obtain ⟨ia, ic, hiv, h1, h2, h3⟩ := h
  dsimp only at hiv h1 h2 h3
  subst hiv
  have hit : It w M (x, .slice ia x.items.length ic) := ⟨ia, ic, rfl, h1, h2, h3⟩
  have hbs := fun W (hW : Below w.heap.size w W) => s_BinarySearch (.slice ia x.items.length ic) x.items s W M (Rd.below hit hW) hl hsort (hsort.mono s)
  clear h1 h2 h3 hit hsort
  go_enter Tryz.func101, Tryz.ntmps101
  go_wp2_with fail
  refine (hbs _ ((Below.refl _ _).alloc (Nat.le_refl _) _)).mono ?_
  rintro e w1 ⟨rfl, hw1⟩
  subst hw1
  go_wp2
  go_ret
  exact ⟨rfl, (Below.refl _ _).alloc (Nat.le_refl _) _⟩
end Go.Proofs.YtolgebdmffcemaaGreatDoor
