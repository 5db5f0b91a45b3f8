/-
  Where the program finds a branch (Store.place over Go's slices.BinarySearchFunc, Store.find).
  Laws of copy between rows whose elements take several cells: for whole statements and for regions that draw.
-/
import Derived.Test.YtolgebdmffcemaaGreatDoorPart07
import Derived.Test.YtolgebdmffcemaaGreatDoorPart08
import Derived.WalkKit
import Derived.WalkSpells
import Derived.WalkLawsBesides
import Derived.Laws.CopyRow
import Derived.Laws.AppendOwn
import Derived.Lib.AppendZerosOnto
import Derived.Lib.Overlaps
import Derived.Laws.Externs
import Derived.Deep.RegionLaw
import Derived.Deep.AppendLies
set_option linter.unusedVariables false
namespace Go.Proofs.YtolgebdmffcemaaGreatDoor
open Go.RowKit
set_option maxHeartbeats 400000 in
theorem g_cmpBr (b : Nat) (name s : List UInt8) (w : World) (h0 : w.cell? ⟨b, 0, none⟩ = some (.string ⟨name.toArray⟩)) :
    Calls Tryz.prog 105 #[.pointer (some ⟨b, 0, none⟩), .string ⟨s.toArray⟩] w fun e w' => e = .returned (.int .i64 (Lib.compareBytes name s)) ∧ w' = w := by
  go_enter Tryz.func105, Tryz.ntmps105
  go_wp2_with fail
  refine (Tryz.strings_Compare _ _ _).mono ?_
  rintro e w1 ⟨rfl, rfl⟩
  go_wp2
  go_ret
  exact ⟨rfl, rfl⟩
set_option maxHeartbeats 1600000 in
set_option maxRecDepth 1000000 in
theorem s_searchBr (bv : Value) (L : List BrP) (t : List R.Br) (s : List UInt8) (w : World) (M : Nat → Prop) (hL : L.map (·.1) = t) (hrow : w.ownsRow 0 88 1 bv L.length (ptrs L)) (hI : ∀ p ∈ L, BrAt w M p) (hl : t.length ≤ 1000000) (hsort : SortK R.Br.name t) :
    Calls Tryz.prog 104 #[bv, .string ⟨s.toArray⟩, .func (.func 105) #[] #[]] w fun e w' => e = .returned (.tuple #[.int .i64 (posK R.Br.name t s : Int), .bool (t.any fun x => x.name == s)]) ∧ w' = w := by
  obtain ⟨a, cap, rfl, hn, hm, hnil, hsome⟩ := owns_form hrow
  have hlen : t.length = L.length := by rw [← hL, List.length_map]
  have HT : Hid (∀ (i : Nat) (h : i < L.length) (hb : i < t.length), t[i]'hb = (L[i]'h).1) := by intro i h hb; subst hL; simp
  have HLn : Hid (t.length = L.length) := hlen
  rw [hlen] at hl
  have hmono := hsort.mono s
  unfold maxLen at hm
  have HS : Hid (∀ (i j : Nat) (hi : i < t.length) (hj : j < t.length), i < j → Op.bytesLess t[i].name t[j].name = true) := (sortK_iff _ _).1 hsort
  have HI := hide3 hI
  clear hlen hL hrow hsort hI
  go_enter Tryz.func104, Tryz.ntmps104
  go_wp2
  go_loop [9, 10] (fun i j => ∃ p q : Nat, p ≤ q ∧ q ≤ L.length ∧ i = .int .i64 p ∧ j = .int .i64 q ∧ (∀ k (h : k < t.length), k < p → lessS s t[k].name = true) ∧ (∀ k (h : k < t.length), q ≤ k → lessS s t[k].name = false)) (fun i j => (intOf j).toNat - (intOf i).toNat)
  case atStart => exact ⟨0, L.length, Nat.zero_le _, Nat.le_refl _, rfl, rfl, fun k _ h => by omega, fun k h h' => by rw [HLn.out] at h; omega⟩
  case round =>
    obtain ⟨p, q, hpq, hq, rfl, rfl, hA, hB⟩ := hrel
    have HA := hide3 hA
    have HB := hide3 hB
    have HM0 := hide3 hmono
    clear hA hB hmono
    by_cases hlt : p < q
    · cases a with
      | none => have := (hnil rfl).1; omega
      | some ad =>
      obtain ⟨g, rfl, _, _, _, hcell⟩ := hsome ad rfl
      obtain ⟨h, hh⟩ : ∃ h : Nat, h = (p + q) / 2 := ⟨_, rfl⟩
      have hp1 : p ≤ h := by omega
      have hq1 : h < q := by omega
      have hhl : h < L.length := by omega
      have hhi : ((p : Int) + (q : Int)) / 2 = (h : Int) := by omega
      have e0 := ptrs_at hcell h hhl
      have n0 := (HI.out _ (List.getElem_mem hhl)).c0
      have HX : Hid (t[h]'(by rw [HLn.out]; exact hhl) = (L[h]'hhl).1) := HT.out h hhl _
      generalize (L[h]'hhl).1.name = nm at n0
      generalize hnm : (L[h]'hhl).2.1 = bb at e0 n0
      obtain ⟨nm', HNM, n0'⟩ : ∃ nm', Hid ((L[h]'hhl).1.name = nm') ∧ w.cell? ⟨bb, 0, none⟩ = some (.string ⟨nm'.toArray⟩) := ⟨_, (rfl : _ = _), by rw [← hnm]; exact (HI.out _ (List.getElem_mem hhl)).c0⟩
      clear hcell hh hnm n0
      go_wp2_with fail
      refine (g_cmpBr bb nm' s _ n0').mono ?_
      rintro e w1 ⟨rfl, hw1⟩
      subst hw1
      have hcr := compare_range nm' s
      generalize hcb : Lib.compareBytes nm' s = c at hcr
      by_cases hc0 : c < 0
      · have HC : Hid (lessS s nm' = true) := by show _ = _; rw [lessS, ← compare_less, hcb]; simpa using hc0
        clear hcb
        go_wp2
        go_round
        case rel =>
          refine ⟨h + 1, q, by omega, by omega, by go_num, rfl, fun k hk h1 => HM0.out k h hk (by rw [HLn.out]; exact hhl) (by omega) (by rw [HX.out, HNM.out]; exact HC.out), HB.out⟩
        case measure => simp [intOf]; omega
      · have HC : Hid (lessS s nm' = false) := by show _ = _; rw [lessS, ← compare_less, hcb]; simpa using hc0
        clear hcb
        go_wp2
        go_round
        case rel =>
          refine ⟨p, h, by omega, by omega, rfl, rfl, HA.out, fun k hk h1 => ?_⟩
          rw [Bool.eq_false_iff]; intro h3
          have := HM0.out h k (by rw [HLn.out]; exact hhl) hk h1 h3
          rw [HX.out, HNM.out, HC.out] at this; cases this
        case measure => simp [intOf]; omega
    · obtain rfl : p = q := by omega
      have HP : Hid (posK R.Br.name t s = p) := by
        show _ = _
        unfold posK
        by_cases hpl : p < t.length
        · rw [List.findIdx_eq hpl]
          exact ⟨by simpa using HB.out p hpl (Nat.le_refl _), fun j hj => by simpa using HA.out j (by omega) hj⟩
        · obtain rfl : p = t.length := by rw [HLn.out] at hpl ⊢; omega
          refine List.findIdx_eq_length.2 fun y hy => ?_
          obtain ⟨k, hk, rfl⟩ := List.getElem_of_mem hy
          simpa using HA.out k hk hk
      have HN : Hid (∀ k (hk : k < t.length), k < p → (t[k].name == s) = false) := by
        intro k hk hkp
        have := HA.out k hk hkp
        rw [Bool.eq_false_iff]; intro e
        rw [lessS, beq_iff_eq.1 e, bytesLess_irrefl] at this; cases this
      by_cases hpl : p < L.length
      · cases a with
        | none => have := (hnil rfl).1; omega
        | some ad =>
        obtain ⟨g, rfl, _, _, _, hcell⟩ := hsome ad rfl
        have e0 := ptrs_at hcell p hpl
        have HX : Hid (t[p]'(by rw [HLn.out]; exact hpl) = (L[p]'hpl).1) := HT.out p hpl _
        generalize hnm : (L[p]'hpl).2.1 = bb at e0
        obtain ⟨nm', HNM, n0'⟩ : ∃ nm', Hid ((L[p]'hpl).1.name = nm') ∧ w.cell? ⟨bb, 0, none⟩ = some (.string ⟨nm'.toArray⟩) := ⟨_, (rfl : _ = _), by rw [← hnm]; exact (HI.out _ (List.getElem_mem hpl)).c0⟩
        have HY : Hid ((t.any fun y => y.name == s) = (nm' == s)) := by
          show _ = _
          cases he : (nm' == s)
          · rw [Bool.eq_false_iff]
            intro h
            obtain ⟨y, hy, hys⟩ := List.any_eq_true.1 h
            obtain ⟨k, hk, rfl⟩ := List.getElem_of_mem hy
            rcases Nat.lt_trichotomy k p with hkp | hkp | hkp
            · have := HN.out k hk hkp; rw [hys] at this; cases this
            · subst hkp; rw [HX.out, HNM.out, he] at hys; cases hys
            · have h1 := HS.out p k (by rw [HLn.out]; exact hpl) hk hkp
              have h2 := HB.out p (by rw [HLn.out]; exact hpl) (Nat.le_refl _)
              rw [beq_iff_eq.1 hys] at h1; rw [lessS, h1] at h2; cases h2
          · exact List.any_eq_true.2 ⟨t[p]'(by rw [HLn.out]; exact hpl), List.getElem_mem _, by rw [HX.out, HNM.out]; exact he⟩
        clear hcell hnm
        go_wp2_with fail
        refine (g_cmpBr bb nm' s _ n0').mono ?_
        rintro e w1 ⟨rfl, hw1⟩
        subst hw1
        have HQ := hide3 (compare_eq nm' s)
        generalize Lib.compareBytes nm' s = c at HQ
        go_wp2
        go_ret2
        exact ⟨ret_ib (by rw [HP.out]) (by rw [HY.out, HQ.out]), rfl⟩
      · have HY : Hid ((t.any fun y => y.name == s) = false) := by
          show _ = _
          rw [Bool.eq_false_iff]
          intro h
          obtain ⟨y, hy, hys⟩ := List.any_eq_true.1 h
          obtain ⟨k, hk, rfl⟩ := List.getElem_of_mem hy
          have := HN.out k hk (by rw [HLn.out] at hk; omega)
          rw [hys] at this; cases this
        go_wp2
        go_ret2
        exact ⟨ret_ib (by rw [HP.out]) HY.out, rfl⟩
set_option maxHeartbeats 400000 in
theorem g_splace {w : World} {M O : Nat → Prop} {B : Nat} {st : R.St} {bv cv : Value} {LB : List BrP} {LCm : List (R.Cm × Value × Value)} (h : PSx w M O B st bv cv LB LCm) (hi : Inv st) (s : List UInt8) :
    Calls Tryz.prog 67 #[.pointer (some ⟨B, 0, none⟩), .string ⟨s.toArray⟩] w fun e w' => e = .returned (.tuple #[.int .i64 (posK R.Br.name st.brs s : Int), .bool (st.brs.any fun x => x.name == s)]) ∧ w' = w := by
  have hs := s_searchBr bv LB st.brs s w M h.brs h.row h.at_ (by have := hi.many; omega) hi.sort
  have c0 := h.c0
  clear h hi
  go_enter Tryz.func67, Tryz.ntmps67
  go_wp2_with fail
  refine hs.mono ?_
  rintro e w1 ⟨rfl, hw1⟩
  subst hw1
  go_wp2
  go_ret2
  exact ⟨rfl, rfl⟩
/-- where a branch lies; none, if there is none -/
def brAddr (LB : List BrP) (st : R.St) (s : List UInt8) : Option Addr := if R.fnd st.brs s < st.brs.length then (LB[R.fnd st.brs s]?).map (fun p => ⟨p.2.1, 0, none⟩) else none
set_option maxHeartbeats 800000 in
theorem g_find {w : World} {M O : Nat → Prop} {B : Nat} {st : R.St} {bv cv : Value} {LB : List BrP} {LCm : List (R.Cm × Value × Value)} (h : PSx w M O B st bv cv LB LCm) (hi : Inv st) (s : List UInt8) :
    Calls Tryz.prog 45 #[.pointer (some ⟨B, 0, none⟩), .string ⟨s.toArray⟩] w fun e w' => e = .returned (.pointer (brAddr LB st s)) ∧ w' = w := by
  have hs := g_splace h hi s
  have c0 := h.c0
  have hln : st.brs.length = LB.length := by rw [← h.brs, List.length_map]
  obtain ⟨a, cap, rfl, hn, hm, hnil, hsome⟩ := owns_form h.row
  unfold maxLen at hm
  rw [fnd_any] at hs
  by_cases hf : R.fnd st.brs s < st.brs.length
  · have HA : Hid (brAddr LB st s = some ⟨(LB[R.fnd st.brs s]'(by omega)).2.1, 0, none⟩) := by
      show _ = _
      rw [brAddr, if_pos hf, List.getElem?_eq_getElem (by omega)]; rfl
    rw [decide_eq_true hf, ← fnd_pos hi.sort s hf] at hs
    cases a with
    | none => have := (hnil rfl).1; omega
    | some ad =>
    obtain ⟨g, rfl, _, _, _, hcell⟩ := hsome ad rfl
    have e0 := ptrs_at hcell (R.fnd st.brs s) (by omega)
    generalize (LB[R.fnd st.brs s]'(by omega)).2.1 = bb at e0 HA
    have hfl : R.fnd st.brs s < LB.length := by omega
    clear h hi hcell hsome hnil hln hf
    generalize R.fnd st.brs s = k at *
    go_enter Tryz.func45, Tryz.ntmps45
    go_wp2_with fail
    refine hs.mono ?_
    rintro e w1 ⟨rfl, hw1⟩
    subst hw1
    go_wp2
    go_ret
    exact ⟨by rw [HA.out]; rfl, rfl⟩
  · have HA : Hid (brAddr LB st s = none) := by show _ = _; rw [brAddr, if_neg hf]
    rw [decide_eq_false hf] at hs
    clear h hi hsome hnil hln hf
    go_enter Tryz.func45, Tryz.ntmps45
    go_wp2_with fail
    refine hs.mono ?_
    rintro e w1 ⟨rfl, hw1⟩
    subst hw1
    go_wp2
    go_ret
    exact ⟨by rw [HA.out]; rfl, rfl⟩
end Go.Proofs.YtolgebdmffcemaaGreatDoor
namespace Go.Proofs.YtolgebdmffcemaaGreatDoor
open Go.RowKit
theorem run_copyN {P : Program} (w : World) (dT sT ty elem : TypeId) (g o dLen dCap size : Nat) (a : Addr) (sLen sCap : Nat) (cur : Array Value) (t : TypeId) (cs : List Value)
    (hu : P.underlying dT = some (.slice elem)) (hs : (P.info? elem).map (·.size) = some size)
    (hg : w.heap[g]? = some (.cells cur t (0, 0))) (hn : cs.length = Nat.min sLen dLen * size)
    (hsrc : ∀ j v, cs[j]? = some v → w.cell? (a.add j) = some v) (hfit : o + cs.length ≤ cur.size) (h1 : ∀ v ∈ cs, v.oneCell' = true) :
    (Builtin.copy_ #[dT, sT] ty #[.slice (some ⟨g, o, none⟩) dLen dCap, .slice (some a) sLen sCap]).run P w =
      .ok (goInt (Nat.min sLen dLen)) (w.setRow g (cur.toList.take o ++ cs ++ cur.toList.drop (o + cs.length)).toArray) := by
  have hl := run_loadCells_list (P := P) w a cs hsrc
  have hst := run_storeCells_at P g o t cs 0 cur w hg (by simpa using hfit) h1
  cases hq : P.info? elem with
  | none => simp [hq] at hs
  | some i =>
    have hi : i.size = size := by simpa [hq] using hs
    rw [hn] at hl
    simp only [Nat.add_zero] at hst
    simp only [Nat.min_def] at hl hn ⊢
    simp [Builtin.copy_, run_underlying hu, Builtin.lenOf, Builtin.firstCells, sizeOf, typeInfo, hq, hi, Nat.min_def, hl, hst]
/-- the operation copy, where its run is known -/
theorem wpl_copy {P : Program} (w : World) {ops : Array Oper} {rest : List Oper} {o : Oper} {a : Act} {Q : Exit → Act → World → Prop} (hgd : o.guard = none) (d s : Operand) (t t' : TypeId)
    (ho : o.op = .call { callee := .builtin .copy, args := #[d, s], argTypes := #[t, t'] }) (v u : Value) (hd : a.eval d = v) (hs : a.eval s = u) {v' : Value} {w' : World}
    (hr : (Builtin.copy_ #[t, t'] o.type #[v, u]).run P w = .ok v' w') (h : wpList P ops Q rest (a.put o.dst v') w') : wpList P ops Q (o :: rest) a w := by
  refine wpList_plain hgd fun K hK => ?_
  unfold Oper.wp
  simp [execOp, ho, resolve, invoke, builtin, hd, hs, hr, Result.andThen]
  exact hK _ _ h
/-- .. and as a step of a region that draws -/
theorem stp_copy {P : Program} {ops : Array Oper} {o : Oper} {a : Act} {w : World} {K : Act → World → Prop} {Q : Exit → Act → World → Prop} {E : Prop}
    (hg : o.guard = none) (d x : Operand) (dT sT : TypeId) (hop : o.op = Op.call { callee := Callee.builtin Builtin.copy, args := #[d, x], argTypes := #[dT, sT] })
    (v u : Value) (hd : a.eval d = v) (hx : a.eval x = u) {v' : Value} {w' : World} (hr : (Builtin.copy_ #[dT, sT] o.type #[v, u]).run P w = .ok v' w') (hK : K (a.put o.dst v') w') :
    if Region.wanted o (yielded ops a.tmps) = true then Oper.wp P o a w K Q else E := by
  have hw : Region.wanted o (yielded ops a.tmps) = true := by simp [Region.wanted, hg]
  rw [if_pos hw]
  unfold Oper.wp
  simp [execOp, hop, resolve, invoke, builtin, hd, hx, hr, Result.andThen]
  exact hK
/-- cells of a row and of one behind it -/
theorem row_ins (cur : List Value) (xs C : List Value) (n i size : Nat) (hi : i ≤ n) (hx : xs.length = n * size) (hC : C.length = size) (hc : (n + 1) * size ≤ cur.length) (ht : cur.take (n * size) = xs) :
    let c1 := cur.take ((i + 1) * size) ++ xs.drop (i * size) ++ cur.drop ((i + 1) * size + (xs.drop (i * size)).length)
    let c2 := c1.take (i * size) ++ C ++ c1.drop (i * size + C.length)
    c1.length = cur.length ∧ c2.length = cur.length ∧ c2.take ((n + 1) * size) = xs.take (i * size) ++ (C ++ xs.drop (i * size)) := by
  have e1 : (i + 1) * size = i * size + size := by rw [Nat.add_mul, Nat.one_mul]
  have e2 : (n + 1) * size = n * size + size := by rw [Nat.add_mul, Nat.one_mul]
  have hle : i * size ≤ n * size := Nat.mul_le_mul_right _ hi
  rw [e2] at hc
  rw [e1, e2]
  generalize i * size = p at *
  generalize n * size = q at *
  have hpx : xs.take p = cur.take p := by rw [← ht, List.take_take]; congr 1; omega
  intro c1 c2
  have l1 : c1.length = cur.length := by
    show (cur.take (p + size) ++ xs.drop p ++ cur.drop (p + size + (xs.drop p).length)).length = _
    simp only [List.length_append, List.length_take, List.length_drop]; omega
  have hc1p : c1.take p = cur.take p := by
    show (cur.take (p + size) ++ xs.drop p ++ cur.drop (p + size + (xs.drop p).length)).take p = _
    rw [List.append_assoc, List.take_append_of_le_length (by rw [List.length_take]; omega), List.take_take]; congr 1; omega
  have hc1d : c1.drop (p + C.length) = xs.drop p ++ cur.drop (q + size) := by
    show (cur.take (p + size) ++ xs.drop p ++ cur.drop (p + size + (xs.drop p).length)).drop (p + C.length) = _
    have hl : (cur.take (p + size)).length = p + C.length := by rw [List.length_take]; omega
    rw [List.append_assoc, ← hl, List.drop_left]
    congr 2
    rw [List.length_drop]; omega
  refine ⟨l1, ?_, ?_⟩
  · show (c1.take p ++ C ++ c1.drop (p + C.length)).length = _
    simp only [List.length_append, List.length_take, List.length_drop]; omega
  · show (c1.take p ++ C ++ c1.drop (p + C.length)).take (q + size) = _
    rw [hc1p, hc1d, hpx, List.append_assoc, ← List.append_assoc C, ← List.append_assoc (cur.take p), List.take_append_of_le_length (by simp only [List.length_append, List.length_take, List.length_drop]; omega), List.take_of_length_le (by simp only [List.length_append, List.length_take, List.length_drop]; omega)]
/-- a row of new cells: what stood ahead of i, one more, what stood from i on -/
theorem row_new (row : List Value) (xs C : List Value) (n i size : Nat) (hi : i ≤ n) (hx : xs.length = n * size) (hC : C.length = size) (hc : (n + 1) * size ≤ row.length) (ht : row.take (i * size) = xs.take (i * size)) :
    let c1 := row.take (i * size) ++ C ++ row.drop (i * size + C.length)
    let c2 := c1.take ((i + 1) * size) ++ xs.drop (i * size) ++ c1.drop ((i + 1) * size + (xs.drop (i * size)).length)
    c1.length = row.length ∧ c2.length = row.length ∧ c2.take ((n + 1) * size) = xs.take (i * size) ++ (C ++ xs.drop (i * size)) := by
  have e1 : (i + 1) * size = i * size + size := by rw [Nat.add_mul, Nat.one_mul]
  have e2 : (n + 1) * size = n * size + size := by rw [Nat.add_mul, Nat.one_mul]
  have hle : i * size ≤ n * size := Nat.mul_le_mul_right _ hi
  rw [e2] at hc
  rw [e1, e2]
  generalize i * size = p at *
  generalize n * size = q at *
  intro c1 c2
  have l1 : c1.length = row.length := by
    show (row.take p ++ C ++ row.drop (p + C.length)).length = _
    simp only [List.length_append, List.length_take, List.length_drop]; omega
  have h1 : c1.take (p + size) = xs.take p ++ C := by
    show (row.take p ++ C ++ row.drop (p + C.length)).take (p + size) = _
    rw [List.take_append_of_le_length (by simp only [List.length_append, List.length_take]; omega), List.take_of_length_le (by simp only [List.length_append, List.length_take]; omega), ht]
  refine ⟨l1, ?_, ?_⟩
  · show (c1.take (p + size) ++ xs.drop p ++ c1.drop (p + size + (xs.drop p).length)).length = _
    simp only [List.length_append, List.length_take, List.length_drop]; omega
  · show (c1.take (p + size) ++ xs.drop p ++ c1.drop (p + size + (xs.drop p).length)).take (q + size) = _
    rw [h1, List.take_append_of_le_length (by simp only [List.length_append, List.length_take, List.length_drop]; omega), List.take_of_length_le (by simp only [List.length_append, List.length_take, List.length_drop]; omega), List.append_assoc]
theorem addr_lit (g o j : Nat) : (⟨g, o, none⟩ : Addr).add j = ⟨g, o + j, none⟩ := by unfold Addr.add; split <;> simp_all
/-- append of a slice of another named type: the types play no part -/
theorem append_two {P : Program} {t t' e e' ty : TypeId} {i : TypeInfo} {v x : Value} {w : World} (ht : P.underlying t = some (.slice e)) (ht' : P.underlying t' = some (.slice e')) (hi : P.info? e = some i) :
    (Builtin.append_ #[t, t'] ty #[v, x]).run P w = (Builtin.append_ #[t, t] ty #[v, x]).run P w := by
  cases v <;> simp [Builtin.append_, run_underlying ht, run_underlying ht', sizeOf, typeInfo, hi]
theorem wpl_app2 {P : Program} (w : World) {ops : Array Oper} {rest : List Oper} {o : Oper} {a : Act} {Q : Exit → Act → World → Prop}
    (hg : o.guard = none) (s x : Operand) (t t' e' : TypeId) (hop : o.op = Op.call { callee := Callee.builtin Builtin.append, args := #[s, x], argTypes := #[t, t'] })
    (base : Nat) (e : TypeId) (z : Value) (size bytes : Nat) (h1 : P.underlying t = some (.slice e)) (h1' : P.underlying t' = some (.slice e')) (h2 : (P.info? e).map (fun i => (i.zero, i.size, i.bytes)) = some (some z, size, bytes)) (h6 : z.cells.size = size) (h7 : 0 < size)
    {v : Value} {n : Nat} {xs : List Value} (hown : w.ownsRow base e size v n xs) (ad : Addr) (m c : Nat) (news : List Value) (hn : news.length = m * size)
    (hc : ∀ j u, news[j]? = some u → w.cell? (ad.add j) = some u) (hs : a.eval s = v)
    (hx : a.eval x = .slice (some ad) m c) (h1c : ∀ u ∈ news, u.oneCell' = true) (b1 : n + m ≤ maxLen) (b2 : (n + m) * bytes ≤ 140737488355328) (hB : base ≤ w.heap.size)
    (hK : ∀ v' w', w'.ownsRow base e size v' (n + m) (xs ++ news) → w.grownBy w' v.ownBlock → (∀ g, v'.ownBlock = some g → v.ownBlock = some g ∨ w.heap.size ≤ g) → wpList P ops Q rest (a.put o.dst v') w') :
    wpList P ops Q (o :: rest) a w := by
  obtain ⟨i0, hi, hz0, hz1, hz2⟩ := info_parts h2
  obtain ⟨v', w', hr, h3, h4, _, h5⟩ := run_append_own_at (P := P) w base t o.type e i0 z size bytes h1 hi hz0 hz1 hz2 h6 h7 v n xs hown ad m c news hn hc h1c b1 b2 hB
  exact Lib.wpList_append_run w hg s x t t' hop v (.slice (some ad) m c) hs hx v' w' (by rw [append_two h1 h1' hi]; exact hr) (hK v' w' h3 h4 (fun g hg => by
    rcases h5 with h5 | h5
    · exact .inl (by rw [← h5]; exact hg)
    · right; rw [h5] at hg; injection hg with hg; omega))
end Go.Proofs.YtolgebdmffcemaaGreatDoor
