/-
  How Change of the document's answer (graftref) works: Note.
  The statement's own function values (graftlaw) at vNote: both stores answer alike, and hold the same behind it.
  One step of the statement's (graftlaw.World.step), of the kind Note: as the document says.
-/
import Derived.Test.YtolgebdmffcemaaGreatDoorPart21
import Derived.Test.YtolgebdmffcemaaGreatDoorPart11
import Derived.Test.YtolgebdmffcemaaGreatDoorPart23
import Derived.Deep.RegionHeld3
set_option linter.unusedVariables false
namespace Go.Proofs.YtolgebdmffcemaaGreatDoor
open Go.RowKit
set_option maxHeartbeats 3200000 in
set_option maxRecDepth 1000000 in
/-- kind =: Note -/
theorem r_Note (B : Nat) (st : R.St) (branch path text : List UInt8) (n : Int) (w : World) (M O : Nat → Prop) (h : RS w M O B st) (hM : ∀ b, M b → b < w.heap.size) (hf : R.Fine st) (hpl : path.length ≤ maxLen) (htl : text.length ≤ maxLen) (_hn1 : n ≤ 9223372036854775807) (_hn2 : -9223372036854775808 ≤ n) :
    Calls Tryz.prog 122 #[.pointer (some ⟨B, 0, none⟩), .int .u8 61, .string ⟨branch.toArray⟩, .string ⟨path.toArray⟩, .int .i64 n, .string ⟨text.toArray⟩] w fun e w' =>
      e = .returned (.int .i64 (R.change st 61 branch path n text).1) ∧ Step w w' M O B (R.change st 61 branch path n text).2 := by
  have hRS := h
  obtain ⟨cv, bv, LB, LCm, hR⟩ := h
  have c1 := hR.c1
  have hBl := hR.lt B hR.own
  obtain ⟨a, cap, rfl, hnc, hm, hno, hso⟩ := owns_form hR.row
  have HL : Hid (LB.length = st.brs.length) := by show _ = _; rw [← hR.brs, List.length_map]
  have hf0 := r_find B st branch w M O hRS
  unfold maxLen at hm
  rcases R.fndI_cases st.brs branch with ⟨f1, f2⟩ | ⟨f1, f2⟩
  · have HS : Hid (R.change st 61 branch path n text = (5, st)) := by show _ = _; rw [R.change, if_pos (by omega)]
    rw [HS.out]
    rw [f1] at hf0
    clear hso hno f1 f2
    go_enter Tryz.func122, Tryz.ntmps122
    go_wp2_with fail
    refine hf0.mono ?_
    rintro e w1 ⟨rfl, rfl⟩
    go_wp2
    go_ret
    exact ⟨rfl, Step.same hRS (Below.refl _ _)⟩
  cases hip : R.isPath path
  · have HS : Hid (R.change st 61 branch path n text = (2, st)) := by show _ = _; rw [R.change, if_neg (by omega), if_pos hip]
    rw [HS.out]
    rw [f1] at hf0
    have hip' := r_IsPath path w hpl
    rw [hip] at hip'
    clear hso hno f1
    go_enter Tryz.func122, Tryz.ntmps122
    go_wp2_with fail
    refine hf0.mono ?_
    rintro e w1 ⟨rfl, rfl⟩
    go_wp2_with fail
    refine hip'.mono ?_
    rintro e w2 ⟨rfl, hb⟩
    go_wp2
    go_ret
    exact ⟨rfl, Step.same hRS hb⟩
  have hfl : R.fnd st.brs branch < LB.length := by rw [HL.out]; exact f2
  have hwk : R.workOf st branch = (LB[R.fnd st.brs branch]'hfl).1.work := by
    rw [R.workOf, List.getElem?_eq_getElem f2]
    simp [← hR.brs]
  have hmb := hR.mem_brs (List.getElem_mem hfl)
  have htr := hR.work _ (List.getElem_mem hfl)
  have hgood := hf.good _ hmb
  have hfew := hf.few _ hmb
  have hip' := r_IsPath path w hpl
  rw [hip] at hip'
  have hp100 : path.length ≤ 100 := by simp [R.isPath] at hip; exact hip.1
  cases a with
  | none => have := (hno rfl).1; omega
  | some ad =>
    obtain ⟨g, rfl, _, hg0, _, hcell⟩ := hso ad rfl
    obtain ⟨-, -, d2⟩ := br_cells hcell _ hfl
    have hgO := hR.rowO g rfl
    have hgl := hR.lt g hgO.1
    have hgf : ∀ o, w.frozen? ⟨g, o, none⟩ = false := by assumption
    have HC : Hid (R.change st 61 branch path n text = if (R.valV 61 (LB[R.fnd st.brs branch]'hfl).1.work (R.at_ (LB[R.fnd st.brs branch]'hfl).1.work path) path n text).1 = 0 then
        (0, R.setWork st (R.fnd st.brs branch) (R.set (LB[R.fnd st.brs branch]'hfl).1.work (R.valV 61 (LB[R.fnd st.brs branch]'hfl).1.work (R.at_ (LB[R.fnd st.brs branch]'hfl).1.work path) path n text).2))
        else ((R.valV 61 (LB[R.fnd st.brs branch]'hfl).1.work (R.at_ (LB[R.fnd st.brs branch]'hfl).1.work path) path n text).1, st)) := by
      show _ = _
      rw [R.change, if_neg (by omega), if_neg (by simp [hip]), hwk]
    obtain ⟨ta, tcap, htv⟩ : ∃ ta tcap, (LB[R.fnd st.brs branch]'hfl).2 = .slice ta (LB[R.fnd st.brs branch]'hfl).1.work.length tcap := by
      obtain ⟨L, hL, ⟨a, cap, e, _⟩, _⟩ := htr
      exact ⟨a, cap, by rw [e, ← hL, List.length_map]⟩
    rw [htv] at htr d2
    rw [f1] at hf0
    have hsw : ∀ (w5 : World) (v' : Value) (t' : List R.Leaf), Below w.heap.size w w5 → Tr w5 M v' t' → Step w (w5.setCell ⟨g, R.fnd st.brs branch * 3 + 2, none⟩ v') M O B (R.setWork st (R.fnd st.brs branch) t') := fun w5 v' t' hb5 ht5 => setWork_RS hR hfl hb5 ht5
    generalize (LB[R.fnd st.brs branch]'hfl).1.work = t at *
    generalize R.fnd st.brs branch = i at *
    have hgx : R.Good (R.at_ t path) := at_good t path hgood (by omega)
    have hat := fun W (hW : Below w.heap.size w W) => r_at (.slice ta t.length tcap) t path W M (htr.below hW)
    have HSW := hide hsw
    have hpg : ∀ y ∈ t, y.path.length ≤ 1000 := fun y hy => (hgood y hy).path
    generalize R.at_ t path = x at *
    clear hso hno f1 hcell hwk htv hmb hip hgood hsw
    go_enter Tryz.func122, Tryz.ntmps122
    go_wp2_with fail
    refine hf0.mono ?_
    rintro e w1 ⟨rfl, rfl⟩
    go_wp2_with fail
    refine hip'.mono ?_
    rintro e w2 ⟨rfl, hb2⟩
    have hs2 := hb2.size
    have e1 := (hb2.cell (p := ⟨B, 1, none⟩) hBl).trans c1
    have e2 := (hb2.cell (p := ⟨g, i * 3 + 2, none⟩) hgl).trans d2
    go_wp2_with fail
    refine (hat _ hb2).mono ?_
    rintro e w3 ⟨iv, rfl, hit, hb3⟩
    obtain ⟨ia, ic, hiv, hi1, hi2, hi3⟩ := hit
    dsimp only at hiv
    subst hiv
    have hit3 : It w3 M (x, .slice ia x.items.length ic) := Rd.below ⟨ia, ic, rfl, hi1, hi2, hi3⟩ hb3
    clear hi1 hi2 hi3 e1 e2
    have hB3 : Below w1.heap.size w1 w3 := hb2.trans (hb3.mono hs2)
    have k1 := (hB3.cell (p := ⟨B, 1, none⟩) hBl).trans c1
    have k2 := (hB3.cell (p := ⟨g, i * 3 + 2, none⟩) hgl).trans d2
    have k3 := (hB3.frozen (p := ⟨g, i * 3 + 2, none⟩) hgl).trans (hgf _)
    have hs3 := hB3.size
    have htr3 : Tr w3 M (.slice ta t.length tcap) t := htr.below hB3
    clear hat hip' hf0 hb2 hb3 hs2
    unfold LC
    dsimp only
    generalize hJ : w3.alloc (.cells #[.string ⟨x.path.toArray⟩, .int .u8 x.kind, .int .i64 x.n, .string ⟨x.text.toArray⟩, .slice ia x.items.length ic] 216) = wJ
    have hBJ : Below w1.heap.size w1 wJ := by rw [← hJ]; exact hB3.alloc hs3 _
    have hzJ : wJ.heap.size = w3.heap.size + 1 := by rw [← hJ]; simp
    have hsJ := hBJ.size
    have j1 := (hBJ.cell (p := ⟨B, 1, none⟩) hBl).trans c1
    have j2 := (hBJ.cell (p := ⟨g, i * 3 + 2, none⟩) hgl).trans d2
    have j3 := (hBJ.frozen (p := ⟨g, i * 3 + 2, none⟩) hgl).trans (hgf _)
    have x0 : wJ.cell? ⟨w3.heap.size, 0, none⟩ = some (.string ⟨x.path.toArray⟩) := by rw [← hJ]; simp
    have x1 : wJ.cell? ⟨w3.heap.size, 1, none⟩ = some (.int .u8 x.kind) := by rw [← hJ]; simp
    have x2 : wJ.cell? ⟨w3.heap.size, 2, none⟩ = some (.int .i64 x.n) := by rw [← hJ]; simp
    have x3 : wJ.cell? ⟨w3.heap.size, 3, none⟩ = some (.string ⟨x.text.toArray⟩) := by rw [← hJ]; simp
    have x4 : wJ.cell? ⟨w3.heap.size, 4, none⟩ = some (.slice ia x.items.length ic) := by rw [← hJ]; simp
    have hitJ : It wJ M (x, .slice ia x.items.length ic) := by rw [← hJ]; exact Rd.below hit3 ((Below.refl _ _).alloc (Nat.le_refl _) _)
    have HG1 : Hid (∀ W, Below w1.heap.size w1 W → W.cell? ⟨B, 1, none⟩ = some (.slice (some ⟨g, 0, none⟩) LB.length cap)) := fun W hW => (hW.cell (p := ⟨B, 1, none⟩) hBl).trans c1
    have HG2 : Hid (∀ W, Below w1.heap.size w1 W → W.cell? ⟨g, i * 3 + 2, none⟩ = some (.slice ta t.length tcap)) := fun W hW => (hW.cell (p := ⟨g, i * 3 + 2, none⟩) hgl).trans d2
    have HG3 : Hid (∀ W, Below w1.heap.size w1 W → W.frozen? ⟨g, i * 3 + 2, none⟩ = false) := fun W hW => (hW.frozen (p := ⟨g, i * 3 + 2, none⟩) hgl).trans (hgf _)
    have a1 : ∀ o, (wJ.alloc o).cell? ⟨B, 1, none⟩ = some (.slice (some ⟨g, 0, none⟩) LB.length cap) := fun o => by rw [World.cell?_alloc_past _ _ _ (by omega)]; exact j1
    have a2 : ∀ o, (wJ.alloc o).cell? ⟨g, i * 3 + 2, none⟩ = some (.slice ta t.length tcap) := fun o => by rw [World.cell?_alloc_past _ _ _ (by omega)]; exact j2
    have a3 : ∀ o, (wJ.alloc o).frozen? ⟨g, i * 3 + 2, none⟩ = false := fun o => by rw [World.frozen?_alloc_past _ _ _ (by omega)]; exact j3
    have htrJ : Tr wJ M (.slice ta t.length tcap) t := htr.below hBJ
    clear hit3 htr3 k1 k2 k3
    have hT := r_IsText ⟨text.toArray⟩ wJ (by simpa [ByteArray.size] using htl)
    simp only at hT
    have hBl2 := r_blocked (.slice ta t.length tcap) t path wJ M htrJ
    have HV : Hid (R.valV 61 t x path n text = R.noteV t x path text) := by show _ = _; rw [R.valV, if_neg (by decide), if_neg (by decide), if_neg (by decide), if_pos rfl]
    cases hX : R.isText text
    · have HZ : Hid (R.valV 61 t x path n text = (3, x)) := by show _ = _; rw [HV.out, R.noteV, if_pos hX]
      rw [hX] at hT
      have HE : Hid (R.change st 61 branch path n text = (3, st)) := by show _ = _; rw [HC.out, HZ.out]; rfl
      go_wp2_with fail
      refine hT.mono ?_
      rintro e w4 ⟨rfl, rfl⟩
      go_wp2
      go_ret
      exact ⟨ret_int (by rw [HE.out]), by rw [HE.out]; exact Step.same hRS hBJ⟩
    rw [hX] at hT
    by_cases h6 : x.kind ≠ 0 ∧ x.kind ≠ 61
    · have HZ : Hid (R.valV 61 t x path n text = (6, x)) := by show _ = _; rw [HV.out, R.noteV, if_neg (by simp [hX]), if_pos h6]
      have b1 : (x.kind == 0) = false := by simpa using h6.1
      have b2 : (x.kind == 61) = false := by simpa using h6.2
      have n1 : (x.kind != 0) = true := by rw [bne, b1]; rfl
      have n2 : (x.kind != 61) = true := by rw [bne, b2]; rfl
      clear h6
      have HE : Hid (R.change st 61 branch path n text = (6, st)) := by show _ = _; rw [HC.out, HZ.out]; rfl
      go_wp2_with fail
      refine hT.mono ?_
      rintro e w4 ⟨rfl, rfl⟩
      go_wp2
      go_ret
      exact ⟨ret_int (by rw [HE.out]), by rw [HE.out]; exact Step.same hRS hBJ⟩
    cases hb7 : R.blocked t path
    · rw [hb7] at hBl2
      by_cases h4 : x.kind = 0 ∧ 24 ≤ t.length
      · have HZ : Hid (R.valV 61 t x path n text = (4, x)) := by show _ = _; rw [HV.out, R.noteV, if_neg (by simp [hX]), if_neg h6, if_neg (by simp [hb7]), if_pos h4]
        have b1 : (x.kind == 0) = true := by simpa using h4.1
        have b3 : (24 : Int) ≤ (t.length : Int) := by omega
        have n1 : (x.kind != 0) = false := by rw [bne, b1]; rfl
        clear h6 h4
        have HE : Hid (R.change st 61 branch path n text = (4, st)) := by show _ = _; rw [HC.out, HZ.out]; rfl
        go_wp2_with fail
        refine hT.mono ?_
        rintro e w4 ⟨rfl, rfl⟩
        go_wp2_with fail
        refine hBl2.mono ?_
        rintro e w4 ⟨rfl, rfl⟩
        go_wp2
        go_ret
        exact ⟨ret_int (by rw [HE.out]), by rw [HE.out]; exact Step.same hRS (hBJ.alloc hsJ _)⟩
      · have HZ : Hid (R.valV 61 t x path n text = (0, { path := path, kind := 61, n := 0, text := text, items := [] })) := by show _ = _; rw [HV.out, R.noteV, if_neg (by simp [hX]), if_neg h6, if_neg (by simp [hb7]), if_neg h4]
        have HE : Hid (R.change st 61 branch path n text = (0, R.setWork st i (R.set t { path := path, kind := 61, n := 0, text := text, items := [] }))) := by show _ = _; rw [HC.out, HZ.out]; rfl
        have hset : ∀ W, Below w1.heap.size w1 W → Calls Tryz.prog 170 #[.slice ta t.length tcap, .agg #[.string ⟨path.toArray⟩, .int .u8 61, .int .i64 (0), .string ⟨text.toArray⟩, .slice none 0 0]] W fun e w' => ∃ v', e = .returned v' ∧ Tr w' M v' (R.set t { path := path, kind := 61, n := 0, text := text, items := [] }) ∧ Below W.heap.size W w' := fun W hW =>
          r_set (.slice ta t.length tcap) t { path := path, kind := 61, n := 0, text := text, items := [] } (.slice none 0 0) W M (htr.below hW) ⟨none, 0, rfl, Nat.le_refl _, by unfold maxLen; omega, fun h => absurd h (Nat.lt_irrefl _)⟩ (fun b hb => Nat.lt_of_lt_of_le (hM b hb) hW.size) hpg (by dsimp only; omega) (by omega)
        rcases bool_eq x.kind 0 with ⟨b1, h1⟩ | ⟨b1, h1⟩
        · have b3 : ¬ (24 : Int) ≤ (t.length : Int) := by omega
          have n1 : (x.kind != 0) = false := by rw [bne, b1]; rfl
          clear h6 h4 h1
          go_wp2_with fail
          refine hT.mono ?_
          rintro e w4 ⟨rfl, rfl⟩
          go_wp2_with fail
          refine hBl2.mono ?_
          rintro e w4 ⟨rfl, rfl⟩
          go_wp2
          go_region_with ((go_at_call 170; refine (hset _ (by first | exact hBJ.drew | exact (hBJ.alloc hsJ _).drew | exact hBY.drew)).mono ?_; rintro e w5 ⟨v5, rfl, htr5, hb5⟩; have hB5 : Below w1.heap.size w1 w5 := Below.trans (by first | exact hBJ.drew | exact (hBJ.alloc hsJ _).drew | exact hBY.drew) (hb5.mono (by first | (simp; omega) | omega)); have m1 := HG1.out w5 hB5; have m2 := HG2.out w5 hB5; have m3 := HG3.out w5 hB5; obtain ⟨va, vc, rfl⟩ := tr_form htr5))
          all_goals go_wp2
          all_goals go_ret
          all_goals exact ⟨ret_int (by rw [HE.out]), by rw [HE.out]; exact HSW.out _ _ _ hB5 htr5⟩
        · have h2 : x.kind = 61 := Classical.byContradiction fun e => h6 ⟨h1, e⟩
          have b2 : (x.kind == 61) = true := by simpa using h2
          have n1 : (x.kind != 0) = true := by rw [bne, b1]; rfl
          have n2 : (x.kind != 61) = false := by rw [bne, b2]; rfl
          clear h6 h4 h1 h2
          go_wp2_with fail
          refine hT.mono ?_
          rintro e w4 ⟨rfl, rfl⟩
          go_wp2_with fail
          refine hBl2.mono ?_
          rintro e w4 ⟨rfl, rfl⟩
          go_wp2
          go_region_with ((go_at_call 170; refine (hset _ (by first | exact hBJ.drew | exact (hBJ.alloc hsJ _).drew | exact hBY.drew)).mono ?_; rintro e w5 ⟨v5, rfl, htr5, hb5⟩; have hB5 : Below w1.heap.size w1 w5 := Below.trans (by first | exact hBJ.drew | exact (hBJ.alloc hsJ _).drew | exact hBY.drew) (hb5.mono (by first | (simp; omega) | omega)); have m1 := HG1.out w5 hB5; have m2 := HG2.out w5 hB5; have m3 := HG3.out w5 hB5; obtain ⟨va, vc, rfl⟩ := tr_form htr5))
          all_goals go_wp2
          all_goals go_ret
          all_goals exact ⟨ret_int (by rw [HE.out]), by rw [HE.out]; exact HSW.out _ _ _ hB5 htr5⟩
    · rw [hb7] at hBl2
      have HZ : Hid (R.valV 61 t x path n text = (7, x)) := by show _ = _; rw [HV.out, R.noteV, if_neg (by simp [hX]), if_neg h6, if_pos hb7]
      rcases bool_eq x.kind 0 with ⟨b1, h1⟩ | ⟨b1, h1⟩
      · have n1 : (x.kind != 0) = false := by rw [bne, b1]; rfl
        clear h6 h1
        have HE : Hid (R.change st 61 branch path n text = (7, st)) := by show _ = _; rw [HC.out, HZ.out]; rfl
        go_wp2_with fail
        refine hT.mono ?_
        rintro e w4 ⟨rfl, rfl⟩
        go_wp2_with fail
        refine hBl2.mono ?_
        rintro e w4 ⟨rfl, rfl⟩
        go_wp2
        go_ret
        exact ⟨ret_int (by rw [HE.out]), by rw [HE.out]; exact Step.same hRS hBJ⟩
      · have h2 : x.kind = 61 := Classical.byContradiction fun e => h6 ⟨h1, e⟩
        have b2 : (x.kind == 61) = true := by simpa using h2
        have n1 : (x.kind != 0) = true := by rw [bne, b1]; rfl
        have n2 : (x.kind != 61) = false := by rw [bne, b2]; rfl
        clear h6 h1 h2
        have HE : Hid (R.change st 61 branch path n text = (7, st)) := by show _ = _; rw [HC.out, HZ.out]; rfl
        go_wp2_with fail
        refine hT.mono ?_
        rintro e w4 ⟨rfl, rfl⟩
        go_wp2_with fail
        refine hBl2.mono ?_
        rintro e w4 ⟨rfl, rfl⟩
        go_wp2
        go_ret
        exact ⟨ret_int (by rw [HE.out]), by rw [HE.out]; exact Step.same hRS hBJ⟩
end Go.Proofs.YtolgebdmffcemaaGreatDoor
namespace Go.Proofs.YtolgebdmffcemaaGreatDoor
open Go.RowKit
set_option maxHeartbeats 3200000 in
set_option maxRecDepth 1000000 in
theorem l_vNote {w : World} {h0 Wb : Nat} {O : Nat → Prop} {L : List SP} {names : List (Value × List UInt8)} {nums : List (Value × Int)} {last K : Nat} (h : LW w h0 Wb O L names nums last) (hA : Agree K L) (hK : K ≤ 100000000000) (i : Nat) (hi : i < L.length) (wi n m : Int) (s t u : List UInt8)
    (hn1 : n ≤ 9223372036854775807) (hn2 : -9223372036854775808 ≤ n) (hsl : s.length ≤ maxLen) (htl : t.length ≤ maxLen) (hul : u.length ≤ maxLen) :
    Calls Tryz.prog 81 #[.agg #[.pointer (some ⟨L[i].bx, 0, none⟩), .pointer (some ⟨L[i].by_, 0, none⟩)], .agg (opC 7 wi n m s t u)] w fun e w' => e = .returned (.bool true) ∧ Goes w w' h0 Wb L.length names.length last (K + 20) := by
  have hsxy := (hA i hi).1
  have hpk := (hA i hi).2
  have HX := fun W (hW : LW W h0 Wb O L names nums last) => g_Note L[i].bx L[i].sx s t u W (MM O L) L[i].ox (hW.px i hi).1 hW.lt (hW.px i hi).2 hW.g htl hul
  have HY := fun W (L1 : List SP) (h1 : i < L1.length) (hW : LW W h0 Wb O L1 names nums last) (e1 : L1[i].by_ = L[i].by_) (e2 : L1[i].sy = L[i].sy) => r_Note L1[i].by_ L1[i].sy s t u 0 W (MM O L1) L1[i].oy (hW.py i h1).1 hW.lt (hW.py i h1).2.fine htl hul (by decide) (by decide)
  have HInv : Hid (Inv (R.change L[i].sy 61 s t 0 u).2) := change_inv (h.py i hi).2 61 s t 0 u (by decide)
  have HPk : Hid ((R.change L[i].sy 61 s t 0 u).2.packed.length ≤ K + 20) := by show _ ≤ _; rw [change_packed]; omega
  have HH := hide0 h
  have HA := hide0 hA
  have HSt := hide0 hsxy
  unfold opC
  rw [hsxy] at HX
  have HX' : ∀ W, LW W h0 Wb O L names nums last → Calls Tryz.prog 41 #[.pointer (some ⟨L[i].bx, 0, none⟩), .string ⟨s.toArray⟩, .string ⟨t.toArray⟩, .string ⟨u.toArray⟩] W fun e w' => e = .returned (.int .i64 (R.change L[i].sy 61 s t 0 u).1) ∧ PStep W w' (MM O L) L[i].ox L[i].bx (R.change L[i].sy 61 s t 0 u).2 := HX
  have HY' : ∀ W (L1 : List SP) (h1 : i < L1.length), LW W h0 Wb O L1 names nums last → L1[i].by_ = L[i].by_ → L1[i].sy = L[i].sy → Calls Tryz.prog 122 #[.pointer (some ⟨L[i].by_, 0, none⟩), .int .u8 61, .string ⟨s.toArray⟩, .string ⟨t.toArray⟩, .int .i64 0, .string ⟨u.toArray⟩] W fun e w' => e = .returned (.int .i64 (R.change L[i].sy 61 s t 0 u).1) ∧ Step W w' (MM O L1) L1[i].oy L1[i].by_ (R.change L[i].sy 61 s t 0 u).2 := fun W L1 h1 hW e1 e2 => by
    have := HY W L1 h1 hW e1 e2
    rw [e2] at this
    rw [← e1]
    exact this
  clear HX HY hsxy hpk hA
  generalize R.change L[i].sy 61 s t 0 u = r at *
  obtain ⟨bx, HBX⟩ : ∃ bx, Hid (L[i].bx = bx) := ⟨L[i].bx, hide0 rfl⟩
  obtain ⟨by_, HBY⟩ : ∃ by_, Hid (L[i].by_ = by_) := ⟨L[i].by_, hide0 rfl⟩
  rw [HBX.out, HBY.out]
  have HX2 : ∀ W, LW W h0 Wb O L names nums last → Calls Tryz.prog 41 #[.pointer (some ⟨bx, 0, none⟩), .string ⟨s.toArray⟩, .string ⟨t.toArray⟩, .string ⟨u.toArray⟩] W fun e w' => e = .returned (.int .i64 r.1) ∧ PStep W w' (MM O L) L[i].ox L[i].bx r.2 := fun W hW => by rw [← HBX.out]; exact HX' W hW
  have HY2 : ∀ W (L1 : List SP) (h1 : i < L1.length), LW W h0 Wb O L1 names nums last → L1[i].by_ = L[i].by_ → L1[i].sy = L[i].sy → Calls Tryz.prog 122 #[.pointer (some ⟨by_, 0, none⟩), .int .u8 61, .string ⟨s.toArray⟩, .string ⟨t.toArray⟩, .int .i64 0, .string ⟨u.toArray⟩] W fun e w' => e = .returned (.int .i64 r.1) ∧ Step W w' (MM O L1) L1[i].oy L1[i].by_ r.2 := fun W L1 h1 hW e1 e2 => by rw [← HBY.out]; exact HY' W L1 h1 hW e1 e2
  clear HX' HY' h
  have HB2 : Hid (Below w.heap.size w ((w.alloc (Obj.cells #[.pointer (some ⟨bx, 0, none⟩), .pointer (some ⟨by_, 0, none⟩)] 85)).alloc (Obj.cells #[.int .i64 7, .int .i64 wi, .int .i64 n, .int .i64 m, .string ⟨s.toArray⟩, .string ⟨t.toArray⟩, .string ⟨u.toArray⟩] 73))) := ((Below.refl _ _).alloc (Nat.le_refl _) _).alloc (by simp) _
  have HC : Hid (∀ w3, Kept L[i].ox ((w.alloc (Obj.cells #[.pointer (some ⟨bx, 0, none⟩), .pointer (some ⟨by_, 0, none⟩)] 85)).alloc (Obj.cells #[.int .i64 7, .int .i64 wi, .int .i64 n, .int .i64 m, .string ⟨s.toArray⟩, .string ⟨t.toArray⟩, .string ⟨u.toArray⟩] 73)) w3 → (∀ o, w3.cell? ⟨w.heap.size, o, none⟩ = ((w.alloc (Obj.cells #[.pointer (some ⟨bx, 0, none⟩), .pointer (some ⟨by_, 0, none⟩)] 85)).alloc (Obj.cells #[.int .i64 7, .int .i64 wi, .int .i64 n, .int .i64 m, .string ⟨s.toArray⟩, .string ⟨t.toArray⟩, .string ⟨u.toArray⟩] 73)).cell? ⟨w.heap.size, o, none⟩) ∧ (∀ o, w3.cell? ⟨w.heap.size + 1, o, none⟩ = ((w.alloc (Obj.cells #[.pointer (some ⟨bx, 0, none⟩), .pointer (some ⟨by_, 0, none⟩)] 85)).alloc (Obj.cells #[.int .i64 7, .int .i64 wi, .int .i64 n, .int .i64 m, .string ⟨s.toArray⟩, .string ⟨t.toArray⟩, .string ⟨u.toArray⟩] 73)).cell? ⟨w.heap.size + 1, o, none⟩)) := fun w3 hk =>
    ⟨box_keeps HH.out HB2.out (fun b e => .inr ⟨i, hi, .inl e⟩) hk (Nat.le_refl _) (by simp <;> omega), box_keeps HH.out HB2.out (fun b e => .inr ⟨i, hi, .inl e⟩) hk (by omega) (by simp)⟩
  go_enter Tryz.func81, Tryz.ntmps81
  go_wp2_with fail
  refine (HX2 _ (HH.out.below HB2.out)).mono ?_
  rintro e w3 ⟨rfl, hst⟩
  obtain ⟨L1, l1, hL1, ⟨hi1, eb1, ey1, ex1, es1, eo1⟩, ho1, hb1, hk1⟩ := (HH.out.below HB2.out).X i hi hst HInv.out
  obtain ⟨hp, hq⟩ := HC.out w3 hk1
  have y1 : w3.cell? ⟨w.heap.size, 1, none⟩ = some (.pointer (some ⟨by_, 0, none⟩)) := by rw [hp]; simp
  have z2 : w3.cell? ⟨w.heap.size + 1, 2, none⟩ = some (.int .i64 n) := by rw [hq]; simp
  have z4 : w3.cell? ⟨w.heap.size + 1, 4, none⟩ = some (.string ⟨s.toArray⟩) := by rw [hq]; simp
  have z5 : w3.cell? ⟨w.heap.size + 1, 5, none⟩ = some (.string ⟨t.toArray⟩) := by rw [hq]; simp
  have z6 : w3.cell? ⟨w.heap.size + 1, 6, none⟩ = some (.string ⟨u.toArray⟩) := by rw [hq]; simp
  have HL1 := hide0 hL1
  have HE := hide0 (And.intro eb1 (And.intro ey1 (And.intro ex1 es1)))
  have HO1 := hide0 ho1
  have HOY := hide0 eo1
  have hs3 : w.heap.size + 2 ≤ w3.heap.size := by have := hk1.size; simpa using this
  have HBe1 := hide0 hb1
  clear hst hL1 eb1 ey1 ex1 es1 eo1 ho1 hb1 hk1 hp hq
  have HY3 := hide0 HY2
  have HC5 : Hid (∀ w5, Step w3.drew w5 (MM O L1) L1[i].oy L1[i].by_ r.2 → (∀ o, w5.cell? ⟨w.heap.size, o, none⟩ = w3.cell? ⟨w.heap.size, o, none⟩) ∧ (∀ o, w5.cell? ⟨w.heap.size + 1, o, none⟩ = w3.cell? ⟨w.heap.size + 1, o, none⟩)) := fun w5 hs5 => by
    obtain ⟨_, _, hk5, _⟩ := hs5
    have hz : ∀ b, L1[i].oy b → b < w.heap.size ∨ w.heap.size + 2 ≤ b := fun b e => .inl (HH.out.lt b (.inr ⟨i, hi, .inr (by rw [← HOY.out]; exact e)⟩))
    exact ⟨fun o => hk5.cell (p := ⟨w.heap.size, o, none⟩) (by show w.heap.size < w3.heap.size; omega) (fun e => by have := hz w.heap.size e; omega), fun o => hk5.cell (p := ⟨w.heap.size + 1, o, none⟩) (by show w.heap.size + 1 < w3.heap.size; omega) (fun e => by have := hz (w.heap.size + 1) e; omega)⟩
  clear HX2 HY2
  go_wp2_with fail
  go_region_held3 (fun w' => w'.cell? ⟨w.heap.size, 1, none⟩ = some (.pointer (some ⟨by_, 0, none⟩)) ∧ w'.cell? ⟨w.heap.size + 1, 2, none⟩ = some (.int .i64 n) ∧ w'.cell? ⟨w.heap.size + 1, 4, none⟩ = some (.string ⟨s.toArray⟩) ∧ w'.cell? ⟨w.heap.size + 1, 5, none⟩ = some (.string ⟨t.toArray⟩) ∧ w'.cell? ⟨w.heap.size + 1, 6, none⟩ = some (.string ⟨u.toArray⟩)) (first | exact ⟨y1, z2, z4, z5, z6⟩ | exact ⟨m1, m2, m4, m5, m6⟩ | go_keep) (first
    | (go_at_call 117; refine (l_num r.1 _).mono ?_; rintro e w4 ⟨rfl, hw4⟩; subst hw4)
    | (go_at_call 122; go_loud (refine (HY3.out _ L1 hi1 (HL1.out.below (Below.refl _ _).drew) HE.out.2.1 HE.out.2.2.2).mono ?_; rintro e w5 ⟨rfl, hst5⟩; have m1 := ((HC5.out w5 hst5).1 1).trans y1; have m2 := ((HC5.out w5 hst5).2 2).trans z2; have m4 := ((HC5.out w5 hst5).2 4).trans z4; have m5 := ((HC5.out w5 hst5).2 5).trans z5; have m6 := ((HC5.out w5 hst5).2 6).trans z6)))
  all_goals
    obtain ⟨L2, l2, hL2, ⟨hi2, eb2, ey2, ex2, es2, eo2⟩, ho2, hb2, hk2⟩ := (HL1.out.below (Below.refl _ _).drew).Y i hi1 hst5 HInv.out
    have hs0 := HH.out.hs
    have HG : Hid (Goes w w5 h0 Wb L.length names.length last (K + 20)) :=
      ⟨O, L2, names, nums, last, hL2, l2.trans l1, agree_both HA.out (by omega) hi l1 l2 ⟨hi1, HE.out.2.2.1⟩ HO1.out ⟨hi2, ex2, hi1, es2⟩ ho2 HPk.out, Nat.le_refl _, Nat.le_refl _, ((HB2.out.mono hs0).trans HBe1.out).drew.trans hb2⟩
    clear hst5 hL2 ho2 hb2 hk2 eb2 ey2 ex2 es2 eo2 HC HC5 HY3 HL1 HBe1 m1 m2 m4 m5 m6
    go_wp2
    go_ret
    exact ⟨ret_bool (by simp), HG.out⟩
end Go.Proofs.YtolgebdmffcemaaGreatDoor
namespace Go.Proofs.YtolgebdmffcemaaGreatDoor
open Go.RowKit
theorem pick_ltNote (c : Int) (n : Nat) (h : 0 < n) : ∃ i : Nat, i < n ∧ pickI c n = (i : Int) := by
  have h1 : 0 ≤ pickI c n := by
    unfold pickI; split
    · exact Int.emod_nonneg _ (by omega)
    · exact Int.emod_nonneg _ (by omega)
  have h2 : pickI c n < n := by
    unfold pickI; split
    · exact Int.emod_lt_of_pos _ (by omega)
    · exact Int.emod_lt_of_pos _ (by omega)
  exact ⟨(pickI c n).toNat, by omega, by omega⟩
theorem cellsA_atNote : ∀ (ps : List (Nat × Nat)) (i : Nat) (h : i < ps.length), (cellsA ps)[i * 2]? = some (.pointer (some ⟨(ps[i]'h).1, 0, none⟩)) ∧ (cellsA ps)[i * 2 + 1]? = some (.pointer (some ⟨(ps[i]'h).2, 0, none⟩))
  | p :: r, 0, _ => by simp [cellsA]
  | p :: r, i + 1, h => by
    have ih := cellsA_atNote r i (by simpa using h)
    unfold cellsA at ih ⊢
    rw [List.flatMap_cons, show (i + 1) * 2 = i * 2 + 2 from by omega]
    simpa using ih
set_option maxHeartbeats 3200000 in
set_option maxRecDepth 1000000 in
theorem l_sNote {w : World} {h0 Wb : Nat} {O : Nat → Prop} {L : List SP} {names : List (Value × List UInt8)} {nums : List (Value × Int)} {last K : Nat} (h : LW w h0 Wb O L names nums last) (hA : Agree K L) (hK : K ≤ 100000000000) (hla : last ≤ 1000000) (hnm : names.length ≤ 100000000) (hL : 0 < L.length) (hL2 : L.length ≤ 1000) (wi n m : Int) (s t u : List UInt8)
    (hw1 : wi ≤ 9223372036854775807) (hw2 : -9223372036854775808 ≤ wi) (hn1 : n ≤ 9223372036854775807) (hn2 : -9223372036854775808 ≤ n) (hsl : s.length ≤ maxLen) (htl : t.length ≤ maxLen) (hul : u.length ≤ maxLen) :
    Calls Tryz.prog 43 #[.pointer (some ⟨Wb, 0, none⟩), .agg (opC 7 wi n m s t u)] w fun e w' => e = .returned (.bool true) ∧ Goes w w' h0 Wb L.length (names.length + 9) (last + 1) (K + 20) := by
  obtain ⟨i, hi, hpi⟩ := pick_ltNote wi L.length hL
  have HP := fun W => l_pick wi (L.length : Int) W (by omega) (by omega) hw2 hw1
  rw [hpi] at HP
  have HC := fun W (hW : LW W h0 Wb O L names nums last) => l_vNote hW hA hK i hi wi n m s t u hn1 hn2 hsl htl hul
  have HG : Hid (∀ W w', Below w.heap.size w W → Goes W w' h0 Wb L.length names.length last (K + 20) → Goes w w' h0 Wb L.length (names.length + 9) (last + 1) (K + 20)) := by
    rintro W w' hb ⟨O', L', names', nums', last', h1, h2, h3, h4, h5, h6⟩
    exact ⟨O', L', names', nums', last', h1, h2, fun j hj => ⟨(h3 j hj).1, by have := (h3 j hj).2; omega⟩, by omega, by omega, (hb.mono h.hs).trans h6⟩
  have HH := hide0 h
  obtain ⟨av, nv, tv, uv, kv, hl⟩ := h.lw
  have hWl := hl.lt Wb hl.own
  have c0 := hl.c0
  have hrow := hl.arow
  rw [List.length_map] at hrow
  obtain ⟨aa, ac, hav, ha1, ha2, ha3, ha4⟩ := owns_form hrow
  rw [hav] at c0
  cases aa with
  | none => have := (ha3 rfl).1; omega
  | some ad =>
  obtain ⟨g, rfl, _, hg, _, hcell⟩ := ha4 ad rfl
  have hca := cellsA_atNote (L.map fun p => (p.bx, p.by_)) i (by simpa using hi)
  have d1 := hcell _ _ hca.1
  have d2 := hcell _ _ hca.2
  simp only [List.getElem_map] at d1 d2
  unfold maxLen at ha2
  clear h hA hl hrow hav ha3 ha4 hcell hca hpi
  generalize L[i].bx = bx at *
  generalize L[i].by_ = by_ at *
  have HPick := hide0 HP
  have HCall := hide0 HC
  clear HP HC
  go_enter Tryz.func43, Tryz.ntmps43
  unfold opC
  go_wp2_with fail
  have hB1 : Below w.heap.size w (w.alloc (Obj.cells #[.int .i64 7, .int .i64 wi, .int .i64 n, .int .i64 m, .string ⟨s.toArray⟩, .string ⟨t.toArray⟩, .string ⟨u.toArray⟩] 73)) := (Below.refl _ _).alloc (Nat.le_refl _) _
  have hs1 : (w.alloc (Obj.cells #[.int .i64 7, .int .i64 wi, .int .i64 n, .int .i64 m, .string ⟨s.toArray⟩, .string ⟨t.toArray⟩, .string ⟨u.toArray⟩] 73)).heap.size = w.heap.size + 1 := by simp
  have hop : ∀ j v, #[Value.int .i64 7, .int .i64 wi, .int .i64 n, .int .i64 m, .string ⟨s.toArray⟩, .string ⟨t.toArray⟩, .string ⟨u.toArray⟩][j]? = some v → (w.alloc (Obj.cells #[.int .i64 7, .int .i64 wi, .int .i64 n, .int .i64 m, .string ⟨s.toArray⟩, .string ⟨t.toArray⟩, .string ⟨u.toArray⟩] 73)).cell? ⟨w.heap.size, j, none⟩ = some v := fun j v hv => by rw [World.cell?_alloc_at _ _ _ _ rfl]; exact hv
  generalize (w.alloc (Obj.cells #[.int .i64 7, .int .i64 wi, .int .i64 n, .int .i64 m, .string ⟨s.toArray⟩, .string ⟨t.toArray⟩, .string ⟨u.toArray⟩] 73)) = W1 at *
  have o0 := hop 0 _ rfl
  have o1 := hop 1 _ rfl
  have o2 := hop 2 _ rfl
  have o3 := hop 3 _ rfl
  have o4 := hop 4 _ rfl
  have o5 := hop 5 _ rfl
  have o6 := hop 6 _ rfl
  have e0 := (hB1.cell (p := ⟨Wb, 0, none⟩) hWl).trans c0
  have e1 := (hB1.cell (p := ⟨g, i * 2, none⟩) hg).trans d1
  have e2 := (hB1.cell (p := ⟨g, i * 2 + 1, none⟩) hg).trans d2
  have HB1 := hide0 hB1
  have HLW1 := hide0 (HH.out.below hB1)
  have hlt1 : w.heap.size < W1.heap.size := by omega
  clear hop hB1 hs1 c0 d1 d2 HH
  go_region_held3 (fun w' => w'.cell? ⟨Wb, 0, none⟩ = some (.slice (some ⟨g, 0, none⟩) L.length ac) ∧ w'.cell? ⟨w.heap.size, 1, none⟩ = some (.int .i64 wi) ∧ w'.cell? ⟨g, i * 2, none⟩ = some (.pointer (some ⟨bx, 0, none⟩)) ∧ w'.cell? ⟨g, i * 2 + 1, none⟩ = some (.pointer (some ⟨by_, 0, none⟩))) (go_keep) (first
    | (go_at_call 79; refine (HPick.out _).mono ?_; rintro e w4 ⟨rfl, hw4⟩; subst hw4))
  all_goals
    go_wp2_with fail
    have hB2 : Below W1.heap.size W1 (W1.alloc (Obj.cells #[.pointer (some ⟨bx, 0, none⟩), .pointer (some ⟨by_, 0, none⟩)] 85)).drew := ((Below.refl _ _).alloc (Nat.le_refl _) _).drew
    refine (HCall.out _ (HLW1.out.below hB2)).mono ?_
    rintro e w5 ⟨rfl, hgo⟩
    have HGo := hide0 (HG.out _ _ (HB1.out.trans (hB2.mono (by omega))) hgo)
    clear hgo hB2
    go_wp2
    go_ret
    exact ⟨rfl, HGo.out⟩
end Go.Proofs.YtolgebdmffcemaaGreatDoor
