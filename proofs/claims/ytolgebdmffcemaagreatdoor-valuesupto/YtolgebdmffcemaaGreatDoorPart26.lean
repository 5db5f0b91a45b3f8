/-
  How Change of the document's answer (graftref) works: Put.
-/
import Derived.Test.YtolgebdmffcemaaGreatDoorPart21
set_option linter.unusedVariables false
namespace Go.Proofs.YtolgebdmffcemaaGreatDoor
open Go.RowKit
set_option maxHeartbeats 3200000 in
set_option maxRecDepth 1000000 in
/-- kind *: Put -/
theorem r_Put (B : Nat) (st : R.St) (branch path text : List UInt8) (n : Int) (w : World) (M O : Nat → Prop) (h : RS w M O B st) (hM : ∀ b, M b → b < w.heap.size) (hf : R.Fine st) (hpl : path.length ≤ maxLen) (htl : text.length ≤ maxLen) (_hn1 : n ≤ 9223372036854775807) (_hn2 : -9223372036854775808 ≤ n) :
    Calls Tryz.prog 122 #[.pointer (some ⟨B, 0, none⟩), .int .u8 42, .string ⟨branch.toArray⟩, .string ⟨path.toArray⟩, .int .i64 n, .string ⟨text.toArray⟩] w fun e w' =>
      e = .returned (.int .i64 (R.change st 42 branch path n text).1) ∧ Step w w' M O B (R.change st 42 branch path n text).2 := by
  have hRS := h
  obtain ⟨cv, bv, LB, LCm, hR⟩ := h
  have c1 := hR.c1
  have hBl := hR.lt B hR.own
  obtain ⟨a, cap, rfl, hnc, hm, hno, hso⟩ := owns_form hR.row
  have HL : Hid (LB.length = st.brs.length) := by show _ = _; rw [← hR.brs, List.length_map]
  have hf0 := r_find B st branch w M O hRS
  unfold maxLen at hm
  rcases R.fndI_cases st.brs branch with ⟨f1, f2⟩ | ⟨f1, f2⟩
  · have HS : Hid (R.change st 42 branch path n text = (5, st)) := by show _ = _; rw [R.change, if_pos (by omega)]
    rw [HS.out]
    rw [f1] at hf0
    clear hso hno f1 f2
    go_enter Tryz.func122, Tryz.ntmps122
    go_wp2_with fail
    refine hf0.mono ?_
    rintro e w1 ⟨rfl, rfl⟩
    go_wp2
    go_ret
    exact ⟨rfl, Step.same hRS (Below.refl _ _)⟩
  cases hip : R.isPath path
  · have HS : Hid (R.change st 42 branch path n text = (2, st)) := by show _ = _; rw [R.change, if_neg (by omega), if_pos hip]
    rw [HS.out]
    rw [f1] at hf0
    have hip' := r_IsPath path w hpl
    rw [hip] at hip'
    clear hso hno f1
    go_enter Tryz.func122, Tryz.ntmps122
    go_wp2_with fail
    refine hf0.mono ?_
    rintro e w1 ⟨rfl, rfl⟩
    go_wp2_with fail
    refine hip'.mono ?_
    rintro e w2 ⟨rfl, hb⟩
    go_wp2
    go_ret
    exact ⟨rfl, Step.same hRS hb⟩
  have hfl : R.fnd st.brs branch < LB.length := by rw [HL.out]; exact f2
  have hwk : R.workOf st branch = (LB[R.fnd st.brs branch]'hfl).1.work := by
    rw [R.workOf, List.getElem?_eq_getElem f2]
    simp [← hR.brs]
  have hmb := hR.mem_brs (List.getElem_mem hfl)
  have htr := hR.work _ (List.getElem_mem hfl)
  have hgood := hf.good _ hmb
  have hfew := hf.few _ hmb
  have hip' := r_IsPath path w hpl
  rw [hip] at hip'
  have hp100 : path.length ≤ 100 := by simp [R.isPath] at hip; exact hip.1
  cases a with
  | none => have := (hno rfl).1; omega
  | some ad =>
    obtain ⟨g, rfl, _, hg0, _, hcell⟩ := hso ad rfl
    obtain ⟨-, -, d2⟩ := br_cells hcell _ hfl
    have hgO := hR.rowO g rfl
    have hgl := hR.lt g hgO.1
    have hgf : ∀ o, w.frozen? ⟨g, o, none⟩ = false := by assumption
    have HC : Hid (R.change st 42 branch path n text = if (R.valV 42 (LB[R.fnd st.brs branch]'hfl).1.work (R.at_ (LB[R.fnd st.brs branch]'hfl).1.work path) path n text).1 = 0 then
        (0, R.setWork st (R.fnd st.brs branch) (R.set (LB[R.fnd st.brs branch]'hfl).1.work (R.valV 42 (LB[R.fnd st.brs branch]'hfl).1.work (R.at_ (LB[R.fnd st.brs branch]'hfl).1.work path) path n text).2))
        else ((R.valV 42 (LB[R.fnd st.brs branch]'hfl).1.work (R.at_ (LB[R.fnd st.brs branch]'hfl).1.work path) path n text).1, st)) := by
      show _ = _
      rw [R.change, if_neg (by omega), if_neg (by simp [hip]), hwk]
    obtain ⟨ta, tcap, htv⟩ : ∃ ta tcap, (LB[R.fnd st.brs branch]'hfl).2 = .slice ta (LB[R.fnd st.brs branch]'hfl).1.work.length tcap := by
      obtain ⟨L, hL, ⟨a, cap, e, _⟩, _⟩ := htr
      exact ⟨a, cap, by rw [e, ← hL, List.length_map]⟩
    rw [htv] at htr d2
    rw [f1] at hf0
    have hsw : ∀ (w5 : World) (v' : Value) (t' : List R.Leaf), Below w.heap.size w w5 → Tr w5 M v' t' → Step w (w5.setCell ⟨g, R.fnd st.brs branch * 3 + 2, none⟩ v') M O B (R.setWork st (R.fnd st.brs branch) t') := fun w5 v' t' hb5 ht5 => setWork_RS hR hfl hb5 ht5
    generalize (LB[R.fnd st.brs branch]'hfl).1.work = t at *
    generalize R.fnd st.brs branch = i at *
    have hgx : R.Good (R.at_ t path) := at_good t path hgood (by omega)
    have hat := fun W (hW : Below w.heap.size w W) => r_at (.slice ta t.length tcap) t path W M (htr.below hW)
    have HSW := hide hsw
    have hpg : ∀ y ∈ t, y.path.length ≤ 1000 := fun y hy => (hgood y hy).path
    generalize R.at_ t path = x at *
    clear hso hno f1 hcell hwk htv hmb hip hgood hsw
    go_enter Tryz.func122, Tryz.ntmps122
    go_wp2_with fail
    refine hf0.mono ?_
    rintro e w1 ⟨rfl, rfl⟩
    go_wp2_with fail
    refine hip'.mono ?_
    rintro e w2 ⟨rfl, hb2⟩
    have hs2 := hb2.size
    have e1 := (hb2.cell (p := ⟨B, 1, none⟩) hBl).trans c1
    have e2 := (hb2.cell (p := ⟨g, i * 3 + 2, none⟩) hgl).trans d2
    go_wp2_with fail
    refine (hat _ hb2).mono ?_
    rintro e w3 ⟨iv, rfl, hit, hb3⟩
    obtain ⟨ia, ic, hiv, hi1, hi2, hi3⟩ := hit
    dsimp only at hiv
    subst hiv
    have hit3 : It w3 M (x, .slice ia x.items.length ic) := Rd.below ⟨ia, ic, rfl, hi1, hi2, hi3⟩ hb3
    clear hi1 hi2 hi3 e1 e2
    have hB3 : Below w1.heap.size w1 w3 := hb2.trans (hb3.mono hs2)
    have k1 := (hB3.cell (p := ⟨B, 1, none⟩) hBl).trans c1
    have k2 := (hB3.cell (p := ⟨g, i * 3 + 2, none⟩) hgl).trans d2
    have k3 := (hB3.frozen (p := ⟨g, i * 3 + 2, none⟩) hgl).trans (hgf _)
    have hs3 := hB3.size
    have htr3 : Tr w3 M (.slice ta t.length tcap) t := htr.below hB3
    clear hat hip' hf0 hb2 hb3 hs2
    unfold LC
    dsimp only
    generalize hJ : w3.alloc (.cells #[.string ⟨x.path.toArray⟩, .int .u8 x.kind, .int .i64 x.n, .string ⟨x.text.toArray⟩, .slice ia x.items.length ic] 216) = wJ
    have hBJ : Below w1.heap.size w1 wJ := by rw [← hJ]; exact hB3.alloc hs3 _
    have hzJ : wJ.heap.size = w3.heap.size + 1 := by rw [← hJ]; simp
    have hsJ := hBJ.size
    have j1 := (hBJ.cell (p := ⟨B, 1, none⟩) hBl).trans c1
    have j2 := (hBJ.cell (p := ⟨g, i * 3 + 2, none⟩) hgl).trans d2
    have j3 := (hBJ.frozen (p := ⟨g, i * 3 + 2, none⟩) hgl).trans (hgf _)
    have x0 : wJ.cell? ⟨w3.heap.size, 0, none⟩ = some (.string ⟨x.path.toArray⟩) := by rw [← hJ]; simp
    have x1 : wJ.cell? ⟨w3.heap.size, 1, none⟩ = some (.int .u8 x.kind) := by rw [← hJ]; simp
    have x2 : wJ.cell? ⟨w3.heap.size, 2, none⟩ = some (.int .i64 x.n) := by rw [← hJ]; simp
    have x3 : wJ.cell? ⟨w3.heap.size, 3, none⟩ = some (.string ⟨x.text.toArray⟩) := by rw [← hJ]; simp
    have x4 : wJ.cell? ⟨w3.heap.size, 4, none⟩ = some (.slice ia x.items.length ic) := by rw [← hJ]; simp
    have hitJ : It wJ M (x, .slice ia x.items.length ic) := by rw [← hJ]; exact Rd.below hit3 ((Below.refl _ _).alloc (Nat.le_refl _) _)
    have HG1 : Hid (∀ W, Below w1.heap.size w1 W → W.cell? ⟨B, 1, none⟩ = some (.slice (some ⟨g, 0, none⟩) LB.length cap)) := fun W hW => (hW.cell (p := ⟨B, 1, none⟩) hBl).trans c1
    have HG2 : Hid (∀ W, Below w1.heap.size w1 W → W.cell? ⟨g, i * 3 + 2, none⟩ = some (.slice ta t.length tcap)) := fun W hW => (hW.cell (p := ⟨g, i * 3 + 2, none⟩) hgl).trans d2
    have HG3 : Hid (∀ W, Below w1.heap.size w1 W → W.frozen? ⟨g, i * 3 + 2, none⟩ = false) := fun W hW => (hW.frozen (p := ⟨g, i * 3 + 2, none⟩) hgl).trans (hgf _)
    have a1 : ∀ o, (wJ.alloc o).cell? ⟨B, 1, none⟩ = some (.slice (some ⟨g, 0, none⟩) LB.length cap) := fun o => by rw [World.cell?_alloc_past _ _ _ (by omega)]; exact j1
    have a2 : ∀ o, (wJ.alloc o).cell? ⟨g, i * 3 + 2, none⟩ = some (.slice ta t.length tcap) := fun o => by rw [World.cell?_alloc_past _ _ _ (by omega)]; exact j2
    have a3 : ∀ o, (wJ.alloc o).frozen? ⟨g, i * 3 + 2, none⟩ = false := fun o => by rw [World.frozen?_alloc_past _ _ _ (by omega)]; exact j3
    have htrJ : Tr wJ M (.slice ta t.length tcap) t := htr.below hBJ
    clear hit3 htr3 k1 k2 k3
    have hT := r_IsText ⟨text.toArray⟩ wJ (by simpa [ByteArray.size] using htl)
    simp only at hT
    have hBl2 := r_blocked (.slice ta t.length tcap) t path wJ M htrJ
    have hil : x.items.length ≤ 1000 := by have := hgx.many; omega
    have hitem := fun W (hW : Below wJ.heap.size wJ W) => r_item (.slice ia x.items.length ic) x.items text W M (Rd.below hitJ hW) hil
    have hrl : (R.item x.items text).length ≤ 1001 := by have := R.item_length text x.items false; unfold R.item; omega
    have HV : Hid (R.valV 42 t x path n text = R.putV t x path text) := by show _ = _; rw [R.valV, if_neg (by decide), if_neg (by decide), if_neg (by decide), if_neg (by decide)]
    cases hX : R.isText text
    · have HZ : Hid (R.valV 42 t x path n text = (3, x)) := by show _ = _; rw [HV.out, R.putV, if_pos (by simp [hX])]
      rw [hX] at hT
      have HE : Hid (R.change st 42 branch path n text = (3, st)) := by show _ = _; rw [HC.out, HZ.out]; rfl
      go_wp2_with fail
      refine hT.mono ?_
      rintro e w4 ⟨rfl, rfl⟩
      go_wp2
      go_ret
      exact ⟨ret_int (by rw [HE.out]), by rw [HE.out]; exact Step.same hRS hBJ⟩
    rw [hX] at hT
    cases hE : (text == ([] : List UInt8))
    case true =>
      have HZ : Hid (R.valV 42 t x path n text = (3, x)) := by show _ = _; rw [HV.out, R.putV, if_pos (by simp [hE])]
      have HE : Hid (R.change st 42 branch path n text = (3, st)) := by show _ = _; rw [HC.out, HZ.out]; rfl
      go_wp2_with fail
      refine hT.mono ?_
      rintro e w4 ⟨rfl, rfl⟩
      go_wp2
      go_ret
      exact ⟨ret_int (by rw [HE.out]), by rw [HE.out]; exact Step.same hRS hBJ⟩
    have HT : Hid (¬ (!R.isText text || text == ([] : List UInt8)) = true) := by intro h; rw [hX, hE] at h; cases h
    by_cases h6 : x.kind ≠ 0 ∧ x.kind ≠ 42
    · have HZ : Hid (R.valV 42 t x path n text = (6, x)) := by show _ = _; rw [HV.out, R.putV, if_neg HT.out, if_pos h6]
      have b1 : (x.kind == 0) = false := by simpa using h6.1
      have b2 : (x.kind == 42) = false := by simpa using h6.2
      have n1 : (x.kind != 0) = true := by rw [bne, b1]; rfl
      have n2 : (x.kind != 42) = true := by rw [bne, b2]; rfl
      clear h6
      have HE : Hid (R.change st 42 branch path n text = (6, st)) := by show _ = _; rw [HC.out, HZ.out]; rfl
      go_wp2_with fail
      refine hT.mono ?_
      rintro e w4 ⟨rfl, rfl⟩
      go_wp2
      go_ret
      exact ⟨ret_int (by rw [HE.out]), by rw [HE.out]; exact Step.same hRS hBJ⟩
    cases hb7 : R.blocked t path
    · rw [hb7] at hBl2
      by_cases h8 : 8 < (R.item x.items text).length
      · have HZ : Hid (R.valV 42 t x path n text = (4, x)) := by show _ = _; rw [HV.out, R.putV, if_neg HT.out, if_neg h6, if_neg (by simp [hb7]), if_pos h8]
        have HE : Hid (R.change st 42 branch path n text = (4, st)) := by show _ = _; rw [HC.out, HZ.out]; rfl
        rcases bool_eq x.kind 0 with ⟨b1, h1⟩ | ⟨b1, h1⟩
        · have n1 : (x.kind != 0) = false := by rw [bne, b1]; rfl
          clear h6 h1
          go_wp2_with fail
          refine hT.mono ?_
          rintro e w4 ⟨rfl, rfl⟩
          go_wp2_with fail
          refine hBl2.mono ?_
          rintro e w4 ⟨rfl, rfl⟩
          go_wp2_with fail
          refine (hitem _ (Below.refl _ _ |>.alloc (Nat.le_refl _) _)).mono ?_
          rintro e w6 ⟨v6, rfl, ho6, hb6⟩
          obtain ⟨va, vc, rfl, _, _, _, _⟩ := owns_form ho6
          have hz6 := hb6.size
          simp only [World.size_alloc, hzJ] at hz6
          have hB6 : Below w1.heap.size w1 w6 := (hBJ.alloc hsJ _).trans (hb6.mono (by simp; omega))
          generalize hw7 : w6.setCell ⟨w3.heap.size + 1, 4, none⟩ (.slice va (R.item x.items text).length vc) = w7
          have hz7 : w7.heap.size = w6.heap.size := by rw [← hw7]; simp
          have hK7 : Kept (fun b => b = w3.heap.size + 1) w6 w7 := by rw [← hw7]; exact (Kept.refl (fun b => b = w3.heap.size + 1) w6).setCell (p := ⟨w3.heap.size + 1, 4, none⟩) (.inl rfl) _
          have hB7 : Below w1.heap.size w1 w7 := by rw [← hw7]; exact hB6.setCell (p := ⟨w3.heap.size + 1, 4, none⟩) (by dsimp only; omega) _
          have y6 : ∀ o u, #[Value.string ⟨path.toArray⟩, .int .u8 42, .int .i64 0, .string ⟨#[]⟩, .slice none 0 0][o]? = some u → w6.cell? ⟨w3.heap.size + 1, o, none⟩ = some u := fun o u hu => by
            rw [hb6.cell (p := ⟨w3.heap.size + 1, o, none⟩) (by simp [hzJ]), World.cell?_alloc_at _ _ _ _ hzJ.symm]; exact hu
          have y4 := y6 4 _ rfl
          have fy : w6.frozen? ⟨w3.heap.size + 1, 4, none⟩ = false := by rw [hb6.frozen (p := ⟨w3.heap.size + 1, 4, none⟩) (by simp [hzJ]), World.frozen?_alloc_at _ _ _ _ hzJ.symm]
          have z0 : w7.cell? ⟨w3.heap.size + 1, 0, none⟩ = some (.string ⟨path.toArray⟩) := by rw [← hw7, sc_other _ _ _ _ _ (by omega)]; exact y6 0 _ rfl
          have z1 : w7.cell? ⟨w3.heap.size + 1, 1, none⟩ = some (.int .u8 42) := by rw [← hw7, sc_other _ _ _ _ _ (by omega)]; exact y6 1 _ rfl
          have z2 : w7.cell? ⟨w3.heap.size + 1, 2, none⟩ = some (.int .i64 0) := by rw [← hw7, sc_other _ _ _ _ _ (by omega)]; exact y6 2 _ rfl
          have z3 : w7.cell? ⟨w3.heap.size + 1, 3, none⟩ = some (.string ⟨#[]⟩) := by rw [← hw7, sc_other _ _ _ _ _ (by omega)]; exact y6 3 _ rfl
          have z4 : w7.cell? ⟨w3.heap.size + 1, 4, none⟩ = some (.slice va (R.item x.items text).length vc) := by rw [← hw7]; exact sc_same _ _ _ _ _ y4
          have zx : w7.cell? ⟨w3.heap.size, 1, none⟩ = some (.int .u8 x.kind) := by
            rw [hK7.cell (p := ⟨w3.heap.size, 1, none⟩) (by dsimp only; omega) (by dsimp only; omega), hb6.cell (p := ⟨w3.heap.size, 1, none⟩) (by simp [hzJ]; omega), World.cell?_alloc_past _ _ _ (by omega)]; exact x1
          have zB := HG1.out w7 hB7
          have zg := HG2.out w7 hB7
          have zf := HG3.out w7 hB7
          clear y6
          go_wp2
          go_ret
          exact ⟨ret_int (by rw [HE.out]), by rw [HE.out]; exact Step.same hRS hB7⟩
        · have h2 : x.kind = 42 := Classical.byContradiction fun e => h6 ⟨h1, e⟩
          have b2 : (x.kind == 42) = true := by simpa using h2
          have n1 : (x.kind != 0) = true := by rw [bne, b1]; rfl
          have n2 : (x.kind != 42) = false := by rw [bne, b2]; rfl
          clear h6 h1 h2
          go_wp2_with fail
          refine hT.mono ?_
          rintro e w4 ⟨rfl, rfl⟩
          go_wp2_with fail
          refine hBl2.mono ?_
          rintro e w4 ⟨rfl, rfl⟩
          go_wp2_with fail
          refine (hitem _ (Below.refl _ _ |>.alloc (Nat.le_refl _) _)).mono ?_
          rintro e w6 ⟨v6, rfl, ho6, hb6⟩
          obtain ⟨va, vc, rfl, _, _, _, _⟩ := owns_form ho6
          have hz6 := hb6.size
          simp only [World.size_alloc, hzJ] at hz6
          have hB6 : Below w1.heap.size w1 w6 := (hBJ.alloc hsJ _).trans (hb6.mono (by simp; omega))
          generalize hw7 : w6.setCell ⟨w3.heap.size + 1, 4, none⟩ (.slice va (R.item x.items text).length vc) = w7
          have hz7 : w7.heap.size = w6.heap.size := by rw [← hw7]; simp
          have hK7 : Kept (fun b => b = w3.heap.size + 1) w6 w7 := by rw [← hw7]; exact (Kept.refl (fun b => b = w3.heap.size + 1) w6).setCell (p := ⟨w3.heap.size + 1, 4, none⟩) (.inl rfl) _
          have hB7 : Below w1.heap.size w1 w7 := by rw [← hw7]; exact hB6.setCell (p := ⟨w3.heap.size + 1, 4, none⟩) (by dsimp only; omega) _
          have y6 : ∀ o u, #[Value.string ⟨path.toArray⟩, .int .u8 42, .int .i64 0, .string ⟨#[]⟩, .slice none 0 0][o]? = some u → w6.cell? ⟨w3.heap.size + 1, o, none⟩ = some u := fun o u hu => by
            rw [hb6.cell (p := ⟨w3.heap.size + 1, o, none⟩) (by simp [hzJ]), World.cell?_alloc_at _ _ _ _ hzJ.symm]; exact hu
          have y4 := y6 4 _ rfl
          have fy : w6.frozen? ⟨w3.heap.size + 1, 4, none⟩ = false := by rw [hb6.frozen (p := ⟨w3.heap.size + 1, 4, none⟩) (by simp [hzJ]), World.frozen?_alloc_at _ _ _ _ hzJ.symm]
          have z0 : w7.cell? ⟨w3.heap.size + 1, 0, none⟩ = some (.string ⟨path.toArray⟩) := by rw [← hw7, sc_other _ _ _ _ _ (by omega)]; exact y6 0 _ rfl
          have z1 : w7.cell? ⟨w3.heap.size + 1, 1, none⟩ = some (.int .u8 42) := by rw [← hw7, sc_other _ _ _ _ _ (by omega)]; exact y6 1 _ rfl
          have z2 : w7.cell? ⟨w3.heap.size + 1, 2, none⟩ = some (.int .i64 0) := by rw [← hw7, sc_other _ _ _ _ _ (by omega)]; exact y6 2 _ rfl
          have z3 : w7.cell? ⟨w3.heap.size + 1, 3, none⟩ = some (.string ⟨#[]⟩) := by rw [← hw7, sc_other _ _ _ _ _ (by omega)]; exact y6 3 _ rfl
          have z4 : w7.cell? ⟨w3.heap.size + 1, 4, none⟩ = some (.slice va (R.item x.items text).length vc) := by rw [← hw7]; exact sc_same _ _ _ _ _ y4
          have zx : w7.cell? ⟨w3.heap.size, 1, none⟩ = some (.int .u8 x.kind) := by
            rw [hK7.cell (p := ⟨w3.heap.size, 1, none⟩) (by dsimp only; omega) (by dsimp only; omega), hb6.cell (p := ⟨w3.heap.size, 1, none⟩) (by simp [hzJ]; omega), World.cell?_alloc_past _ _ _ (by omega)]; exact x1
          have zB := HG1.out w7 hB7
          have zg := HG2.out w7 hB7
          have zf := HG3.out w7 hB7
          clear y6
          go_wp2
          go_ret
          exact ⟨ret_int (by rw [HE.out]), by rw [HE.out]; exact Step.same hRS hB7⟩
      · by_cases h4 : x.kind = 0 ∧ 24 ≤ t.length
        · have HZ : Hid (R.valV 42 t x path n text = (4, x)) := by show _ = _; rw [HV.out, R.putV, if_neg HT.out, if_neg h6, if_neg (by simp [hb7]), if_neg h8, if_pos h4]
          have b1 : (x.kind == 0) = true := by simpa using h4.1
          have b3 : (24 : Int) ≤ (t.length : Int) := by omega
          have n1 : (x.kind != 0) = false := by rw [bne, b1]; rfl
          clear h6 h4
          have HE : Hid (R.change st 42 branch path n text = (4, st)) := by show _ = _; rw [HC.out, HZ.out]; rfl
          go_wp2_with fail
          refine hT.mono ?_
          rintro e w4 ⟨rfl, rfl⟩
          go_wp2_with fail
          refine hBl2.mono ?_
          rintro e w4 ⟨rfl, rfl⟩
          go_wp2_with fail
          refine (hitem _ (Below.refl _ _ |>.alloc (Nat.le_refl _) _)).mono ?_
          rintro e w6 ⟨v6, rfl, ho6, hb6⟩
          obtain ⟨va, vc, rfl, _, _, _, _⟩ := owns_form ho6
          have hz6 := hb6.size
          simp only [World.size_alloc, hzJ] at hz6
          have hB6 : Below w1.heap.size w1 w6 := (hBJ.alloc hsJ _).trans (hb6.mono (by simp; omega))
          generalize hw7 : w6.setCell ⟨w3.heap.size + 1, 4, none⟩ (.slice va (R.item x.items text).length vc) = w7
          have hz7 : w7.heap.size = w6.heap.size := by rw [← hw7]; simp
          have hK7 : Kept (fun b => b = w3.heap.size + 1) w6 w7 := by rw [← hw7]; exact (Kept.refl (fun b => b = w3.heap.size + 1) w6).setCell (p := ⟨w3.heap.size + 1, 4, none⟩) (.inl rfl) _
          have hB7 : Below w1.heap.size w1 w7 := by rw [← hw7]; exact hB6.setCell (p := ⟨w3.heap.size + 1, 4, none⟩) (by dsimp only; omega) _
          have y6 : ∀ o u, #[Value.string ⟨path.toArray⟩, .int .u8 42, .int .i64 0, .string ⟨#[]⟩, .slice none 0 0][o]? = some u → w6.cell? ⟨w3.heap.size + 1, o, none⟩ = some u := fun o u hu => by
            rw [hb6.cell (p := ⟨w3.heap.size + 1, o, none⟩) (by simp [hzJ]), World.cell?_alloc_at _ _ _ _ hzJ.symm]; exact hu
          have y4 := y6 4 _ rfl
          have fy : w6.frozen? ⟨w3.heap.size + 1, 4, none⟩ = false := by rw [hb6.frozen (p := ⟨w3.heap.size + 1, 4, none⟩) (by simp [hzJ]), World.frozen?_alloc_at _ _ _ _ hzJ.symm]
          have z0 : w7.cell? ⟨w3.heap.size + 1, 0, none⟩ = some (.string ⟨path.toArray⟩) := by rw [← hw7, sc_other _ _ _ _ _ (by omega)]; exact y6 0 _ rfl
          have z1 : w7.cell? ⟨w3.heap.size + 1, 1, none⟩ = some (.int .u8 42) := by rw [← hw7, sc_other _ _ _ _ _ (by omega)]; exact y6 1 _ rfl
          have z2 : w7.cell? ⟨w3.heap.size + 1, 2, none⟩ = some (.int .i64 0) := by rw [← hw7, sc_other _ _ _ _ _ (by omega)]; exact y6 2 _ rfl
          have z3 : w7.cell? ⟨w3.heap.size + 1, 3, none⟩ = some (.string ⟨#[]⟩) := by rw [← hw7, sc_other _ _ _ _ _ (by omega)]; exact y6 3 _ rfl
          have z4 : w7.cell? ⟨w3.heap.size + 1, 4, none⟩ = some (.slice va (R.item x.items text).length vc) := by rw [← hw7]; exact sc_same _ _ _ _ _ y4
          have zx : w7.cell? ⟨w3.heap.size, 1, none⟩ = some (.int .u8 x.kind) := by
            rw [hK7.cell (p := ⟨w3.heap.size, 1, none⟩) (by dsimp only; omega) (by dsimp only; omega), hb6.cell (p := ⟨w3.heap.size, 1, none⟩) (by simp [hzJ]; omega), World.cell?_alloc_past _ _ _ (by omega)]; exact x1
          have zB := HG1.out w7 hB7
          have zg := HG2.out w7 hB7
          have zf := HG3.out w7 hB7
          clear y6
          go_wp2
          go_ret
          exact ⟨ret_int (by rw [HE.out]), by rw [HE.out]; exact Step.same hRS hB7⟩
        · have HZ : Hid (R.valV 42 t x path n text = (0, { path := path, kind := 42, n := 0, text := [], items := R.item x.items text })) := by show _ = _; rw [HV.out, R.putV, if_neg HT.out, if_neg h6, if_neg (by simp [hb7]), if_neg h8, if_neg h4]
          have HE : Hid (R.change st 42 branch path n text = (0, R.setWork st i (R.set t { path := path, kind := 42, n := 0, text := [], items := R.item x.items text }))) := by show _ = _; rw [HC.out, HZ.out]; rfl
          rcases bool_eq x.kind 0 with ⟨b1, h1⟩ | ⟨b1, h1⟩
          · have n1 : (x.kind != 0) = false := by rw [bne, b1]; rfl
            have b3 : ¬ (24 : Int) ≤ (t.length : Int) := by omega
            clear h6 h1 h4
            go_wp2_with fail
            refine hT.mono ?_
            rintro e w4 ⟨rfl, rfl⟩
            go_wp2_with fail
            refine hBl2.mono ?_
            rintro e w4 ⟨rfl, rfl⟩
            go_wp2_with fail
            refine (hitem _ (Below.refl _ _ |>.alloc (Nat.le_refl _) _)).mono ?_
            rintro e w6 ⟨v6, rfl, ho6, hb6⟩
            obtain ⟨va, vc, rfl, _, _, _, _⟩ := owns_form ho6
            have hz6 := hb6.size
            simp only [World.size_alloc, hzJ] at hz6
            have hB6 : Below w1.heap.size w1 w6 := (hBJ.alloc hsJ _).trans (hb6.mono (by simp; omega))
            generalize hw7 : w6.setCell ⟨w3.heap.size + 1, 4, none⟩ (.slice va (R.item x.items text).length vc) = w7
            have hz7 : w7.heap.size = w6.heap.size := by rw [← hw7]; simp
            have hK7 : Kept (fun b => b = w3.heap.size + 1) w6 w7 := by rw [← hw7]; exact (Kept.refl (fun b => b = w3.heap.size + 1) w6).setCell (p := ⟨w3.heap.size + 1, 4, none⟩) (.inl rfl) _
            have hB7 : Below w1.heap.size w1 w7 := by rw [← hw7]; exact hB6.setCell (p := ⟨w3.heap.size + 1, 4, none⟩) (by dsimp only; omega) _
            have y6 : ∀ o u, #[Value.string ⟨path.toArray⟩, .int .u8 42, .int .i64 0, .string ⟨#[]⟩, .slice none 0 0][o]? = some u → w6.cell? ⟨w3.heap.size + 1, o, none⟩ = some u := fun o u hu => by
              rw [hb6.cell (p := ⟨w3.heap.size + 1, o, none⟩) (by simp [hzJ]), World.cell?_alloc_at _ _ _ _ hzJ.symm]; exact hu
            have y4 := y6 4 _ rfl
            have fy : w6.frozen? ⟨w3.heap.size + 1, 4, none⟩ = false := by rw [hb6.frozen (p := ⟨w3.heap.size + 1, 4, none⟩) (by simp [hzJ]), World.frozen?_alloc_at _ _ _ _ hzJ.symm]
            have z0 : w7.cell? ⟨w3.heap.size + 1, 0, none⟩ = some (.string ⟨path.toArray⟩) := by rw [← hw7, sc_other _ _ _ _ _ (by omega)]; exact y6 0 _ rfl
            have z1 : w7.cell? ⟨w3.heap.size + 1, 1, none⟩ = some (.int .u8 42) := by rw [← hw7, sc_other _ _ _ _ _ (by omega)]; exact y6 1 _ rfl
            have z2 : w7.cell? ⟨w3.heap.size + 1, 2, none⟩ = some (.int .i64 0) := by rw [← hw7, sc_other _ _ _ _ _ (by omega)]; exact y6 2 _ rfl
            have z3 : w7.cell? ⟨w3.heap.size + 1, 3, none⟩ = some (.string ⟨#[]⟩) := by rw [← hw7, sc_other _ _ _ _ _ (by omega)]; exact y6 3 _ rfl
            have z4 : w7.cell? ⟨w3.heap.size + 1, 4, none⟩ = some (.slice va (R.item x.items text).length vc) := by rw [← hw7]; exact sc_same _ _ _ _ _ y4
            have zx : w7.cell? ⟨w3.heap.size, 1, none⟩ = some (.int .u8 x.kind) := by
              rw [hK7.cell (p := ⟨w3.heap.size, 1, none⟩) (by dsimp only; omega) (by dsimp only; omega), hb6.cell (p := ⟨w3.heap.size, 1, none⟩) (by simp [hzJ]; omega), World.cell?_alloc_past _ _ _ (by omega)]; exact x1
            have zB := HG1.out w7 hB7
            have zg := HG2.out w7 hB7
            have zf := HG3.out w7 hB7
            clear y6
            have hit7 : It w7 M ({ path := path, kind := 42, n := 0, text := [], items := R.item x.items text }, .slice va (R.item x.items text).length vc) := Rd.step (M := fun b => M b ∨ b = w3.heap.size + 1) (M' := M) (O := fun b => b = w3.heap.size + 1) (Rd.of_owns ho6 (fun b hb => by
              rcases hb with hb | hb
              · have := hM b hb; simp [hzJ]; omega
              · simp [hzJ]; omega)) hK7 (fun b e => .inr e) (fun b hb => .inl (.inl hb))
            have hset : ∀ W, Below w7.heap.size w7 W → Calls Tryz.prog 170 #[.slice ta t.length tcap, .agg #[.string ⟨path.toArray⟩, .int .u8 42, .int .i64 0, .string ⟨#[]⟩, .slice va (R.item x.items text).length vc]] W fun e w' => ∃ v', e = .returned v' ∧ Tr w' M v' (R.set t { path := path, kind := 42, n := 0, text := [], items := R.item x.items text }) ∧ Below W.heap.size W w' := fun W hW =>
              r_set (.slice ta t.length tcap) t { path := path, kind := 42, n := 0, text := [], items := R.item x.items text } (.slice va (R.item x.items text).length vc) W M ((htr.below hB7).below hW) (Rd.below hit7 hW) (fun b hb => Nat.lt_of_lt_of_le (hM b hb) (Nat.le_trans hB7.size hW.size)) hpg (by dsimp only; omega) (by omega)
            go_wp2
            go_region_with ((go_at_call 170; refine (hset _ (Below.refl _ _).drew).mono ?_; rintro e w5 ⟨v5, rfl, htr5, hb5⟩; have hB5 : Below w1.heap.size w1 w5 := hB7.drew.trans (hb5.mono (by simp; omega)); have m1 := HG1.out w5 hB5; have m2 := HG2.out w5 hB5; have m3 := HG3.out w5 hB5; obtain ⟨va, vc, rfl⟩ := tr_form htr5))
            all_goals go_wp2
            all_goals go_ret
            all_goals exact ⟨ret_int (by rw [HE.out]), by rw [HE.out]; exact HSW.out _ _ _ hB5 htr5⟩
          · have h2 : x.kind = 42 := Classical.byContradiction fun e => h6 ⟨h1, e⟩
            have b2 : (x.kind == 42) = true := by simpa using h2
            have n1 : (x.kind != 0) = true := by rw [bne, b1]; rfl
            have n2 : (x.kind != 42) = false := by rw [bne, b2]; rfl
            clear h6 h1 h2 h4
            go_wp2_with fail
            refine hT.mono ?_
            rintro e w4 ⟨rfl, rfl⟩
            go_wp2_with fail
            refine hBl2.mono ?_
            rintro e w4 ⟨rfl, rfl⟩
            go_wp2_with fail
            refine (hitem _ (Below.refl _ _ |>.alloc (Nat.le_refl _) _)).mono ?_
            rintro e w6 ⟨v6, rfl, ho6, hb6⟩
            obtain ⟨va, vc, rfl, _, _, _, _⟩ := owns_form ho6
            have hz6 := hb6.size
            simp only [World.size_alloc, hzJ] at hz6
            have hB6 : Below w1.heap.size w1 w6 := (hBJ.alloc hsJ _).trans (hb6.mono (by simp; omega))
            generalize hw7 : w6.setCell ⟨w3.heap.size + 1, 4, none⟩ (.slice va (R.item x.items text).length vc) = w7
            have hz7 : w7.heap.size = w6.heap.size := by rw [← hw7]; simp
            have hK7 : Kept (fun b => b = w3.heap.size + 1) w6 w7 := by rw [← hw7]; exact (Kept.refl (fun b => b = w3.heap.size + 1) w6).setCell (p := ⟨w3.heap.size + 1, 4, none⟩) (.inl rfl) _
            have hB7 : Below w1.heap.size w1 w7 := by rw [← hw7]; exact hB6.setCell (p := ⟨w3.heap.size + 1, 4, none⟩) (by dsimp only; omega) _
            have y6 : ∀ o u, #[Value.string ⟨path.toArray⟩, .int .u8 42, .int .i64 0, .string ⟨#[]⟩, .slice none 0 0][o]? = some u → w6.cell? ⟨w3.heap.size + 1, o, none⟩ = some u := fun o u hu => by
              rw [hb6.cell (p := ⟨w3.heap.size + 1, o, none⟩) (by simp [hzJ]), World.cell?_alloc_at _ _ _ _ hzJ.symm]; exact hu
            have y4 := y6 4 _ rfl
            have fy : w6.frozen? ⟨w3.heap.size + 1, 4, none⟩ = false := by rw [hb6.frozen (p := ⟨w3.heap.size + 1, 4, none⟩) (by simp [hzJ]), World.frozen?_alloc_at _ _ _ _ hzJ.symm]
            have z0 : w7.cell? ⟨w3.heap.size + 1, 0, none⟩ = some (.string ⟨path.toArray⟩) := by rw [← hw7, sc_other _ _ _ _ _ (by omega)]; exact y6 0 _ rfl
            have z1 : w7.cell? ⟨w3.heap.size + 1, 1, none⟩ = some (.int .u8 42) := by rw [← hw7, sc_other _ _ _ _ _ (by omega)]; exact y6 1 _ rfl
            have z2 : w7.cell? ⟨w3.heap.size + 1, 2, none⟩ = some (.int .i64 0) := by rw [← hw7, sc_other _ _ _ _ _ (by omega)]; exact y6 2 _ rfl
            have z3 : w7.cell? ⟨w3.heap.size + 1, 3, none⟩ = some (.string ⟨#[]⟩) := by rw [← hw7, sc_other _ _ _ _ _ (by omega)]; exact y6 3 _ rfl
            have z4 : w7.cell? ⟨w3.heap.size + 1, 4, none⟩ = some (.slice va (R.item x.items text).length vc) := by rw [← hw7]; exact sc_same _ _ _ _ _ y4
            have zx : w7.cell? ⟨w3.heap.size, 1, none⟩ = some (.int .u8 x.kind) := by
              rw [hK7.cell (p := ⟨w3.heap.size, 1, none⟩) (by dsimp only; omega) (by dsimp only; omega), hb6.cell (p := ⟨w3.heap.size, 1, none⟩) (by simp [hzJ]; omega), World.cell?_alloc_past _ _ _ (by omega)]; exact x1
            have zB := HG1.out w7 hB7
            have zg := HG2.out w7 hB7
            have zf := HG3.out w7 hB7
            clear y6
            have hit7 : It w7 M ({ path := path, kind := 42, n := 0, text := [], items := R.item x.items text }, .slice va (R.item x.items text).length vc) := Rd.step (M := fun b => M b ∨ b = w3.heap.size + 1) (M' := M) (O := fun b => b = w3.heap.size + 1) (Rd.of_owns ho6 (fun b hb => by
              rcases hb with hb | hb
              · have := hM b hb; simp [hzJ]; omega
              · simp [hzJ]; omega)) hK7 (fun b e => .inr e) (fun b hb => .inl (.inl hb))
            have hset : ∀ W, Below w7.heap.size w7 W → Calls Tryz.prog 170 #[.slice ta t.length tcap, .agg #[.string ⟨path.toArray⟩, .int .u8 42, .int .i64 0, .string ⟨#[]⟩, .slice va (R.item x.items text).length vc]] W fun e w' => ∃ v', e = .returned v' ∧ Tr w' M v' (R.set t { path := path, kind := 42, n := 0, text := [], items := R.item x.items text }) ∧ Below W.heap.size W w' := fun W hW =>
              r_set (.slice ta t.length tcap) t { path := path, kind := 42, n := 0, text := [], items := R.item x.items text } (.slice va (R.item x.items text).length vc) W M ((htr.below hB7).below hW) (Rd.below hit7 hW) (fun b hb => Nat.lt_of_lt_of_le (hM b hb) (Nat.le_trans hB7.size hW.size)) hpg (by dsimp only; omega) (by omega)
            go_wp2
            go_region_with ((go_at_call 170; refine (hset _ (Below.refl _ _).drew).mono ?_; rintro e w5 ⟨v5, rfl, htr5, hb5⟩; have hB5 : Below w1.heap.size w1 w5 := hB7.drew.trans (hb5.mono (by simp; omega)); have m1 := HG1.out w5 hB5; have m2 := HG2.out w5 hB5; have m3 := HG3.out w5 hB5; obtain ⟨va, vc, rfl⟩ := tr_form htr5))
            all_goals go_wp2
            all_goals go_ret
            all_goals exact ⟨ret_int (by rw [HE.out]), by rw [HE.out]; exact HSW.out _ _ _ hB5 htr5⟩
    · rw [hb7] at hBl2
      have HZ : Hid (R.valV 42 t x path n text = (7, x)) := by show _ = _; rw [HV.out, R.putV, if_neg HT.out, if_neg h6, if_pos hb7]
      have HE : Hid (R.change st 42 branch path n text = (7, st)) := by show _ = _; rw [HC.out, HZ.out]; rfl
      rcases bool_eq x.kind 0 with ⟨b1, h1⟩ | ⟨b1, h1⟩
      · have n1 : (x.kind != 0) = false := by rw [bne, b1]; rfl
        clear h6 h1
        go_wp2_with fail
        refine hT.mono ?_
        rintro e w4 ⟨rfl, rfl⟩
        go_wp2_with fail
        refine hBl2.mono ?_
        rintro e w4 ⟨rfl, rfl⟩
        go_wp2
        go_ret
        exact ⟨ret_int (by rw [HE.out]), by rw [HE.out]; exact Step.same hRS hBJ⟩
      · have h2 : x.kind = 42 := Classical.byContradiction fun e => h6 ⟨h1, e⟩
        have b2 : (x.kind == 42) = true := by simpa using h2
        have n1 : (x.kind != 0) = true := by rw [bne, b1]; rfl
        have n2 : (x.kind != 42) = false := by rw [bne, b2]; rfl
        clear h6 h1 h2
        go_wp2_with fail
        refine hT.mono ?_
        rintro e w4 ⟨rfl, rfl⟩
        go_wp2_with fail
        refine hBl2.mono ?_
        rintro e w4 ⟨rfl, rfl⟩
        go_wp2
        go_ret
        exact ⟨ret_int (by rw [HE.out]), by rw [HE.out]; exact Step.same hRS hBJ⟩
end Go.Proofs.YtolgebdmffcemaaGreatDoor
