/-
  How Change of the document's answer (graftref) works: Take.
-/
import Derived.Test.YtolgebdmffcemaaGreatDoorPart21
import Derived.Deep.RegionLaw
import Derived.Deep.AppendLies
set_option linter.unusedVariables false
namespace Go.Proofs.YtolgebdmffcemaaGreatDoor
open Go.RowKit
theorem at_zero (t : List R.Leaf) (path : List UInt8) (h : ∀ y ∈ t, y.kind ≠ 0) : (R.at_ t path).kind = 0 → (R.at_ t path).items = [] := by
  unfold R.at_
  cases e : t.find? (fun x => x.path == path) with
  | none => intro _; rfl
  | some y => intro hk; exact absurd hk (h y (List.mem_of_find?_eq_some e))
set_option maxHeartbeats 3200000 in
set_option maxRecDepth 1000000 in
/-- kind -: Take -/
theorem r_Take (B : Nat) (st : R.St) (branch path text : List UInt8) (n : Int) (w : World) (M O : Nat → Prop) (h : RS w M O B st) (hM : ∀ b, M b → b < w.heap.size) (hf : R.Fine st) (hz : ∀ b ∈ st.brs, ∀ y ∈ b.work, y.kind ≠ 0) (hpl : path.length ≤ maxLen) (htl : text.length ≤ maxLen) (_hn1 : n ≤ 9223372036854775807) (_hn2 : -9223372036854775808 ≤ n) :
    Calls Tryz.prog 122 #[.pointer (some ⟨B, 0, none⟩), .int .u8 45, .string ⟨branch.toArray⟩, .string ⟨path.toArray⟩, .int .i64 n, .string ⟨text.toArray⟩] w fun e w' =>
      e = .returned (.int .i64 (R.change st 45 branch path n text).1) ∧ Step w w' M O B (R.change st 45 branch path n text).2 := by
  have hRS := h
  obtain ⟨cv, bv, LB, LCm, hR⟩ := h
  have c1 := hR.c1
  have hBl := hR.lt B hR.own
  obtain ⟨a, cap, rfl, hnc, hm, hno, hso⟩ := owns_form hR.row
  have HL : Hid (LB.length = st.brs.length) := by show _ = _; rw [← hR.brs, List.length_map]
  have hf0 := r_find B st branch w M O hRS
  unfold maxLen at hm
  rcases R.fndI_cases st.brs branch with ⟨f1, f2⟩ | ⟨f1, f2⟩
  · have HS : Hid (R.change st 45 branch path n text = (5, st)) := by show _ = _; rw [R.change, if_pos (by omega)]
    rw [HS.out]
    rw [f1] at hf0
    clear hso hno f1 f2
    go_enter Tryz.func122, Tryz.ntmps122
    go_wp2_with fail
    refine hf0.mono ?_
    rintro e w1 ⟨rfl, rfl⟩
    go_wp2
    go_ret
    exact ⟨rfl, Step.same hRS (Below.refl _ _)⟩
  cases hip : R.isPath path
  · have HS : Hid (R.change st 45 branch path n text = (2, st)) := by show _ = _; rw [R.change, if_neg (by omega), if_pos hip]
    rw [HS.out]
    rw [f1] at hf0
    have hip' := r_IsPath path w hpl
    rw [hip] at hip'
    clear hso hno f1
    go_enter Tryz.func122, Tryz.ntmps122
    go_wp2_with fail
    refine hf0.mono ?_
    rintro e w1 ⟨rfl, rfl⟩
    go_wp2_with fail
    refine hip'.mono ?_
    rintro e w2 ⟨rfl, hb⟩
    go_wp2
    go_ret
    exact ⟨rfl, Step.same hRS hb⟩
  have hfl : R.fnd st.brs branch < LB.length := by rw [HL.out]; exact f2
  have hwk : R.workOf st branch = (LB[R.fnd st.brs branch]'hfl).1.work := by
    rw [R.workOf, List.getElem?_eq_getElem f2]
    simp [← hR.brs]
  have hmb := hR.mem_brs (List.getElem_mem hfl)
  have htr := hR.work _ (List.getElem_mem hfl)
  have hgood := hf.good _ hmb
  have hfew := hf.few _ hmb
  have hzt := hz _ hmb
  have hip' := r_IsPath path w hpl
  rw [hip] at hip'
  have hp100 : path.length ≤ 100 := by simp [R.isPath] at hip; exact hip.1
  cases a with
  | none => have := (hno rfl).1; omega
  | some ad =>
    obtain ⟨g, rfl, _, hg0, _, hcell⟩ := hso ad rfl
    obtain ⟨-, -, d2⟩ := br_cells hcell _ hfl
    have hgO := hR.rowO g rfl
    have hgl := hR.lt g hgO.1
    have hgf : ∀ o, w.frozen? ⟨g, o, none⟩ = false := by assumption
    have HC : Hid (R.change st 45 branch path n text = if (R.valV 45 (LB[R.fnd st.brs branch]'hfl).1.work (R.at_ (LB[R.fnd st.brs branch]'hfl).1.work path) path n text).1 = 0 then
        (0, R.setWork st (R.fnd st.brs branch) (R.set (LB[R.fnd st.brs branch]'hfl).1.work (R.valV 45 (LB[R.fnd st.brs branch]'hfl).1.work (R.at_ (LB[R.fnd st.brs branch]'hfl).1.work path) path n text).2))
        else ((R.valV 45 (LB[R.fnd st.brs branch]'hfl).1.work (R.at_ (LB[R.fnd st.brs branch]'hfl).1.work path) path n text).1, st)) := by
      show _ = _
      rw [R.change, if_neg (by omega), if_neg (by simp [hip]), hwk]
    obtain ⟨ta, tcap, htv⟩ : ∃ ta tcap, (LB[R.fnd st.brs branch]'hfl).2 = .slice ta (LB[R.fnd st.brs branch]'hfl).1.work.length tcap := by
      obtain ⟨L, hL, ⟨a, cap, e, _⟩, _⟩ := htr
      exact ⟨a, cap, by rw [e, ← hL, List.length_map]⟩
    rw [htv] at htr d2
    rw [f1] at hf0
    have hsw : ∀ (w5 : World) (v' : Value) (t' : List R.Leaf), Below w.heap.size w w5 → Tr w5 M v' t' → Step w (w5.setCell ⟨g, R.fnd st.brs branch * 3 + 2, none⟩ v') M O B (R.setWork st (R.fnd st.brs branch) t') := fun w5 v' t' hb5 ht5 => setWork_RS hR hfl hb5 ht5
    generalize (LB[R.fnd st.brs branch]'hfl).1.work = t at *
    generalize R.fnd st.brs branch = i at *
    have hgx : R.Good (R.at_ t path) := at_good t path hgood (by omega)
    have hat := fun W (hW : Below w.heap.size w W) => r_at (.slice ta t.length tcap) t path W M (htr.below hW)
    have HSW := hide hsw
    have HX0 : Hid ((R.at_ t path).kind = 0 → (R.at_ t path).items = []) := at_zero t path hzt
    have hpg : ∀ y ∈ t, y.path.length ≤ 1000 := fun y hy => (hgood y hy).path
    generalize R.at_ t path = x at *
    clear hso hno f1 hcell hwk htv hmb hip hgood hsw hzt
    go_enter Tryz.func122, Tryz.ntmps122
    go_wp2_with fail
    refine hf0.mono ?_
    rintro e w1 ⟨rfl, rfl⟩
    go_wp2_with fail
    refine hip'.mono ?_
    rintro e w2 ⟨rfl, hb2⟩
    have hs2 := hb2.size
    have e1 := (hb2.cell (p := ⟨B, 1, none⟩) hBl).trans c1
    have e2 := (hb2.cell (p := ⟨g, i * 3 + 2, none⟩) hgl).trans d2
    go_wp2_with fail
    refine (hat _ hb2).mono ?_
    rintro e w3 ⟨iv, rfl, hit, hb3⟩
    obtain ⟨ia, ic, hiv, hi1, hi2, hi3⟩ := hit
    dsimp only at hiv
    subst hiv
    have hit3 : It w3 M (x, .slice ia x.items.length ic) := Rd.below ⟨ia, ic, rfl, hi1, hi2, hi3⟩ hb3
    clear hi1 hi2 hi3 e1 e2
    have hB3 : Below w1.heap.size w1 w3 := hb2.trans (hb3.mono hs2)
    have k1 := (hB3.cell (p := ⟨B, 1, none⟩) hBl).trans c1
    have k2 := (hB3.cell (p := ⟨g, i * 3 + 2, none⟩) hgl).trans d2
    have k3 := (hB3.frozen (p := ⟨g, i * 3 + 2, none⟩) hgl).trans (hgf _)
    have hs3 := hB3.size
    have htr3 : Tr w3 M (.slice ta t.length tcap) t := htr.below hB3
    clear hat hip' hf0 hb2 hb3 hs2
    unfold LC
    dsimp only
    generalize hJ : w3.alloc (.cells #[.string ⟨x.path.toArray⟩, .int .u8 x.kind, .int .i64 x.n, .string ⟨x.text.toArray⟩, .slice ia x.items.length ic] 216) = wJ
    have hBJ : Below w1.heap.size w1 wJ := by rw [← hJ]; exact hB3.alloc hs3 _
    have hzJ : wJ.heap.size = w3.heap.size + 1 := by rw [← hJ]; simp
    have hsJ := hBJ.size
    have j1 := (hBJ.cell (p := ⟨B, 1, none⟩) hBl).trans c1
    have j2 := (hBJ.cell (p := ⟨g, i * 3 + 2, none⟩) hgl).trans d2
    have j3 := (hBJ.frozen (p := ⟨g, i * 3 + 2, none⟩) hgl).trans (hgf _)
    have x0 : wJ.cell? ⟨w3.heap.size, 0, none⟩ = some (.string ⟨x.path.toArray⟩) := by rw [← hJ]; simp
    have x1 : wJ.cell? ⟨w3.heap.size, 1, none⟩ = some (.int .u8 x.kind) := by rw [← hJ]; simp
    have x2 : wJ.cell? ⟨w3.heap.size, 2, none⟩ = some (.int .i64 x.n) := by rw [← hJ]; simp
    have x3 : wJ.cell? ⟨w3.heap.size, 3, none⟩ = some (.string ⟨x.text.toArray⟩) := by rw [← hJ]; simp
    have x4 : wJ.cell? ⟨w3.heap.size, 4, none⟩ = some (.slice ia x.items.length ic) := by rw [← hJ]; simp
    have hitJ : It wJ M (x, .slice ia x.items.length ic) := by rw [← hJ]; exact Rd.below hit3 ((Below.refl _ _).alloc (Nat.le_refl _) _)
    have HG1 : Hid (∀ W, Below w1.heap.size w1 W → W.cell? ⟨B, 1, none⟩ = some (.slice (some ⟨g, 0, none⟩) LB.length cap)) := fun W hW => (hW.cell (p := ⟨B, 1, none⟩) hBl).trans c1
    have HG2 : Hid (∀ W, Below w1.heap.size w1 W → W.cell? ⟨g, i * 3 + 2, none⟩ = some (.slice ta t.length tcap)) := fun W hW => (hW.cell (p := ⟨g, i * 3 + 2, none⟩) hgl).trans d2
    have HG3 : Hid (∀ W, Below w1.heap.size w1 W → W.frozen? ⟨g, i * 3 + 2, none⟩ = false) := fun W hW => (hW.frozen (p := ⟨g, i * 3 + 2, none⟩) hgl).trans (hgf _)
    have a1 : ∀ o, (wJ.alloc o).cell? ⟨B, 1, none⟩ = some (.slice (some ⟨g, 0, none⟩) LB.length cap) := fun o => by rw [World.cell?_alloc_past _ _ _ (by omega)]; exact j1
    have a2 : ∀ o, (wJ.alloc o).cell? ⟨g, i * 3 + 2, none⟩ = some (.slice ta t.length tcap) := fun o => by rw [World.cell?_alloc_past _ _ _ (by omega)]; exact j2
    have a3 : ∀ o, (wJ.alloc o).frozen? ⟨g, i * 3 + 2, none⟩ = false := fun o => by rw [World.frozen?_alloc_past _ _ _ (by omega)]; exact j3
    have htrJ : Tr wJ M (.slice ta t.length tcap) t := htr.below hBJ
    clear hit3 htr3 k1 k2 k3
    have hT := r_IsText ⟨text.toArray⟩ wJ (by simpa [ByteArray.size] using htl)
    simp only at hT
    have hIn := r_in (.slice ia x.items.length ic) x.items text wJ M hitJ
    have HV : Hid (R.valV 45 t x path n text = R.takeV x path text) := by show _ = _; rw [R.valV, if_neg (by decide), if_pos rfl]
    cases hX : R.isText text
    · have HZ : Hid (R.valV 45 t x path n text = (3, x)) := by show _ = _; rw [HV.out, R.takeV, if_pos (by simp [hX])]
      rw [hX] at hT
      have HE : Hid (R.change st 45 branch path n text = (3, st)) := by show _ = _; rw [HC.out, HZ.out]; rfl
      go_wp2_with fail
      refine hT.mono ?_
      rintro e w4 ⟨rfl, rfl⟩
      go_wp2
      go_ret
      exact ⟨ret_int (by rw [HE.out]), by rw [HE.out]; exact Step.same hRS hBJ⟩
    rw [hX] at hT
    cases hE : (text == ([] : List UInt8))
    case true =>
      have HZ : Hid (R.valV 45 t x path n text = (3, x)) := by show _ = _; rw [HV.out, R.takeV, if_pos (by simp [hE])]
      have HE : Hid (R.change st 45 branch path n text = (3, st)) := by show _ = _; rw [HC.out, HZ.out]; rfl
      go_wp2_with fail
      refine hT.mono ?_
      rintro e w4 ⟨rfl, rfl⟩
      go_wp2
      go_ret
      exact ⟨ret_int (by rw [HE.out]), by rw [HE.out]; exact Step.same hRS hBJ⟩
    have HT : Hid (¬ (!R.isText text || text == ([] : List UInt8)) = true) := by intro h; rw [hX, hE] at h; cases h
    by_cases h6 : x.kind ≠ 0 ∧ x.kind ≠ 42
    · have HZ : Hid (R.valV 45 t x path n text = (6, x)) := by show _ = _; rw [HV.out, R.takeV, if_neg HT.out, if_pos h6]
      have b1 : (x.kind == 0) = false := by simpa using h6.1
      have b2 : (x.kind == 42) = false := by simpa using h6.2
      have n1 : (x.kind != 0) = true := by rw [bne, b1]; rfl
      have n2 : (x.kind != 42) = true := by rw [bne, b2]; rfl
      clear h6
      have HE : Hid (R.change st 45 branch path n text = (6, st)) := by show _ = _; rw [HC.out, HZ.out]; rfl
      go_wp2_with fail
      refine hT.mono ?_
      rintro e w4 ⟨rfl, rfl⟩
      go_wp2
      go_ret
      exact ⟨ret_int (by rw [HE.out]), by rw [HE.out]; exact Step.same hRS hBJ⟩
    cases hI : (x.items.any fun y => y == text)
    · rw [hI] at hIn
      have HZ : Hid (R.valV 45 t x path n text = (10, x)) := by show _ = _; rw [HV.out, R.takeV, if_neg HT.out, if_neg h6, if_pos hI]
      have HE : Hid (R.change st 45 branch path n text = (10, st)) := by show _ = _; rw [HC.out, HZ.out]; rfl
      rcases bool_eq x.kind 0 with ⟨b1, h1⟩ | ⟨b1, h1⟩
      · have n1 : (x.kind != 0) = false := by rw [bne, b1]; rfl
        clear h6 h1
        go_wp2_with fail
        refine hT.mono ?_
        rintro e w4 ⟨rfl, rfl⟩
        go_wp2_with fail
        refine hIn.mono ?_
        rintro e w4 ⟨rfl, rfl⟩
        go_wp2
        go_ret
        exact ⟨ret_int (by rw [HE.out]), by rw [HE.out]; exact Step.same hRS hBJ⟩
      · have h2 : x.kind = 42 := Classical.byContradiction fun e => h6 ⟨h1, e⟩
        have b2 : (x.kind == 42) = true := by simpa using h2
        have n1 : (x.kind != 0) = true := by rw [bne, b1]; rfl
        have n2 : (x.kind != 42) = false := by rw [bne, b2]; rfl
        clear h6 h1 h2
        go_wp2_with fail
        refine hT.mono ?_
        rintro e w4 ⟨rfl, rfl⟩
        go_wp2_with fail
        refine hIn.mono ?_
        rintro e w4 ⟨rfl, rfl⟩
        go_wp2
        go_ret
        exact ⟨ret_int (by rw [HE.out]), by rw [HE.out]; exact Step.same hRS hBJ⟩
    · rw [hI] at hIn
      have HZ : Hid (R.valV 45 t x path n text = (0, { path := path, kind := if R.without x.items text = [] then 0 else 42, n := 0, text := [], items := R.without x.items text })) := by show _ = _; rw [HV.out, R.takeV, if_neg HT.out, if_neg h6, if_neg (by simp [hI])]
      have HE : Hid (R.change st 45 branch path n text = (0, R.setWork st i (R.set t { path := path, kind := if R.without x.items text = [] then 0 else 42, n := 0, text := [], items := R.without x.items text }))) := by show _ = _; rw [HC.out, HZ.out]; rfl
      have h1 : x.kind ≠ 0 := fun e => by rw [HX0.out e] at hI; cases hI
      have b1 : (x.kind == 0) = false := by simpa using h1
      have h2 : x.kind = 42 := Classical.byContradiction fun e => h6 ⟨h1, e⟩
      have b2 : (x.kind == 42) = true := by simpa using h2
      have n1 : (x.kind != 0) = true := by rw [bne, b1]; rfl
      have n2 : (x.kind != 42) = false := by rw [bne, b2]; rfl
      clear h6 h1 h2
      go_wp2_with fail
      refine hT.mono ?_
      rintro e w4 ⟨rfl, rfl⟩
      go_wp2_with fail
      refine hIn.mono ?_
      rintro e w4 ⟨rfl, rfl⟩
      have hil := hgx.many
      have HY := hide hitJ
      clear hitJ htrJ
      go_wp2
      generalize hY : w4.alloc (.cells #[.string ⟨path.toArray⟩, .int .u8 0, .int .i64 0, .string ⟨#[]⟩, .slice none 0 0] 216) = wY
      have hzY : wY.heap.size = w3.heap.size + 1 + 1 := by rw [← hY]; simp [hzJ]
      have hJY : Below w4.heap.size w4 wY := by rw [← hY]; exact (Below.refl _ _).alloc (Nat.le_refl _) _
      have hBY : Below w1.heap.size w1 wY := hBJ.trans (hJY.mono hsJ)
      have yc : ∀ o u, #[Value.string ⟨path.toArray⟩, .int .u8 0, .int .i64 0, .string ⟨#[]⟩, .slice none 0 0][o]? = some u → wY.cell? ⟨w3.heap.size + 1, o, none⟩ = some u := fun o u hu => by
        rw [← hY, World.cell?_alloc_at _ _ _ _ hzJ.symm]; exact hu
      have yf : ∀ o, wY.frozen? ⟨w3.heap.size + 1, o, none⟩ = false := fun o => by rw [← hY, World.frozen?_alloc_at _ _ _ _ hzJ.symm]
      have y0 := yc 0 _ rfl
      have y1 := yc 1 _ rfl
      have y2 := yc 2 _ rfl
      have y3 := yc 3 _ rfl
      have y4 := yc 4 _ rfl
      have yx : wY.cell? ⟨w3.heap.size, 4, none⟩ = some (.slice ia x.items.length ic) := (hJY.cell (p := ⟨w3.heap.size, 4, none⟩) (by simp [hzJ])).trans x4
      clear yc hY
      go_loopw [21] (fun i wr => ∃ (k : Nat) (v : Value), k ≤ x.items.length ∧ i = .int .i64 k ∧ wr.cell? ⟨w3.heap.size + 1, 4, none⟩ = some v ∧ wr.ownsRow (w3.heap.size + 2) 9 1 v (R.without (x.items.take k) text).length ((R.without (x.items.take k) text).map S) ∧
          wr.cell? ⟨w3.heap.size + 1, 1, none⟩ = some (.int .u8 (if R.without (x.items.take k) text = [] then 0 else 42)) ∧ wr.cell? ⟨w3.heap.size + 1, 0, none⟩ = some (.string ⟨path.toArray⟩) ∧ wr.cell? ⟨w3.heap.size + 1, 2, none⟩ = some (.int .i64 0) ∧ wr.cell? ⟨w3.heap.size + 1, 3, none⟩ = some (.string ⟨#[]⟩) ∧
          (∀ o, wr.frozen? ⟨w3.heap.size + 1, o, none⟩ = false) ∧ Below (w3.heap.size + 1) wY wr) (fun i _ => x.items.length - (intOf i).toNat)
      case atStart => exact ⟨0, .slice none 0 0, Nat.zero_le _, rfl, y4, World.ownsRow_nil _ _ _ _, y1, y0, y2, y3, yf, Below.refl _ _⟩
      case round =>
        obtain ⟨k, v, hk, rfl, q4, qo, q1, q0, q2, q3, qf, qb⟩ := hrel
        have hqs := qb.size
        have qx := (qb.cell (p := ⟨w3.heap.size, 4, none⟩) (Nat.lt_succ_self _)).trans yx
        have hBr : Below w1.heap.size w1 wr := hBY.trans (qb.mono (by omega))
        obtain ⟨va, vc, rfl, _, _, _, _⟩ := owns_form qo
        have hwl : (R.without (x.items.take k) text).length ≤ 100 := Nat.le_trans (List.length_filter_le _ _) (Nat.le_trans (List.length_take_le' _ _) hil)
        clear y0 y1 y2 y3 y4 yf yx
        by_cases hlt : k < x.items.length
        · obtain ⟨b, off, hia, hbb, hcb⟩ : ∃ b off, ia = some ⟨b, off, none⟩ ∧ b < w3.heap.size + 1 ∧ w4.cell? ⟨b, off + k, none⟩ = some (.string ⟨x.items[k].toArray⟩) := by
            obtain ⟨a0, c0, e0, _, _, hh⟩ := HY.out
            obtain ⟨b, off, rfl, hb, _, hc⟩ := hh (by dsimp only; omega)
            simp only [Value.slice.injEq] at e0
            exact ⟨b, off, e0.1, by omega, hc k _ (by simp [S, hlt])⟩
          subst hia
          have qi : wr.cell? ⟨b, off + k, none⟩ = some (.string ⟨x.items[k].toArray⟩) := (qb.cell (p := ⟨b, off + k, none⟩) hbb).trans ((hJY.cell (p := ⟨b, off + k, none⟩) (by rw [hzJ]; exact hbb)).trans hcb)
          clear hcb
          have HWs : Hid (R.without (x.items.take (k + 1)) text = R.without (x.items.take k) text ++ if x.items[k] == text then [] else [x.items[k]]) := by
            show _ = _
            rw [R.without, List.take_succ_eq_append_getElem hlt, List.filter_append]
            cases hq : (x.items[k] == text) <;> simp [R.without, hq]
          cases hkt : (x.items[k] == text)
          · have HKT := hide hkt
            generalize hS : wr.setCell ⟨w3.heap.size + 1, 1, none⟩ (.int .u8 42) = wS
            have hzS : w3.heap.size + 1 + 1 ≤ wS.heap.size := by rw [← hS]; simp; omega
            have hKS : Kept (fun b => b = w3.heap.size + 1) wr wS := by rw [← hS]; exact (Kept.refl (fun b => b = w3.heap.size + 1) wr).setCell (p := ⟨w3.heap.size + 1, 1, none⟩) (.inl rfl) _
            have s4 : wS.cell? ⟨w3.heap.size + 1, 4, none⟩ = some (.slice va (R.without (x.items.take k) text).length vc) := by rw [← hS, sc_other _ _ _ _ _ (by omega)]; exact q4
            have s0 : wS.cell? ⟨w3.heap.size + 1, 0, none⟩ = some (.string ⟨path.toArray⟩) := by rw [← hS, sc_other _ _ _ _ _ (by omega)]; exact q0
            have s2 : wS.cell? ⟨w3.heap.size + 1, 2, none⟩ = some (.int .i64 0) := by rw [← hS, sc_other _ _ _ _ _ (by omega)]; exact q2
            have s3 : wS.cell? ⟨w3.heap.size + 1, 3, none⟩ = some (.string ⟨#[]⟩) := by rw [← hS, sc_other _ _ _ _ _ (by omega)]; exact q3
            have s1 : wS.cell? ⟨w3.heap.size + 1, 1, none⟩ = some (.int .u8 42) := by rw [← hS]; exact sc_same _ _ _ _ _ q1
            have sx := (hKS.cell (p := ⟨w3.heap.size, 4, none⟩) (by dsimp only; omega) (by dsimp only; omega)).trans qx
            have si := (hKS.cell (p := ⟨b, off + k, none⟩) (by dsimp only; omega) (by dsimp only; omega)).trans qi
            have sf : ∀ o, wS.frozen? ⟨w3.heap.size + 1, o, none⟩ = false := fun o => by rw [← hS, World.frozen?_setCell]; exact qf o
            have so := ownsRow_kept qo hKS (fun g hg e => by have := (qo.lt g hg).1; omega)
            have sb : Below (w3.heap.size + 1) wY wS := by rw [← hS]; exact qb.setCell (p := ⟨w3.heap.size + 1, 1, none⟩) (Nat.le_refl _) _
            have q1f := qf 1
            have HRY : Hid (∀ o j u, wS.cell? ⟨w3.heap.size + 1, j, none⟩ = some u → (wS.alloc o).cell? ⟨w3.heap.size + 1, j, none⟩ = some u) := fun o j u h => by rw [World.cell?_alloc_past _ _ _ (by omega)]; exact h
            have HRF : Hid (∀ o j, (wS.alloc o).frozen? ⟨w3.heap.size + 1, j, none⟩ = false) := fun o j => by rw [World.frozen?_alloc_past _ _ _ (by omega)]; exact sf j
            have HSB : Hid (∀ o, Below (w3.heap.size + 1) wY (wS.alloc o)) := fun o => sb.alloc (by omega) o
            have r4 : ∀ o, (wS.alloc o).cell? ⟨w3.heap.size + 1, 4, none⟩ = some (.slice va (R.without (x.items.take k) text).length vc) := fun o => by rw [World.cell?_alloc_past _ _ _ (by omega)]; exact s4
            have rx : ∀ o, (wS.alloc o).cell? ⟨w3.heap.size, 4, none⟩ = some (.slice (some ⟨b, off, none⟩) x.items.length ic) := fun o => by rw [World.cell?_alloc_past _ _ _ (by omega)]; exact sx
            have rf : ∀ o, (wS.alloc o).frozen? ⟨w3.heap.size + 1, 4, none⟩ = false := fun o => by rw [World.frozen?_alloc_past _ _ _ (by omega)]; exact sf 4
            obtain ⟨i0, hi, hz0, hz1, hz2⟩ := info_parts Tryz.info9
            go_wp2
            go_region_law ((refine step_append_lies _ (by rfl) _ _ 45 (by rfl) (w3.heap.size + 2) 9 i0 (.string ⟨#[]⟩) 1 16 Tryz.underlying45 hi hz0 hz1 hz2 rfl (by decide) _ _ _ (by rfl) (by exact so.alloc _) ⟨wS.heap.size, 0, none⟩ 1 1 [.string ⟨x.items[k].toArray⟩] (by rfl) rfl (by exact cells_of_new wS #[.string ⟨x.items[k].toArray⟩] 9) (by intro u hu; simp at hu; subst hu; rfl) (by decide) (by unfold maxLen; omega) (by omega) (by simp; omega) (wS.heap.size + 1) (by simp) ?_; intro gg cc w8 ho8 hg8 hat8 hlt8; have c8 : w8.cell? ⟨w3.heap.size + 1, 4, none⟩ = some (.slice va (R.without (x.items.take k) text).length vc) := hg8.cell (by exact r4 _) (fun e => by have := (so.lt _ e.symm).1; dsimp only at this; omega); have f8 : ∀ o, w8.frozen? ⟨w3.heap.size + 1, o, none⟩ = false := fun o => (World.frozen?_of_block (a := ⟨w3.heap.size + 1, o, none⟩) (hg8.block (w3.heap.size + 1) (by simp; omega) (fun e => by have := (so.lt _ e.symm).1; omega))).trans (by exact HRF.out _ o); have f84 := f8 4; have e0 := hg8.cell (a := ⟨w3.heap.size + 1, 0, none⟩) (by exact HRY.out _ 0 _ s0) (fun e => by have := (so.lt _ e.symm).1; dsimp only at this; omega); have e1 := hg8.cell (a := ⟨w3.heap.size + 1, 1, none⟩) (by exact HRY.out _ 1 _ s1) (fun e => by have := (so.lt _ e.symm).1; dsimp only at this; omega); have e2 := hg8.cell (a := ⟨w3.heap.size + 1, 2, none⟩) (by exact HRY.out _ 2 _ s2) (fun e => by have := (so.lt _ e.symm).1; dsimp only at this; omega); have e3 := hg8.cell (a := ⟨w3.heap.size + 1, 3, none⟩) (by exact HRY.out _ 3 _ s3) (fun e => by have := (so.lt _ e.symm).1; dsimp only at this; omega); have b8 : Below (w3.heap.size + 1) wY w8 := Below.grown (by exact (HSB.out _).drew) hg8 (by simp; omega) (fun j hj => by have := (so.lt j hj).1; omega)))
            all_goals
              go_wp2
              go_roundw
              case rel =>
                have e : R.without (x.items.take (k + 1)) text = R.without (x.items.take k) text ++ [x.items[k]] := by rw [HWs.out, HKT.out]; simp
                refine ⟨k + 1, _, by omega, by go_num, sc_same _ _ _ _ _ c8, ?_, ?_, ?_, ?_, ?_, ?_, ?_⟩
                · rw [e, List.length_append, List.map_append]
                  exact ownsRow_kept ho8 ((Kept.refl (fun b => b = w3.heap.size + 1) w8).setCell (p := ⟨w3.heap.size + 1, 4, none⟩) (.inl rfl) _) (fun g hg e => by have := (ho8.lt g hg).1; omega)
                · rw [sc_other _ _ _ _ _ (by omega), e1, e, if_neg (by simp)]
                · rw [sc_other _ _ _ _ _ (by omega)]; exact e0
                · rw [sc_other _ _ _ _ _ (by omega)]; exact e2
                · rw [sc_other _ _ _ _ _ (by omega)]; exact e3
                · intro o; rw [World.frozen?_setCell]; exact f8 o
                · exact b8.setCell (p := ⟨w3.heap.size + 1, 4, none⟩) (Nat.le_refl _) _
              case measure => simp [intOf]; omega
          · have HKT := hide hkt
            go_wp2
            go_roundw
            case rel =>
              have e : R.without (x.items.take (k + 1)) text = R.without (x.items.take k) text := by rw [HWs.out, HKT.out]; simp
              rw [← e] at q4 qo q1
              exact ⟨k + 1, _, by omega, by go_num, q4, qo, q1, q0, q2, q3, qf, qb⟩
            case measure => simp [intOf]; omega
        · have HW : Hid (R.without (x.items.take k) text = R.without x.items text) := by show _ = _; rw [List.take_of_length_le (by omega)]
          rw [HW.out] at q4 qo q1 hwl
          obtain ⟨kd, HKD⟩ : ∃ kd : Int, Hid ((if R.without x.items text = [] then (0 : Int) else 42) = kd) := ⟨_, rfl⟩
          rw [HKD.out] at q1
          have HE2 : Hid (R.change st 45 branch path n text = (0, R.setWork st i (R.set t { path := path, kind := kd, n := 0, text := [], items := R.without x.items text }))) := by show _ = _; rw [HE.out, HKD.out]
          have hit9 : It wr M ({ path := path, kind := kd, n := 0, text := [], items := R.without x.items text }, .slice va (R.without x.items text).length vc) := Rd.of_owns qo (fun b hb => by have := hM b hb; omega)
          have hset : ∀ W, Below wr.heap.size wr W → Calls Tryz.prog 170 #[.slice ta t.length tcap, .agg #[.string ⟨path.toArray⟩, .int .u8 kd, .int .i64 0, .string ⟨#[]⟩, .slice va (R.without x.items text).length vc]] W fun e w' => ∃ v', e = .returned v' ∧ Tr w' M v' (R.set t { path := path, kind := kd, n := 0, text := [], items := R.without x.items text }) ∧ Below W.heap.size W w' := fun W hW =>
            r_set (.slice ta t.length tcap) t { path := path, kind := kd, n := 0, text := [], items := R.without x.items text } (.slice va (R.without x.items text).length vc) W M ((htr.below hBr).below hW) (Rd.below hit9 hW) (fun b hb => Nat.lt_of_lt_of_le (hM b hb) (Nat.le_trans hBr.size hW.size)) hpg (by dsimp only; omega) (by omega)
          have zB := HG1.out wr hBr
          have zg := HG2.out wr hBr
          have zf := HG3.out wr hBr
          have hsr := hBr.size
          clear HE
          go_wp2
          go_region_with ((go_at_call 170; refine (hset _ (Below.refl _ _).drew).mono ?_; rintro e w5 ⟨v5, rfl, htr5, hb5⟩; have hB5 : Below w1.heap.size w1 w5 := hBr.drew.trans (hb5.mono (by simp; omega)); have m1 := HG1.out w5 hB5; have m2 := HG2.out w5 hB5; have m3 := HG3.out w5 hB5; obtain ⟨va, vc, rfl⟩ := tr_form htr5))
          all_goals go_wp2
          all_goals go_ret
          all_goals exact ⟨ret_int (by rw [HE2.out]), by rw [HE2.out]; exact HSW.out _ _ _ hB5 htr5⟩
end Go.Proofs.YtolgebdmffcemaaGreatDoor
