/-
  The program's Add, Note, Put, Take, Delete (over Store.change): as the document's answer has them.
-/
import Derived.Test.YtolgebdmffcemaaGreatDoorPart15
import Derived.Test.YtolgebdmffcemaaGreatDoorPart18
import Derived.Test.YtolgebdmffcemaaGreatDoorPart20
import Derived.Test.YtolgebdmffcemaaGreatDoorPart21
set_option linter.unusedVariables false
namespace Go.Proofs.YtolgebdmffcemaaGreatDoor
open Go.RowKit
set_option maxHeartbeats 400000 in
theorem g_Put1 (tv : Value) (t : List R.Leaf) (path : List UInt8) (text : List UInt8) (w : World) (M : Nat → Prop) (p0 p1 : Nat) (hM : ∀ b, M b → b < w.heap.size) (h : PT w M tv t) (hok : OkT t) (hs : R.isPath path = true) (htl : text.length ≤ maxLen)
    (hc0 : w.cell? ⟨p0, 0, none⟩ = some (.string ⟨path.toArray⟩)) (hc1 : w.cell? ⟨p1, 0, none⟩ = some (.string ⟨text.toArray⟩)) :
    Calls Tryz.prog 60 #[tv, .pointer (some ⟨p0, 0, none⟩), .pointer (some ⟨p1, 0, none⟩)] w fun e w' => Left1 w w' M e t (R.putV t (R.at_ t path) path text) := by
  have hin := g_put tv t path text w M hM h hok hs htl
  clear h hok
  go_enter Tryz.func60, Tryz.ntmps60
  go_wp2_with fail
  refine hin.mono ?_
  rintro e w1 ⟨va, vn, vc, rfl, hp, hb⟩
  go_wp2
  go_ret2
  exact ⟨va, vn, vc, rfl, hp, hb⟩
set_option maxHeartbeats 800000 in
set_option maxRecDepth 1000000 in
theorem g_change_Put (B : Nat) (st : R.St) (branch path : List UInt8) (text : List UInt8) (w : World) (M O : Nat → Prop) (p0 p1 : Nat) (h : PS w M O B st) (hM : ∀ b, M b → b < w.heap.size) (hi : Inv st) (hG : Glob w) (hpl : path.length ≤ maxLen) (htl : text.length ≤ maxLen)
    (hp0 : p0 < w.heap.size) (hp1 : p1 < w.heap.size) (hc0 : w.cell? ⟨p0, 0, none⟩ = some (.string ⟨path.toArray⟩)) (hc1 : w.cell? ⟨p1, 0, none⟩ = some (.string ⟨text.toArray⟩)) :
    Calls Tryz.prog 55 #[.pointer (some ⟨B, 0, none⟩), .string ⟨branch.toArray⟩, .string ⟨path.toArray⟩, .func (.func 60) #[] #[.pointer (some ⟨p0, 0, none⟩), .pointer (some ⟨p1, 0, none⟩)]] w fun e w' => e = .returned (.int .i64 (R.change st 42 branch path 0 text).1) ∧ PStep w w' M O B (R.change st 42 branch path 0 text).2 := by
  have hPS := h
  obtain ⟨bv, cv, LB, LCm, hP⟩ := h
  have hfd := g_find hP hi branch
  obtain ⟨mx, hmx⟩ := hG.mx
  have hip := fun W (hW : Below w.heap.size w W) => g_isPath path W hpl mx (by rw [hW.cell (p := ⟨0, 0, none⟩) (by have := hG.size; show 0 < _; omega)]; exact hmx)
  have HPS := hide3 hPS
  by_cases hf : R.fnd st.brs branch < st.brs.length
  · obtain ⟨hl, ha, he, _, hwk⟩ := brAddr_some hP branch hf
    have hnn : ¬ R.fndI st.brs branch < 0 := by rw [R.fndI, if_pos hf]; omega
    cases hpa : R.isPath path
    · have HR : Hid (R.change st 42 branch path 0 text = (2, st)) := by show _ = _; rw [R.change, if_neg hnn, if_pos hpa]
      rw [hpa] at hip
      rw [ha] at hfd
      generalize (LB[R.fnd st.brs branch]'hl).2.1 = bb at *
      clear hPS hi hP hf hnn hpa he ha hwk
      go_enter Tryz.func55, Tryz.ntmps55
      go_wp2_with fail
      refine hfd.mono ?_
      rintro e w1 ⟨rfl, hw1⟩
      subst hw1
      go_wp2_with fail
      refine (hip _ (Below.refl _ _)).mono ?_
      rintro e w2 ⟨rfl, hb2⟩
      go_wp2
      go_ret
      exact ⟨ret_int (by rw [HR.out]), by rw [HR.out]; exact PStep.same HPS.out hb2⟩
    · have hat := hP.at_ _ (List.getElem_mem hl)
      have hblk := hP.blk _ (List.getElem_mem hl)
      have hbl := hP.lt _ hblk.1
      rw [hpa] at hip
      rw [ha] at hfd
      have HSet : Hid (∀ (tv : Value) (t : List R.Leaf) (w5 : World), Below w.heap.size w w5 → PT w5 M tv t → PStep w (w5.setCell ⟨(LB[R.fnd st.brs branch]'hl).2.1, 2, none⟩ tv) M O B (R.setWork st (R.fnd st.brs branch) t)) := fun tv t w5 hb ht => setWork_PS hP hl hb ht
      have hokt := workOf_ok hi branch
      have hpt := hat.work
      rw [← hwk] at hpt
      have c2 := hat.c2
      have fr2 := hat.fr 2
      obtain ⟨ta, tc, htv⟩ := pt_form hpt
      rw [htv] at c2 hpt
      have HCh : Hid (R.change st 42 branch path 0 text = if (R.putV (R.workOf st branch) (R.at_ (R.workOf st branch) path) path text).1 = 0 then (0, R.setWork st (R.fnd st.brs branch) (R.set (R.workOf st branch) (R.putV (R.workOf st branch) (R.at_ (R.workOf st branch) path) path text).2)) else ((R.putV (R.workOf st branch) (R.at_ (R.workOf st branch) path) path text).1, st)) := by
        show _ = _
        rw [R.change, if_neg hnn, if_neg (by rw [hpa]; simp)]; rfl
      have hadd := fun W (hW : Below w.heap.size w W) => g_Put1 (.slice ta (R.workOf st branch).length tc) (R.workOf st branch) path text W M p0 p1 (fun b hb => by have := hM b hb; have := hW.size; omega) (hpt.below hW) hokt hpa htl (by rw [hW.cell (p := ⟨p0, 0, none⟩) hp0]; exact hc0) (by rw [hW.cell (p := ⟨p1, 0, none⟩) hp1]; exact hc1)
      generalize (LB[R.fnd st.brs branch]'hl).2.1 = bb at *
      clear hPS hi hP hf hnn hpa he ha hwk hpt hat hokt htv hc0 hc1
      generalize R.workOf st branch = t at *
      generalize R.putV t (R.at_ t path) path text = r at *
      have HS0 := HPS.out
      go_enter Tryz.func55, Tryz.ntmps55
      go_wp2_with fail
      refine hfd.mono ?_
      rintro e w1 ⟨rfl, hw1⟩
      subst hw1
      go_wp2_with fail
      refine (hip _ (Below.refl _ _)).mono ?_
      rintro e w2 ⟨rfl, hb2⟩
      have d2 := (hb2.cell (p := ⟨bb, 2, none⟩) hbl).trans c2
      go_wp2_with fail
      refine (hadd _ hb2).mono ?_
      rintro e w3 ⟨va, vn, vc, rfl, hp3, hb3⟩
      have hB3 := hb2.trans (hb3.mono hb2.size)
      by_cases hr : r.1 = 0
      · have b1 : (r.1 == 0) = true := by simpa using hr
        have b2 : (r.1 != 0) = false := by simp [hr]
        have d3 := (hB3.cell (p := ⟨bb, 2, none⟩) hbl).trans c2
        have f3 := (hB3.frozen (p := ⟨bb, 2, none⟩) hbl).trans fr2
        have HP3 := hide3 (hp3 hr)
        have HR := hide3 hr
        clear hr hp3 d2
        go_wp2
        go_ret
        rw [HCh.out, if_pos HR.out]
        exact ⟨rfl, HSet.out _ _ _ hB3 HP3.out⟩
      · have b1 : (r.1 == 0) = false := by simpa using hr
        have b2 : (r.1 != 0) = true := by simp [hr]
        have HR := hide3 hr
        clear hr hp3 d2
        go_wp2
        go_ret
        rw [HCh.out, if_neg HR.out]
        exact ⟨rfl, PStep.same HPS.out hB3⟩
  · have hnn : R.fndI st.brs branch < 0 := by rw [R.fndI, if_neg hf]; omega
    have HR : Hid (R.change st 42 branch path 0 text = (5, st)) := by show _ = _; rw [R.change, if_pos hnn]
    have ha : brAddr LB st branch = none := by rw [brAddr, if_neg hf]
    rw [ha] at hfd
    clear hPS hi hP hf hnn ha
    go_enter Tryz.func55, Tryz.ntmps55
    go_wp2_with fail
    refine hfd.mono ?_
    rintro e w1 ⟨rfl, hw1⟩
    subst hw1
    go_wp2
    go_ret
    exact ⟨ret_int (by rw [HR.out]), by rw [HR.out]; exact PStep.same HPS.out (Below.refl _ _)⟩
theorem PStep.afterPut {w w1 w2 : World} {M O : Nat → Prop} {B : Nat} {st : R.St} (hb : Below w.heap.size w w1) (h : PStep w1 w2 M O B st) : PStep w w2 M O B st := by
  obtain ⟨O', h1, h2, h3⟩ := h
  refine ⟨O', h1, (Kept.of_below hb).trans h2, fun b e => ?_⟩
  rcases h3 b e with e | e
  · exact .inl e
  · exact .inr (Nat.le_trans hb.size e)
set_option maxHeartbeats 400000 in
theorem g_Put (B : Nat) (st : R.St) (branch path : List UInt8) (text : List UInt8) (w : World) (M O : Nat → Prop) (h : PS w M O B st) (hM : ∀ b, M b → b < w.heap.size) (hi : Inv st) (hG : Glob w) (hpl : path.length ≤ maxLen) (htl : text.length ≤ maxLen) :
    Calls Tryz.prog 31 #[.pointer (some ⟨B, 0, none⟩), .string ⟨branch.toArray⟩, .string ⟨path.toArray⟩, .string ⟨text.toArray⟩] w fun e w' => e = .returned (.int .i64 (R.change st 42 branch path 0 text).1) ∧ PStep w w' M O B (R.change st 42 branch path 0 text).2 := by
  have hB : Below w.heap.size w ((w.alloc (Obj.cells #[.string ⟨path.toArray⟩] 9)).alloc (Obj.cells #[.string ⟨text.toArray⟩] 9)) := ((Below.refl _ _).alloc (Nat.le_refl _) _).alloc (by simp) _
  have hch := g_change_Put B st branch path text ((w.alloc (Obj.cells #[.string ⟨path.toArray⟩] 9)).alloc (Obj.cells #[.string ⟨text.toArray⟩] 9)) M O w.heap.size (w.heap.size + 1) (h.below hB) (fun b hb => by have := hM b hb; simp; omega) hi (hG.below hB) hpl htl (by simp <;> omega) (by simp <;> omega) (by simp) (by simp)
  clear h
  go_enter Tryz.func31, Tryz.ntmps31
  go_wp2_with fail
  refine hch.mono ?_
  rintro e w1 ⟨rfl, hst⟩
  go_wp2
  go_ret
  exact ⟨rfl, hst.afterPut hB⟩
end Go.Proofs.YtolgebdmffcemaaGreatDoor
