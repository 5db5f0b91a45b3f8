/-
  The program's changes to a tree (tree.take): as the document's answer has it.
  The program's Add, Note, Put, Take, Delete (over Store.change): as the document's answer has them.
  How Change of the document's answer (graftref) works: Delete.
-/
import Derived.Test.YtolgebdmffcemaaGreatDoorPart18
import Derived.Test.YtolgebdmffcemaaGreatDoorPart20
import Derived.Test.YtolgebdmffcemaaGreatDoorPart15
import Derived.Test.YtolgebdmffcemaaGreatDoorPart17
set_option linter.unusedVariables false
namespace Go.Proofs.YtolgebdmffcemaaGreatDoor
open Go.RowKit
set_option maxHeartbeats 1600000 in
set_option maxRecDepth 1000000 in
theorem g_take (v : Value) (t : List R.Leaf) (s text : List UInt8) (w : World) (M : Nat → Prop) (hM : ∀ b, M b → b < w.heap.size) (h : PT w M v t) (hok : OkT t) (hs : R.isPath s = true) (htl : text.length ≤ maxLen) :
    Calls Tryz.prog 63 #[v, .string ⟨s.toArray⟩, .string ⟨text.toArray⟩] w fun e w' => Left1 w w' M e t (R.takeV (R.at_ t s) s text) := by
  have hfew := hok.few
  have htx := g_isItem text w htl
  have hot := g_otherKind v t s 3 w M h (by omega) hok.sort
  have hat := fun W (hW : Below w.heap.size w W) => g_at v t s W M (h.below hW) (by omega) hok.sort
  have hAt := atX hok s
  have HM := hide3 hM
  have HWith := fun W (hW : Below w.heap.size w W) (y : R.Leaf) (iv : Value) (hit : It W M (y, iv)) (hp : y.path = s) (hx : y.kind = 0 ∨ OkL y) (h0 : y.kind = 0 → pk y = 0) => g_with v t y iv W M (fun b hb => by have := hM b hb; have := hW.size; omega) (h.below hW) hok (by rw [hp]; exact hs) hit hx h0
  clear h hok hM
  generalize R.at_ t s = x at *
  by_cases c0 : (!R.isText text || text == []) = true
  · have HR : Hid (R.takeV x s text = (3, x)) := by show _ = _; rw [R.takeV, if_pos c0]
    rw [c0] at htx
    clear hAt c0 HWith
    go_enter Tryz.func63, Tryz.ntmps63
    go_wp2_with fail
    refine htx.mono ?_
    rintro e w0 ⟨rfl, hw0⟩
    subst hw0
    go_wp2
    go_ret2
    exact ⟨none, 0, 0, ret_ti (by rw [HR.out]), (fun h => by rw [HR.out] at h; cases h), Below.refl _ _⟩
  have c0' : (!R.isText text || text == []) = false := by simpa using c0
  rw [c0'] at htx
  by_cases c1 : x.kind ≠ 0 ∧ x.kind ≠ 42
  · have e1 : ((pk x != 0) && (pk x != 3)) = true := by
      rw [hAt.oth 3 42 (by simp)]; exact decide_eq_true c1
    have HR : Hid (R.takeV x s text = (6, x)) := by show _ = _; rw [R.takeV, if_neg c0, if_pos c1]
    rw [e1] at hot
    clear hAt c1 e1 c0 c0' HWith
    go_enter Tryz.func63, Tryz.ntmps63
    go_wp2_with fail
    refine htx.mono ?_
    rintro e w0 ⟨rfl, hw0⟩
    subst hw0
    go_wp2_with fail
    refine hot.mono ?_
    rintro e w1 ⟨rfl, hb1⟩
    go_wp2
    go_ret2
    exact ⟨none, 0, 0, ret_ti (by rw [HR.out]), (fun h => by rw [HR.out] at h; cases h), hb1⟩
  have e1 : ((pk x != 0) && (pk x != 3)) = false := by
    rw [hAt.oth 3 42 (by simp)]; exact decide_eq_false c1
  rw [e1] at hot
  have hk : x = R.none s ∨ (OkL x ∧ x.kind = 42) := by
    rcases hAt.kinds with k | k | k | k
    · exact .inl k.2.2
    · exact absurd ⟨by rw [k.1]; decide, by rw [k.1]; decide⟩ c1
    · exact absurd ⟨by rw [k.1]; decide, by rw [k.1]; decide⟩ c1
    · exact .inr ⟨k.2.2, k.1⟩
  have hsI : SortedI x.items ∧ x.items.length ≤ 8 := by
    rcases hk with hk | ⟨hk, _⟩
    · rw [hk]; exact ⟨fun i j hi => by simp [R.none] at hi, by simp [R.none]⟩
    · exact ⟨hk.sort, hk.many⟩
  have HHas := fun W (ia : Option Addr) (ic : Nat) (hit : It W M (x, .slice ia x.items.length ic)) => g_hasItem x (.slice ia x.items.length ic) text W M hit (by have := hsI.2; omega) hsI.1
  have HC0 := hide3 c0
  have HC1 := hide3 c1
  cases hany : (x.items.any fun y => y == text)
  · have HR : Hid (R.takeV x s text = (10, x)) := by show _ = _; rw [R.takeV, if_neg HC0.out, if_neg HC1.out, if_pos hany]
    rw [hany] at HHas
    clear hAt c1 e1 c0 c0' HWith hk hsI hany
    go_enter Tryz.func63, Tryz.ntmps63
    go_wp2_with fail
    refine htx.mono ?_
    rintro e w0 ⟨rfl, hw0⟩
    subst hw0
    go_wp2_with fail
    refine hot.mono ?_
    rintro e w1 ⟨rfl, hb1⟩
    go_wp2_with fail
    refine (hat _ hb1).mono ?_
    rintro e w2 ⟨ia, ic, rfl, hit, hb2⟩
    have hB2 := hb1.trans (hb2.mono hb1.size)
    go_wp2_with fail
    refine (HHas _ ia ic (Rd.below hit (by first | exact hb2 | exact hb2.alloc hb2.size _))).mono ?_
    rintro e w3 ⟨rfl, hb3⟩
    go_wp2
    go_ret2
    exact ⟨none, 0, 0, ret_ti (by rw [HR.out]), (fun h => by rw [HR.out] at h; cases h), by first | exact hB2.trans (hb3.mono hB2.size) | exact (hB2.alloc hB2.size _).trans (hb3.mono (by simp; exact Nat.le_succ_of_le hB2.size))⟩
  · have hko : OkL x := by
      rcases hk with hk | hk
      · rw [hk] at hany; simp [R.none] at hany
      · exact hk.1
    have HR : Hid (R.takeV x s text = (0, lessOf x text)) := by
      show _ = _
      rw [R.takeV, if_neg HC0.out, if_neg HC1.out, if_neg (by rw [hany]; simp), lessOf, hAt.path]
    have HWo := fun W (hW : Below w.heap.size w W) (ia : Option Addr) (ic : Nat) (hit : It W M (x, .slice ia x.items.length ic)) => g_withoutItem x (.slice ia x.items.length ic) text W M (fun b hb => by have := HM.out b hb; have := hW.size; omega) hit hko hany
    have hOK : (lessOf x text).kind = 0 ∨ OkL (lessOf x text) := by
      by_cases hw : R.without x.items text = []
      · left; simp [lessOf, hw]
      · right
        refine ⟨hko.path, .inr (.inr ⟨by simp [lessOf, hw], rfl, rfl, hw⟩), by simp [lessOf], by simp [lessOf], rfl, ?_, fun i hi => hko.item i (List.mem_filter.1 hi).1, SortK.i (List.Pairwise.sublist List.filter_sublist hko.sort.k)⟩
        have := List.length_filter_le (fun y : List UInt8 => !(y == text)) x.items
        have := hko.many
        simp only [lessOf, R.without]; omega
    have h0 : (lessOf x text).kind = 0 → pk (lessOf x text) = 0 := fun e => by unfold pk; rw [e]; simp
    have HWith' := fun W hW iv hit => HWith W hW (lessOf x text) iv hit hAt.path hOK h0
    have hpb : (lessOf x text).path = s := hAt.path
    simp only [hpb] at HWith'
    rw [hany] at HHas
    clear hAt c1 e1 c0 c0' HWith hk hsI hany hko hOK h0 hpb
    go_enter Tryz.func63, Tryz.ntmps63
    go_wp2_with fail
    refine htx.mono ?_
    rintro e w0 ⟨rfl, hw0⟩
    subst hw0
    go_wp2_with fail
    refine hot.mono ?_
    rintro e w1 ⟨rfl, hb1⟩
    go_wp2_with fail
    refine (hat _ hb1).mono ?_
    rintro e w2 ⟨ia, ic, rfl, hit, hb2⟩
    have hB2 := hb1.trans (hb2.mono hb1.size)
    go_wp2_with fail
    refine (HHas _ ia ic (Rd.below hit (by first | exact hb2 | exact hb2.alloc hb2.size _))).mono ?_
    rintro e w3 ⟨rfl, hb3⟩
    have y0 : w3.cell? ⟨w2.heap.size, 0, none⟩ = some (.int .i64 (pk x)) := by rw [hb3.cell (p := ⟨w2.heap.size, 0, none⟩) (by simp)]; simp
    have y1 : w3.cell? ⟨w2.heap.size, 1, none⟩ = some (.int .i64 x.n) := by rw [hb3.cell (p := ⟨w2.heap.size, 1, none⟩) (by simp)]; simp
    have y2 : w3.cell? ⟨w2.heap.size, 2, none⟩ = some (.string ⟨x.text.toArray⟩) := by rw [hb3.cell (p := ⟨w2.heap.size, 2, none⟩) (by simp)]; simp
    have y3 : w3.cell? ⟨w2.heap.size, 3, none⟩ = some (.slice ia x.items.length ic) := by rw [hb3.cell (p := ⟨w2.heap.size, 3, none⟩) (by simp)]; simp
    have hB3 := (hB2.alloc hB2.size _).trans (hb3.mono (by simp; exact Nat.le_succ_of_le hB2.size))
    have HIT3 : Hid (It w3 M (x, .slice ia x.items.length ic)) := Rd.below (Rd.below hit hb2) (((Below.refl _ _).alloc (Nat.le_refl _) _).trans (hb3.mono (by simp)))
    have HB3 := hide3 hB3
    clear hb3 hit hb2 hb1 hB2 hB3 HHas
    go_wp2_with fail
    refine (HWo _ HB3.out ia ic HIT3.out).mono ?_
    rintro e w4 ⟨ja, jc, rfl, hit4, hb4⟩
    have hB4 := HB3.out.trans (hb4.mono HB3.out.size)
    go_wp2_with fail
    refine (HWith' _ hB4 _ hit4).mono ?_
    rintro e w5 ⟨v5, rfl, hp5, hb5⟩
    obtain ⟨va, vc, rfl⟩ := pt_form hp5
    go_wp2
    go_ret2
    exact ⟨va, _, vc, ret_ti (by rw [HR.out]), (fun _ => by rw [HR.out]; exact hp5), hB4.trans (hb5.mono hB4.size)⟩
end Go.Proofs.YtolgebdmffcemaaGreatDoor
namespace Go.Proofs.YtolgebdmffcemaaGreatDoor
open Go.RowKit
set_option maxHeartbeats 400000 in
theorem g_Add1 (tv : Value) (t : List R.Leaf) (path : List UInt8) (n : Int) (w : World) (M : Nat → Prop) (p0 p1 : Nat) (hM : ∀ b, M b → b < w.heap.size) (h : PT w M tv t) (hok : OkT t) (hs : R.isPath path = true) (hn1 : n ≤ 9223372036854775807) (hn2 : -9223372036854775808 ≤ n)
    (hc0 : w.cell? ⟨p0, 0, none⟩ = some (.string ⟨path.toArray⟩)) (hc1 : w.cell? ⟨p1, 0, none⟩ = some (.int .i64 n)) :
    Calls Tryz.prog 56 #[tv, .pointer (some ⟨p0, 0, none⟩), .pointer (some ⟨p1, 0, none⟩)] w fun e w' => Left1 w w' M e t (R.addV t (R.at_ t path) path n) := by
  have hin := g_add tv t path n w M hM h hok hs hn1 hn2
  clear h hok
  go_enter Tryz.func56, Tryz.ntmps56
  go_wp2_with fail
  refine hin.mono ?_
  rintro e w1 ⟨va, vn, vc, rfl, hp, hb⟩
  go_wp2
  go_ret2
  exact ⟨va, vn, vc, rfl, hp, hb⟩
set_option maxHeartbeats 800000 in
set_option maxRecDepth 1000000 in
theorem g_change_Add (B : Nat) (st : R.St) (branch path : List UInt8) (n : Int) (w : World) (M O : Nat → Prop) (p0 p1 : Nat) (h : PS w M O B st) (hM : ∀ b, M b → b < w.heap.size) (hi : Inv st) (hG : Glob w) (hpl : path.length ≤ maxLen) (hn1 : n ≤ 9223372036854775807) (hn2 : -9223372036854775808 ≤ n)
    (hp0 : p0 < w.heap.size) (hp1 : p1 < w.heap.size) (hc0 : w.cell? ⟨p0, 0, none⟩ = some (.string ⟨path.toArray⟩)) (hc1 : w.cell? ⟨p1, 0, none⟩ = some (.int .i64 n)) :
    Calls Tryz.prog 55 #[.pointer (some ⟨B, 0, none⟩), .string ⟨branch.toArray⟩, .string ⟨path.toArray⟩, .func (.func 56) #[] #[.pointer (some ⟨p0, 0, none⟩), .pointer (some ⟨p1, 0, none⟩)]] w fun e w' => e = .returned (.int .i64 (R.change st 35 branch path n []).1) ∧ PStep w w' M O B (R.change st 35 branch path n []).2 := by
  have hPS := h
  obtain ⟨bv, cv, LB, LCm, hP⟩ := h
  have hfd := g_find hP hi branch
  obtain ⟨mx, hmx⟩ := hG.mx
  have hip := fun W (hW : Below w.heap.size w W) => g_isPath path W hpl mx (by rw [hW.cell (p := ⟨0, 0, none⟩) (by have := hG.size; show 0 < _; omega)]; exact hmx)
  have HPS := hide3 hPS
  by_cases hf : R.fnd st.brs branch < st.brs.length
  · obtain ⟨hl, ha, he, _, hwk⟩ := brAddr_some hP branch hf
    have hnn : ¬ R.fndI st.brs branch < 0 := by rw [R.fndI, if_pos hf]; omega
    cases hpa : R.isPath path
    · have HR : Hid (R.change st 35 branch path n [] = (2, st)) := by show _ = _; rw [R.change, if_neg hnn, if_pos hpa]
      rw [hpa] at hip
      rw [ha] at hfd
      generalize (LB[R.fnd st.brs branch]'hl).2.1 = bb at *
      clear hPS hi hP hf hnn hpa he ha hwk
      go_enter Tryz.func55, Tryz.ntmps55
      go_wp2_with fail
      refine hfd.mono ?_
      rintro e w1 ⟨rfl, hw1⟩
      subst hw1
      go_wp2_with fail
      refine (hip _ (Below.refl _ _)).mono ?_
      rintro e w2 ⟨rfl, hb2⟩
      go_wp2
      go_ret
      exact ⟨ret_int (by rw [HR.out]), by rw [HR.out]; exact PStep.same HPS.out hb2⟩
    · have hat := hP.at_ _ (List.getElem_mem hl)
      have hblk := hP.blk _ (List.getElem_mem hl)
      have hbl := hP.lt _ hblk.1
      rw [hpa] at hip
      rw [ha] at hfd
      have HSet : Hid (∀ (tv : Value) (t : List R.Leaf) (w5 : World), Below w.heap.size w w5 → PT w5 M tv t → PStep w (w5.setCell ⟨(LB[R.fnd st.brs branch]'hl).2.1, 2, none⟩ tv) M O B (R.setWork st (R.fnd st.brs branch) t)) := fun tv t w5 hb ht => setWork_PS hP hl hb ht
      have hokt := workOf_ok hi branch
      have hpt := hat.work
      rw [← hwk] at hpt
      have c2 := hat.c2
      have fr2 := hat.fr 2
      obtain ⟨ta, tc, htv⟩ := pt_form hpt
      rw [htv] at c2 hpt
      have HCh : Hid (R.change st 35 branch path n [] = if (R.addV (R.workOf st branch) (R.at_ (R.workOf st branch) path) path n).1 = 0 then (0, R.setWork st (R.fnd st.brs branch) (R.set (R.workOf st branch) (R.addV (R.workOf st branch) (R.at_ (R.workOf st branch) path) path n).2)) else ((R.addV (R.workOf st branch) (R.at_ (R.workOf st branch) path) path n).1, st)) := by
        show _ = _
        rw [R.change, if_neg hnn, if_neg (by rw [hpa]; simp)]; rfl
      have hadd := fun W (hW : Below w.heap.size w W) => g_Add1 (.slice ta (R.workOf st branch).length tc) (R.workOf st branch) path n W M p0 p1 (fun b hb => by have := hM b hb; have := hW.size; omega) (hpt.below hW) hokt hpa hn1 hn2 (by rw [hW.cell (p := ⟨p0, 0, none⟩) hp0]; exact hc0) (by rw [hW.cell (p := ⟨p1, 0, none⟩) hp1]; exact hc1)
      generalize (LB[R.fnd st.brs branch]'hl).2.1 = bb at *
      clear hPS hi hP hf hnn hpa he ha hwk hpt hat hokt htv hc0 hc1
      generalize R.workOf st branch = t at *
      generalize R.addV t (R.at_ t path) path n = r at *
      have HS0 := HPS.out
      go_enter Tryz.func55, Tryz.ntmps55
      go_wp2_with fail
      refine hfd.mono ?_
      rintro e w1 ⟨rfl, hw1⟩
      subst hw1
      go_wp2_with fail
      refine (hip _ (Below.refl _ _)).mono ?_
      rintro e w2 ⟨rfl, hb2⟩
      have d2 := (hb2.cell (p := ⟨bb, 2, none⟩) hbl).trans c2
      go_wp2_with fail
      refine (hadd _ hb2).mono ?_
      rintro e w3 ⟨va, vn, vc, rfl, hp3, hb3⟩
      have hB3 := hb2.trans (hb3.mono hb2.size)
      by_cases hr : r.1 = 0
      · have b1 : (r.1 == 0) = true := by simpa using hr
        have b2 : (r.1 != 0) = false := by simp [hr]
        have d3 := (hB3.cell (p := ⟨bb, 2, none⟩) hbl).trans c2
        have f3 := (hB3.frozen (p := ⟨bb, 2, none⟩) hbl).trans fr2
        have HP3 := hide3 (hp3 hr)
        have HR := hide3 hr
        clear hr hp3 d2
        go_wp2
        go_ret
        rw [HCh.out, if_pos HR.out]
        exact ⟨rfl, HSet.out _ _ _ hB3 HP3.out⟩
      · have b1 : (r.1 == 0) = false := by simpa using hr
        have b2 : (r.1 != 0) = true := by simp [hr]
        have HR := hide3 hr
        clear hr hp3 d2
        go_wp2
        go_ret
        rw [HCh.out, if_neg HR.out]
        exact ⟨rfl, PStep.same HPS.out hB3⟩
  · have hnn : R.fndI st.brs branch < 0 := by rw [R.fndI, if_neg hf]; omega
    have HR : Hid (R.change st 35 branch path n [] = (5, st)) := by show _ = _; rw [R.change, if_pos hnn]
    have ha : brAddr LB st branch = none := by rw [brAddr, if_neg hf]
    rw [ha] at hfd
    clear hPS hi hP hf hnn ha
    go_enter Tryz.func55, Tryz.ntmps55
    go_wp2_with fail
    refine hfd.mono ?_
    rintro e w1 ⟨rfl, hw1⟩
    subst hw1
    go_wp2
    go_ret
    exact ⟨ret_int (by rw [HR.out]), by rw [HR.out]; exact PStep.same HPS.out (Below.refl _ _)⟩
theorem PStep.afterAdd {w w1 w2 : World} {M O : Nat → Prop} {B : Nat} {st : R.St} (hb : Below w.heap.size w w1) (h : PStep w1 w2 M O B st) : PStep w w2 M O B st := by
  obtain ⟨O', h1, h2, h3⟩ := h
  refine ⟨O', h1, (Kept.of_below hb).trans h2, fun b e => ?_⟩
  rcases h3 b e with e | e
  · exact .inl e
  · exact .inr (Nat.le_trans hb.size e)
set_option maxHeartbeats 400000 in
theorem g_Add (B : Nat) (st : R.St) (branch path : List UInt8) (n : Int) (w : World) (M O : Nat → Prop) (h : PS w M O B st) (hM : ∀ b, M b → b < w.heap.size) (hi : Inv st) (hG : Glob w) (hpl : path.length ≤ maxLen) (hn1 : n ≤ 9223372036854775807) (hn2 : -9223372036854775808 ≤ n) :
    Calls Tryz.prog 27 #[.pointer (some ⟨B, 0, none⟩), .string ⟨branch.toArray⟩, .string ⟨path.toArray⟩, .int .i64 n] w fun e w' => e = .returned (.int .i64 (R.change st 35 branch path n []).1) ∧ PStep w w' M O B (R.change st 35 branch path n []).2 := by
  have hB : Below w.heap.size w ((w.alloc (Obj.cells #[.string ⟨path.toArray⟩] 9)).alloc (Obj.cells #[.int .i64 n] 3)) := ((Below.refl _ _).alloc (Nat.le_refl _) _).alloc (by simp) _
  have hch := g_change_Add B st branch path n ((w.alloc (Obj.cells #[.string ⟨path.toArray⟩] 9)).alloc (Obj.cells #[.int .i64 n] 3)) M O w.heap.size (w.heap.size + 1) (h.below hB) (fun b hb => by have := hM b hb; simp; omega) hi (hG.below hB) hpl hn1 hn2 (by simp <;> omega) (by simp <;> omega) (by simp) (by simp)
  clear h
  go_enter Tryz.func27, Tryz.ntmps27
  go_wp2_with fail
  refine hch.mono ?_
  rintro e w1 ⟨rfl, hst⟩
  go_wp2
  go_ret
  exact ⟨rfl, hst.afterAdd hB⟩
end Go.Proofs.YtolgebdmffcemaaGreatDoor
namespace Go.Proofs.YtolgebdmffcemaaGreatDoor
open Go.RowKit
theorem hide {p : Prop} (h : p) : Hid p := h
theorem at_good (t : List R.Leaf) (path : List UInt8) (h : ∀ x ∈ t, R.Good x) (hp : path.length ≤ 1000) : R.Good (R.at_ t path) := by
  unfold R.at_
  cases e : t.find? (fun x => x.path == path) with
  | none => exact ⟨hp, by simp [R.none], by simp [R.none], by simp [R.none], by simp [R.none], by simp [R.none]⟩
  | some y => exact h y (List.mem_of_find?_eq_some e)
theorem tr_form {w : World} {M : Nat → Prop} {v : Value} {t : List R.Leaf} (h : Tr w M v t) : ∃ a c, v = .slice a t.length c := by
  obtain ⟨L, hL, ⟨a, cap, e, _⟩, _⟩ := h
  exact ⟨a, cap, by rw [e, ← hL, List.length_map]⟩
set_option maxHeartbeats 3200000 in
set_option maxRecDepth 1000000 in
/-- kind 0: Delete -/
theorem r_Delete (B : Nat) (st : R.St) (branch path text : List UInt8) (n : Int) (w : World) (M O : Nat → Prop) (h : RS w M O B st) (hM : ∀ b, M b → b < w.heap.size) (hf : R.Fine st) (hpl : path.length ≤ maxLen) (_htl : text.length ≤ maxLen) (_hn1 : n ≤ 9223372036854775807) (_hn2 : -9223372036854775808 ≤ n) :
    Calls Tryz.prog 122 #[.pointer (some ⟨B, 0, none⟩), .int .u8 0, .string ⟨branch.toArray⟩, .string ⟨path.toArray⟩, .int .i64 n, .string ⟨text.toArray⟩] w fun e w' =>
      e = .returned (.int .i64 (R.change st 0 branch path n text).1) ∧ Step w w' M O B (R.change st 0 branch path n text).2 := by
  have hRS := h
  obtain ⟨cv, bv, LB, LCm, hR⟩ := h
  have c1 := hR.c1
  have hBl := hR.lt B hR.own
  obtain ⟨a, cap, rfl, hnc, hm, hno, hso⟩ := owns_form hR.row
  have HL : Hid (LB.length = st.brs.length) := by show _ = _; rw [← hR.brs, List.length_map]
  have hf0 := r_find B st branch w M O hRS
  unfold maxLen at hm
  rcases R.fndI_cases st.brs branch with ⟨f1, f2⟩ | ⟨f1, f2⟩
  · have HS : Hid (R.change st 0 branch path n text = (5, st)) := by show _ = _; rw [R.change, if_pos (by omega)]
    rw [HS.out]
    rw [f1] at hf0
    clear hso hno f1 f2
    go_enter Tryz.func122, Tryz.ntmps122
    go_wp2_with fail
    refine hf0.mono ?_
    rintro e w1 ⟨rfl, rfl⟩
    go_wp2
    go_ret
    exact ⟨rfl, Step.same hRS (Below.refl _ _)⟩
  cases hip : R.isPath path
  · have HS : Hid (R.change st 0 branch path n text = (2, st)) := by show _ = _; rw [R.change, if_neg (by omega), if_pos hip]
    rw [HS.out]
    rw [f1] at hf0
    have hip' := r_IsPath path w hpl
    rw [hip] at hip'
    clear hso hno f1
    go_enter Tryz.func122, Tryz.ntmps122
    go_wp2_with fail
    refine hf0.mono ?_
    rintro e w1 ⟨rfl, rfl⟩
    go_wp2_with fail
    refine hip'.mono ?_
    rintro e w2 ⟨rfl, hb⟩
    go_wp2
    go_ret
    exact ⟨rfl, Step.same hRS hb⟩
  have hfl : R.fnd st.brs branch < LB.length := by rw [HL.out]; exact f2
  have hwk : R.workOf st branch = (LB[R.fnd st.brs branch]'hfl).1.work := by
    rw [R.workOf, List.getElem?_eq_getElem f2]
    simp [← hR.brs]
  have hmb := hR.mem_brs (List.getElem_mem hfl)
  have htr := hR.work _ (List.getElem_mem hfl)
  have hgood := hf.good _ hmb
  have hfew := hf.few _ hmb
  have hip' := r_IsPath path w hpl
  rw [hip] at hip'
  have hp100 : path.length ≤ 100 := by simp [R.isPath] at hip; exact hip.1
  cases a with
  | none => have := (hno rfl).1; omega
  | some ad =>
    obtain ⟨g, rfl, _, hg0, _, hcell⟩ := hso ad rfl
    obtain ⟨-, -, d2⟩ := br_cells hcell _ hfl
    have hgO := hR.rowO g rfl
    have hgl := hR.lt g hgO.1
    have hgf : ∀ o, w.frozen? ⟨g, o, none⟩ = false := by assumption
    have HC : Hid (R.change st 0 branch path n text = if (R.valV 0 (LB[R.fnd st.brs branch]'hfl).1.work (R.at_ (LB[R.fnd st.brs branch]'hfl).1.work path) path n text).1 = 0 then
        (0, R.setWork st (R.fnd st.brs branch) (R.set (LB[R.fnd st.brs branch]'hfl).1.work (R.valV 0 (LB[R.fnd st.brs branch]'hfl).1.work (R.at_ (LB[R.fnd st.brs branch]'hfl).1.work path) path n text).2))
        else ((R.valV 0 (LB[R.fnd st.brs branch]'hfl).1.work (R.at_ (LB[R.fnd st.brs branch]'hfl).1.work path) path n text).1, st)) := by
      show _ = _
      rw [R.change, if_neg (by omega), if_neg (by simp [hip]), hwk]
    obtain ⟨ta, tcap, htv⟩ : ∃ ta tcap, (LB[R.fnd st.brs branch]'hfl).2 = .slice ta (LB[R.fnd st.brs branch]'hfl).1.work.length tcap := by
      obtain ⟨L, hL, ⟨a, cap, e, _⟩, _⟩ := htr
      exact ⟨a, cap, by rw [e, ← hL, List.length_map]⟩
    rw [htv] at htr d2
    rw [f1] at hf0
    have hsw : ∀ (w5 : World) (v' : Value) (t' : List R.Leaf), Below w.heap.size w w5 → Tr w5 M v' t' → Step w (w5.setCell ⟨g, R.fnd st.brs branch * 3 + 2, none⟩ v') M O B (R.setWork st (R.fnd st.brs branch) t') := fun w5 v' t' hb5 ht5 => setWork_RS hR hfl hb5 ht5
    generalize (LB[R.fnd st.brs branch]'hfl).1.work = t at *
    generalize R.fnd st.brs branch = i at *
    have hgx : R.Good (R.at_ t path) := at_good t path hgood (by omega)
    have hat := fun W (hW : Below w.heap.size w W) => r_at (.slice ta t.length tcap) t path W M (htr.below hW)
    have HSW := hide hsw
    have hpg : ∀ y ∈ t, y.path.length ≤ 1000 := fun y hy => (hgood y hy).path
    generalize R.at_ t path = x at *
    clear hso hno f1 hcell hwk htv hmb hip hgood hsw
    go_enter Tryz.func122, Tryz.ntmps122
    go_wp2_with fail
    refine hf0.mono ?_
    rintro e w1 ⟨rfl, rfl⟩
    go_wp2_with fail
    refine hip'.mono ?_
    rintro e w2 ⟨rfl, hb2⟩
    have hs2 := hb2.size
    have e1 := (hb2.cell (p := ⟨B, 1, none⟩) hBl).trans c1
    have e2 := (hb2.cell (p := ⟨g, i * 3 + 2, none⟩) hgl).trans d2
    go_wp2_with fail
    refine (hat _ hb2).mono ?_
    rintro e w3 ⟨iv, rfl, hit, hb3⟩
    obtain ⟨ia, ic, hiv, hi1, hi2, hi3⟩ := hit
    dsimp only at hiv
    subst hiv
    have hit3 : It w3 M (x, .slice ia x.items.length ic) := Rd.below ⟨ia, ic, rfl, hi1, hi2, hi3⟩ hb3
    clear hi1 hi2 hi3 e1 e2
    have hB3 : Below w1.heap.size w1 w3 := hb2.trans (hb3.mono hs2)
    have k1 := (hB3.cell (p := ⟨B, 1, none⟩) hBl).trans c1
    have k2 := (hB3.cell (p := ⟨g, i * 3 + 2, none⟩) hgl).trans d2
    have k3 := (hB3.frozen (p := ⟨g, i * 3 + 2, none⟩) hgl).trans (hgf _)
    have hs3 := hB3.size
    have htr3 : Tr w3 M (.slice ta t.length tcap) t := htr.below hB3
    clear hat hip' hf0 hb2 hb3 hs2
    unfold LC
    dsimp only
    generalize hJ : w3.alloc (.cells #[.string ⟨x.path.toArray⟩, .int .u8 x.kind, .int .i64 x.n, .string ⟨x.text.toArray⟩, .slice ia x.items.length ic] 216) = wJ
    have hBJ : Below w1.heap.size w1 wJ := by rw [← hJ]; exact hB3.alloc hs3 _
    have hzJ : wJ.heap.size = w3.heap.size + 1 := by rw [← hJ]; simp
    have hsJ := hBJ.size
    have j1 := (hBJ.cell (p := ⟨B, 1, none⟩) hBl).trans c1
    have j2 := (hBJ.cell (p := ⟨g, i * 3 + 2, none⟩) hgl).trans d2
    have j3 := (hBJ.frozen (p := ⟨g, i * 3 + 2, none⟩) hgl).trans (hgf _)
    have x0 : wJ.cell? ⟨w3.heap.size, 0, none⟩ = some (.string ⟨x.path.toArray⟩) := by rw [← hJ]; simp
    have x1 : wJ.cell? ⟨w3.heap.size, 1, none⟩ = some (.int .u8 x.kind) := by rw [← hJ]; simp
    have x2 : wJ.cell? ⟨w3.heap.size, 2, none⟩ = some (.int .i64 x.n) := by rw [← hJ]; simp
    have x3 : wJ.cell? ⟨w3.heap.size, 3, none⟩ = some (.string ⟨x.text.toArray⟩) := by rw [← hJ]; simp
    have x4 : wJ.cell? ⟨w3.heap.size, 4, none⟩ = some (.slice ia x.items.length ic) := by rw [← hJ]; simp
    have hitJ : It wJ M (x, .slice ia x.items.length ic) := by rw [← hJ]; exact Rd.below hit3 ((Below.refl _ _).alloc (Nat.le_refl _) _)
    have HG1 : Hid (∀ W, Below w1.heap.size w1 W → W.cell? ⟨B, 1, none⟩ = some (.slice (some ⟨g, 0, none⟩) LB.length cap)) := fun W hW => (hW.cell (p := ⟨B, 1, none⟩) hBl).trans c1
    have HG2 : Hid (∀ W, Below w1.heap.size w1 W → W.cell? ⟨g, i * 3 + 2, none⟩ = some (.slice ta t.length tcap)) := fun W hW => (hW.cell (p := ⟨g, i * 3 + 2, none⟩) hgl).trans d2
    have HG3 : Hid (∀ W, Below w1.heap.size w1 W → W.frozen? ⟨g, i * 3 + 2, none⟩ = false) := fun W hW => (hW.frozen (p := ⟨g, i * 3 + 2, none⟩) hgl).trans (hgf _)
    have a1 : ∀ o, (wJ.alloc o).cell? ⟨B, 1, none⟩ = some (.slice (some ⟨g, 0, none⟩) LB.length cap) := fun o => by rw [World.cell?_alloc_past _ _ _ (by omega)]; exact j1
    have a2 : ∀ o, (wJ.alloc o).cell? ⟨g, i * 3 + 2, none⟩ = some (.slice ta t.length tcap) := fun o => by rw [World.cell?_alloc_past _ _ _ (by omega)]; exact j2
    have a3 : ∀ o, (wJ.alloc o).frozen? ⟨g, i * 3 + 2, none⟩ = false := fun o => by rw [World.frozen?_alloc_past _ _ _ (by omega)]; exact j3
    have htrJ : Tr wJ M (.slice ta t.length tcap) t := htr.below hBJ
    clear hit3 htr3 k1 k2 k3
    have HV : Hid (R.valV 0 t x path n text = R.delV x path) := by show _ = _; rw [R.valV, if_pos rfl]
    rcases bool_eq x.kind 0 with ⟨b0, h0⟩ | ⟨b0, h0⟩
    · have HZ : Hid (R.valV 0 t x path n text = (10, x)) := by show _ = _; rw [HV.out, R.delV, if_pos h0]
      clear h0
      have HE : Hid (R.change st 0 branch path n text = (10, st)) := by show _ = _; rw [HC.out, HZ.out]; rfl
      go_wp2
      go_ret
      exact ⟨ret_int (by rw [HE.out]), by rw [HE.out]; exact Step.same hRS hBJ⟩
    · have HZ : Hid (R.valV 0 t x path n text = (0, R.none path)) := by show _ = _; rw [HV.out, R.delV, if_neg h0]
      clear h0
      have HE : Hid (R.change st 0 branch path n text = (0, R.setWork st i (R.set t (R.none path)))) := by show _ = _; rw [HC.out, HZ.out]; rfl
      have hset : ∀ W, Below w1.heap.size w1 W → Calls Tryz.prog 170 #[.slice ta t.length tcap, .agg #[.string ⟨path.toArray⟩, .int .u8 0, .int .i64 0, .string ⟨#[]⟩, .slice none 0 0]] W fun e w' => ∃ v', e = .returned v' ∧ Tr w' M v' (R.set t (R.none path)) ∧ Below W.heap.size W w' := fun W hW =>
        r_set (.slice ta t.length tcap) t (R.none path) (.slice none 0 0) W M (htr.below hW) ⟨none, 0, rfl, Nat.le_refl _, by unfold maxLen; omega, fun h => absurd h (Nat.lt_irrefl _)⟩ (fun b hb => Nat.lt_of_lt_of_le (hM b hb) hW.size) hpg (by simp [R.none]; omega) (by omega)
      go_wp2
      go_region_with ((go_at_call 170; refine (hset _ (by first | exact hBJ.drew | exact (hBJ.alloc hsJ _).drew | exact hBY.drew)).mono ?_; rintro e w5 ⟨v5, rfl, htr5, hb5⟩; have hB5 : Below w1.heap.size w1 w5 := Below.trans (by first | exact hBJ.drew | exact (hBJ.alloc hsJ _).drew | exact hBY.drew) (hb5.mono (by first | (simp; omega) | omega)); have m1 := HG1.out w5 hB5; have m2 := HG2.out w5 hB5; have m3 := HG3.out w5 hB5; obtain ⟨va, vc, rfl⟩ := tr_form htr5))
      all_goals go_wp2
      all_goals go_ret
      all_goals exact ⟨ret_int (by rw [HE.out]), by rw [HE.out]; exact HSW.out _ _ _ hB5 htr5⟩
end Go.Proofs.YtolgebdmffcemaaGreatDoor
