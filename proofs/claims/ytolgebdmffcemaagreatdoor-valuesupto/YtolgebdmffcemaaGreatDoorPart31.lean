/-
  One step of the statement's (graftlaw.World.step), of the kind Fork: as the document says.
  The statement's own function branches (graftlaw) at bDrop: both stores answer alike, and hold the same behind it.
  One step of the statement's (graftlaw.World.step), of the kind Drop: as the document says.
  The program's New, Show, Branches: as the document's answer has them.
  The statement's own function values (graftlaw.values) at Show: both stores show alike.
-/
import Derived.Test.YtolgebdmffcemaaGreatDoorPart30
import Derived.Test.YtolgebdmffcemaaGreatDoorPart23
import Derived.Deep.RegionHeld3
import Derived.Test.YtolgebdmffcemaaGreatDoorPart11
import Derived.Test.YtolgebdmffcemaaGreatDoorPart15
import Derived.Test.YtolgebdmffcemaaGreatDoorPart17
import Derived.Test.YtolgebdmffcemaaGreatDoorPart14
import Derived.Test.YtolgebdmffcemaaGreatDoorPart16
set_option linter.unusedVariables false
namespace Go.Proofs.YtolgebdmffcemaaGreatDoor
open Go.RowKit
theorem pick_ltFork (c : Int) (n : Nat) (h : 0 < n) : ∃ i : Nat, i < n ∧ pickI c n = (i : Int) := by
  have h1 : 0 ≤ pickI c n := by
    unfold pickI; split
    · exact Int.emod_nonneg _ (by omega)
    · exact Int.emod_nonneg _ (by omega)
  have h2 : pickI c n < n := by
    unfold pickI; split
    · exact Int.emod_lt_of_pos _ (by omega)
    · exact Int.emod_lt_of_pos _ (by omega)
  exact ⟨(pickI c n).toNat, by omega, by omega⟩
theorem cellsA_atFork : ∀ (ps : List (Nat × Nat)) (i : Nat) (h : i < ps.length), (cellsA ps)[i * 2]? = some (.pointer (some ⟨(ps[i]'h).1, 0, none⟩)) ∧ (cellsA ps)[i * 2 + 1]? = some (.pointer (some ⟨(ps[i]'h).2, 0, none⟩))
  | p :: r, 0, _ => by simp [cellsA]
  | p :: r, i + 1, h => by
    have ih := cellsA_atFork r i (by simpa using h)
    unfold cellsA at ih ⊢
    rw [List.flatMap_cons, show (i + 1) * 2 = i * 2 + 2 from by omega]
    simpa using ih
set_option maxHeartbeats 3200000 in
set_option maxRecDepth 1000000 in
theorem l_sFork {w : World} {h0 Wb : Nat} {O : Nat → Prop} {L : List SP} {names : List (Value × List UInt8)} {nums : List (Value × Int)} {last K : Nat} (h : LW w h0 Wb O L names nums last) (hA : Agree K L) (hK : K ≤ 100000000000) (hla : last ≤ 1000000) (hnm : names.length ≤ 100000000) (hL : 0 < L.length) (hL2 : L.length ≤ 1000) (wi n m : Int) (s t u : List UInt8)
    (hw1 : wi ≤ 9223372036854775807) (hw2 : -9223372036854775808 ≤ wi) (hn1 : n ≤ 9223372036854775807) (hn2 : -9223372036854775808 ≤ n) (hsl : s.length ≤ maxLen) (htl : t.length ≤ maxLen) (hul : u.length ≤ maxLen) :
    Calls Tryz.prog 43 #[.pointer (some ⟨Wb, 0, none⟩), .agg (opC 3 wi n m s t u)] w fun e w' => e = .returned (.bool true) ∧ Goes w w' h0 Wb L.length (names.length + 9) (last + 1) (K + 20) := by
  obtain ⟨i, hi, hpi⟩ := pick_ltFork wi L.length hL
  have HP := fun W => l_pick wi (L.length : Int) W (by omega) (by omega) hw2 hw1
  rw [hpi] at HP
  have HC := fun W (hW : LW W h0 Wb O L names nums last) => l_bFork hW hA hK i hi wi n m s t u hn1 hn2 hsl htl hul
  have HG : Hid (∀ W w', Below w.heap.size w W → Goes W w' h0 Wb L.length names.length last (K + 20) → Goes w w' h0 Wb L.length (names.length + 9) (last + 1) (K + 20)) := by
    rintro W w' hb ⟨O', L', names', nums', last', h1, h2, h3, h4, h5, h6⟩
    exact ⟨O', L', names', nums', last', h1, h2, fun j hj => ⟨(h3 j hj).1, by have := (h3 j hj).2; omega⟩, by omega, by omega, (hb.mono h.hs).trans h6⟩
  have HH := hide0 h
  obtain ⟨av, nv, tv, uv, kv, hl⟩ := h.lw
  have hWl := hl.lt Wb hl.own
  have c0 := hl.c0
  have hrow := hl.arow
  rw [List.length_map] at hrow
  obtain ⟨aa, ac, hav, ha1, ha2, ha3, ha4⟩ := owns_form hrow
  rw [hav] at c0
  cases aa with
  | none => have := (ha3 rfl).1; omega
  | some ad =>
  obtain ⟨g, rfl, _, hg, _, hcell⟩ := ha4 ad rfl
  have hca := cellsA_atFork (L.map fun p => (p.bx, p.by_)) i (by simpa using hi)
  have d1 := hcell _ _ hca.1
  have d2 := hcell _ _ hca.2
  simp only [List.getElem_map] at d1 d2
  unfold maxLen at ha2
  clear h hA hl hrow hav ha3 ha4 hcell hca hpi
  generalize L[i].bx = bx at *
  generalize L[i].by_ = by_ at *
  have HPick := hide0 HP
  have HCall := hide0 HC
  clear HP HC
  go_enter Tryz.func43, Tryz.ntmps43
  unfold opC
  go_wp2_with fail
  have hB1 : Below w.heap.size w (w.alloc (Obj.cells #[.int .i64 3, .int .i64 wi, .int .i64 n, .int .i64 m, .string ⟨s.toArray⟩, .string ⟨t.toArray⟩, .string ⟨u.toArray⟩] 73)) := (Below.refl _ _).alloc (Nat.le_refl _) _
  have hs1 : (w.alloc (Obj.cells #[.int .i64 3, .int .i64 wi, .int .i64 n, .int .i64 m, .string ⟨s.toArray⟩, .string ⟨t.toArray⟩, .string ⟨u.toArray⟩] 73)).heap.size = w.heap.size + 1 := by simp
  have hop : ∀ j v, #[Value.int .i64 3, .int .i64 wi, .int .i64 n, .int .i64 m, .string ⟨s.toArray⟩, .string ⟨t.toArray⟩, .string ⟨u.toArray⟩][j]? = some v → (w.alloc (Obj.cells #[.int .i64 3, .int .i64 wi, .int .i64 n, .int .i64 m, .string ⟨s.toArray⟩, .string ⟨t.toArray⟩, .string ⟨u.toArray⟩] 73)).cell? ⟨w.heap.size, j, none⟩ = some v := fun j v hv => by rw [World.cell?_alloc_at _ _ _ _ rfl]; exact hv
  generalize (w.alloc (Obj.cells #[.int .i64 3, .int .i64 wi, .int .i64 n, .int .i64 m, .string ⟨s.toArray⟩, .string ⟨t.toArray⟩, .string ⟨u.toArray⟩] 73)) = W1 at *
  have o0 := hop 0 _ rfl
  have o1 := hop 1 _ rfl
  have o2 := hop 2 _ rfl
  have o3 := hop 3 _ rfl
  have o4 := hop 4 _ rfl
  have o5 := hop 5 _ rfl
  have o6 := hop 6 _ rfl
  have e0 := (hB1.cell (p := ⟨Wb, 0, none⟩) hWl).trans c0
  have e1 := (hB1.cell (p := ⟨g, i * 2, none⟩) hg).trans d1
  have e2 := (hB1.cell (p := ⟨g, i * 2 + 1, none⟩) hg).trans d2
  have HB1 := hide0 hB1
  have HLW1 := hide0 (HH.out.below hB1)
  have hlt1 : w.heap.size < W1.heap.size := by omega
  clear hop hB1 hs1 c0 d1 d2 HH
  go_region_held3 (fun w' => w'.cell? ⟨Wb, 0, none⟩ = some (.slice (some ⟨g, 0, none⟩) L.length ac) ∧ w'.cell? ⟨w.heap.size, 1, none⟩ = some (.int .i64 wi) ∧ w'.cell? ⟨g, i * 2, none⟩ = some (.pointer (some ⟨bx, 0, none⟩)) ∧ w'.cell? ⟨g, i * 2 + 1, none⟩ = some (.pointer (some ⟨by_, 0, none⟩))) (go_keep) (first
    | (go_at_call 79; refine (HPick.out _).mono ?_; rintro e w4 ⟨rfl, hw4⟩; subst hw4))
  all_goals
    go_wp2_with fail
    have hB2 : Below W1.heap.size W1 (W1.alloc (Obj.cells #[.pointer (some ⟨bx, 0, none⟩), .pointer (some ⟨by_, 0, none⟩)] 85)).drew := ((Below.refl _ _).alloc (Nat.le_refl _) _).drew
    refine (HCall.out _ (HLW1.out.below hB2)).mono ?_
    rintro e w5 ⟨rfl, hgo⟩
    have HGo := hide0 (HG.out _ _ (HB1.out.trans (hB2.mono (by omega))) hgo)
    clear hgo hB2
    go_wp2
    go_ret
    exact ⟨rfl, HGo.out⟩
end Go.Proofs.YtolgebdmffcemaaGreatDoor
namespace Go.Proofs.YtolgebdmffcemaaGreatDoor
open Go.RowKit
set_option maxHeartbeats 3200000 in
set_option maxRecDepth 1000000 in
theorem l_bDrop {w : World} {h0 Wb : Nat} {O : Nat → Prop} {L : List SP} {names : List (Value × List UInt8)} {nums : List (Value × Int)} {last K : Nat} (h : LW w h0 Wb O L names nums last) (hA : Agree K L) (hK : K ≤ 100000000000) (i : Nat) (hi : i < L.length) (wi n m : Int) (s t u : List UInt8)
    (hn1 : n ≤ 9223372036854775807) (hn2 : -9223372036854775808 ≤ n) (hsl : s.length ≤ maxLen) (htl : t.length ≤ maxLen) (hul : u.length ≤ maxLen) :
    Calls Tryz.prog 80 #[.pointer (some ⟨Wb, 0, none⟩), .agg #[.pointer (some ⟨L[i].bx, 0, none⟩), .pointer (some ⟨L[i].by_, 0, none⟩)], .agg (opC 4 wi n m s t u)] w fun e w' => e = .returned (.bool true) ∧ Goes w w' h0 Wb L.length names.length last (K + 20) := by
  have hsxy := (hA i hi).1
  have hpk := (hA i hi).2
  have HX := fun W (hW : LW W h0 Wb O L names nums last) => g_Drop L[i].bx L[i].sx s W (MM O L) L[i].ox (hW.px i hi).1 (hW.px i hi).2 (by have := hpk; rw [hsxy]; omega)
  have HY := fun W (L1 : List SP) (h1 : i < L1.length) (hW : LW W h0 Wb O L1 names nums last) (e1 : L1[i].by_ = L[i].by_) (e2 : L1[i].sy = L[i].sy) => r_Drop L1[i].by_ L1[i].sy s W (MM O L1) L1[i].oy (hW.py i h1).1 (hW.py i h1).2.fine (by have := hpk; rw [e2]; omega)
  have HInv : Hid (Inv (R.dropped L[i].sy s).2) := dropped_inv (h.py i hi).2 s
  have HPk : Hid ((R.dropped L[i].sy s).2.packed.length ≤ K + 20) := Nat.le_trans (dropped_packed _ (h.py i hi).2 _) (by omega)
  have HH := hide0 h
  have HA := hide0 hA
  have HSt := hide0 hsxy
  unfold opC
  rw [hsxy] at HX
  have HX' : ∀ W, LW W h0 Wb O L names nums last → Calls Tryz.prog 37 #[.pointer (some ⟨L[i].bx, 0, none⟩), .string ⟨s.toArray⟩] W fun e w' => e = .returned (.int .i64 (R.dropped L[i].sy s).1) ∧ PStep W w' (MM O L) L[i].ox L[i].bx (R.dropped L[i].sy s).2 := HX
  have HY' : ∀ W (L1 : List SP) (h1 : i < L1.length), LW W h0 Wb O L1 names nums last → L1[i].by_ = L[i].by_ → L1[i].sy = L[i].sy → Calls Tryz.prog 120 #[.pointer (some ⟨L[i].by_, 0, none⟩), .string ⟨s.toArray⟩] W fun e w' => e = .returned (.int .i64 (R.dropped L[i].sy s).1) ∧ Step W w' (MM O L1) L1[i].oy L1[i].by_ (R.dropped L[i].sy s).2 := fun W L1 h1 hW e1 e2 => by
    have := HY W L1 h1 hW e1 e2
    rw [e2] at this
    rw [← e1]
    exact this
  clear HX HY hsxy hpk hA
  generalize R.dropped L[i].sy s = r at *
  obtain ⟨bx, HBX⟩ : ∃ bx, Hid (L[i].bx = bx) := ⟨L[i].bx, hide0 rfl⟩
  obtain ⟨by_, HBY⟩ : ∃ by_, Hid (L[i].by_ = by_) := ⟨L[i].by_, hide0 rfl⟩
  rw [HBX.out, HBY.out]
  have HX2 : ∀ W, LW W h0 Wb O L names nums last → Calls Tryz.prog 37 #[.pointer (some ⟨bx, 0, none⟩), .string ⟨s.toArray⟩] W fun e w' => e = .returned (.int .i64 r.1) ∧ PStep W w' (MM O L) L[i].ox L[i].bx r.2 := fun W hW => by rw [← HBX.out]; exact HX' W hW
  have HY2 : ∀ W (L1 : List SP) (h1 : i < L1.length), LW W h0 Wb O L1 names nums last → L1[i].by_ = L[i].by_ → L1[i].sy = L[i].sy → Calls Tryz.prog 120 #[.pointer (some ⟨by_, 0, none⟩), .string ⟨s.toArray⟩] W fun e w' => e = .returned (.int .i64 r.1) ∧ Step W w' (MM O L1) L1[i].oy L1[i].by_ r.2 := fun W L1 h1 hW e1 e2 => by rw [← HBY.out]; exact HY' W L1 h1 hW e1 e2
  clear HX' HY' h
  have HB2 : Hid (Below w.heap.size w ((w.alloc (Obj.cells #[.pointer (some ⟨bx, 0, none⟩), .pointer (some ⟨by_, 0, none⟩)] 85)).alloc (Obj.cells #[.int .i64 4, .int .i64 wi, .int .i64 n, .int .i64 m, .string ⟨s.toArray⟩, .string ⟨t.toArray⟩, .string ⟨u.toArray⟩] 73))) := ((Below.refl _ _).alloc (Nat.le_refl _) _).alloc (by simp) _
  have HC : Hid (∀ w3, Kept L[i].ox ((w.alloc (Obj.cells #[.pointer (some ⟨bx, 0, none⟩), .pointer (some ⟨by_, 0, none⟩)] 85)).alloc (Obj.cells #[.int .i64 4, .int .i64 wi, .int .i64 n, .int .i64 m, .string ⟨s.toArray⟩, .string ⟨t.toArray⟩, .string ⟨u.toArray⟩] 73)) w3 → (∀ o, w3.cell? ⟨w.heap.size, o, none⟩ = ((w.alloc (Obj.cells #[.pointer (some ⟨bx, 0, none⟩), .pointer (some ⟨by_, 0, none⟩)] 85)).alloc (Obj.cells #[.int .i64 4, .int .i64 wi, .int .i64 n, .int .i64 m, .string ⟨s.toArray⟩, .string ⟨t.toArray⟩, .string ⟨u.toArray⟩] 73)).cell? ⟨w.heap.size, o, none⟩) ∧ (∀ o, w3.cell? ⟨w.heap.size + 1, o, none⟩ = ((w.alloc (Obj.cells #[.pointer (some ⟨bx, 0, none⟩), .pointer (some ⟨by_, 0, none⟩)] 85)).alloc (Obj.cells #[.int .i64 4, .int .i64 wi, .int .i64 n, .int .i64 m, .string ⟨s.toArray⟩, .string ⟨t.toArray⟩, .string ⟨u.toArray⟩] 73)).cell? ⟨w.heap.size + 1, o, none⟩)) := fun w3 hk =>
    ⟨box_keeps HH.out HB2.out (fun b e => .inr ⟨i, hi, .inl e⟩) hk (Nat.le_refl _) (by simp <;> omega), box_keeps HH.out HB2.out (fun b e => .inr ⟨i, hi, .inl e⟩) hk (by omega) (by simp)⟩
  go_enter Tryz.func80, Tryz.ntmps80
  go_wp2_with fail
  refine (HX2 _ (HH.out.below HB2.out)).mono ?_
  rintro e w3 ⟨rfl, hst⟩
  obtain ⟨L1, l1, hL1, ⟨hi1, eb1, ey1, ex1, es1, eo1⟩, ho1, hb1, hk1⟩ := (HH.out.below HB2.out).X i hi hst HInv.out
  obtain ⟨hp, hq⟩ := HC.out w3 hk1
  have y1 : w3.cell? ⟨w.heap.size, 1, none⟩ = some (.pointer (some ⟨by_, 0, none⟩)) := by rw [hp]; simp
  have z2 : w3.cell? ⟨w.heap.size + 1, 2, none⟩ = some (.int .i64 n) := by rw [hq]; simp
  have z4 : w3.cell? ⟨w.heap.size + 1, 4, none⟩ = some (.string ⟨s.toArray⟩) := by rw [hq]; simp
  have z5 : w3.cell? ⟨w.heap.size + 1, 5, none⟩ = some (.string ⟨t.toArray⟩) := by rw [hq]; simp
  have z6 : w3.cell? ⟨w.heap.size + 1, 6, none⟩ = some (.string ⟨u.toArray⟩) := by rw [hq]; simp
  have HL1 := hide0 hL1
  have HE := hide0 (And.intro eb1 (And.intro ey1 (And.intro ex1 es1)))
  have HO1 := hide0 ho1
  have HOY := hide0 eo1
  have hs3 : w.heap.size + 2 ≤ w3.heap.size := by have := hk1.size; simpa using this
  have HBe1 := hide0 hb1
  clear hst hL1 eb1 ey1 ex1 es1 eo1 ho1 hb1 hk1 hp hq
  have HY3 := hide0 HY2
  have HC5 : Hid (∀ w5, Step w3.drew w5 (MM O L1) L1[i].oy L1[i].by_ r.2 → (∀ o, w5.cell? ⟨w.heap.size, o, none⟩ = w3.cell? ⟨w.heap.size, o, none⟩) ∧ (∀ o, w5.cell? ⟨w.heap.size + 1, o, none⟩ = w3.cell? ⟨w.heap.size + 1, o, none⟩)) := fun w5 hs5 => by
    obtain ⟨_, _, hk5, _⟩ := hs5
    have hz : ∀ b, L1[i].oy b → b < w.heap.size ∨ w.heap.size + 2 ≤ b := fun b e => .inl (HH.out.lt b (.inr ⟨i, hi, .inr (by rw [← HOY.out]; exact e)⟩))
    exact ⟨fun o => hk5.cell (p := ⟨w.heap.size, o, none⟩) (by show w.heap.size < w3.heap.size; omega) (fun e => by have := hz w.heap.size e; omega), fun o => hk5.cell (p := ⟨w.heap.size + 1, o, none⟩) (by show w.heap.size + 1 < w3.heap.size; omega) (fun e => by have := hz (w.heap.size + 1) e; omega)⟩
  clear HX2 HY2
  go_wp2_with fail
  go_region_held3 (fun w' => w'.cell? ⟨w.heap.size, 1, none⟩ = some (.pointer (some ⟨by_, 0, none⟩)) ∧ w'.cell? ⟨w.heap.size + 1, 2, none⟩ = some (.int .i64 n) ∧ w'.cell? ⟨w.heap.size + 1, 4, none⟩ = some (.string ⟨s.toArray⟩) ∧ w'.cell? ⟨w.heap.size + 1, 5, none⟩ = some (.string ⟨t.toArray⟩) ∧ w'.cell? ⟨w.heap.size + 1, 6, none⟩ = some (.string ⟨u.toArray⟩)) (first | exact ⟨y1, z2, z4, z5, z6⟩ | exact ⟨m1, m2, m4, m5, m6⟩ | go_keep) (first
    | (go_at_call 117; refine (l_num r.1 _).mono ?_; rintro e w4 ⟨rfl, hw4⟩; subst hw4)
    | (go_at_call 120; go_loud (refine (HY3.out _ L1 hi1 (HL1.out.below (Below.refl _ _).drew) HE.out.2.1 HE.out.2.2.2).mono ?_; rintro e w5 ⟨rfl, hst5⟩; have m1 := ((HC5.out w5 hst5).1 1).trans y1; have m2 := ((HC5.out w5 hst5).2 2).trans z2; have m4 := ((HC5.out w5 hst5).2 4).trans z4; have m5 := ((HC5.out w5 hst5).2 5).trans z5; have m6 := ((HC5.out w5 hst5).2 6).trans z6)))
  all_goals
    obtain ⟨L2, l2, hL2, ⟨hi2, eb2, ey2, ex2, es2, eo2⟩, ho2, hb2, hk2⟩ := (HL1.out.below (Below.refl _ _).drew).Y i hi1 hst5 HInv.out
    have hs0 := HH.out.hs
    have HG : Hid (Goes w w5 h0 Wb L.length names.length last (K + 20)) :=
      ⟨O, L2, names, nums, last, hL2, l2.trans l1, agree_both HA.out (by omega) hi l1 l2 ⟨hi1, HE.out.2.2.1⟩ HO1.out ⟨hi2, ex2, hi1, es2⟩ ho2 HPk.out, Nat.le_refl _, Nat.le_refl _, ((HB2.out.mono hs0).trans HBe1.out).drew.trans hb2⟩
    clear hst5 hL2 ho2 hb2 hk2 eb2 ey2 ex2 es2 eo2 HC HC5 HY3 HL1 HBe1 m1 m2 m4 m5 m6
    go_wp2
    go_ret
    exact ⟨ret_bool (by simp), HG.out⟩
end Go.Proofs.YtolgebdmffcemaaGreatDoor
namespace Go.Proofs.YtolgebdmffcemaaGreatDoor
open Go.RowKit
theorem pick_ltDrop (c : Int) (n : Nat) (h : 0 < n) : ∃ i : Nat, i < n ∧ pickI c n = (i : Int) := by
  have h1 : 0 ≤ pickI c n := by
    unfold pickI; split
    · exact Int.emod_nonneg _ (by omega)
    · exact Int.emod_nonneg _ (by omega)
  have h2 : pickI c n < n := by
    unfold pickI; split
    · exact Int.emod_lt_of_pos _ (by omega)
    · exact Int.emod_lt_of_pos _ (by omega)
  exact ⟨(pickI c n).toNat, by omega, by omega⟩
theorem cellsA_atDrop : ∀ (ps : List (Nat × Nat)) (i : Nat) (h : i < ps.length), (cellsA ps)[i * 2]? = some (.pointer (some ⟨(ps[i]'h).1, 0, none⟩)) ∧ (cellsA ps)[i * 2 + 1]? = some (.pointer (some ⟨(ps[i]'h).2, 0, none⟩))
  | p :: r, 0, _ => by simp [cellsA]
  | p :: r, i + 1, h => by
    have ih := cellsA_atDrop r i (by simpa using h)
    unfold cellsA at ih ⊢
    rw [List.flatMap_cons, show (i + 1) * 2 = i * 2 + 2 from by omega]
    simpa using ih
set_option maxHeartbeats 3200000 in
set_option maxRecDepth 1000000 in
theorem l_sDrop {w : World} {h0 Wb : Nat} {O : Nat → Prop} {L : List SP} {names : List (Value × List UInt8)} {nums : List (Value × Int)} {last K : Nat} (h : LW w h0 Wb O L names nums last) (hA : Agree K L) (hK : K ≤ 100000000000) (hla : last ≤ 1000000) (hnm : names.length ≤ 100000000) (hL : 0 < L.length) (hL2 : L.length ≤ 1000) (wi n m : Int) (s t u : List UInt8)
    (hw1 : wi ≤ 9223372036854775807) (hw2 : -9223372036854775808 ≤ wi) (hn1 : n ≤ 9223372036854775807) (hn2 : -9223372036854775808 ≤ n) (hsl : s.length ≤ maxLen) (htl : t.length ≤ maxLen) (hul : u.length ≤ maxLen) :
    Calls Tryz.prog 43 #[.pointer (some ⟨Wb, 0, none⟩), .agg (opC 4 wi n m s t u)] w fun e w' => e = .returned (.bool true) ∧ Goes w w' h0 Wb L.length (names.length + 9) (last + 1) (K + 20) := by
  obtain ⟨i, hi, hpi⟩ := pick_ltDrop wi L.length hL
  have HP := fun W => l_pick wi (L.length : Int) W (by omega) (by omega) hw2 hw1
  rw [hpi] at HP
  have HC := fun W (hW : LW W h0 Wb O L names nums last) => l_bDrop hW hA hK i hi wi n m s t u hn1 hn2 hsl htl hul
  have HG : Hid (∀ W w', Below w.heap.size w W → Goes W w' h0 Wb L.length names.length last (K + 20) → Goes w w' h0 Wb L.length (names.length + 9) (last + 1) (K + 20)) := by
    rintro W w' hb ⟨O', L', names', nums', last', h1, h2, h3, h4, h5, h6⟩
    exact ⟨O', L', names', nums', last', h1, h2, fun j hj => ⟨(h3 j hj).1, by have := (h3 j hj).2; omega⟩, by omega, by omega, (hb.mono h.hs).trans h6⟩
  have HH := hide0 h
  obtain ⟨av, nv, tv, uv, kv, hl⟩ := h.lw
  have hWl := hl.lt Wb hl.own
  have c0 := hl.c0
  have hrow := hl.arow
  rw [List.length_map] at hrow
  obtain ⟨aa, ac, hav, ha1, ha2, ha3, ha4⟩ := owns_form hrow
  rw [hav] at c0
  cases aa with
  | none => have := (ha3 rfl).1; omega
  | some ad =>
  obtain ⟨g, rfl, _, hg, _, hcell⟩ := ha4 ad rfl
  have hca := cellsA_atDrop (L.map fun p => (p.bx, p.by_)) i (by simpa using hi)
  have d1 := hcell _ _ hca.1
  have d2 := hcell _ _ hca.2
  simp only [List.getElem_map] at d1 d2
  unfold maxLen at ha2
  clear h hA hl hrow hav ha3 ha4 hcell hca hpi
  generalize L[i].bx = bx at *
  generalize L[i].by_ = by_ at *
  have HPick := hide0 HP
  have HCall := hide0 HC
  clear HP HC
  go_enter Tryz.func43, Tryz.ntmps43
  unfold opC
  go_wp2_with fail
  have hB1 : Below w.heap.size w (w.alloc (Obj.cells #[.int .i64 4, .int .i64 wi, .int .i64 n, .int .i64 m, .string ⟨s.toArray⟩, .string ⟨t.toArray⟩, .string ⟨u.toArray⟩] 73)) := (Below.refl _ _).alloc (Nat.le_refl _) _
  have hs1 : (w.alloc (Obj.cells #[.int .i64 4, .int .i64 wi, .int .i64 n, .int .i64 m, .string ⟨s.toArray⟩, .string ⟨t.toArray⟩, .string ⟨u.toArray⟩] 73)).heap.size = w.heap.size + 1 := by simp
  have hop : ∀ j v, #[Value.int .i64 4, .int .i64 wi, .int .i64 n, .int .i64 m, .string ⟨s.toArray⟩, .string ⟨t.toArray⟩, .string ⟨u.toArray⟩][j]? = some v → (w.alloc (Obj.cells #[.int .i64 4, .int .i64 wi, .int .i64 n, .int .i64 m, .string ⟨s.toArray⟩, .string ⟨t.toArray⟩, .string ⟨u.toArray⟩] 73)).cell? ⟨w.heap.size, j, none⟩ = some v := fun j v hv => by rw [World.cell?_alloc_at _ _ _ _ rfl]; exact hv
  generalize (w.alloc (Obj.cells #[.int .i64 4, .int .i64 wi, .int .i64 n, .int .i64 m, .string ⟨s.toArray⟩, .string ⟨t.toArray⟩, .string ⟨u.toArray⟩] 73)) = W1 at *
  have o0 := hop 0 _ rfl
  have o1 := hop 1 _ rfl
  have o2 := hop 2 _ rfl
  have o3 := hop 3 _ rfl
  have o4 := hop 4 _ rfl
  have o5 := hop 5 _ rfl
  have o6 := hop 6 _ rfl
  have e0 := (hB1.cell (p := ⟨Wb, 0, none⟩) hWl).trans c0
  have e1 := (hB1.cell (p := ⟨g, i * 2, none⟩) hg).trans d1
  have e2 := (hB1.cell (p := ⟨g, i * 2 + 1, none⟩) hg).trans d2
  have HB1 := hide0 hB1
  have HLW1 := hide0 (HH.out.below hB1)
  have hlt1 : w.heap.size < W1.heap.size := by omega
  clear hop hB1 hs1 c0 d1 d2 HH
  go_region_held3 (fun w' => w'.cell? ⟨Wb, 0, none⟩ = some (.slice (some ⟨g, 0, none⟩) L.length ac) ∧ w'.cell? ⟨w.heap.size, 1, none⟩ = some (.int .i64 wi) ∧ w'.cell? ⟨g, i * 2, none⟩ = some (.pointer (some ⟨bx, 0, none⟩)) ∧ w'.cell? ⟨g, i * 2 + 1, none⟩ = some (.pointer (some ⟨by_, 0, none⟩))) (go_keep) (first
    | (go_at_call 79; refine (HPick.out _).mono ?_; rintro e w4 ⟨rfl, hw4⟩; subst hw4))
  all_goals
    go_wp2_with fail
    have hB2 : Below W1.heap.size W1 (W1.alloc (Obj.cells #[.pointer (some ⟨bx, 0, none⟩), .pointer (some ⟨by_, 0, none⟩)] 85)).drew := ((Below.refl _ _).alloc (Nat.le_refl _) _).drew
    refine (HCall.out _ (HLW1.out.below hB2)).mono ?_
    rintro e w5 ⟨rfl, hgo⟩
    have HGo := hide0 (HG.out _ _ (HB1.out.trans (hB2.mono (by omega))) hgo)
    clear hgo hB2
    go_wp2
    go_ret
    exact ⟨rfl, HGo.out⟩
end Go.Proofs.YtolgebdmffcemaaGreatDoor
namespace Go.Proofs.YtolgebdmffcemaaGreatDoor
open Go.RowKit
set_option maxHeartbeats 400000 in
theorem g_New (w : World) : Calls Tryz.prog 24 #[] w fun e w' => e = .returned (.pointer (some ⟨w.heap.size, 0, none⟩)) ∧ w' = w.alloc (.cells #[.slice none 0 0, .slice none 0 0, .slice none 0 0] 102) := by
  go_enter Tryz.func24, Tryz.ntmps24
  go_wp2
  go_ret
  exact ⟨rfl, rfl⟩
theorem pt_form' {w : World} {M : Nat → Prop} {v : Value} {t : List R.Leaf} (h : PT w M v t) : ∃ a c, v = .slice a t.length c := by
  obtain ⟨L, rfl, ⟨a, c, rfl, _⟩, _⟩ := h
  exact ⟨a, c, by simp⟩
theorem ret_si {a b : List UInt8} {k l : Int} (h : b = a) (g : l = k) : Ending.returned (.tuple #[.string ⟨a.toArray⟩, .int .i64 k]) = .returned (.tuple #[.string ⟨b.toArray⟩, .int .i64 l]) := by rw [h, g]
set_option maxHeartbeats 400000 in
theorem g_Show (B : Nat) (st : R.St) (name : List UInt8) (w : World) (M O : Nat → Prop) (h : PS w M O B st) (hi : Inv st) (hG : Glob w) :
    Calls Tryz.prog 20 #[.pointer (some ⟨B, 0, none⟩), .string ⟨name.toArray⟩] w fun e w' => e = .returned (.tuple #[.string ⟨(R.shown st name).1.toArray⟩, .int .i64 (R.shown st name).2]) ∧ Below w.heap.size w w' := by
  obtain ⟨bv, cv, LB, LCm, hP⟩ := h
  have hfd := g_find hP hi name
  by_cases hf : R.fnd st.brs name < st.brs.length
  · obtain ⟨hl, ha, he, _, hwk⟩ := brAddr_some hP name hf
    have hnn : ¬ R.fndI st.brs name < 0 := by rw [R.fndI, if_pos hf]; omega
    have HR : Hid (R.shown st name = (R.Written (R.workOf st name), 0)) := by show _ = _; rw [R.shown, if_neg hnn]
    have hat := hP.at_ _ (List.getElem_mem hl)
    have hpt := hat.work
    have c2 := hat.c2
    rw [← hwk] at hpt
    obtain ⟨ta, tc, htv⟩ := pt_form' hpt
    rw [htv] at c2 hpt
    have hwr := g_twritten _ (R.workOf st name) w M hpt (workOf_ok hi name).ok (by have := (workOf_ok hi name).few; omega) hG
    rw [ha] at hfd
    generalize (LB[R.fnd st.brs name]'hl).2.1 = bb at *
    clear hP hi hf hnn he ha hwk hpt hat htv hG
    generalize R.workOf st name = t at *
    go_enter Tryz.func20, Tryz.ntmps20
    go_wp2_with fail
    refine hfd.mono ?_
    rintro e w1 ⟨rfl, hw1⟩
    subst hw1
    go_wp2_with fail
    refine hwr.mono ?_
    rintro e w2 ⟨rfl, hb2⟩
    go_wp2
    go_ret2
    exact ⟨ret_si (by rw [HR.out]) (by rw [HR.out]), hb2⟩
  · have hnn : R.fndI st.brs name < 0 := by rw [R.fndI, if_neg hf]; omega
    have HR : Hid (R.shown st name = ([], 5)) := by show _ = _; rw [R.shown, if_pos hnn]
    have ha : brAddr LB st name = none := by rw [brAddr, if_neg hf]
    rw [ha] at hfd
    clear hP hi hf hnn ha
    go_enter Tryz.func20, Tryz.ntmps20
    go_wp2_with fail
    refine hfd.mono ?_
    rintro e w1 ⟨rfl, hw1⟩
    subst hw1
    go_wp2
    go_ret2
    exact ⟨ret_si (by rw [HR.out]) (by rw [HR.out]), Below.refl _ _⟩
set_option maxHeartbeats 800000 in
set_option maxRecDepth 1000000 in
theorem g_Branches (B : Nat) (st : R.St) (w : World) (M O : Nat → Prop) (h : PS w M O B st) (hi : Inv st) :
    Calls Tryz.prog 39 #[.pointer (some ⟨B, 0, none⟩)] w fun e w' => ∃ va vc, e = .returned (.slice va st.brs.length vc) ∧ w'.ownsRow w.heap.size 9 1 (.slice va st.brs.length vc) st.brs.length (st.brs.map fun b => S b.name) ∧ Below w.heap.size w w' := by
  obtain ⟨bv, cv, LB, LCm, hP⟩ := h
  have hlen : st.brs.length = LB.length := by rw [← hP.brs, List.length_map]
  have hmany := hi.many
  have hB := hP.lt B hP.own
  have c0 := hP.c0
  have HN : Hid (st.brs.map (fun b => S b.name) = LB.map fun p => S p.1.name) := by show _ = _; rw [← hP.brs, List.map_map]; rfl
  have HI : Hid (∀ p ∈ LB, p.2.1 < w.heap.size ∧ w.cell? ⟨p.2.1, 0, none⟩ = some (.string ⟨p.1.name.toArray⟩)) := fun p hp => ⟨hP.lt _ (hP.blk p hp).1, (hP.at_ p hp).c0⟩
  obtain ⟨a, cap, rfl, hn, hm, hnil, hsome⟩ := owns_form hP.row
  rw [hlen]
  rw [hlen] at hmany
  unfold maxLen at hm
  clear hP hi hlen
  go_enter Tryz.func39, Tryz.ntmps39
  go_wp2
  go_loopw [3, 11] (fun s i wr => ∃ k : Nat, k ≤ LB.length ∧ i = .int .i64 k ∧ (∃ va vc, s = .slice va k vc) ∧ wr.ownsRow w.heap.size 9 1 s k ((LB.take k).map fun p => S p.1.name) ∧ Below w.heap.size w wr) (fun _ i _ => LB.length - (intOf i).toNat)
  case atStart => exact ⟨0, Nat.zero_le _, rfl, ⟨none, 0, rfl⟩, World.ownsRow_nil _ _ _ _, Below.refl _ _⟩
  case round =>
    obtain ⟨k, hk, rfl, ⟨va, vc, rfl⟩, ho, hb⟩ := hrel
    have hsz := hb.size
    by_cases hlt : k < LB.length
    · cases a with
      | none => have := (hnil rfl).1; omega
      | some ad =>
      obtain ⟨g, rfl, _, hgl, _, hcell⟩ := hsome ad rfl
      have e0 := (hb.cell (p := ⟨g, k, none⟩) hgl).trans (ptrs_at hcell k hlt)
      have hii := HI.out _ (List.getElem_mem hlt)
      have n0 := (hb.cell (p := ⟨(LB[k]'hlt).2.1, 0, none⟩) hii.1).trans hii.2
      have HT : Hid ((LB.take (k + 1)).map (fun p : BrP => S p.1.name) = (LB.take k).map (fun p : BrP => S p.1.name) ++ [.string ⟨(LB[k]'hlt).1.name.toArray⟩]) := by
        show _ = _
        rw [List.take_succ_eq_append_getElem hlt, List.map_append]; rfl
      have HO := hide3 ho
      generalize (LB[k]'hlt).1.name = nm at *
      generalize (LB[k]'hlt).2.1 = bb at *
      have hbb := hii.1
      clear hcell hsome hnil hii ho
      go_wp2_with (at_builtin; go_loud (refine wp_app _ (by rfl) _ _ 45 (by rfl) w.heap.size 9 (.string ⟨#[]⟩) 1 16 Tryz.underlying45 Tryz.info9 (by rfl) (by decide) HO.out #[.string ⟨nm.toArray⟩] rfl (by rfl) (by rfl) (by intro u hu; simp at hu; subst hu; rfl) (by unfold maxLen; omega) (by omega) hsz ?_))
      intro v' w1 ho1 hg1
      have HO1 := hide3 ho1
      have HB1 : Hid (Below w.heap.size w w1) := hb.grown hg1 hsz (fun j hj => (HO.out.lt j hj).1)
      obtain ⟨a1, c1, hv1, _⟩ := owns_form ho1
      subst hv1
      clear ho1 hg1 hb
      go_wp2
      go_roundw
      case rel =>
        refine ⟨k + 1, by omega, by go_num, ⟨a1, c1, rfl⟩, ?_, HB1.out⟩
        have := HO1.out
        rw [← List.map_take, ← HT.out] at this
        exact this
      case measure => simp [intOf]; omega
    · have hkl : k = LB.length := by omega
      subst hkl
      have HO := hide3 ho
      clear ho
      go_wp2
      go_ret
      refine ⟨va, vc, rfl, ?_, hb⟩
      have := HO.out
      rw [List.take_length] at this
      rw [HN.out]
      exact this
end Go.Proofs.YtolgebdmffcemaaGreatDoor
namespace Go.Proofs.YtolgebdmffcemaaGreatDoor
open Go.RowKit
set_option maxHeartbeats 3200000 in
set_option maxRecDepth 1000000 in
theorem l_vShow {w : World} {h0 Wb : Nat} {O : Nat → Prop} {L : List SP} {names : List (Value × List UInt8)} {nums : List (Value × Int)} {last K : Nat} (h : LW w h0 Wb O L names nums last) (hA : Agree K L) (i : Nat) (hi : i < L.length) (wi n m : Int) (s t u : List UInt8) :
    Calls Tryz.prog 81 #[.agg #[.pointer (some ⟨L[i].bx, 0, none⟩), .pointer (some ⟨L[i].by_, 0, none⟩)], .agg (opC 11 wi n m s t u)] w fun e w' => e = .returned (.bool true) ∧ Goes w w' h0 Wb L.length names.length last K := by
  have hsxy := (hA i hi).1
  have HX := fun W (hW : LW W h0 Wb O L names nums last) => g_Show L[i].bx L[i].sx s W (MM O L) L[i].ox (hW.px i hi).1 (hW.px i hi).2 hW.g
  have HY := fun W (hW : LW W h0 Wb O L names nums last) => r_Show L[i].by_ L[i].sy s W (MM O L) L[i].oy (hW.py i hi).1 (hW.py i hi).2.fine
  rw [hsxy] at HX
  have HH := hide0 h
  have HA := hide0 hA
  unfold opC
  clear hsxy h hA
  generalize R.shown L[i].sy s = r at *
  generalize L[i].bx = bx at *
  generalize L[i].by_ = by_ at *
  obtain ⟨sh, e0⟩ := r
  have HB2 : Hid (Below w.heap.size w ((w.alloc (Obj.cells #[.pointer (some ⟨bx, 0, none⟩), .pointer (some ⟨by_, 0, none⟩)] 85)).alloc (Obj.cells #[.int .i64 11, .int .i64 wi, .int .i64 n, .int .i64 m, .string ⟨s.toArray⟩, .string ⟨t.toArray⟩, .string ⟨u.toArray⟩] 73))) := ((Below.refl _ _).alloc (Nat.le_refl _) _).alloc (by simp) _
  have HX3 := hide0 HX
  have HY3 := hide0 HY
  clear HX HY
  go_enter Tryz.func81, Tryz.ntmps81
  go_wp2_with fail
  refine (HX3.out _ (HH.out.below HB2.out)).mono ?_
  rintro e w3 ⟨rfl, hb3⟩
  have hB3 := HB2.out.trans (hb3.mono (by simp; omega))
  have y1 : w3.cell? ⟨w.heap.size, 1, none⟩ = some (.pointer (some ⟨by_, 0, none⟩)) := by rw [hb3.cell (p := ⟨w.heap.size, 1, none⟩) (by simp <;> omega)]; simp
  have z4 : w3.cell? ⟨w.heap.size + 1, 4, none⟩ = some (.string ⟨s.toArray⟩) := by rw [hb3.cell (p := ⟨w.heap.size + 1, 4, none⟩) (by simp)]; simp
  have HB3 := hide0 hB3
  clear hb3 hB3
  go_wp2_with fail
  refine (HY3.out _ (HH.out.below HB3.out)).mono ?_
  rintro e w4 ⟨rfl, hb4⟩
  have HB4 : Hid (Below w.heap.size w w4) := HB3.out.trans (hb4.mono HB3.out.size)
  clear hb4
  go_wp2_with fail
  refine (l_num e0 _).mono ?_
  rintro e w5 ⟨rfl, hw5⟩
  subst hw5
  have hs0 := HH.out.hs
  have HG : Hid (Goes w w5 h0 Wb L.length names.length last K) := ⟨O, L, names, nums, last, HH.out.below HB4.out, rfl, HA.out, Nat.le_refl _, Nat.le_refl _, HB4.out.mono hs0⟩
  go_wp2
  go_ret
  exact ⟨ret_bool (by simp), HG.out⟩
end Go.Proofs.YtolgebdmffcemaaGreatDoor
