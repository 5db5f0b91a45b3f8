/-
  The statement's own function values (graftlaw) at vTake: both stores answer alike, and hold the same behind it.
  One step of the statement's (graftlaw.World.step), of the kind Take: as the document says.
  The program's Add, Note, Put, Take, Delete (over Store.change): as the document's answer has them.
  The statement's own function values (graftlaw) at vDelete: both stores answer alike, and hold the same behind it.
-/
import Derived.Test.YtolgebdmffcemaaGreatDoorPart11
import Derived.Test.YtolgebdmffcemaaGreatDoorPart27
import Derived.Test.YtolgebdmffcemaaGreatDoorPart28
import Derived.Deep.RegionHeld3
import Derived.Test.YtolgebdmffcemaaGreatDoorPart23
import Derived.Test.YtolgebdmffcemaaGreatDoorPart15
import Derived.Test.YtolgebdmffcemaaGreatDoorPart18
import Derived.Test.YtolgebdmffcemaaGreatDoorPart20
import Derived.Test.YtolgebdmffcemaaGreatDoorPart21
set_option linter.unusedVariables false
namespace Go.Proofs.YtolgebdmffcemaaGreatDoor
open Go.RowKit
set_option maxHeartbeats 3200000 in
set_option maxRecDepth 1000000 in
theorem l_vTake {w : World} {h0 Wb : Nat} {O : Nat → Prop} {L : List SP} {names : List (Value × List UInt8)} {nums : List (Value × Int)} {last K : Nat} (h : LW w h0 Wb O L names nums last) (hA : Agree K L) (hK : K ≤ 100000000000) (i : Nat) (hi : i < L.length) (wi n m : Int) (s t u : List UInt8)
    (hn1 : n ≤ 9223372036854775807) (hn2 : -9223372036854775808 ≤ n) (hsl : s.length ≤ maxLen) (htl : t.length ≤ maxLen) (hul : u.length ≤ maxLen) :
    Calls Tryz.prog 81 #[.agg #[.pointer (some ⟨L[i].bx, 0, none⟩), .pointer (some ⟨L[i].by_, 0, none⟩)], .agg (opC 9 wi n m s t u)] w fun e w' => e = .returned (.bool true) ∧ Goes w w' h0 Wb L.length names.length last (K + 20) := by
  have hsxy := (hA i hi).1
  have hpk := (hA i hi).2
  have HX := fun W (hW : LW W h0 Wb O L names nums last) => g_Take L[i].bx L[i].sx s t u W (MM O L) L[i].ox (hW.px i hi).1 hW.lt (hW.px i hi).2 hW.g htl hul
  have HY := fun W (L1 : List SP) (h1 : i < L1.length) (hW : LW W h0 Wb O L1 names nums last) (e1 : L1[i].by_ = L[i].by_) (e2 : L1[i].sy = L[i].sy) => r_Take L1[i].by_ L1[i].sy s t u 0 W (MM O L1) L1[i].oy (hW.py i h1).1 hW.lt (hW.py i h1).2.fine (fun b hb y hy => (((hW.py i h1).2.work b hb).ok y hy).nz) htl hul (by decide) (by decide)
  have HInv : Hid (Inv (R.change L[i].sy 45 s t 0 u).2) := change_inv (h.py i hi).2 45 s t 0 u (by decide)
  have HPk : Hid ((R.change L[i].sy 45 s t 0 u).2.packed.length ≤ K + 20) := by show _ ≤ _; rw [change_packed]; omega
  have HH := hide0 h
  have HA := hide0 hA
  have HSt := hide0 hsxy
  unfold opC
  rw [hsxy] at HX
  have HX' : ∀ W, LW W h0 Wb O L names nums last → Calls Tryz.prog 32 #[.pointer (some ⟨L[i].bx, 0, none⟩), .string ⟨s.toArray⟩, .string ⟨t.toArray⟩, .string ⟨u.toArray⟩] W fun e w' => e = .returned (.int .i64 (R.change L[i].sy 45 s t 0 u).1) ∧ PStep W w' (MM O L) L[i].ox L[i].bx (R.change L[i].sy 45 s t 0 u).2 := HX
  have HY' : ∀ W (L1 : List SP) (h1 : i < L1.length), LW W h0 Wb O L1 names nums last → L1[i].by_ = L[i].by_ → L1[i].sy = L[i].sy → Calls Tryz.prog 122 #[.pointer (some ⟨L[i].by_, 0, none⟩), .int .u8 45, .string ⟨s.toArray⟩, .string ⟨t.toArray⟩, .int .i64 0, .string ⟨u.toArray⟩] W fun e w' => e = .returned (.int .i64 (R.change L[i].sy 45 s t 0 u).1) ∧ Step W w' (MM O L1) L1[i].oy L1[i].by_ (R.change L[i].sy 45 s t 0 u).2 := fun W L1 h1 hW e1 e2 => by
    have := HY W L1 h1 hW e1 e2
    rw [e2] at this
    rw [← e1]
    exact this
  clear HX HY hsxy hpk hA
  generalize R.change L[i].sy 45 s t 0 u = r at *
  obtain ⟨bx, HBX⟩ : ∃ bx, Hid (L[i].bx = bx) := ⟨L[i].bx, hide0 rfl⟩
  obtain ⟨by_, HBY⟩ : ∃ by_, Hid (L[i].by_ = by_) := ⟨L[i].by_, hide0 rfl⟩
  rw [HBX.out, HBY.out]
  have HX2 : ∀ W, LW W h0 Wb O L names nums last → Calls Tryz.prog 32 #[.pointer (some ⟨bx, 0, none⟩), .string ⟨s.toArray⟩, .string ⟨t.toArray⟩, .string ⟨u.toArray⟩] W fun e w' => e = .returned (.int .i64 r.1) ∧ PStep W w' (MM O L) L[i].ox L[i].bx r.2 := fun W hW => by rw [← HBX.out]; exact HX' W hW
  have HY2 : ∀ W (L1 : List SP) (h1 : i < L1.length), LW W h0 Wb O L1 names nums last → L1[i].by_ = L[i].by_ → L1[i].sy = L[i].sy → Calls Tryz.prog 122 #[.pointer (some ⟨by_, 0, none⟩), .int .u8 45, .string ⟨s.toArray⟩, .string ⟨t.toArray⟩, .int .i64 0, .string ⟨u.toArray⟩] W fun e w' => e = .returned (.int .i64 r.1) ∧ Step W w' (MM O L1) L1[i].oy L1[i].by_ r.2 := fun W L1 h1 hW e1 e2 => by rw [← HBY.out]; exact HY' W L1 h1 hW e1 e2
  clear HX' HY' h
  have HB2 : Hid (Below w.heap.size w ((w.alloc (Obj.cells #[.pointer (some ⟨bx, 0, none⟩), .pointer (some ⟨by_, 0, none⟩)] 85)).alloc (Obj.cells #[.int .i64 9, .int .i64 wi, .int .i64 n, .int .i64 m, .string ⟨s.toArray⟩, .string ⟨t.toArray⟩, .string ⟨u.toArray⟩] 73))) := ((Below.refl _ _).alloc (Nat.le_refl _) _).alloc (by simp) _
  have HC : Hid (∀ w3, Kept L[i].ox ((w.alloc (Obj.cells #[.pointer (some ⟨bx, 0, none⟩), .pointer (some ⟨by_, 0, none⟩)] 85)).alloc (Obj.cells #[.int .i64 9, .int .i64 wi, .int .i64 n, .int .i64 m, .string ⟨s.toArray⟩, .string ⟨t.toArray⟩, .string ⟨u.toArray⟩] 73)) w3 → (∀ o, w3.cell? ⟨w.heap.size, o, none⟩ = ((w.alloc (Obj.cells #[.pointer (some ⟨bx, 0, none⟩), .pointer (some ⟨by_, 0, none⟩)] 85)).alloc (Obj.cells #[.int .i64 9, .int .i64 wi, .int .i64 n, .int .i64 m, .string ⟨s.toArray⟩, .string ⟨t.toArray⟩, .string ⟨u.toArray⟩] 73)).cell? ⟨w.heap.size, o, none⟩) ∧ (∀ o, w3.cell? ⟨w.heap.size + 1, o, none⟩ = ((w.alloc (Obj.cells #[.pointer (some ⟨bx, 0, none⟩), .pointer (some ⟨by_, 0, none⟩)] 85)).alloc (Obj.cells #[.int .i64 9, .int .i64 wi, .int .i64 n, .int .i64 m, .string ⟨s.toArray⟩, .string ⟨t.toArray⟩, .string ⟨u.toArray⟩] 73)).cell? ⟨w.heap.size + 1, o, none⟩)) := fun w3 hk =>
    ⟨box_keeps HH.out HB2.out (fun b e => .inr ⟨i, hi, .inl e⟩) hk (Nat.le_refl _) (by simp <;> omega), box_keeps HH.out HB2.out (fun b e => .inr ⟨i, hi, .inl e⟩) hk (by omega) (by simp)⟩
  go_enter Tryz.func81, Tryz.ntmps81
  go_wp2_with fail
  refine (HX2 _ (HH.out.below HB2.out)).mono ?_
  rintro e w3 ⟨rfl, hst⟩
  obtain ⟨L1, l1, hL1, ⟨hi1, eb1, ey1, ex1, es1, eo1⟩, ho1, hb1, hk1⟩ := (HH.out.below HB2.out).X i hi hst HInv.out
  obtain ⟨hp, hq⟩ := HC.out w3 hk1
  have y1 : w3.cell? ⟨w.heap.size, 1, none⟩ = some (.pointer (some ⟨by_, 0, none⟩)) := by rw [hp]; simp
  have z2 : w3.cell? ⟨w.heap.size + 1, 2, none⟩ = some (.int .i64 n) := by rw [hq]; simp
  have z4 : w3.cell? ⟨w.heap.size + 1, 4, none⟩ = some (.string ⟨s.toArray⟩) := by rw [hq]; simp
  have z5 : w3.cell? ⟨w.heap.size + 1, 5, none⟩ = some (.string ⟨t.toArray⟩) := by rw [hq]; simp
  have z6 : w3.cell? ⟨w.heap.size + 1, 6, none⟩ = some (.string ⟨u.toArray⟩) := by rw [hq]; simp
  have HL1 := hide0 hL1
  have HE := hide0 (And.intro eb1 (And.intro ey1 (And.intro ex1 es1)))
  have HO1 := hide0 ho1
  have HOY := hide0 eo1
  have hs3 : w.heap.size + 2 ≤ w3.heap.size := by have := hk1.size; simpa using this
  have HBe1 := hide0 hb1
  clear hst hL1 eb1 ey1 ex1 es1 eo1 ho1 hb1 hk1 hp hq
  have HY3 := hide0 HY2
  have HC5 : Hid (∀ w5, Step w3.drew w5 (MM O L1) L1[i].oy L1[i].by_ r.2 → (∀ o, w5.cell? ⟨w.heap.size, o, none⟩ = w3.cell? ⟨w.heap.size, o, none⟩) ∧ (∀ o, w5.cell? ⟨w.heap.size + 1, o, none⟩ = w3.cell? ⟨w.heap.size + 1, o, none⟩)) := fun w5 hs5 => by
    obtain ⟨_, _, hk5, _⟩ := hs5
    have hz : ∀ b, L1[i].oy b → b < w.heap.size ∨ w.heap.size + 2 ≤ b := fun b e => .inl (HH.out.lt b (.inr ⟨i, hi, .inr (by rw [← HOY.out]; exact e)⟩))
    exact ⟨fun o => hk5.cell (p := ⟨w.heap.size, o, none⟩) (by show w.heap.size < w3.heap.size; omega) (fun e => by have := hz w.heap.size e; omega), fun o => hk5.cell (p := ⟨w.heap.size + 1, o, none⟩) (by show w.heap.size + 1 < w3.heap.size; omega) (fun e => by have := hz (w.heap.size + 1) e; omega)⟩
  clear HX2 HY2
  go_wp2_with fail
  go_region_held3 (fun w' => w'.cell? ⟨w.heap.size, 1, none⟩ = some (.pointer (some ⟨by_, 0, none⟩)) ∧ w'.cell? ⟨w.heap.size + 1, 2, none⟩ = some (.int .i64 n) ∧ w'.cell? ⟨w.heap.size + 1, 4, none⟩ = some (.string ⟨s.toArray⟩) ∧ w'.cell? ⟨w.heap.size + 1, 5, none⟩ = some (.string ⟨t.toArray⟩) ∧ w'.cell? ⟨w.heap.size + 1, 6, none⟩ = some (.string ⟨u.toArray⟩)) (first | exact ⟨y1, z2, z4, z5, z6⟩ | exact ⟨m1, m2, m4, m5, m6⟩ | go_keep) (first
    | (go_at_call 117; refine (l_num r.1 _).mono ?_; rintro e w4 ⟨rfl, hw4⟩; subst hw4)
    | (go_at_call 122; go_loud (refine (HY3.out _ L1 hi1 (HL1.out.below (Below.refl _ _).drew) HE.out.2.1 HE.out.2.2.2).mono ?_; rintro e w5 ⟨rfl, hst5⟩; have m1 := ((HC5.out w5 hst5).1 1).trans y1; have m2 := ((HC5.out w5 hst5).2 2).trans z2; have m4 := ((HC5.out w5 hst5).2 4).trans z4; have m5 := ((HC5.out w5 hst5).2 5).trans z5; have m6 := ((HC5.out w5 hst5).2 6).trans z6)))
  all_goals
    obtain ⟨L2, l2, hL2, ⟨hi2, eb2, ey2, ex2, es2, eo2⟩, ho2, hb2, hk2⟩ := (HL1.out.below (Below.refl _ _).drew).Y i hi1 hst5 HInv.out
    have hs0 := HH.out.hs
    have HG : Hid (Goes w w5 h0 Wb L.length names.length last (K + 20)) :=
      ⟨O, L2, names, nums, last, hL2, l2.trans l1, agree_both HA.out (by omega) hi l1 l2 ⟨hi1, HE.out.2.2.1⟩ HO1.out ⟨hi2, ex2, hi1, es2⟩ ho2 HPk.out, Nat.le_refl _, Nat.le_refl _, ((HB2.out.mono hs0).trans HBe1.out).drew.trans hb2⟩
    clear hst5 hL2 ho2 hb2 hk2 eb2 ey2 ex2 es2 eo2 HC HC5 HY3 HL1 HBe1 m1 m2 m4 m5 m6
    go_wp2
    go_ret
    exact ⟨ret_bool (by simp), HG.out⟩
end Go.Proofs.YtolgebdmffcemaaGreatDoor
namespace Go.Proofs.YtolgebdmffcemaaGreatDoor
open Go.RowKit
theorem pick_ltTake (c : Int) (n : Nat) (h : 0 < n) : ∃ i : Nat, i < n ∧ pickI c n = (i : Int) := by
  have h1 : 0 ≤ pickI c n := by
    unfold pickI; split
    · exact Int.emod_nonneg _ (by omega)
    · exact Int.emod_nonneg _ (by omega)
  have h2 : pickI c n < n := by
    unfold pickI; split
    · exact Int.emod_lt_of_pos _ (by omega)
    · exact Int.emod_lt_of_pos _ (by omega)
  exact ⟨(pickI c n).toNat, by omega, by omega⟩
theorem cellsA_atTake : ∀ (ps : List (Nat × Nat)) (i : Nat) (h : i < ps.length), (cellsA ps)[i * 2]? = some (.pointer (some ⟨(ps[i]'h).1, 0, none⟩)) ∧ (cellsA ps)[i * 2 + 1]? = some (.pointer (some ⟨(ps[i]'h).2, 0, none⟩))
  | p :: r, 0, _ => by simp [cellsA]
  | p :: r, i + 1, h => by
    have ih := cellsA_atTake r i (by simpa using h)
    unfold cellsA at ih ⊢
    rw [List.flatMap_cons, show (i + 1) * 2 = i * 2 + 2 from by omega]
    simpa using ih
set_option maxHeartbeats 3200000 in
set_option maxRecDepth 1000000 in
theorem l_sTake {w : World} {h0 Wb : Nat} {O : Nat → Prop} {L : List SP} {names : List (Value × List UInt8)} {nums : List (Value × Int)} {last K : Nat} (h : LW w h0 Wb O L names nums last) (hA : Agree K L) (hK : K ≤ 100000000000) (hla : last ≤ 1000000) (hnm : names.length ≤ 100000000) (hL : 0 < L.length) (hL2 : L.length ≤ 1000) (wi n m : Int) (s t u : List UInt8)
    (hw1 : wi ≤ 9223372036854775807) (hw2 : -9223372036854775808 ≤ wi) (hn1 : n ≤ 9223372036854775807) (hn2 : -9223372036854775808 ≤ n) (hsl : s.length ≤ maxLen) (htl : t.length ≤ maxLen) (hul : u.length ≤ maxLen) :
    Calls Tryz.prog 43 #[.pointer (some ⟨Wb, 0, none⟩), .agg (opC 9 wi n m s t u)] w fun e w' => e = .returned (.bool true) ∧ Goes w w' h0 Wb L.length (names.length + 9) (last + 1) (K + 20) := by
  obtain ⟨i, hi, hpi⟩ := pick_ltTake wi L.length hL
  have HP := fun W => l_pick wi (L.length : Int) W (by omega) (by omega) hw2 hw1
  rw [hpi] at HP
  have HC := fun W (hW : LW W h0 Wb O L names nums last) => l_vTake hW hA hK i hi wi n m s t u hn1 hn2 hsl htl hul
  have HG : Hid (∀ W w', Below w.heap.size w W → Goes W w' h0 Wb L.length names.length last (K + 20) → Goes w w' h0 Wb L.length (names.length + 9) (last + 1) (K + 20)) := by
    rintro W w' hb ⟨O', L', names', nums', last', h1, h2, h3, h4, h5, h6⟩
    exact ⟨O', L', names', nums', last', h1, h2, fun j hj => ⟨(h3 j hj).1, by have := (h3 j hj).2; omega⟩, by omega, by omega, (hb.mono h.hs).trans h6⟩
  have HH := hide0 h
  obtain ⟨av, nv, tv, uv, kv, hl⟩ := h.lw
  have hWl := hl.lt Wb hl.own
  have c0 := hl.c0
  have hrow := hl.arow
  rw [List.length_map] at hrow
  obtain ⟨aa, ac, hav, ha1, ha2, ha3, ha4⟩ := owns_form hrow
  rw [hav] at c0
  cases aa with
  | none => have := (ha3 rfl).1; omega
  | some ad =>
  obtain ⟨g, rfl, _, hg, _, hcell⟩ := ha4 ad rfl
  have hca := cellsA_atTake (L.map fun p => (p.bx, p.by_)) i (by simpa using hi)
  have d1 := hcell _ _ hca.1
  have d2 := hcell _ _ hca.2
  simp only [List.getElem_map] at d1 d2
  unfold maxLen at ha2
  clear h hA hl hrow hav ha3 ha4 hcell hca hpi
  generalize L[i].bx = bx at *
  generalize L[i].by_ = by_ at *
  have HPick := hide0 HP
  have HCall := hide0 HC
  clear HP HC
  go_enter Tryz.func43, Tryz.ntmps43
  unfold opC
  go_wp2_with fail
  have hB1 : Below w.heap.size w (w.alloc (Obj.cells #[.int .i64 9, .int .i64 wi, .int .i64 n, .int .i64 m, .string ⟨s.toArray⟩, .string ⟨t.toArray⟩, .string ⟨u.toArray⟩] 73)) := (Below.refl _ _).alloc (Nat.le_refl _) _
  have hs1 : (w.alloc (Obj.cells #[.int .i64 9, .int .i64 wi, .int .i64 n, .int .i64 m, .string ⟨s.toArray⟩, .string ⟨t.toArray⟩, .string ⟨u.toArray⟩] 73)).heap.size = w.heap.size + 1 := by simp
  have hop : ∀ j v, #[Value.int .i64 9, .int .i64 wi, .int .i64 n, .int .i64 m, .string ⟨s.toArray⟩, .string ⟨t.toArray⟩, .string ⟨u.toArray⟩][j]? = some v → (w.alloc (Obj.cells #[.int .i64 9, .int .i64 wi, .int .i64 n, .int .i64 m, .string ⟨s.toArray⟩, .string ⟨t.toArray⟩, .string ⟨u.toArray⟩] 73)).cell? ⟨w.heap.size, j, none⟩ = some v := fun j v hv => by rw [World.cell?_alloc_at _ _ _ _ rfl]; exact hv
  generalize (w.alloc (Obj.cells #[.int .i64 9, .int .i64 wi, .int .i64 n, .int .i64 m, .string ⟨s.toArray⟩, .string ⟨t.toArray⟩, .string ⟨u.toArray⟩] 73)) = W1 at *
  have o0 := hop 0 _ rfl
  have o1 := hop 1 _ rfl
  have o2 := hop 2 _ rfl
  have o3 := hop 3 _ rfl
  have o4 := hop 4 _ rfl
  have o5 := hop 5 _ rfl
  have o6 := hop 6 _ rfl
  have e0 := (hB1.cell (p := ⟨Wb, 0, none⟩) hWl).trans c0
  have e1 := (hB1.cell (p := ⟨g, i * 2, none⟩) hg).trans d1
  have e2 := (hB1.cell (p := ⟨g, i * 2 + 1, none⟩) hg).trans d2
  have HB1 := hide0 hB1
  have HLW1 := hide0 (HH.out.below hB1)
  have hlt1 : w.heap.size < W1.heap.size := by omega
  clear hop hB1 hs1 c0 d1 d2 HH
  go_region_held3 (fun w' => w'.cell? ⟨Wb, 0, none⟩ = some (.slice (some ⟨g, 0, none⟩) L.length ac) ∧ w'.cell? ⟨w.heap.size, 1, none⟩ = some (.int .i64 wi) ∧ w'.cell? ⟨g, i * 2, none⟩ = some (.pointer (some ⟨bx, 0, none⟩)) ∧ w'.cell? ⟨g, i * 2 + 1, none⟩ = some (.pointer (some ⟨by_, 0, none⟩))) (go_keep) (first
    | (go_at_call 79; refine (HPick.out _).mono ?_; rintro e w4 ⟨rfl, hw4⟩; subst hw4))
  all_goals
    go_wp2_with fail
    have hB2 : Below W1.heap.size W1 (W1.alloc (Obj.cells #[.pointer (some ⟨bx, 0, none⟩), .pointer (some ⟨by_, 0, none⟩)] 85)).drew := ((Below.refl _ _).alloc (Nat.le_refl _) _).drew
    refine (HCall.out _ (HLW1.out.below hB2)).mono ?_
    rintro e w5 ⟨rfl, hgo⟩
    have HGo := hide0 (HG.out _ _ (HB1.out.trans (hB2.mono (by omega))) hgo)
    clear hgo hB2
    go_wp2
    go_ret
    exact ⟨rfl, HGo.out⟩
end Go.Proofs.YtolgebdmffcemaaGreatDoor
namespace Go.Proofs.YtolgebdmffcemaaGreatDoor
open Go.RowKit
set_option maxHeartbeats 400000 in
theorem g_Delete1 (tv : Value) (t : List R.Leaf) (path : List UInt8)  (w : World) (M : Nat → Prop) (p0 : Nat) (hM : ∀ b, M b → b < w.heap.size) (h : PT w M tv t) (hok : OkT t) (hs : R.isPath path = true) 
    (hc0 : w.cell? ⟨p0, 0, none⟩ = some (.string ⟨path.toArray⟩))  :
    Calls Tryz.prog 75 #[tv, .pointer (some ⟨p0, 0, none⟩)] w fun e w' => Left1 w w' M e t (R.delV (R.at_ t path) path) := by
  have hin := g_remove tv t path w M hM h hok hs
  clear h hok
  go_enter Tryz.func75, Tryz.ntmps75
  go_wp2_with fail
  refine hin.mono ?_
  rintro e w1 ⟨va, vn, vc, rfl, hp, hb⟩
  go_wp2
  go_ret2
  exact ⟨va, vn, vc, rfl, hp, hb⟩
set_option maxHeartbeats 800000 in
set_option maxRecDepth 1000000 in
theorem g_change_Delete (B : Nat) (st : R.St) (branch path : List UInt8)  (w : World) (M O : Nat → Prop) (p0 : Nat) (h : PS w M O B st) (hM : ∀ b, M b → b < w.heap.size) (hi : Inv st) (hG : Glob w) (hpl : path.length ≤ maxLen) 
    (hp0 : p0 < w.heap.size)  (hc0 : w.cell? ⟨p0, 0, none⟩ = some (.string ⟨path.toArray⟩))  :
    Calls Tryz.prog 55 #[.pointer (some ⟨B, 0, none⟩), .string ⟨branch.toArray⟩, .string ⟨path.toArray⟩, .func (.func 75) #[] #[.pointer (some ⟨p0, 0, none⟩)]] w fun e w' => e = .returned (.int .i64 (R.change st 0 branch path 0 []).1) ∧ PStep w w' M O B (R.change st 0 branch path 0 []).2 := by
  have hPS := h
  obtain ⟨bv, cv, LB, LCm, hP⟩ := h
  have hfd := g_find hP hi branch
  obtain ⟨mx, hmx⟩ := hG.mx
  have hip := fun W (hW : Below w.heap.size w W) => g_isPath path W hpl mx (by rw [hW.cell (p := ⟨0, 0, none⟩) (by have := hG.size; show 0 < _; omega)]; exact hmx)
  have HPS := hide3 hPS
  by_cases hf : R.fnd st.brs branch < st.brs.length
  · obtain ⟨hl, ha, he, _, hwk⟩ := brAddr_some hP branch hf
    have hnn : ¬ R.fndI st.brs branch < 0 := by rw [R.fndI, if_pos hf]; omega
    cases hpa : R.isPath path
    · have HR : Hid (R.change st 0 branch path 0 [] = (2, st)) := by show _ = _; rw [R.change, if_neg hnn, if_pos hpa]
      rw [hpa] at hip
      rw [ha] at hfd
      generalize (LB[R.fnd st.brs branch]'hl).2.1 = bb at *
      clear hPS hi hP hf hnn hpa he ha hwk
      go_enter Tryz.func55, Tryz.ntmps55
      go_wp2_with fail
      refine hfd.mono ?_
      rintro e w1 ⟨rfl, hw1⟩
      subst hw1
      go_wp2_with fail
      refine (hip _ (Below.refl _ _)).mono ?_
      rintro e w2 ⟨rfl, hb2⟩
      go_wp2
      go_ret
      exact ⟨ret_int (by rw [HR.out]), by rw [HR.out]; exact PStep.same HPS.out hb2⟩
    · have hat := hP.at_ _ (List.getElem_mem hl)
      have hblk := hP.blk _ (List.getElem_mem hl)
      have hbl := hP.lt _ hblk.1
      rw [hpa] at hip
      rw [ha] at hfd
      have HSet : Hid (∀ (tv : Value) (t : List R.Leaf) (w5 : World), Below w.heap.size w w5 → PT w5 M tv t → PStep w (w5.setCell ⟨(LB[R.fnd st.brs branch]'hl).2.1, 2, none⟩ tv) M O B (R.setWork st (R.fnd st.brs branch) t)) := fun tv t w5 hb ht => setWork_PS hP hl hb ht
      have hokt := workOf_ok hi branch
      have hpt := hat.work
      rw [← hwk] at hpt
      have c2 := hat.c2
      have fr2 := hat.fr 2
      obtain ⟨ta, tc, htv⟩ := pt_form hpt
      rw [htv] at c2 hpt
      have HCh : Hid (R.change st 0 branch path 0 [] = if (R.delV (R.at_ (R.workOf st branch) path) path).1 = 0 then (0, R.setWork st (R.fnd st.brs branch) (R.set (R.workOf st branch) (R.delV (R.at_ (R.workOf st branch) path) path).2)) else ((R.delV (R.at_ (R.workOf st branch) path) path).1, st)) := by
        show _ = _
        rw [R.change, if_neg hnn, if_neg (by rw [hpa]; simp)]; rfl
      have hadd := fun W (hW : Below w.heap.size w W) => g_Delete1 (.slice ta (R.workOf st branch).length tc) (R.workOf st branch) path  W M p0 (fun b hb => by have := hM b hb; have := hW.size; omega) (hpt.below hW) hokt hpa  (by rw [hW.cell (p := ⟨p0, 0, none⟩) hp0]; exact hc0) 
      generalize (LB[R.fnd st.brs branch]'hl).2.1 = bb at *
      clear hPS hi hP hf hnn hpa he ha hwk hpt hat hokt htv hc0 
      generalize R.workOf st branch = t at *
      generalize R.delV (R.at_ t path) path = r at *
      have HS0 := HPS.out
      go_enter Tryz.func55, Tryz.ntmps55
      go_wp2_with fail
      refine hfd.mono ?_
      rintro e w1 ⟨rfl, hw1⟩
      subst hw1
      go_wp2_with fail
      refine (hip _ (Below.refl _ _)).mono ?_
      rintro e w2 ⟨rfl, hb2⟩
      have d2 := (hb2.cell (p := ⟨bb, 2, none⟩) hbl).trans c2
      go_wp2_with fail
      refine (hadd _ hb2).mono ?_
      rintro e w3 ⟨va, vn, vc, rfl, hp3, hb3⟩
      have hB3 := hb2.trans (hb3.mono hb2.size)
      by_cases hr : r.1 = 0
      · have b1 : (r.1 == 0) = true := by simpa using hr
        have b2 : (r.1 != 0) = false := by simp [hr]
        have d3 := (hB3.cell (p := ⟨bb, 2, none⟩) hbl).trans c2
        have f3 := (hB3.frozen (p := ⟨bb, 2, none⟩) hbl).trans fr2
        have HP3 := hide3 (hp3 hr)
        have HR := hide3 hr
        clear hr hp3 d2
        go_wp2
        go_ret
        rw [HCh.out, if_pos HR.out]
        exact ⟨rfl, HSet.out _ _ _ hB3 HP3.out⟩
      · have b1 : (r.1 == 0) = false := by simpa using hr
        have b2 : (r.1 != 0) = true := by simp [hr]
        have HR := hide3 hr
        clear hr hp3 d2
        go_wp2
        go_ret
        rw [HCh.out, if_neg HR.out]
        exact ⟨rfl, PStep.same HPS.out hB3⟩
  · have hnn : R.fndI st.brs branch < 0 := by rw [R.fndI, if_neg hf]; omega
    have HR : Hid (R.change st 0 branch path 0 [] = (5, st)) := by show _ = _; rw [R.change, if_pos hnn]
    have ha : brAddr LB st branch = none := by rw [brAddr, if_neg hf]
    rw [ha] at hfd
    clear hPS hi hP hf hnn ha
    go_enter Tryz.func55, Tryz.ntmps55
    go_wp2_with fail
    refine hfd.mono ?_
    rintro e w1 ⟨rfl, hw1⟩
    subst hw1
    go_wp2
    go_ret
    exact ⟨ret_int (by rw [HR.out]), by rw [HR.out]; exact PStep.same HPS.out (Below.refl _ _)⟩
theorem PStep.afterDelete {w w1 w2 : World} {M O : Nat → Prop} {B : Nat} {st : R.St} (hb : Below w.heap.size w w1) (h : PStep w1 w2 M O B st) : PStep w w2 M O B st := by
  obtain ⟨O', h1, h2, h3⟩ := h
  refine ⟨O', h1, (Kept.of_below hb).trans h2, fun b e => ?_⟩
  rcases h3 b e with e | e
  · exact .inl e
  · exact .inr (Nat.le_trans hb.size e)
set_option maxHeartbeats 400000 in
theorem g_Delete (B : Nat) (st : R.St) (branch path : List UInt8)  (w : World) (M O : Nat → Prop) (h : PS w M O B st) (hM : ∀ b, M b → b < w.heap.size) (hi : Inv st) (hG : Glob w) (hpl : path.length ≤ maxLen)  :
    Calls Tryz.prog 42 #[.pointer (some ⟨B, 0, none⟩), .string ⟨branch.toArray⟩, .string ⟨path.toArray⟩] w fun e w' => e = .returned (.int .i64 (R.change st 0 branch path 0 []).1) ∧ PStep w w' M O B (R.change st 0 branch path 0 []).2 := by
  have hB : Below w.heap.size w (w.alloc (Obj.cells #[.string ⟨path.toArray⟩] 9)) := (Below.refl _ _).alloc (Nat.le_refl _) _
  have hch := g_change_Delete B st branch path  (w.alloc (Obj.cells #[.string ⟨path.toArray⟩] 9)) M O w.heap.size (h.below hB) (fun b hb => by have := hM b hb; simp; omega) hi (hG.below hB) hpl  (by simp <;> omega)  (by simp) 
  clear h
  go_enter Tryz.func42, Tryz.ntmps42
  go_wp2_with fail
  refine hch.mono ?_
  rintro e w1 ⟨rfl, hst⟩
  go_wp2
  go_ret
  exact ⟨rfl, hst.afterDelete hB⟩
end Go.Proofs.YtolgebdmffcemaaGreatDoor
namespace Go.Proofs.YtolgebdmffcemaaGreatDoor
open Go.RowKit
set_option maxHeartbeats 3200000 in
set_option maxRecDepth 1000000 in
theorem l_vDelete {w : World} {h0 Wb : Nat} {O : Nat → Prop} {L : List SP} {names : List (Value × List UInt8)} {nums : List (Value × Int)} {last K : Nat} (h : LW w h0 Wb O L names nums last) (hA : Agree K L) (hK : K ≤ 100000000000) (i : Nat) (hi : i < L.length) (wi n m : Int) (s t u : List UInt8)
    (hn1 : n ≤ 9223372036854775807) (hn2 : -9223372036854775808 ≤ n) (hsl : s.length ≤ maxLen) (htl : t.length ≤ maxLen) (hul : u.length ≤ maxLen) :
    Calls Tryz.prog 81 #[.agg #[.pointer (some ⟨L[i].bx, 0, none⟩), .pointer (some ⟨L[i].by_, 0, none⟩)], .agg (opC 10 wi n m s t u)] w fun e w' => e = .returned (.bool true) ∧ Goes w w' h0 Wb L.length names.length last (K + 20) := by
  have hsxy := (hA i hi).1
  have hpk := (hA i hi).2
  have HX := fun W (hW : LW W h0 Wb O L names nums last) => g_Delete L[i].bx L[i].sx s t W (MM O L) L[i].ox (hW.px i hi).1 hW.lt (hW.px i hi).2 hW.g htl
  have HY := fun W (L1 : List SP) (h1 : i < L1.length) (hW : LW W h0 Wb O L1 names nums last) (e1 : L1[i].by_ = L[i].by_) (e2 : L1[i].sy = L[i].sy) => r_Delete L1[i].by_ L1[i].sy s t [] 0 W (MM O L1) L1[i].oy (hW.py i h1).1 hW.lt (hW.py i h1).2.fine htl (by simp [maxLen]) (by decide) (by decide)
  have HInv : Hid (Inv (R.change L[i].sy 0 s t 0 []).2) := change_inv (h.py i hi).2 0 s t 0 [] (by decide)
  have HPk : Hid ((R.change L[i].sy 0 s t 0 []).2.packed.length ≤ K + 20) := by show _ ≤ _; rw [change_packed]; omega
  have HH := hide0 h
  have HA := hide0 hA
  have HSt := hide0 hsxy
  unfold opC
  rw [hsxy] at HX
  have HX' : ∀ W, LW W h0 Wb O L names nums last → Calls Tryz.prog 42 #[.pointer (some ⟨L[i].bx, 0, none⟩), .string ⟨s.toArray⟩, .string ⟨t.toArray⟩] W fun e w' => e = .returned (.int .i64 (R.change L[i].sy 0 s t 0 []).1) ∧ PStep W w' (MM O L) L[i].ox L[i].bx (R.change L[i].sy 0 s t 0 []).2 := HX
  have HY' : ∀ W (L1 : List SP) (h1 : i < L1.length), LW W h0 Wb O L1 names nums last → L1[i].by_ = L[i].by_ → L1[i].sy = L[i].sy → Calls Tryz.prog 122 #[.pointer (some ⟨L[i].by_, 0, none⟩), .int .u8 0, .string ⟨s.toArray⟩, .string ⟨t.toArray⟩, .int .i64 0, .string ⟨#[]⟩] W fun e w' => e = .returned (.int .i64 (R.change L[i].sy 0 s t 0 []).1) ∧ Step W w' (MM O L1) L1[i].oy L1[i].by_ (R.change L[i].sy 0 s t 0 []).2 := fun W L1 h1 hW e1 e2 => by
    have := HY W L1 h1 hW e1 e2
    rw [e2] at this
    rw [← e1]
    exact this
  clear HX HY hsxy hpk hA
  generalize R.change L[i].sy 0 s t 0 [] = r at *
  obtain ⟨bx, HBX⟩ : ∃ bx, Hid (L[i].bx = bx) := ⟨L[i].bx, hide0 rfl⟩
  obtain ⟨by_, HBY⟩ : ∃ by_, Hid (L[i].by_ = by_) := ⟨L[i].by_, hide0 rfl⟩
  rw [HBX.out, HBY.out]
  have HX2 : ∀ W, LW W h0 Wb O L names nums last → Calls Tryz.prog 42 #[.pointer (some ⟨bx, 0, none⟩), .string ⟨s.toArray⟩, .string ⟨t.toArray⟩] W fun e w' => e = .returned (.int .i64 r.1) ∧ PStep W w' (MM O L) L[i].ox L[i].bx r.2 := fun W hW => by rw [← HBX.out]; exact HX' W hW
  have HY2 : ∀ W (L1 : List SP) (h1 : i < L1.length), LW W h0 Wb O L1 names nums last → L1[i].by_ = L[i].by_ → L1[i].sy = L[i].sy → Calls Tryz.prog 122 #[.pointer (some ⟨by_, 0, none⟩), .int .u8 0, .string ⟨s.toArray⟩, .string ⟨t.toArray⟩, .int .i64 0, .string ⟨#[]⟩] W fun e w' => e = .returned (.int .i64 r.1) ∧ Step W w' (MM O L1) L1[i].oy L1[i].by_ r.2 := fun W L1 h1 hW e1 e2 => by rw [← HBY.out]; exact HY' W L1 h1 hW e1 e2
  clear HX' HY' h
  have HB2 : Hid (Below w.heap.size w ((w.alloc (Obj.cells #[.pointer (some ⟨bx, 0, none⟩), .pointer (some ⟨by_, 0, none⟩)] 85)).alloc (Obj.cells #[.int .i64 10, .int .i64 wi, .int .i64 n, .int .i64 m, .string ⟨s.toArray⟩, .string ⟨t.toArray⟩, .string ⟨u.toArray⟩] 73))) := ((Below.refl _ _).alloc (Nat.le_refl _) _).alloc (by simp) _
  have HC : Hid (∀ w3, Kept L[i].ox ((w.alloc (Obj.cells #[.pointer (some ⟨bx, 0, none⟩), .pointer (some ⟨by_, 0, none⟩)] 85)).alloc (Obj.cells #[.int .i64 10, .int .i64 wi, .int .i64 n, .int .i64 m, .string ⟨s.toArray⟩, .string ⟨t.toArray⟩, .string ⟨u.toArray⟩] 73)) w3 → (∀ o, w3.cell? ⟨w.heap.size, o, none⟩ = ((w.alloc (Obj.cells #[.pointer (some ⟨bx, 0, none⟩), .pointer (some ⟨by_, 0, none⟩)] 85)).alloc (Obj.cells #[.int .i64 10, .int .i64 wi, .int .i64 n, .int .i64 m, .string ⟨s.toArray⟩, .string ⟨t.toArray⟩, .string ⟨u.toArray⟩] 73)).cell? ⟨w.heap.size, o, none⟩) ∧ (∀ o, w3.cell? ⟨w.heap.size + 1, o, none⟩ = ((w.alloc (Obj.cells #[.pointer (some ⟨bx, 0, none⟩), .pointer (some ⟨by_, 0, none⟩)] 85)).alloc (Obj.cells #[.int .i64 10, .int .i64 wi, .int .i64 n, .int .i64 m, .string ⟨s.toArray⟩, .string ⟨t.toArray⟩, .string ⟨u.toArray⟩] 73)).cell? ⟨w.heap.size + 1, o, none⟩)) := fun w3 hk =>
    ⟨box_keeps HH.out HB2.out (fun b e => .inr ⟨i, hi, .inl e⟩) hk (Nat.le_refl _) (by simp <;> omega), box_keeps HH.out HB2.out (fun b e => .inr ⟨i, hi, .inl e⟩) hk (by omega) (by simp)⟩
  go_enter Tryz.func81, Tryz.ntmps81
  go_wp2_with fail
  refine (HX2 _ (HH.out.below HB2.out)).mono ?_
  rintro e w3 ⟨rfl, hst⟩
  obtain ⟨L1, l1, hL1, ⟨hi1, eb1, ey1, ex1, es1, eo1⟩, ho1, hb1, hk1⟩ := (HH.out.below HB2.out).X i hi hst HInv.out
  obtain ⟨hp, hq⟩ := HC.out w3 hk1
  have y1 : w3.cell? ⟨w.heap.size, 1, none⟩ = some (.pointer (some ⟨by_, 0, none⟩)) := by rw [hp]; simp
  have z2 : w3.cell? ⟨w.heap.size + 1, 2, none⟩ = some (.int .i64 n) := by rw [hq]; simp
  have z4 : w3.cell? ⟨w.heap.size + 1, 4, none⟩ = some (.string ⟨s.toArray⟩) := by rw [hq]; simp
  have z5 : w3.cell? ⟨w.heap.size + 1, 5, none⟩ = some (.string ⟨t.toArray⟩) := by rw [hq]; simp
  have z6 : w3.cell? ⟨w.heap.size + 1, 6, none⟩ = some (.string ⟨u.toArray⟩) := by rw [hq]; simp
  have HL1 := hide0 hL1
  have HE := hide0 (And.intro eb1 (And.intro ey1 (And.intro ex1 es1)))
  have HO1 := hide0 ho1
  have HOY := hide0 eo1
  have hs3 : w.heap.size + 2 ≤ w3.heap.size := by have := hk1.size; simpa using this
  have HBe1 := hide0 hb1
  clear hst hL1 eb1 ey1 ex1 es1 eo1 ho1 hb1 hk1 hp hq
  have HY3 := hide0 HY2
  have HC5 : Hid (∀ w5, Step w3.drew w5 (MM O L1) L1[i].oy L1[i].by_ r.2 → (∀ o, w5.cell? ⟨w.heap.size, o, none⟩ = w3.cell? ⟨w.heap.size, o, none⟩) ∧ (∀ o, w5.cell? ⟨w.heap.size + 1, o, none⟩ = w3.cell? ⟨w.heap.size + 1, o, none⟩)) := fun w5 hs5 => by
    obtain ⟨_, _, hk5, _⟩ := hs5
    have hz : ∀ b, L1[i].oy b → b < w.heap.size ∨ w.heap.size + 2 ≤ b := fun b e => .inl (HH.out.lt b (.inr ⟨i, hi, .inr (by rw [← HOY.out]; exact e)⟩))
    exact ⟨fun o => hk5.cell (p := ⟨w.heap.size, o, none⟩) (by show w.heap.size < w3.heap.size; omega) (fun e => by have := hz w.heap.size e; omega), fun o => hk5.cell (p := ⟨w.heap.size + 1, o, none⟩) (by show w.heap.size + 1 < w3.heap.size; omega) (fun e => by have := hz (w.heap.size + 1) e; omega)⟩
  clear HX2 HY2
  go_wp2_with fail
  go_region_held3 (fun w' => w'.cell? ⟨w.heap.size, 1, none⟩ = some (.pointer (some ⟨by_, 0, none⟩)) ∧ w'.cell? ⟨w.heap.size + 1, 2, none⟩ = some (.int .i64 n) ∧ w'.cell? ⟨w.heap.size + 1, 4, none⟩ = some (.string ⟨s.toArray⟩) ∧ w'.cell? ⟨w.heap.size + 1, 5, none⟩ = some (.string ⟨t.toArray⟩) ∧ w'.cell? ⟨w.heap.size + 1, 6, none⟩ = some (.string ⟨u.toArray⟩)) (first | exact ⟨y1, z2, z4, z5, z6⟩ | exact ⟨m1, m2, m4, m5, m6⟩ | go_keep) (first
    | (go_at_call 117; refine (l_num r.1 _).mono ?_; rintro e w4 ⟨rfl, hw4⟩; subst hw4)
    | (go_at_call 122; go_loud (refine (HY3.out _ L1 hi1 (HL1.out.below (Below.refl _ _).drew) HE.out.2.1 HE.out.2.2.2).mono ?_; rintro e w5 ⟨rfl, hst5⟩; have m1 := ((HC5.out w5 hst5).1 1).trans y1; have m2 := ((HC5.out w5 hst5).2 2).trans z2; have m4 := ((HC5.out w5 hst5).2 4).trans z4; have m5 := ((HC5.out w5 hst5).2 5).trans z5; have m6 := ((HC5.out w5 hst5).2 6).trans z6)))
  all_goals
    obtain ⟨L2, l2, hL2, ⟨hi2, eb2, ey2, ex2, es2, eo2⟩, ho2, hb2, hk2⟩ := (HL1.out.below (Below.refl _ _).drew).Y i hi1 hst5 HInv.out
    have hs0 := HH.out.hs
    have HG : Hid (Goes w w5 h0 Wb L.length names.length last (K + 20)) :=
      ⟨O, L2, names, nums, last, hL2, l2.trans l1, agree_both HA.out (by omega) hi l1 l2 ⟨hi1, HE.out.2.2.1⟩ HO1.out ⟨hi2, ex2, hi1, es2⟩ ho2 HPk.out, Nat.le_refl _, Nat.le_refl _, ((HB2.out.mono hs0).trans HBe1.out).drew.trans hb2⟩
    clear hst5 hL2 ho2 hb2 hk2 eb2 ey2 ex2 es2 eo2 HC HC5 HY3 HL1 HBe1 m1 m2 m4 m5 m6
    go_wp2
    go_ret
    exact ⟨ret_bool (by simp), HG.out⟩
end Go.Proofs.YtolgebdmffcemaaGreatDoor
