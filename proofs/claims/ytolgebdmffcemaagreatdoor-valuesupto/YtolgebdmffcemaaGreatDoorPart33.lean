/-
  The statement's own function keepNames (graftlaw.World.keepNames): a list that came out is its owner's.
  The statement's own function branches (graftlaw.World.branches) at Branches: the names are the document's, and the list is its owner's.
  One step of the statement's (graftlaw.World.step), of the kind Branches: as the document says.
-/
import Derived.Test.YtolgebdmffcemaaGreatDoorPart32
import Derived.Test.YtolgebdmffcemaaGreatDoorPart08
import Derived.Test.YtolgebdmffcemaaGreatDoorPart17
import Derived.Test.YtolgebdmffcemaaGreatDoorPart03
import Derived.Deep.RegionHeld3
import Derived.Test.YtolgebdmffcemaaGreatDoorPart11
import Derived.Test.YtolgebdmffcemaaGreatDoorPart31
import Derived.Test.YtolgebdmffcemaaGreatDoorPart04
import Derived.Test.YtolgebdmffcemaaGreatDoorPart23
set_option linter.unusedVariables false
namespace Go.Proofs.YtolgebdmffcemaaGreatDoor
open Go.RowKit
theorem Tryz.info45 : (Tryz.prog.info? 45).map (fun i => (i.zero, i.size, i.bytes)) = some (some (.slice none 0 0), 1, 24) := by kernel_rfl
def markOf (k : Nat) : List UInt8 := [109, 105, 110, 101] ++ List.replicate k 33
theorem markOf_succ (k : Nat) : markOf (k + 1) = markOf k ++ [33] := by rw [markOf, List.replicate_succ', ← List.append_assoc]; rfl
theorem rep_set (m : Value) (xs : List Value) (k : Nat) (h : k < xs.length) : (List.replicate k m ++ xs.drop k).set k m = List.replicate (k + 1) m ++ xs.drop (k + 1) := by
  rw [List.drop_eq_getElem_cons h, List.set_append_right _ _ (by simp)]
  simp only [List.length_replicate, Nat.sub_self, List.set_cons_zero, List.replicate_succ', List.append_assoc, List.singleton_append]
theorem cells_set (w : World) (Wb o : Nat) (v : Value) (C : Array Value) (ty : TypeId) : ∀ (j : Nat) (x : Value), C.toList[j]? = some x → ((w.setCell ⟨Wb, o, none⟩ v).alloc (.cells C ty)).cell? ((⟨w.heap.size, 0, none⟩ : Addr).add j) = some x := by
  have h := cells_of_new (w.setCell ⟨Wb, o, none⟩ v) C ty
  rwa [show (w.setCell ⟨Wb, o, none⟩ v).heap.size = w.heap.size from by simp [World.setCell]] at h
theorem Ap.of_set {w w' : World} {Wb k : Nat} {u v v' : Value} {o : Obj} (h : (v'.ownBlock = v.ownBlock ∧ ((w.setCell ⟨Wb, k, none⟩ u).alloc o).grownBy w' v.ownBlock) ∨ (v'.ownBlock = some (w.heap.size + 1) ∧ ((w.setCell ⟨Wb, k, none⟩ u).alloc o).grownBy w' none)) : Ap (w.setCell ⟨Wb, k, none⟩ u) w' v v' := by
  refine Ap.of (o := o) ?_
  rwa [show (w.setCell ⟨Wb, k, none⟩ u).heap.size = w.heap.size from by simp [World.setCell]]
/-- the rows of a statement's memory in walk's words: the values' lengths are letters -/
theorem KI.forms {w0 wr : World} {Wb : Nat} {nv0 tv0 : Value} {nvals tvals : List Value} {m : List UInt8} {last : Nat} {nv tv : Value} {vals : List Value} {t : Nat} {lv : Value} {n : Nat} (h : KI w0 wr Wb nv0 tv0 nvals tvals m last nv tv vals t lv n) (hb : nvals.length + vals.length ≤ 200000000) (hc : tvals.length + t ≤ 200000000) :
    ∃ na nc ta tc N T XN XT, Hid (N = nvals.length + vals.length) ∧ Hid (T = tvals.length + t) ∧ N ≤ 200000000 ∧ T ≤ 200000000 ∧ Hid (nv = .slice na N nc) ∧ Hid (tv = .slice ta T tc) ∧ wr.cell? ⟨Wb, 1, none⟩ = some (.slice na N nc) ∧ wr.cell? ⟨Wb, 2, none⟩ = some (.slice ta T tc) ∧ wr.frozen? ⟨Wb, 1, none⟩ = false ∧ wr.frozen? ⟨Wb, 2, none⟩ = false ∧
      Hid (XN = nvals ++ vals) ∧ Hid (XT = tvals ++ List.replicate t (S m)) ∧ wr.ownsRow 0 45 1 (.slice na N nc) N XN ∧ wr.ownsRow 0 9 1 (.slice ta T tc) T XT := by
  obtain ⟨na, nc, hnv, _⟩ := owns_form h.nrow
  obtain ⟨ta, tc, htv, _⟩ := owns_form h.trow
  exact ⟨na, nc, ta, tc, _, _, _, _, (rfl : _ = _), (rfl : _ = _), hb, hc, hnv, htv, by rw [← hnv]; exact h.c1, by rw [← htv]; exact h.c2, h.fr 1, h.fr 2, (rfl : _ = _), (rfl : _ = _), by rw [← hnv]; exact h.nrow, by rw [← htv]; exact h.trow⟩
set_option maxHeartbeats 3200000 in
set_option maxRecDepth 1000000 in
theorem l_keepNames {w0 w : World} {M O : Nat → Prop} {Wb : Nat} {av : Value} {ps : List (Nat × Nat)} {nv tv uv kv : Value} {names : List (Value × List UInt8)} {nums : List (Value × Int)} {last : Nat} (hl : LWx w0 M O Wb av ps nv tv uv kv names nums last) (hM : ∀ b, M b → b < w0.heap.size) (hb : Below w0.heap.size w0 w)
    {la : Option Addr} {n lc : Nat} {xs : List Value} (hown : w.ownsRow w0.heap.size 9 1 (.slice la n lc) n xs) (hn : n ≤ 100) (hlast : last ≤ 1000000) (hnm : names.length ≤ 100000000) :
    Calls Tryz.prog 121 #[.pointer (some ⟨Wb, 0, none⟩), .slice la n lc] w fun e w' => e = .returned (.tuple #[]) ∧ ∃ nv' tv' names', names'.length = names.length + 9 ∧ LWx w' (fun b => M b ∨ (O b ∨ nv'.ownBlock = some b ∨ tv'.ownBlock = some b)) (fun b => O b ∨ nv'.ownBlock = some b ∨ tv'.ownBlock = some b) Wb av ps nv' tv' uv kv names' nums (last + 1) ∧ Kept O w0 w' ∧ (∀ b, (O b ∨ nv'.ownBlock = some b ∨ tv'.ownBlock = some b) → O b ∨ w0.heap.size ≤ b) := by
  have hWl := hl.lt Wb hl.own
  have c5 := (hb.cell (p := ⟨Wb, 5, none⟩) hWl).trans hl.c5
  have f5 := (hb.frozen (p := ⟨Wb, 5, none⟩) hWl).trans (hl.fr 5)
  have hsz := hb.size
  have HL := hide3 hl
  have HO := hide3 hown
  have HB := hide3 hb
  obtain ⟨a', c', hv', hn1, hn2, hn3, hn4⟩ := owns_form hown
  clear hl hown hn3 hn4 hb
  injection hv' with ha' _ hc'
  subst ha' hc'
  unfold maxLen at hn2
  go_enter Tryz.func121, Tryz.ntmps121
  go_wp2
  have hK1 : Kept (fun b => b = Wb) w (w.setCell ⟨Wb, 5, none⟩ (.int .i64 ((last : Int) + 1))) := (Kept.refl (fun b => b = Wb) w).setCell (p := ⟨Wb, 5, none⟩) (.inl rfl) _
  have d5 : (w.setCell ⟨Wb, 5, none⟩ (.int .i64 ((last : Int) + 1))).cell? ⟨Wb, 5, none⟩ = some (.int .i64 ((last : Int) + 1)) := sc_same _ _ _ _ _ c5
  have hcs : ∀ o, o ≠ 5 → (w.setCell ⟨Wb, 5, none⟩ (.int .i64 ((last : Int) + 1))).cell? ⟨Wb, o, none⟩ = w.cell? ⟨Wb, o, none⟩ := fun o ho => sc_other _ _ _ _ _ ho
  have hfs : ∀ o, (w.setCell ⟨Wb, 5, none⟩ (.int .i64 ((last : Int) + 1))).frozen? ⟨Wb, o, none⟩ = w.frozen? ⟨Wb, o, none⟩ := fun o => by rw [World.frozen?_setCell]
  generalize w.setCell ⟨Wb, 5, none⟩ (.int .i64 ((last : Int) + 1)) = W1 at *
  have HCS := hide3 hcs
  have HFS := hide3 hfs
  have HK1 := hide3 hK1
  clear hcs hfs hK1 c5 f5
  go_loop [4, 5] (fun s i => ∃ k : Nat, k ≤ last + 1 ∧ i = .int .i64 k ∧ s = .string ⟨(markOf k).toArray⟩) (fun _ i => last + 1 - (intOf i).toNat)
  case atStart => exact ⟨0, Nat.zero_le _, rfl, rfl⟩
  case round =>
    obtain ⟨k, hk, rfl, rfl⟩ := hrel
    have hml : (markOf k).length = k + 4 := by simp [markOf]
    by_cases hlt : k < last + 1
    · have hlt' : (k : Int) < (last : Int) + 1 := by omega
      have q1 : ¬ 9223372036854775807 < (markOf k).length + 1 := by omega
      clear hml
      go_wp2
      go_round
      case rel => exact ⟨k + 1, by omega, by go_num, by rw [mk_lit [33] #[33] rfl, mk_add, ← markOf_succ]⟩
      case measure => simp [intOf]; omega
    · obtain rfl : k = last + 1 := by omega
      have HML := hide3 hml
      clear hml
      generalize hm : markOf (last + 1) = m at *
      have HMK : Hid (markOf (last + 1) = m) := hm
      clear hm
      go_wp2
      have hO1 : W1.ownsRow w0.heap.size 9 1 (.slice la n lc) n xs := ownsRow_kept HO.out HK1.out (fun g e e2 => by have := (HO.out.lt g e).1; omega)
      have hs1 := HK1.out.size
      go_loopw [6] (fun i wr => ∃ k : Nat, k ≤ n ∧ i = .int .i64 k ∧ wr.ownsRow w0.heap.size 9 1 (.slice la n lc) n (List.replicate k (S m) ++ xs.drop k) ∧ Kept (fun b => (Value.slice la n lc).ownBlock = some b) W1 wr) (fun i _ => n - (intOf i).toNat)
      case atStart => exact ⟨0, Nat.zero_le _, rfl, by simpa using hO1, Kept.refl _ _⟩
      case round =>
        obtain ⟨k, hk, rfl, ho, hkw⟩ := hrel
        have hxl : xs.length = n := by have := HO.out.1; omega
        by_cases hlt : k < n
        · obtain ⟨a2, c2, hv2, _, _, h3, h4⟩ := owns_form ho
          injection hv2 with ha2 _ hc2
          subst ha2 hc2
          cases la with
          | none => have := (h3 rfl).1; omega
          | some ad =>
          obtain ⟨g, rfl, hg0, hg1, hfz, hcell⟩ := h4 ad rfl
          have f0 := hfz k
          obtain ⟨u0, e0⟩ : ∃ u, wr.cell? ⟨g, k, none⟩ = some u := by
            have hlen : k < (List.replicate k (S m) ++ xs.drop k).length := by simp only [List.length_append, List.length_replicate, List.length_drop]; omega
            exact ⟨_, hcell k _ (List.getElem?_eq_getElem hlen)⟩
          have hset := ownsRow_set ho k (by simp only [List.length_append, List.length_replicate, List.length_drop]; omega) (.string ⟨m.toArray⟩)
          have HS : Hid ((wr.setCell ⟨g, k, none⟩ (.string ⟨m.toArray⟩)).ownsRow w0.heap.size 9 1 (.slice (some ⟨g, 0, none⟩) n lc) n (List.replicate (k + 1) (S m) ++ xs.drop (k + 1))) := by
            have e := rep_set (S m) xs k (by omega)
            unfold S at e
            unfold S at hset
            unfold S
            rw [e] at hset; exact hset
          have HKW : Hid (Kept (fun b => (Value.slice (some ⟨g, 0, none⟩) n lc).ownBlock = some b) W1 (wr.setCell ⟨g, k, none⟩ (.string ⟨m.toArray⟩))) := hkw.setCell (p := ⟨g, k, none⟩) (.inl rfl) _
          clear hset hcell hfz h3 h4 ho hkw hxl
          go_wp2
          go_roundw
          case rel => exact ⟨k + 1, by omega, by go_num, HS.out, HKW.out⟩
          case measure => simp [intOf]; omega
        · obtain rfl : k = n := by omega
          have hdr : xs.drop k = [] := List.drop_eq_nil_of_le (by omega)
          rw [hdr, List.append_nil] at ho
          have hWo : ∀ g, (Value.slice la k lc).ownBlock = some g → w0.heap.size ≤ g := fun g e => (ho.lt g e).1
          have hWne : (Value.slice la k lc).ownBlock ≠ some Wb := fun e => by have := hWo _ e; omega
          have hc : ∀ o, wr.cell? ⟨Wb, o, none⟩ = W1.cell? ⟨Wb, o, none⟩ := fun o => hkw.cell (p := ⟨Wb, o, none⟩) (by show Wb < _; omega) hWne
          have hcw : ∀ o, o ≠ 5 → wr.cell? ⟨Wb, o, none⟩ = w0.cell? ⟨Wb, o, none⟩ := fun o ho => by rw [hc, HCS.out o ho]; exact HB.out.cell (p := ⟨Wb, o, none⟩) hWl
          have hself : ∀ {e : TypeId} {size : Nat} {v : Value} {k : Nat} {xs : List Value}, w0.ownsRow 0 e size v k xs → (∀ g, v.ownBlock = some g → g ≠ Wb) → wr.ownsRow 0 e size v k xs := fun ho1 hg => ownsRow_kept (ownsRow_kept (ownsRow_below ho1 HB.out) HK1.out (fun g e e2 => hg g e e2)) hkw (fun g e e2 => by have := hWo g e2; have := (ho1.lt g e).2; omega)
          have hKI : KI w0 wr Wb nv tv (names.map (·.1)) (names.map fun p => S p.2) m (last + 1) nv tv [] 0 (.slice la k lc) k := by
            refine ⟨⟨hkw.os.trans (HK1.out.os.trans HB.out.os), hkw.tape.trans (HK1.out.tape.trans HB.out.tape), hkw.output.trans (HK1.out.output.trans HB.out.output), by have := hkw.size; omega, fun j hj hnj => ?_⟩, fun o _ _ h5 => hcw o h5, by rw [hcw 1 (by omega)]; exact HL.out.c1, by rw [hcw 2 (by omega)]; exact HL.out.c2, ?_, fun o => ?_, ?_, ?_, ho, fun g e => .inl e, fun g e => .inl e, fun g e e2 => (HL.out.tO g e2).2.2 e, fun g e => ⟨fun e2 => by have := hWo g e; have := HL.out.lt g (HL.out.nO g e2).1; omega, fun e2 => by have := hWo g e; have := HL.out.lt g (HL.out.tO g e2).1; omega⟩, by simp, hWl, fun e => (HL.out.nO _ e).2 rfl, fun e => (HL.out.tO _ e).2.1 rfl⟩
            · rw [hkw.block j (by omega) (fun e => by have := hWo j e; omega), HK1.out.block j (by omega) (fun e => hnj (.inr (.inr e)))]; exact HB.out.block j hj
            · rw [hc, d5]; rfl
            · rw [hkw.frozen (p := ⟨Wb, o, none⟩) (by show Wb < _; omega) hWne, HFS.out o, HB.out.frozen (p := ⟨Wb, o, none⟩) hWl]; exact HL.out.fr o
            · have := hself HL.out.nrow (fun g e => (HL.out.nO g e).2)
              simpa using this
            · have := hself HL.out.trow (fun g e => (HL.out.tO g e).2.1)
              simpa using this
          have HKI := hide3 hKI
          have hwrs : w0.heap.size ≤ wr.heap.size := hKI.kept.size
          obtain ⟨na, nc, ta, tc, N, T, XN, XT, HN, HT, hNb, hTb, HNV, HTV, k1, k2, g1, g2, HXN, HXT, hrN, _⟩ := hKI.forms (by simp; omega) (by simp; omega)
          clear hKI hself hcw hc hkw ho hdr hxl hO1 d5 hWo hWne k2 g2
          go_wp2_with (at_builtin; go_loud (refine wpl_app3 _ (by rfl) _ _ 67 (by rfl) 0 45 (.slice none 0 0) 1 24 Tryz.underlying67 Tryz.info45 (by rfl) (by decide) (hrN.alloc _) ⟨wr.heap.size, 0, none⟩ 1 1 [.slice la k lc] (by rfl) (by exact cells_of_new wr #[.slice la k lc] 45) (by rfl) (by rfl) (by intro u hu; simp at hu; subst hu; rfl) (by unfold maxLen; omega) (by omega) (Nat.zero_le _) ?_))
          intro nv1 w1 ho1 hap1
          have hap1' : Ap wr w1 (.slice na N nc) nv1 := Ap.of hap1
          rw [← HNV.out] at hap1'
          have hKI1 := HKI.out.name hap1' (by rw [← HN.out, ← HXN.out]; exact ho1)
          obtain ⟨na1, nc1, hv1, _⟩ := owns_form ho1
          have e1 : w1.cell? ⟨Wb, 1, none⟩ = some (.slice na N nc) := by
            rw [World.cell?_of_block (a := ⟨Wb, 1, none⟩) (hap1'.blk Wb (by omega) HKI.out.nW')]; exact k1
          have q1 : w1.frozen? ⟨Wb, 1, none⟩ = false := by
            rw [World.frozen?_of_block (a := ⟨Wb, 1, none⟩) (hap1'.blk Wb (by omega) HKI.out.nW')]; exact g1
          subst hv1
          have HKI1 := hide3 hKI1
          have hss : w0.heap.size ≤ w1.heap.size := Nat.le_trans hwrs hap1'.size
          have hrT : (w1.setCell ⟨Wb, 1, none⟩ (.slice na1 (N + 1) nc1)).ownsRow 0 9 1 (.slice ta T tc) T XT := by
            have := hKI1.trow
            rwa [← HT.out, ← HXT.out, HTV.out] at this
          have k2 : w1.cell? ⟨Wb, 2, none⟩ = some (.slice ta T tc) := by
            have := hKI1.c2
            rwa [HTV.out, sc_other _ _ _ _ _ (by omega)] at this
          have g2 : w1.frozen? ⟨Wb, 2, none⟩ = false := by
            have := hKI1.fr 2
            rwa [World.frozen?_setCell] at this
          clear hKI1 hap1 hap1' ho1 hrN k1 g1
          go_wp2_with (at_builtin; go_loud (refine wpl_app3 _ (by rfl) _ _ 45 (by rfl) 0 9 (.string ⟨#[]⟩) 1 16 Tryz.underlying45 Tryz.info9 (by rfl) (by decide) (hrT.alloc _) ⟨w1.heap.size, 0, none⟩ 1 1 [.string ⟨m.toArray⟩] (by rfl) (by exact cells_set w1 Wb 1 (.slice na1 (N + 1) nc1) #[.string ⟨m.toArray⟩] 9) (by rfl) (by rfl) (by intro u hu; simp at hu; subst hu; rfl) (by unfold maxLen; omega) (by omega) (Nat.zero_le _) ?_))
          intro tv1 w2 ho2 hap2
          have hap2' : Ap (w1.setCell ⟨Wb, 1, none⟩ (.slice na1 (N + 1) nc1)) w2 (.slice ta T tc) tv1 := Ap.of_set hap2
          rw [← HTV.out] at hap2'
          have hKI2 := HKI1.out.mark hap2' (by rw [← HT.out, ← HXT.out]; exact ho2)
          obtain ⟨ta2, tc2, hv2, _⟩ := owns_form ho2
          have hblk2 := hap2'.blk Wb (by have := HKI1.out.kept.size; omega) HKI1.out.tW'
          have e2 : w2.cell? ⟨Wb, 2, none⟩ = some (.slice ta T tc) := by
            rw [World.cell?_of_block (a := ⟨Wb, 2, none⟩) hblk2, sc_other _ _ _ _ _ (by omega)]; exact k2
          have q2 : w2.frozen? ⟨Wb, 2, none⟩ = false := by
            rw [World.frozen?_of_block (a := ⟨Wb, 2, none⟩) hblk2, World.frozen?_setCell]; exact g2
          subst hv2
          have HKI2 := hide3 hKI2
          clear hKI2 hap2 hap2' ho2 hrT k2 g2 hblk2 e1 q1
          go_wp2
          have HML2 := HML.out
          clear e2 q2
          generalize w2.setCell ⟨Wb, 2, none⟩ (.slice ta2 (T + 1) tc2) = w3 at *
          go_loopw [1, 7] (fun l i wr => ∃ (j : Nat) (la1 : Option Addr) (p lc1 : Nat) (nv1 tv1 : Value) (vals : List Value), j ≤ 8 ∧ i = .int .i64 j ∧ l = .slice la1 p lc1 ∧ p ≤ 100 + j ∧ vals.length = j + 1 ∧ KI w0 wr Wb nv tv (names.map (·.1)) (names.map fun p => S p.2) m (last + 1) nv1 tv1 vals (j + 1) (.slice la1 p lc1) p) (fun _ i _ => 8 - (intOf i).toNat)
          case atStart => exact ⟨0, la, k, lc, _, _, _, by omega, rfl, rfl, by omega, rfl, HKI2.out⟩
          case round =>
            obtain ⟨j, la1, p, lc1, nv1, tv1, vals, hj, rfl, rfl, hp, hvl, hKJ⟩ := hrel
            have HVL := hide3 hvl
            by_cases hlt8 : j < 8
            · have HKJ := hide3 hKJ
              have hwrs1 : w0.heap.size ≤ wr.heap.size := hKJ.kept.size
              obtain ⟨XL, HXL⟩ : ∃ XL, Hid (XL = List.replicate p (S m)) := ⟨_, (rfl : _ = _)⟩
              have hrL : wr.ownsRow w0.heap.size 9 1 (.slice la1 p lc1) p XL := by rw [HXL.out]; exact hKJ.lrow
              clear hKJ hvl
              go_wp2_with (at_builtin; go_loud (refine wpl_app3 _ (by rfl) _ _ 45 (by rfl) w0.heap.size 9 (.string ⟨#[]⟩) 1 16 Tryz.underlying45 Tryz.info9 (by rfl) (by decide) (hrL.alloc _) ⟨wr.heap.size, 0, none⟩ 1 1 [.string ⟨m.toArray⟩] (by rfl) (by exact cells_of_new wr #[.string ⟨m.toArray⟩] 9) (by rfl) (by rfl) (by intro u hu; simp at hu; subst hu; rfl) (by unfold maxLen; omega) (by omega) (by simp; omega) ?_))
              intro lv2 w4 ho4 hap4
              have hap4' : Ap wr w4 (.slice la1 p lc1) lv2 := Ap.of hap4
              have hKM := HKJ.out.more hap4' (by rw [List.replicate_succ', ← HXL.out]; exact ho4)
              obtain ⟨la2, lc2, hv4, _⟩ := owns_form ho4
              subst hv4
              have HKM := hide3 hKM
              have hws4 : w0.heap.size ≤ w4.heap.size := hKM.kept.size
              obtain ⟨na, nc, ta, tc, N, T, XN, XT, HN, HT, hNb, hTb, HNV, HTV, k1, k2, g1, g2, HXN, HXT, hrN, _⟩ := hKM.forms (by have := HVL.out; simp; omega) (by simp; omega)
              clear hKM hap4 hap4' ho4 hrL k2 g2
              go_wp2_with (at_builtin; go_loud (refine wpl_app3 _ (by rfl) _ _ 67 (by rfl) 0 45 (.slice none 0 0) 1 24 Tryz.underlying67 Tryz.info45 (by rfl) (by decide) (hrN.alloc _) ⟨w4.heap.size, 0, none⟩ 1 1 [.slice la2 (p + 1) lc2] (by rfl) (by exact cells_of_new w4 #[.slice la2 (p + 1) lc2] 45) (by rfl) (by rfl) (by intro u hu; simp at hu; subst hu; rfl) (by unfold maxLen; omega) (by omega) (Nat.zero_le _) ?_))
              intro nv2 w5 ho5 hap5
              have hap5' : Ap w4 w5 (.slice na N nc) nv2 := Ap.of hap5
              rw [← HNV.out] at hap5'
              have hKI5 := HKM.out.name hap5' (by rw [← HN.out, ← HXN.out]; exact ho5)
              obtain ⟨na1, nc1, hv5, _⟩ := owns_form ho5
              have e1 : w5.cell? ⟨Wb, 1, none⟩ = some (.slice na N nc) := by
                rw [World.cell?_of_block (a := ⟨Wb, 1, none⟩) (hap5'.blk Wb (by omega) HKM.out.nW')]; exact k1
              have q1 : w5.frozen? ⟨Wb, 1, none⟩ = false := by
                rw [World.frozen?_of_block (a := ⟨Wb, 1, none⟩) (hap5'.blk Wb (by omega) HKM.out.nW')]; exact g1
              subst hv5
              have HKI5 := hide3 hKI5
              have hrT : (w5.setCell ⟨Wb, 1, none⟩ (.slice na1 (N + 1) nc1)).ownsRow 0 9 1 (.slice ta T tc) T XT := by
                have := hKI5.trow
                rwa [← HT.out, ← HXT.out, HTV.out] at this
              have k2 : w5.cell? ⟨Wb, 2, none⟩ = some (.slice ta T tc) := by
                have := hKI5.c2
                rwa [HTV.out, sc_other _ _ _ _ _ (by omega)] at this
              have g2 : w5.frozen? ⟨Wb, 2, none⟩ = false := by
                have := hKI5.fr 2
                rwa [World.frozen?_setCell] at this
              clear hKI5 hap5 hap5' ho5 hrN k1 g1
              go_wp2_with (at_builtin; go_loud (refine wpl_app3 _ (by rfl) _ _ 45 (by rfl) 0 9 (.string ⟨#[]⟩) 1 16 Tryz.underlying45 Tryz.info9 (by rfl) (by decide) (hrT.alloc _) ⟨w5.heap.size, 0, none⟩ 1 1 [.string ⟨m.toArray⟩] (by rfl) (by exact cells_set w5 Wb 1 (.slice na1 (N + 1) nc1) #[.string ⟨m.toArray⟩] 9) (by rfl) (by rfl) (by intro u hu; simp at hu; subst hu; rfl) (by unfold maxLen; omega) (by omega) (Nat.zero_le _) ?_))
              intro tv2 w6 ho6 hap6
              have hap6' : Ap (w5.setCell ⟨Wb, 1, none⟩ (.slice na1 (N + 1) nc1)) w6 (.slice ta T tc) tv2 := Ap.of_set hap6
              rw [← HTV.out] at hap6'
              have hKI6 := HKI5.out.mark hap6' (by rw [← HT.out, ← HXT.out]; exact ho6)
              obtain ⟨ta2, tc2, hv6, _⟩ := owns_form ho6
              have hblk6 := hap6'.blk Wb (by have := HKI5.out.kept.size; omega) HKI5.out.tW'
              have e2 : w6.cell? ⟨Wb, 2, none⟩ = some (.slice ta T tc) := by
                rw [World.cell?_of_block (a := ⟨Wb, 2, none⟩) hblk6, sc_other _ _ _ _ _ (by omega)]; exact k2
              have q2 : w6.frozen? ⟨Wb, 2, none⟩ = false := by
                rw [World.frozen?_of_block (a := ⟨Wb, 2, none⟩) hblk6, World.frozen?_setCell]; exact g2
              subst hv6
              have HKI6 := hide3 hKI6
              clear hKI6 hap6 hap6' ho6 hrT k2 g2 hblk6 e1 q1
              go_wp2
              go_roundw
              case rel => exact ⟨j + 1, la2, p + 1, lc2, _, _, _, by omega, by go_num, rfl, by omega, by simp [HVL.out], HKI6.out⟩
              case measure => simp [intOf]; omega
            · obtain rfl : j = 8 := by omega
              have HKJ := hide3 hKJ
              clear hKJ hvl
              go_wp2
              go_end0
              have hv9 : vals.length = 9 := HVL.out
              have hf := KI.fin HL.out hM (by rw [hv9]; exact HKJ.out)
              exact ⟨rfl, nv1, tv1, _, by simp [hv9], hf.1, hf.2.1, hf.2.2⟩
end Go.Proofs.YtolgebdmffcemaaGreatDoor
namespace Go.Proofs.YtolgebdmffcemaaGreatDoor
open Go.RowKit
set_option maxHeartbeats 3200000 in
set_option maxRecDepth 1000000 in
theorem l_bBranches {w : World} {h0 Wb : Nat} {O : Nat → Prop} {L : List SP} {names : List (Value × List UInt8)} {nums : List (Value × Int)} {last K : Nat} (h : LW w h0 Wb O L names nums last) (hA : Agree K L) (hla : last ≤ 1000000) (hnm : names.length ≤ 100000000) (i : Nat) (hi : i < L.length) (wi n m : Int) (s t u : List UInt8) :
    Calls Tryz.prog 80 #[.pointer (some ⟨Wb, 0, none⟩), .agg #[.pointer (some ⟨L[i].bx, 0, none⟩), .pointer (some ⟨L[i].by_, 0, none⟩)], .agg (opC 5 wi n m s t u)] w fun e w' => e = .returned (.bool true) ∧ Goes w w' h0 Wb L.length (names.length + 9) (last + 1) K := by
  have hsxy := (hA i hi).1
  have HX := fun W (hW : LW W h0 Wb O L names nums last) => g_Branches L[i].bx L[i].sx W (MM O L) L[i].ox (hW.px i hi).1 (hW.px i hi).2
  rw [hsxy] at HX
  have HH := hide0 h
  have HA := hide0 hA
  have hmany := (h.py i hi).2.many
  obtain ⟨cv, bv, LB, LCm, hR⟩ := (h.py i hi).1
  have hBl := hR.lt _ hR.own
  have hlen : L[i].sy.brs.length = LB.length := by rw [← hR.brs, List.length_map]
  have HNm : Hid (∀ (k : Nat) (hk : k < LB.length), (L[i].sy.brs.map fun b => S b.name)[k]? = some (.string ⟨(LB[k]'hk).1.name.toArray⟩)) := fun k hk => by
    rw [← hR.brs, List.map_map, List.getElem?_map, List.getElem?_eq_getElem hk]; rfl
  obtain ⟨ba, bc, hbv, hn1, hn2, hn3, hn4⟩ := owns_form hR.row
  have HC1 : Hid (w.cell? ⟨L[i].by_, 1, none⟩ = some (.slice ba LB.length bc)) := by show _ = _; rw [← hbv]; exact hR.c1
  have HN4 := hide0 hn4
  rw [hlen] at HX hmany
  unfold opC maxLen at *
  clear hsxy h hA hR hbv hn4 hlen
  generalize L[i].bx = bx at *
  generalize L[i].by_ = by_ at *
  have HB2 : Hid (Below w.heap.size w ((w.alloc (Obj.cells #[.pointer (some ⟨bx, 0, none⟩), .pointer (some ⟨by_, 0, none⟩)] 85)).alloc (Obj.cells #[.int .i64 5, .int .i64 wi, .int .i64 n, .int .i64 m, .string ⟨s.toArray⟩, .string ⟨t.toArray⟩, .string ⟨u.toArray⟩] 73))) := ((Below.refl _ _).alloc (Nat.le_refl _) _).alloc (by simp) _
  have HX3 := hide0 HX
  clear HX
  go_enter Tryz.func80, Tryz.ntmps80
  go_wp2_with fail
  refine (HX3.out _ (HH.out.below HB2.out)).mono ?_
  rintro e w3 ⟨va, vc, rfl, hrow, hb3⟩
  have HROW := hide0 hrow
  have HB3' := hide0 hb3
  have hB3 := HB2.out.trans (hb3.mono (by simp; omega))
  have y1 : w3.cell? ⟨w.heap.size, 1, none⟩ = some (.pointer (some ⟨by_, 0, none⟩)) := by rw [hb3.cell (p := ⟨w.heap.size, 1, none⟩) (by simp <;> omega)]; simp
  have b1 : w3.cell? ⟨by_, 1, none⟩ = some (.slice ba LB.length bc) := by rw [hB3.cell (p := ⟨by_, 1, none⟩) hBl]; exact HC1.out
  have HB3 := hide0 hB3
  obtain ⟨va', vc', hv', hv1, hv2, hv3, hv4⟩ := owns_form hrow
  injection hv' with e1 _ e2
  subst e1 e2
  have HV4 := hide0 hv4
  unfold maxLen at hv2
  clear hb3 hB3 hrow hv4
  generalize ((w.alloc (Obj.cells #[.pointer (some ⟨bx, 0, none⟩), .pointer (some ⟨by_, 0, none⟩)] 85)).alloc (Obj.cells #[.int .i64 5, .int .i64 wi, .int .i64 n, .int .i64 m, .string ⟨s.toArray⟩, .string ⟨t.toArray⟩, .string ⟨u.toArray⟩] 73)) = w2 at HROW HB3' HV4 HB2
  go_wp2
  go_loopw [11, 12] (fun ok j wr => ∃ k q : Nat, k ≤ LB.length ∧ ok = .bool true ∧ j = .int .i64 k ∧ wr = w3.drewN q) (fun _ j _ => LB.length - (intOf j).toNat)
  case atStart => first | exact ⟨0, 0, Nat.zero_le _, rfl, rfl, rfl⟩ | exact ⟨0, 1, Nat.zero_le _, rfl, rfl, rfl⟩ | exact ⟨0, 0, Nat.zero_le _, by simp, rfl, rfl⟩ | exact ⟨0, 1, Nat.zero_le _, by simp, rfl, rfl⟩
  case round =>
    obtain ⟨k, q, hk, rfl, rfl, rfl⟩ := hrel
    by_cases hlt : k < LB.length
    · cases va with
      | none => have := (hv3 rfl).1; omega
      | some ad =>
      cases ba with
      | none => have := (hn3 rfl).1; omega
      | some ad2 =>
      obtain ⟨g, rfl, _, _, _, hcell⟩ := HV4.out ad rfl
      obtain ⟨g2, rfl, _, hg2, _, hcell2⟩ := HN4.out ad2 rfl
      have d1 : w3.cell? ⟨g, k, none⟩ = some (.string ⟨(LB[k]'hlt).1.name.toArray⟩) := hcell k _ (HNm.out k hlt)
      have d2 : w3.cell? ⟨g2, k * 3, none⟩ = some (.string ⟨(LB[k]'hlt).1.name.toArray⟩) := by
        rw [HB3.out.cell (p := ⟨g2, k * 3, none⟩) hg2]
        exact hcell2 _ _ (by have := cellsB_at LB k 0 hlt (by omega); simpa using this)
      generalize (LB[k]'hlt).1.name = nm at *
      clear hcell hcell2
      go_wp2
      go_quiet (fail)
      go_wp2
      go_roundw
      case rel => exact ⟨k + 1, _, by omega, by simp, by go_num, rfl⟩
      case measure => simp [intOf]; omega
    · have hLW2 := HH.out.below HB2.out
      obtain ⟨av, nv, tv, uv, kv, hl⟩ := hLW2.lw
      have hkn := l_keepNames (w := w3.drewN q) hl hLW2.lt ⟨HB3'.out.os, HB3'.out.tape, HB3'.out.output, HB3'.out.size, HB3'.out.block⟩ (ownsRow_drewN HROW.out) (by omega) hla hnm
      have HL2 := hide0 hLW2
      have HKN := hide0 hkn
      clear hLW2 hl hkn
      go_wp2_with fail
      refine HKN.out.mono ?_
      rintro e w4 ⟨rfl, nv', tv', names', hn', hl', hk', ho'⟩
      obtain ⟨hLW4, hb4⟩ := HL2.out.mine hk' ho' ⟨av, nv', tv', uv, kv, hl'⟩
      have hs0 := HH.out.hs
      have HG : Hid (Goes w w4 h0 Wb L.length (names.length + 9) (last + 1) K) := ⟨_, L, names', nums, last + 1, hLW4, rfl, HA.out, by omega, Nat.le_refl _, (HB2.out.mono hs0).trans hb4⟩
      clear hl' hk' hLW4 hb4 ho'
      go_wp2
      go_ret
      exact ⟨rfl, HG.out⟩
end Go.Proofs.YtolgebdmffcemaaGreatDoor
namespace Go.Proofs.YtolgebdmffcemaaGreatDoor
open Go.RowKit
theorem pick_ltBranches (c : Int) (n : Nat) (h : 0 < n) : ∃ i : Nat, i < n ∧ pickI c n = (i : Int) := by
  have h1 : 0 ≤ pickI c n := by
    unfold pickI; split
    · exact Int.emod_nonneg _ (by omega)
    · exact Int.emod_nonneg _ (by omega)
  have h2 : pickI c n < n := by
    unfold pickI; split
    · exact Int.emod_lt_of_pos _ (by omega)
    · exact Int.emod_lt_of_pos _ (by omega)
  exact ⟨(pickI c n).toNat, by omega, by omega⟩
theorem cellsA_atBranches : ∀ (ps : List (Nat × Nat)) (i : Nat) (h : i < ps.length), (cellsA ps)[i * 2]? = some (.pointer (some ⟨(ps[i]'h).1, 0, none⟩)) ∧ (cellsA ps)[i * 2 + 1]? = some (.pointer (some ⟨(ps[i]'h).2, 0, none⟩))
  | p :: r, 0, _ => by simp [cellsA]
  | p :: r, i + 1, h => by
    have ih := cellsA_atBranches r i (by simpa using h)
    unfold cellsA at ih ⊢
    rw [List.flatMap_cons, show (i + 1) * 2 = i * 2 + 2 from by omega]
    simpa using ih
set_option maxHeartbeats 3200000 in
set_option maxRecDepth 1000000 in
theorem l_sBranches {w : World} {h0 Wb : Nat} {O : Nat → Prop} {L : List SP} {names : List (Value × List UInt8)} {nums : List (Value × Int)} {last K : Nat} (h : LW w h0 Wb O L names nums last) (hA : Agree K L) (hK : K ≤ 100000000000) (hla : last ≤ 1000000) (hnm : names.length ≤ 100000000) (hL : 0 < L.length) (hL2 : L.length ≤ 1000) (wi n m : Int) (s t u : List UInt8)
    (hw1 : wi ≤ 9223372036854775807) (hw2 : -9223372036854775808 ≤ wi) (hn1 : n ≤ 9223372036854775807) (hn2 : -9223372036854775808 ≤ n) (hsl : s.length ≤ maxLen) (htl : t.length ≤ maxLen) (hul : u.length ≤ maxLen) :
    Calls Tryz.prog 43 #[.pointer (some ⟨Wb, 0, none⟩), .agg (opC 5 wi n m s t u)] w fun e w' => e = .returned (.bool true) ∧ Goes w w' h0 Wb L.length (names.length + 9) (last + 1) (K + 20) := by
  obtain ⟨i, hi, hpi⟩ := pick_ltBranches wi L.length hL
  have HP := fun W => l_pick wi (L.length : Int) W (by omega) (by omega) hw2 hw1
  rw [hpi] at HP
  have HC := fun W (hW : LW W h0 Wb O L names nums last) => l_bBranches hW hA hla hnm i hi wi n m s t u
  have HG : Hid (∀ W w', Below w.heap.size w W → Goes W w' h0 Wb L.length (names.length + 9) (last + 1) K → Goes w w' h0 Wb L.length (names.length + 9) (last + 1) (K + 20)) := by
    rintro W w' hb ⟨O', L', names', nums', last', h1, h2, h3, h4, h5, h6⟩
    exact ⟨O', L', names', nums', last', h1, h2, fun j hj => ⟨(h3 j hj).1, by have := (h3 j hj).2; omega⟩, by omega, by omega, (hb.mono h.hs).trans h6⟩
  have HH := hide0 h
  obtain ⟨av, nv, tv, uv, kv, hl⟩ := h.lw
  have hWl := hl.lt Wb hl.own
  have c0 := hl.c0
  have hrow := hl.arow
  rw [List.length_map] at hrow
  obtain ⟨aa, ac, hav, ha1, ha2, ha3, ha4⟩ := owns_form hrow
  rw [hav] at c0
  cases aa with
  | none => have := (ha3 rfl).1; omega
  | some ad =>
  obtain ⟨g, rfl, _, hg, _, hcell⟩ := ha4 ad rfl
  have hca := cellsA_atBranches (L.map fun p => (p.bx, p.by_)) i (by simpa using hi)
  have d1 := hcell _ _ hca.1
  have d2 := hcell _ _ hca.2
  simp only [List.getElem_map] at d1 d2
  unfold maxLen at ha2
  clear h hA hl hrow hav ha3 ha4 hcell hca hpi
  generalize L[i].bx = bx at *
  generalize L[i].by_ = by_ at *
  have HPick := hide0 HP
  have HCall := hide0 HC
  clear HP HC
  go_enter Tryz.func43, Tryz.ntmps43
  unfold opC
  go_wp2_with fail
  have hB1 : Below w.heap.size w (w.alloc (Obj.cells #[.int .i64 5, .int .i64 wi, .int .i64 n, .int .i64 m, .string ⟨s.toArray⟩, .string ⟨t.toArray⟩, .string ⟨u.toArray⟩] 73)) := (Below.refl _ _).alloc (Nat.le_refl _) _
  have hs1 : (w.alloc (Obj.cells #[.int .i64 5, .int .i64 wi, .int .i64 n, .int .i64 m, .string ⟨s.toArray⟩, .string ⟨t.toArray⟩, .string ⟨u.toArray⟩] 73)).heap.size = w.heap.size + 1 := by simp
  have hop : ∀ j v, #[Value.int .i64 5, .int .i64 wi, .int .i64 n, .int .i64 m, .string ⟨s.toArray⟩, .string ⟨t.toArray⟩, .string ⟨u.toArray⟩][j]? = some v → (w.alloc (Obj.cells #[.int .i64 5, .int .i64 wi, .int .i64 n, .int .i64 m, .string ⟨s.toArray⟩, .string ⟨t.toArray⟩, .string ⟨u.toArray⟩] 73)).cell? ⟨w.heap.size, j, none⟩ = some v := fun j v hv => by rw [World.cell?_alloc_at _ _ _ _ rfl]; exact hv
  generalize (w.alloc (Obj.cells #[.int .i64 5, .int .i64 wi, .int .i64 n, .int .i64 m, .string ⟨s.toArray⟩, .string ⟨t.toArray⟩, .string ⟨u.toArray⟩] 73)) = W1 at *
  have o0 := hop 0 _ rfl
  have o1 := hop 1 _ rfl
  have o2 := hop 2 _ rfl
  have o3 := hop 3 _ rfl
  have o4 := hop 4 _ rfl
  have o5 := hop 5 _ rfl
  have o6 := hop 6 _ rfl
  have e0 := (hB1.cell (p := ⟨Wb, 0, none⟩) hWl).trans c0
  have e1 := (hB1.cell (p := ⟨g, i * 2, none⟩) hg).trans d1
  have e2 := (hB1.cell (p := ⟨g, i * 2 + 1, none⟩) hg).trans d2
  have HB1 := hide0 hB1
  have HLW1 := hide0 (HH.out.below hB1)
  have hlt1 : w.heap.size < W1.heap.size := by omega
  clear hop hB1 hs1 c0 d1 d2 HH
  go_region_held3 (fun w' => w'.cell? ⟨Wb, 0, none⟩ = some (.slice (some ⟨g, 0, none⟩) L.length ac) ∧ w'.cell? ⟨w.heap.size, 1, none⟩ = some (.int .i64 wi) ∧ w'.cell? ⟨g, i * 2, none⟩ = some (.pointer (some ⟨bx, 0, none⟩)) ∧ w'.cell? ⟨g, i * 2 + 1, none⟩ = some (.pointer (some ⟨by_, 0, none⟩))) (go_keep) (first
    | (go_at_call 79; refine (HPick.out _).mono ?_; rintro e w4 ⟨rfl, hw4⟩; subst hw4))
  all_goals
    go_wp2_with fail
    have hB2 : Below W1.heap.size W1 (W1.alloc (Obj.cells #[.pointer (some ⟨bx, 0, none⟩), .pointer (some ⟨by_, 0, none⟩)] 85)).drew := ((Below.refl _ _).alloc (Nat.le_refl _) _).drew
    refine (HCall.out _ (HLW1.out.below hB2)).mono ?_
    rintro e w5 ⟨rfl, hgo⟩
    have HGo := hide0 (HG.out _ _ (HB1.out.trans (hB2.mono (by omega))) hgo)
    clear hgo hB2
    go_wp2
    go_ret
    exact ⟨rfl, HGo.out⟩
end Go.Proofs.YtolgebdmffcemaaGreatDoor
