/-
  What Go's slices.Delete makes of a row of its caller's own (branches): one element less.
  How the program writes a tree (tree.written): as the document's answer has it.
  How the program writes its pack: bytesOf, check, record, Store.write.
-/
import Derived.Test.YtolgebdmffcemaaGreatDoorPart13
import Derived.Test.YtolgebdmffcemaaGreatDoorPart02
import Derived.Test.YtolgebdmffcemaaGreatDoorPart10
import Derived.Test.YtolgebdmffcemaaGreatDoorPart03
import Derived.Deep.RegionHeld3
import Derived.Test.YtolgebdmffcemaaGreatDoorPart04
import Derived.Test.YtolgebdmffcemaaGreatDoorPart11
import Derived.Lib.AppendStr
import Derived.Conc.Own4
set_option linter.unusedVariables false
namespace Go.Proofs.YtolgebdmffcemaaGreatDoor
open Go.RowKit
set_option maxHeartbeats 3200000 in
set_option maxRecDepth 1000000 in
theorem s_DelB_at (g m cap i base : Nat) (xs : List Value) (cur : Array Value) (w : World) (hi : i ≤ m) (hg : w.heap[g]? = some (.cells cur 88 (0, 0))) (hbg : base ≤ g) (hcap : m + 1 ≤ cap) (hcm : cap ≤ 9223372036854775807) (hcs : cur.size = cap * 1) (hxs : cur.toList.take ((m + 1) * 1) = xs)
    (h1x : ∀ u ∈ xs, u.oneCell' = true) :
    Calls Tryz.prog 68 #[.slice (some ⟨g, 0, none⟩) (m + 1) cap, .int .i64 (i : Int), .int .i64 ((i : Int) + 1)] w fun e w' => ∃ v', e = .returned v' ∧ w'.ownsRow base 88 1 v' m (xs.take (i * 1) ++ xs.drop ((i + 1) * 1)) ∧ w.grownBy w' (some g) ∧ (∀ g', v'.ownBlock = some g' → some g = some g' ∨ w.heap.size ≤ g') := by
  have hxl : xs.length = (m + 1) * 1 := by rw [← hxs, List.length_take, Array.length_toList]; omega
  obtain ⟨i0, hi0, hz0, hz1, hz2⟩ := info_parts Tryz.info88
  have hZ1 : ∀ v ∈ (Value.pointer none).cells.toList, v.oneCell' = true := by
    intro v hv; simp [Value.cells] at hv; rw [hv]; rfl
  have hZs : (Value.pointer none).cells.toList.length = 1 := by simp [Value.cells]
  obtain ⟨r1, r2, r3⟩ := row_del cur.toList xs (Value.pointer none).cells.toList m i 1 hi hxl hZs (by rw [Array.length_toList, hcs]; omega) hxs
  have hxc : ∀ j u, xs[j]? = some u → w.cell? ⟨g, j, none⟩ = some u := fun j u hj => by
    rw [← hxs, List.getElem?_take] at hj
    split at hj
    · simp only [World.cell?, hg]; simpa using hj
    · cases hj
  obtain ⟨A, hA, hsrc⟩ : ∃ A : Addr, (if cap = i + 1 then some (⟨g, 0, none⟩ : Addr) else some ⟨g, (i + 1) * 1, none⟩) = some A ∧ ∀ j u, (xs.drop ((i + 1) * 1))[j]? = some u → w.cell? (A.add j) = some u := by
    by_cases h : cap = i + 1
    · refine ⟨⟨g, 0, none⟩, by simp [h], fun j u hu => ?_⟩
      rw [List.drop_eq_nil_of_le (by rw [hxl]; omega)] at hu
      simp at hu
    · refine ⟨⟨g, (i + 1) * 1, none⟩, by simp [h], fun j u hu => ?_⟩
      rw [addr_lit]; rw [List.getElem?_drop] at hu; exact hxc _ _ hu
  obtain ⟨c1, hc1⟩ : ∃ c1 : Array Value, c1 = (cur.toList.take (i * 1) ++ xs.drop ((i + 1) * 1) ++ cur.toList.drop (i * 1 + (xs.drop ((i + 1) * 1)).length)).toArray := ⟨_, rfl⟩
  have hc1l : c1.toList = cur.toList.take (i * 1) ++ xs.drop ((i + 1) * 1) ++ cur.toList.drop (i * 1 + (xs.drop ((i + 1) * 1)).length) := by rw [hc1]
  rw [← hc1l] at r1 r2 r3
  obtain ⟨c2, hc2⟩ : ∃ c2 : Array Value, c2 = (c1.toList.take (m * 1) ++ (Value.pointer none).cells.toList ++ c1.toList.drop (m * 1 + (Value.pointer none).cells.toList.length)).toArray := ⟨_, rfl⟩
  have hc2l : c2.toList = c1.toList.take (m * 1) ++ (Value.pointer none).cells.toList ++ c1.toList.drop (m * 1 + (Value.pointer none).cells.toList.length) := by rw [hc2]
  rw [← hc2l] at r2 r3
  have hap : ∀ ty dc, (Builtin.append_ #[98, 98] ty #[.slice (some ⟨g, 0, none⟩) i cap, .slice (some A) (m - i) dc]).run Tryz.prog w.drew = .ok (.slice (some ⟨g, 0, none⟩) (i + (m - i)) cap) (w.drew.setRow g c1) := fun ty dc => by
    have h := run_appN (P := Tryz.prog) w.drew 98 ty 88 i0 1 g i cap A (m - i) dc cur 88 (xs.drop ((i + 1) * 1)) Tryz.underlying98 hi0 hz1 hg (by rw [List.length_drop, hxl]; omega) hsrc (fun u hu => h1x u (List.mem_of_mem_drop hu)) (by omega) (by rw [List.length_drop, hxl, hcs]; omega)
    rw [← hc1] at h
    exact h
  have hcr : ∀ ty dc, (Builtin.clear_ #[98] ty #[.slice (some ⟨g, m * 1, none⟩) 1 dc]).run Tryz.prog (w.drew.setRow g c1) = .ok (.tuple #[]) ((w.drew.setRow g c1).setRow g c2) := fun ty dc => by
    have h := run_clearN (P := Tryz.prog) (w.drew.setRow g c1) 98 ty 88 i0 (Value.pointer none) 1 g (m * 1) 1 dc c1 88 Tryz.underlying98 hi0 hz0 (by simpa using hZs) hZ1 (setRow_heap w.drew g cur c1 88 _ hg) (by rw [← Array.length_toList, r1, Array.length_toList, hcs]; omega) (by decide) rfl
    rw [← hc2] at h
    exact h
  have HF : Hid (((w.drew.setRow g c1).setRow g c2).ownsRow base 88 1 (.slice (some ⟨g, 0, none⟩) m cap) m (xs.take (i * 1) ++ xs.drop ((i + 1) * 1)) ∧ w.grownBy ((w.drew.setRow g c1).setRow g c2) (some g)) := by
    refine ⟨⟨?_, .inr ⟨g, cap, c2, rfl, hbg, ?_, by omega, by unfold maxLen; omega, by rw [← Array.length_toList, r2, Array.length_toList, hcs], r3⟩⟩, ⟨rfl, rfl, rfl, by simp, fun k hk hkn => ?_⟩⟩
    · simp only [List.length_append, List.length_take, List.length_drop, hxl]; omega
    · exact setRow_heap _ g c1 c2 88 _ (setRow_heap w.drew g cur c1 88 _ hg)
    · rw [setRow_other _ _ _ _ (by rintro rfl; exact hkn rfl), setRow_other _ _ _ _ (by rintro rfl; exact hkn rfl)]; rfl
  have hic : i ≤ cap := by omega
  have hn1 : ¬ ((i : Int) = (i : Int) + 1) := by omega
  have hw1 : IntKind.i64.wrap ((i : Int) + 1) = (i : Int) + 1 := by rw [IntKind.wrap_i64]; omega
  have htn : ((i : Int) + 1).toNat = i + 1 := by omega
  have hb1 : (0 : Int) ≤ (i : Int) + 1 := by omega
  have him : i + (m - i) = m := by omega
  have hcm1 : ¬ (cap = m) := by omega
  have hiI : (i : Int) ≤ (m : Int) := by omega
  rw [him] at hap
  clear hg r1 r2 r3 hc1 hc1l hc2 hc2l h1x hcs hxs hxl hxc hsrc hZ1 hZs hz0 hz1 hz2 hi0
  simp only [Nat.mul_one] at hap hcr hA
  go_enter Tryz.func68, Tryz.ntmps68
  go_wp2_with fail
  go_region_law (refine stp_append (by rfl) (.tmp 22) (.tmp 25) 98 98 (by rfl) (.slice (some ⟨g, 0, none⟩) i cap) (.slice (some A) (m - i) (cap - (i + 1))) (by simp [Act.eval, Act.put]) (by simp [Act.eval, Act.put]) (hap _ _) ?_)
  go_wp2_with (simp only [hcr])
  go_ret
  exact ⟨_, rfl, HF.out.1, HF.out.2, fun g' e => .inl e⟩
theorem s_DelB (v : Value) (n i base : Nat) (xs : List Value) (w : World) (hown : w.ownsRow base 88 1 v n xs) (hi : i < n) (h1x : ∀ u ∈ xs, u.oneCell' = true) :
    Calls Tryz.prog 68 #[v, .int .i64 (i : Int), .int .i64 ((i : Int) + 1)] w fun e w' => ∃ v', e = .returned v' ∧ w'.ownsRow base 88 1 v' (n - 1) (xs.take (i * 1) ++ xs.drop ((i + 1) * 1)) ∧ w.grownBy w' v.ownBlock ∧ (∀ g, v'.ownBlock = some g → v.ownBlock = some g ∨ w.heap.size ≤ g) := by
  obtain ⟨h1, h2⟩ := hown
  rcases h2 with ⟨rfl, rfl⟩ | ⟨g, cap, cur, rfl, hb, hg, hn, hcm, hs, ht⟩
  · omega
  · unfold maxLen at hcm
    obtain ⟨m, rfl⟩ : ∃ m, n = m + 1 := ⟨n - 1, by omega⟩
    exact s_DelB_at g m cap i base xs cur w (by omega) hg hb hn (by omega) hs ht h1x
end Go.Proofs.YtolgebdmffcemaaGreatDoor
namespace Go.Proofs.YtolgebdmffcemaaGreatDoor
open Go.RowKit Go.Shelf
theorem BuilderAt.below {T e : TypeId} {B b : Nat} {p : Value} {bs : List Value} {w w' : World} (h : Lib.BuilderAt T e B b p bs w) (hb : Below w.heap.size w w') : Lib.BuilderAt T e B b p bs w' := by
  have hl := h.lt
  obtain ⟨h1, v, h2, h3, h4⟩ := h
  exact ⟨h1, v, by rw [hb.block b hl]; exact h2, ownsRow_below h3 hb, h4⟩
theorem IsBuilder.below {T e : TypeId} {B b : Nat} {bs : List Value} {w w' : World} (h : Lib.IsBuilder T e B b bs w) (hb : Below w.heap.size w w') : Lib.IsBuilder T e B b bs w' := by
  rcases h with h | h
  · exact .inl (BuilderAt.below h hb)
  · exact .inr (BuilderAt.below h hb)
theorem s_WriteString (B b : Nat) (bs : List Value) (s : ByteArray) (w : World) (h : Lib.IsBuilder 134 5 B b bs w) (hlen : bs.length + s.size ≤ 140737488355328) (hBw : B ≤ w.heap.size) :
    Calls Tryz.prog 88 #[.pointer (some ⟨b, 0, none⟩), .string s] w fun e w' => e = .returned (.tuple #[.int .i64 s.size, .nilIface]) ∧ (Lib.BuilderAt 134 5 B b (.pointer (some ⟨b, 0, none⟩)) (bs ++ Lib.strCells s) w' ∧ Below B w w') :=
  Any.Builder_WriteString { Tryz.lays156 with } Tryz.Builder_Extra_156 B b bs s w h hlen hBw
set_option maxHeartbeats 1600000 in
set_option maxRecDepth 1000000 in
theorem g_twritten (v : Value) (t : List R.Leaf) (w : World) (M : Nat → Prop) (h : PT w M v t) (hg : ∀ x ∈ t, OkL x) (hl : t.length ≤ 1000) (hG : Glob w) :
    Calls Tryz.prog 50 #[v] w fun e w' => e = .returned (.string ⟨(R.Written t).toArray⟩) ∧ Below w.heap.size w w' := by
  obtain ⟨L, rfl, ⟨a, cap, rfl, hn, hm, hc⟩, hI⟩ := h
  unfold maxLen at hm
  rw [List.length_map] at hl
  go_enter Tryz.func50, Tryz.ntmps50
  go_wp2
  go_loopw [8] (fun i wr => ∃ (k : Nat) (acc : List UInt8), k ≤ L.length ∧ i = .int .i64 k ∧ acc = R.Written ((L.map (·.1)).take k) ∧ acc.length ≤ k * 1000000 ∧ Lib.IsBuilder 134 5 w.heap.size w.heap.size (Lib.byteCells acc) wr ∧ Below w.heap.size w wr) (fun i _ => L.length - (intOf i).toNat)
  case atStart => exact ⟨0, [], Nat.zero_le _, rfl, rfl, by simp, .inl ⟨Nat.le_refl _, .slice none 0 0, heap_alloc_new w _, World.ownsRow_nil _ _ _ _, by simp [Value.ownBlock]⟩, (Below.refl _ _).alloc (Nat.le_refl _) _⟩
  case round =>
    obtain ⟨k, acc, hk, rfl, he, hal, hbd, hb⟩ := hrel
    have HE : Hid (acc = R.Written ((L.map (·.1)).take k)) := he
    have HBD : Hid (Lib.IsBuilder 134 5 w.heap.size w.heap.size (Lib.byteCells acc) wr) := hbd
    clear he hbd
    have hsz := hb.size
    by_cases hlt : k < L.length
    · obtain ⟨b, off, rfl, hbs, _, hcell⟩ := hc (by omega)
      obtain ⟨x, ia, ic, HL, hit, c0, c1, c2, c3, c4⟩ := leafP' hI hcell k hlt
      have HP : Hid ((L.map (·.1))[k]'(by simpa using hlt) = x) := by show _ = _; simp [HL.out]
      have hgx : OkL x := by
        have := hg _ (List.getElem_mem (l := L.map (·.1)) (n := k) (by simpa using hlt))
        rwa [HP.out] at this
      have hp := hgx.good.path
      have hwl := written_length x hgx.good
      clear hcell hc hI hg
      have e0 := hb.cell (p := ⟨b, off + k * 5, none⟩) hbs
      have e1 := hb.cell (p := ⟨b, off + k * 5 + 1, none⟩) hbs
      have e2 := hb.cell (p := ⟨b, off + k * 5 + 2, none⟩) hbs
      have e3 := hb.cell (p := ⟨b, off + k * 5 + 3, none⟩) hbs
      have e4 := hb.cell (p := ⟨b, off + k * 5 + 4, none⟩) hbs
      rw [c0] at e0; rw [c1] at e1; rw [c2] at e2; rw [c3] at e3; rw [c4] at e4
      have HV : Hid (∀ W, Below w.heap.size w W → Calls Tryz.prog 89 #[.agg #[.int .i64 (pk x), .int .i64 x.n, .string ⟨x.text.toArray⟩, .slice ia x.items.length ic]] W fun e w' => e = .returned (.string ⟨(R.written x).toArray⟩) ∧ Below W.heap.size W w') := fun W hW => g_vwritten x _ W M (Rd.below hit hW) hgx (hG.below hW)
      clear c0 c1 c2 c3 c4
      go_wp2_with fail
      have HB0 : Hid (Below wr.heap.size wr (wr.alloc (Obj.cells #[.string ⟨x.path.toArray⟩, .int .i64 (pk x), .int .i64 x.n, .string ⟨x.text.toArray⟩, .slice ia x.items.length ic] 139)).drew) := ((Below.refl _ _).alloc (Nat.le_refl _) _).drew
      have hls : (R.line x).length ≤ 1000000 := R.line_length x hwl hp
      have q1 : ¬ 9223372036854775807 < x.path.length + 1 := by omega
      have q2 : ¬ 9223372036854775807 < x.path.length + 1 + (R.written x).length := by omega
      have q3 : ¬ 9223372036854775807 < x.path.length + 1 + (R.written x).length + 1 := by omega
      go_region_with (first
        | (go_at_call 89; refine (HV.out _ (hb.trans (HB0.out.mono hsz))).mono ?_; rintro e w2 ⟨rfl, hb2⟩; have m0 : w2.cell? ⟨wr.heap.size, 0, none⟩ = some (.string ⟨x.path.toArray⟩) := by (rw [hb2.cell (p := ⟨wr.heap.size, 0, none⟩) (by simp)]; simp))
        | (go_at_call 88; go_loud (refine (s_WriteString w.heap.size w.heap.size (Lib.byteCells acc) _ _ (IsBuilder.below HBD.out (HB0.out.trans (hb2.mono (by simp)))) (by simp only [Lib.byteCells_length, ByteArray.size_append]; simp only [ByteArray.size, List.size_toArray]; simp; omega) (by have := hb2.size; simp at this; omega)).mono ?_; rintro e w3 ⟨rfl, hbd3, hb3⟩)))
      all_goals
        go_wp2
        go_roundw
        case rel =>
          refine ⟨k + 1, acc ++ R.line x, by omega, by go_num, ?_, ?_, ?_, (hb.trans (HB0.out.mono hsz)).trans ((hb2.mono (by simp; omega)).trans hb3)⟩
          · rw [R.Written_snoc _ k (by simpa using hlt), HP.out, ← HE.out]
          · rw [List.length_append]; omega
          · rw [mk_lit [32] #[32] rfl, mk_lit [10] #[10] rfl, mk_add, mk_add, mk_add, Lib.strCells_eq, ← Lib.byteCells_append] at hbd3
            refine .inr ?_
            simpa [R.line] using hbd3
        case measure => simp [intOf]; omega
    · go_wp2_with fail
      refine (Tryz.Builder_String_any w.heap.size w.heap.size acc _ HBD.out hsz).mono ?_
      rintro e w1 ⟨rfl, hb1⟩
      go_wp2
      go_ret
      exact ⟨ret_str (by rw [HE.out, List.take_of_length_le (by simp; omega)]), hb.trans hb1⟩
end Go.Proofs.YtolgebdmffcemaaGreatDoor
namespace Go.Proofs.YtolgebdmffcemaaGreatDoor
open Go.RowKit Go.Shelf
def byteOf (n : Int) : UInt8 := UInt8.ofNat (n % 256).toNat
theorem byteOf_val (n : Int) : ((byteOf n).toNat : Int) = n % 256 := by
  unfold byteOf
  rw [u8_ofNat]
  have h1 := Int.emod_nonneg n (by decide : (256 : Int) ≠ 0)
  have h2 := Int.emod_lt_of_pos n (by decide : (0 : Int) < 256)
  omega
theorem byteOf_nat (n : Nat) : byteOf (n : Int) = UInt8.ofNat n := by
  apply UInt8.toNat_inj.1
  have h1 := byteOf_val (n : Int)
  have h2 := u8_ofNat n
  omega
/-- the laying of strings.Builder, with WriteByte besides -/
def ren167 : Ren := { Tryz.lays156_ren with f := fun n => if n = 167 then 136 else Tryz.lays156_ren.f n }
theorem lays167 : Lays.n167 Tryz.prog ren167 := { Tryz.lays156, Tryz.Builder_Extra_156 with f167 := by kernel_rfl }
theorem ren167_t : ren167.t = Tryz.lays156_ren.t := rfl
theorem extra167 : Builder.Extra Tryz.prog ren167 := by
  have h := Tryz.Builder_Extra_156
  refine ⟨⟨?_, ?_⟩, ?_, ?_, ?_, ?_, ?_, ?_, ?_, ?_⟩ <;> rw [ren167_t]
  · exact h.sizeBuilder
  · exact h.liesBuilder
  · exact h.t5
  · exact h.a5
  · exact h.z5
  · exact h.v5
  · exact h.infoByte
  · exact h.cellsByte
  · exact h.sizeByte
  · exact h.neB5
theorem rd_new (w : World) (C : Array Value) (t : TypeId) (hC : C.size ≤ 1000) : Rd (w.alloc (.cells C t)) (fun _ => False) (.slice (some ⟨w.heap.size, 0, none⟩) C.size C.size) C.size C.toList :=
  ⟨_, C.size, rfl, Nat.le_refl _, by unfold maxLen; omega, fun _ => ⟨w.heap.size, 0, rfl, by simp, fun h => h, fun j u hu => by
    have := cells_of_new w C t j u hu
    have hadd : (⟨w.heap.size, 0, none⟩ : Addr).add j = ⟨w.heap.size, 0 + j, none⟩ := by unfold Addr.add; split <;> simp_all
    rwa [hadd] at this⟩⟩
theorem s_WriteByte (B b : Nat) (bs : List Value) (c : Int) (w : World) (h : Lib.IsBuilder 134 5 B b bs w) (hlen : bs.length + 1 ≤ 140737488355328) (hBw : B ≤ w.heap.size) :
    Calls Tryz.prog 136 #[.pointer (some ⟨b, 0, none⟩), .int .u8 c] w fun e w' => e = .returned .nilIface ∧ (Lib.BuilderAt 134 5 B b (.pointer (some ⟨b, 0, none⟩)) (bs ++ [.int .u8 c]) w' ∧ Below B w w') :=
  Any.Builder_WriteByte lays167 extra167 B b bs c w h hlen hBw
set_option maxHeartbeats 800000 in
set_option maxRecDepth 1000000 in
theorem g_bytesOf (v : Value) (ns : List Int) (w : World) (M : Nat → Prop) (h : Rd w M v ns.length (ns.map fun n => Value.int .i64 n)) (hl : ns.length ≤ 1000) :
    Calls Tryz.prog 86 #[v] w fun e w' => e = .returned (.string ⟨(ns.map byteOf).toArray⟩) ∧ Below w.heap.size w w' := by
  obtain ⟨a, cap, rfl, hn, hm, hc⟩ := h
  unfold maxLen at hm
  go_enter Tryz.func86, Tryz.ntmps86
  go_wp2
  go_loopw [8] (fun i wr => ∃ (k : Nat), k ≤ ns.length ∧ i = .int .i64 k ∧ Lib.IsBuilder 134 5 w.heap.size w.heap.size (Lib.byteCells ((ns.take k).map byteOf)) wr ∧ Below w.heap.size w wr) (fun i _ => ns.length - (intOf i).toNat)
  case atStart => exact ⟨0, Nat.zero_le _, rfl, .inl ⟨Nat.le_refl _, .slice none 0 0, heap_alloc_new w _, World.ownsRow_nil _ _ _ _, by simp [Value.ownBlock]⟩, (Below.refl _ _).alloc (Nat.le_refl _) _⟩
  case round =>
    obtain ⟨k, hk, rfl, hbd, hb⟩ := hrel
    have HBD : Hid (Lib.IsBuilder 134 5 w.heap.size w.heap.size (Lib.byteCells ((ns.take k).map byteOf)) wr) := hbd
    clear hbd
    have hsz := hb.size
    by_cases hlt : k < ns.length
    · obtain ⟨b, off, rfl, hbs, _, hcell⟩ := hc (by omega)
      have e0 := (hb.cell (p := ⟨b, off + k, none⟩) hbs).trans (hcell k (.int .i64 ns[k]) (by simp [hlt]))
      have HT : Hid (Lib.byteCells ((ns.take (k + 1)).map byteOf) = Lib.byteCells ((ns.take k).map byteOf) ++ [.int .u8 (ns[k] % 256)]) := by
        show _ = _
        rw [List.take_succ_eq_append_getElem hlt, List.map_append, Lib.byteCells_append]
        congr 1
        simp [Lib.byteCells, byteOf_val]
      have hll : ((ns.take k).map byteOf).length ≤ 1000 := by simp; omega
      generalize ns[k] = x at *
      clear hcell hc
      go_wp2_with fail
      refine (s_WriteByte w.heap.size w.heap.size _ _ _ HBD.out (by rw [Lib.byteCells_length]; omega) hsz).mono ?_
      rintro e w3 ⟨rfl, hbd3, hb3⟩
      have HB3 := hide3 hbd3
      clear hbd3
      go_wp2
      go_roundw
      case rel =>
        refine ⟨k + 1, by omega, by go_num, ?_, hb.trans hb3⟩
        rw [HT.out]
        exact .inr HB3.out
      case measure => simp [intOf]; omega
    · go_wp2_with fail
      refine (Tryz.Builder_String_any w.heap.size w.heap.size _ _ HBD.out hsz).mono ?_
      rintro e w1 ⟨rfl, hb1⟩
      go_wp2
      go_ret
      exact ⟨ret_str (by rw [List.take_of_length_le (by rw [List.length_map]; omega)]), hb.trans hb1⟩
set_option maxHeartbeats 400000 in
theorem g_check (s : List UInt8) (w : World) (hl : s.length ≤ 1000000000) :
    Calls Tryz.prog 109 #[.string ⟨s.toArray⟩] w fun e w' => e = .returned (.int .i64 (((1 + R.sumB s) % 251 : Nat) : Int)) ∧ w' = w := by
  have hsl := R.sumB_le s
  go_enter Tryz.func109, Tryz.ntmps109
  go_wp2
  go_loop [3, 7] (fun t i => ∃ k : Nat, k ≤ s.length ∧ i = .int .i64 k ∧ t = .int .i64 ((1 + R.sumB (s.take k) : Nat) : Int)) (fun _ i => s.length - (intOf i).toNat)
  case atStart => exact ⟨0, Nat.zero_le _, rfl, rfl⟩
  case round =>
    obtain ⟨k, hk, rfl, rfl⟩ := hrel
    have hsk := R.sumB_le (s.take k)
    have htl : (s.take k).length ≤ s.length := List.length_take_le' _ _
    by_cases hlt : k < s.length
    · have ha := at_mk s k hlt (by simpa [ByteArray.size] using hlt)
      have HS : Hid (R.sumB (s.take (k + 1)) = R.sumB (s.take k) + s[k].toNat) := R.sumB_take s k hlt
      have h8 : s[k].toNat < 256 := s[k].toNat_lt
      go_wp2
      go_round
      case rel => exact ⟨k + 1, by omega, by go_num, by rw [HS.out]; go_num⟩
      case measure => simp [intOf]; omega
    · have HT : Hid (s.take k = s) := List.take_of_length_le (by omega)
      rw [HT.out] at *
      go_wp2
      go_ret
      exact ⟨ret_int (by omega), rfl⟩
theorem join_nil (l : List (List UInt8)) : Lib.join l [] = l.flatten := by
  match l with
  | [] => rfl
  | x :: r =>
    rw [Lib.join_cons, List.flatten_cons]
    congr 1
    clear x
    induction r with
    | nil => rfl
    | cons y r ih => simp only [Lib.joinTail, List.nil_append, List.map_id'] at ih ⊢
theorem flatten_len : ∀ (l : List (List UInt8)), (∀ i ∈ l, i.length ≤ 1000000) → l.flatten.length ≤ l.length * 1000000
  | [], _ => by simp
  | x :: r, h => by
    have := flatten_len r (fun i hi => h i (List.mem_cons_of_mem _ hi))
    have := h x (List.mem_cons_self ..)
    simp only [List.flatten_cons, List.length_append, List.length_cons]
    omega
theorem s_JoinE (l : List (List UInt8)) (iv : Value) (w : World) (M : Nat → Prop) (h : Rd w M iv l.length (l.map S)) (hl : l.length ≤ 100) (hi : ∀ i ∈ l, i.length ≤ 1000000) :
    Calls Tryz.prog 142 #[iv, .string ⟨#[]⟩] w fun e w' => e = .returned (.string ⟨l.flatten.toArray⟩) ∧ Below w.heap.size w w' := by
  obtain ⟨a, cap, rfl, hn, hm, hc⟩ := h
  rcases Nat.eq_zero_or_pos l.length with h0 | h0
  · have hl0 : l = [] := List.eq_nil_of_length_eq_zero h0
    subst hl0
    refine (Tryz.strings_Join_none a cap _ w).mono ?_
    rintro e w' ⟨rfl, rfl⟩
    exact ⟨rfl, Below.refl _ _⟩
  · obtain ⟨b, off, rfl, hb, _, hcell⟩ := hc h0
    have hmap : (l.map fun x => (⟨x.toArray⟩ : ByteArray)).map (·.data.toList) = l := by rw [List.map_map]; exact (List.map_congr_left (fun x _ => by simp)).trans (List.map_id l)
    have hj := Tryz.strings_Join b off cap (l.map fun x => (⟨x.toArray⟩ : ByteArray)) ⟨#[]⟩ w (fun j x hx => by
      rw [List.getElem?_map] at hx
      cases hq : l[j]? with
      | none => rw [hq] at hx; simp at hx
      | some y =>
        rw [hq] at hx; simp at hx; subst hx
        exact hcell j _ (by rw [List.getElem?_map, hq]; rfl)) hb (by rw [List.length_map]; omega) (by rw [List.length_map]; exact hn) (by
        rw [hmap]
        have := flatten_len l hi
        have e : Lib.join l [] = l.flatten := join_nil l
        simp only
        rw [e]; omega)
    rw [hmap, List.length_map] at hj
    refine hj.mono ?_
    rintro e w' ⟨rfl, hb'⟩
    exact ⟨by simp only; rw [join_nil l], hb'⟩
set_option maxHeartbeats 800000 in
set_option maxRecDepth 1000000 in
theorem g_record (c : UInt8) (v : Value) (l : List (List UInt8)) (w : World) (M : Nat → Prop) (h : Rd w M v l.length (l.map S)) (hl : l.length ≤ 10) (hi : ∀ i ∈ l, i.length ≤ 1000000) :
    Calls Tryz.prog 107 #[.int .u8 (c.toNat : Int), v] w fun e w' => e = .returned (.string ⟨(R.record c l.flatten).toArray⟩) ∧ Below w.heap.size w w' := by
  have hfl := flatten_len l hi
  have hJ := s_JoinE l v w M h (by omega) hi
  have hc8 : (c.toNat : Int) < 256 := by have := c.toNat_lt; omega
  have HR : Hid (R.record c l.flatten = R.recHead c l.flatten ++ [UInt8.ofNat ((1 + R.sumB (R.recHead c l.flatten)) % 251)]) := rfl
  have HH : Hid (R.recHead c l.flatten = [byteOf (c.toNat : Int), byteOf ((l.flatten.length : Int) / 256), byteOf (l.flatten.length : Int)] ++ l.flatten) := by
    show _ = _
    have e1 : byteOf (c.toNat : Int) = c := by
      apply UInt8.toNat_inj.1
      have := byteOf_val (c.toNat : Int)
      omega
    have e2 : byteOf ((l.flatten.length : Int) / 256) = UInt8.ofNat (l.flatten.length / 256) := by
      have := byteOf_nat (l.flatten.length / 256)
      simpa using this
    have e3 : byteOf (l.flatten.length : Int) = UInt8.ofNat (l.flatten.length % 256) := by
      apply UInt8.toNat_inj.1
      have h1 := byteOf_val (l.flatten.length : Int)
      have h2 := u8_ofNat (l.flatten.length % 256)
      omega
    rw [e1, e2, e3]; rfl
  obtain ⟨va, vc, rfl⟩ : ∃ va vc, v = .slice va l.length vc := by obtain ⟨a, cap, e, _⟩ := h; exact ⟨a, cap, e⟩
  clear h hi
  generalize l.flatten = body at *
  have hrl : (R.recHead c body).length ≤ 100000003 := by rw [HH.out]; simp; omega
  go_enter Tryz.func107, Tryz.ntmps107
  go_wp2_with fail
  refine hJ.mono ?_
  rintro e w1 ⟨rfl, hb1⟩
  have q0 : (body.length : Int) ≤ 100000000 := by omega
  have hB1 := g_bytesOf (.slice (some ⟨w1.heap.size, 0, none⟩) 3 3) [(c.toNat : Int), (body.length : Int) / 256, (body.length : Int)] (w1.alloc (.cells #[.int .i64 (c.toNat : Int), .int .i64 ((body.length : Int) / 256), .int .i64 (body.length : Int)] 3)) (fun _ => False)
    (rd_new w1 #[.int .i64 (c.toNat : Int), .int .i64 ((body.length : Int) / 256), .int .i64 (body.length : Int)] 3 (by simp)) (by simp)
  clear hJ
  go_wp2_with fail
  refine hB1.mono ?_
  rintro e w2 ⟨rfl, hb2⟩
  clear hB1
  have q2 : ¬ 9223372036854775807 < [byteOf (c.toNat : Int), byteOf ((body.length : Int) / 256), byteOf (body.length : Int)].length + body.length := by simp; omega
  have HB2 : Hid (Below w.heap.size w w2) := hb1.trans (((Below.refl _ _).alloc (Nat.le_refl _) _).trans (hb2.mono (by simp)) |>.mono hb1.size)
  simp only [List.map_cons, List.map_nil] at *
  go_wp2_with fail
  rw [mk_add, ← HH.out]
  have hck := g_check (R.recHead c body) w2 (by omega)
  have hB3 := g_bytesOf (.slice (some ⟨w2.heap.size, 0, none⟩) 1 1) [(((1 + R.sumB (R.recHead c body)) % 251 : Nat) : Int)] (w2.alloc (.cells #[.int .i64 (((1 + R.sumB (R.recHead c body)) % 251 : Nat) : Int)] 3)) (fun _ => False)
    (rd_new w2 #[.int .i64 (((1 + R.sumB (R.recHead c body)) % 251 : Nat) : Int)] 3 (by simp)) (by simp)
  generalize R.recHead c body = s at *
  generalize (1 + R.sumB s) % 251 = ck at *
  refine hck.mono ?_
  rintro e w3 ⟨rfl, hw3⟩
  subst hw3
  clear hck
  go_wp2_with fail
  refine hB3.mono ?_
  rintro e w4 ⟨rfl, hb4⟩
  simp only [List.map_cons, List.map_nil] at *
  have HB4 : Hid (Below w.heap.size w w4) := HB2.out.trans (((Below.refl _ _).alloc (Nat.le_refl _) _).trans (hb4.mono (by simp)) |>.mono HB2.out.size)
  have q4 : ¬ 9223372036854775807 < s.length + [byteOf (ck : Int)].length := by simp; omega
  clear hB3
  go_wp2
  go_ret
  exact ⟨ret_str (by rw [HR.out, ← byteOf_nat, ← mk_add]), HB4.out⟩
theorem stp_call {P : Program} {ops : Array Oper} {o : Oper} {a : Act} {w : World} {K : Act → World → Prop} {Q : Exit → Act → World → Prop} {E : Prop} (hg : o.guard = none) {f : FuncId} {fn : Func} {args : Array Operand} {ats : Array TypeId} (hop : o.op = Op.call { callee := Callee.value (Operand.func f), args := args, argTypes := ats })
    (hf : P.funcs[f]? = some fn) (hn : (fn.name == "runtime.NumGoroutine") = false) (hb : fn.body.isNone = false) {vals : Array Value} (hv : args.map a.eval = vals) {R : Value → World → Prop} (hC : Calls P f vals w fun e w' => ∃ v, e = .returned v ∧ R v w') (hK : ∀ v w', R v w' → K (a.put o.dst v) w') :
    if Region.wanted o (yielded ops a.tmps) = true then Oper.wp P o a w K Q else E := by
  rw [if_pos (by simp [Region.wanted, hg])]
  unfold Oper.wp
  rw [Conc.run_call_body hop hf hn hb, hv]
  exact hC.mono fun e w' ⟨v, he, hr⟩ => by subst he; exact hK v w' hr
/-- where what comes of appending a string lies -/
theorem append_str_at {P : Program} (w : World) (base : Nat) (t u ty e : TypeId) (i : TypeInfo) (ht : P.underlying t = some (.slice e)) (hu : P.underlying u = some .string) (hi : P.info? e = some i) (hz : i.zero = some (.int .u8 0)) (hsize : i.size = 1) (hby : i.bytes = 1)
    (v : Value) (n : Nat) (xs : List Value) (hown : w.ownsRow base e 1 v n xs) (s : ByteArray) (hs : 0 < s.size) (hbytes : n + s.size ≤ 140737488355328) {v' : Value} {w' : World} (hr : (Builtin.append_ #[t, u] ty #[v, .string s]).run P w = .ok v' w') :
    ∀ g, v'.ownBlock = some g → v.ownBlock = some g ∨ w.heap.size ≤ g := by
  have hxl : xs.length = n := by simpa using hown.1
  rcases hown.2 with ⟨rfl, rfl⟩ | ⟨g, cap, cur, rfl, hbg, hg, hnc, hcm, hcs, htake⟩
  · have h1 := run_append_nil_string (P := P) w t u ty e i (.int .u8 0) ht hu hi hz s (by omega) (by omega) (by rw [hby]; omega)
    rw [h1] at hr
    injection hr with hv _
    subst hv
    intro g hg
    simp [Value.ownBlock] at hg
    exact .inr (by omega)
  · by_cases hroom : n + s.size ≤ cap
    · have hcs' : cur.size = cap := by simpa using hcs
      have h1 := Lib.run_append_room_string (P := P) w t u ty e i ht hu hi hsize g n cap cur hg s hroom (by omega)
      rw [h1] at hr
      injection hr with hv _
      subst hv
      intro g' hg'
      exact .inl (by simpa [Value.ownBlock] using hg')
    · have holds : ∀ j u, xs[j]? = some u → w.cell? ((⟨g, 0, none⟩ : Addr).add j) = some u := hown.cells (g := g) rfl
      have h1 := Lib.run_append_grow_string (P := P) w t u ty e i (.int .u8 0) ht hu hi hz ⟨g, 0, none⟩ n cap xs (by rw [hsize]; simpa using hxl) holds s (by omega) (by omega) (by rw [hby]; exact growslice_fits (by omega) (by omega))
      rw [h1] at hr
      injection hr with hv _
      subst hv
      intro g' hg'
      simp [Value.ownBlock] at hg'
      exact .inr (by omega)
theorem Tryz.info5 : (Tryz.prog.info? 5).map (fun i => (i.zero, i.size, i.bytes)) = some (some (.int .u8 0), 1, 1) := by kernel_rfl
theorem R.record_len (c : UInt8) (b : List UInt8) : (R.record c b).length = b.length + 4 := by simp [R.record, R.recHead]
set_option maxHeartbeats 1600000 in
set_option maxRecDepth 1000000 in
theorem g_write (B : Nat) (c : UInt8) (ci : Int) (hci : (c.toNat : Int) = ci) (v : Value) (l : List (List UInt8)) {w : World} {M O : Nat → Prop} {st : R.St} {bv cv : Value} {LB : List BrP} {LCm : List (R.Cm × Value × Value)} (hP : PSx w M O B st bv cv LB LCm) (Mr : Nat → Prop) (h : Rd w Mr v l.length (l.map S)) (hl : l.length ≤ 10) (hi : ∀ i ∈ l, i.length ≤ 1000000) (hpk : st.packed.length ≤ 1000000000000) :
    Calls Tryz.prog 69 #[.pointer (some ⟨B, 0, none⟩), .int .u8 ci, v] w fun e w' => e = .returned (.tuple #[]) ∧ PStep w w' M O B { st with packed := st.packed ++ R.record c l.flatten } := by
  subst hci
  have hrec := fun W (hW : Below w.heap.size w W) => g_record c v l W Mr (h.below hW) hl hi
  have hrl : (R.record c l.flatten).length ≤ 100000000 := by rw [R.record_len]; have := flatten_len l hi; omega
  obtain ⟨va, vc, rfl⟩ : ∃ va vc, v = .slice va l.length vc := by obtain ⟨a, cap, e, _⟩ := h; exact ⟨a, cap, e⟩
  obtain ⟨pv, hpa⟩ := hP.pk
  have c2 := hpa.c2
  have fr2 := hP.fr 2
  have hBl := hP.lt B hP.own
  obtain ⟨i0, hii, hz0, hz1, hz2⟩ := info_parts Tryz.info5
  obtain ⟨pa, pc, hpv, _⟩ := owns_form hpa.row
  have HP := hide3 hP
  have HPA := hide3 hpa
  have HPV := hide3 hpv
  have hap : ∀ W, Below w.heap.size w W → ∃ a3 n3 k3 w3, (Builtin.append_ #[100, 9] 100 #[.slice pa st.packed.length pc, .string ⟨(R.record c l.flatten).toArray⟩]).run Tryz.prog W = .ok (.slice a3 n3 k3) w3 ∧ Hid (w3.ownsRow 0 5 1 (.slice a3 n3 k3) (st.packed ++ R.record c l.flatten).length (Lib.byteCells (st.packed ++ R.record c l.flatten))) ∧ Hid (Kept (fun b => pv.ownBlock = some b) w w3) ∧ Hid (∀ g, (Value.slice a3 n3 k3).ownBlock = some g → pv.ownBlock = some g ∨ w.heap.size ≤ g) ∧ w3.cell? ⟨B, 2, none⟩ = some (.slice pa st.packed.length pc) ∧ w3.frozen? ⟨B, 2, none⟩ = false := by
    intro W hW
    have hrow := ownsRow_below hpa.row hW
    obtain ⟨v3, w3, h1, h2, h3, h4⟩ := Lib.run_append_own_string (P := Tryz.prog) W 0 100 9 100 5 i0 Tryz.underlying100 Tryz.underlying9 hii hz0 hz1 hz2 pv st.packed.length (Lib.byteCells st.packed) hrow ⟨(R.record c l.flatten).toArray⟩ (by simp [ByteArray.size, maxLen]; omega) (by simp [ByteArray.size]; omega) (Nat.zero_le _)
    have hBn : pv.ownBlock ≠ some B := fun e => (hpa.rowO B e).2.1 rfl
    have hB2 : W.heap.size ≤ w3.heap.size := h3.size
    have hWs := hW.size
    have hK : Kept (fun b => pv.ownBlock = some b) w w3 := ⟨h3.os.trans hW.os, h3.tape.trans hW.tape, h3.output.trans hW.output, by omega, fun k hk hn => by
      rw [h3.block k (by omega) (fun e => hn e.symm)]; exact hW.block k hk⟩
    have hat := append_str_at (P := Tryz.prog) W 0 100 9 100 5 i0 Tryz.underlying100 Tryz.underlying9 hii hz0 hz1 hz2 pv st.packed.length (Lib.byteCells st.packed) hrow ⟨(R.record c l.flatten).toArray⟩ (by simp [ByteArray.size, R.record_len]) (by simp [ByteArray.size]; omega) h1
    obtain ⟨a3, k3, hv3, _⟩ := owns_form h2
    subst hv3
    refine ⟨a3, _, k3, w3, by rw [← hpv]; exact h1, ?_, hK, ?_, ?_, ?_⟩
    · show World.ownsRow _ _ _ _ _ _ _
      rw [Lib.strCells_eq, ← Lib.byteCells_append] at h2
      simpa [ByteArray.size] using h2
    · intro g hg
      rcases hat g hg with h | h
      · exact .inl h
      · exact .inr (by omega)
    · rw [hK.cell (p := ⟨B, 2, none⟩) hBl hBn, c2, hpv]
    · rw [hK.frozen (p := ⟨B, 2, none⟩) hBl hBn]; exact fr2
  rw [hpv] at c2
  have HAP := hide3 hap
  clear hP hpa hpv hap h hi
  generalize R.record c l.flatten = rc at *
  generalize st.packed ++ rc = pk2 at *
  go_enter Tryz.func69, Tryz.ntmps69
  go_wp2_with fail
  go_region_law (first
    | ((refine stp_append (by rfl) (.tmp 10) (.tmp 13) 100 9 (by rfl) (.slice pa st.packed.length pc) (.string ⟨rc.toArray⟩) (by rfl) (by rfl) (by exact hr3) ?_))
    | ((refine stp_call (R := fun v w1 => v = .string ⟨rc.toArray⟩ ∧ Below w.heap.size w w1) (by rfl) (by rfl) Tryz.func107 (by rfl) (by rfl) (vals := #[.int .u8 (c.toNat : Int), .slice va l.length vc]) (by simp [Act.eval, Act.put]) ((hrec _ (Below.refl _ _).drew).mono fun e w1 ⟨he, hb⟩ => ⟨_, he, rfl, ((Below.refl _ _).drew).trans hb⟩) ?_; rintro v0 w1 ⟨rfl, hb1⟩; have d2 : w1.cell? ⟨B, 2, none⟩ = some (.slice pa st.packed.length pc) := (hb1.cell (p := ⟨B, 2, none⟩) hBl).trans c2; obtain ⟨a3, n3, k3, w3, hr3, ho3, hk3, hl3, d3, g3⟩ := HAP.out w1 hb1)))
  all_goals
    go_end0
    exact ⟨rfl, setPk_PS HP.out HPA.out hk3.out ho3.out hl3.out⟩
end Go.Proofs.YtolgebdmffcemaaGreatDoor
