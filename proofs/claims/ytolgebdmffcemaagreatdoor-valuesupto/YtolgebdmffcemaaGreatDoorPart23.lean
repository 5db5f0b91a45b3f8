/-
  The statement's own function add (graftlaw.World.add): a pair of stores more.
  One step of the statement's (graftlaw.World.step), of the kind Add: as the document says.
  The program's Add, Note, Put, Take, Delete (over Store.change): as the document's answer has them.
-/
import Derived.Test.YtolgebdmffcemaaGreatDoorPart10
import Derived.Test.YtolgebdmffcemaaGreatDoorPart12
import Derived.Test.YtolgebdmffcemaaGreatDoorPart08
import Derived.Test.YtolgebdmffcemaaGreatDoorPart22
import Derived.Deep.RegionHeld3
import Derived.Test.YtolgebdmffcemaaGreatDoorPart15
import Derived.Test.YtolgebdmffcemaaGreatDoorPart18
import Derived.Test.YtolgebdmffcemaaGreatDoorPart20
import Derived.Test.YtolgebdmffcemaaGreatDoorPart21
set_option linter.unusedVariables false
namespace Go.Proofs.YtolgebdmffcemaaGreatDoor
open Go.RowKit
theorem Tryz.info85 : (Tryz.prog.info? 85).map (fun i => (i.zero, i.size, i.bytes)) = some (some (.agg #[.pointer none, .pointer none]), 2, 16) := by kernel_rfl
theorem owns_lies {w w' : World} {base : Nat} {e : TypeId} {size : Nat} {v : Value} {n : Nat} {xs : List Value} (h : w.ownsRow base e size v n xs) {Z : Nat → Prop} (hk : Kept Z w w') (hz : ∀ g, v.ownBlock = some g → ¬ Z g) : w'.ownsRow base e size v n xs := ownsRow_kept h hk hz
/-- the row of the pairs is another -/
theorem LWx.newAll {w w5 : World} {M O M' : Nat → Prop} {Wb : Nat} {av : Value} {ps ps' : List (Nat × Nat)} {nv tv uv kv : Value} {names : List (Value × List UInt8)} {nums : List (Value × Int)} {last : Nat} (h : LWx w M O Wb av ps nv tv uv kv names nums last) {v3 : Value}
    (hK : Kept (fun b => av.ownBlock = some b) w w5) (hrow : w5.ownsRow 0 85 2 v3 ps'.length (cellsA ps')) (hv3 : ∀ g, v3.ownBlock = some g → av.ownBlock = some g ∨ w.heap.size ≤ g)
    (hM : ∀ b, M' b → M b ∨ w.heap.size ≤ b) (hOM : ∀ b, (O b ∨ v3.ownBlock = some b) → M' b) :
    LWx (w5.setCell ⟨Wb, 0, none⟩ v3) M' (fun b => O b ∨ v3.ownBlock = some b) Wb v3 ps' nv tv uv kv names nums last ∧ Kept O w (w5.setCell ⟨Wb, 0, none⟩ v3) := by
  have hW := h.lt Wb h.own
  have hnW : av.ownBlock ≠ some Wb := fun e => (h.aO _ e).2.1 rfl
  have hK6 : Kept (fun b => av.ownBlock = some b ∨ b = Wb) w (w5.setCell ⟨Wb, 0, none⟩ v3) := (hK.mono (fun b e => .inl e)).setCell (p := ⟨Wb, 0, none⟩) (.inl (.inr rfl)) v3
  have hK56 : Kept (fun b => b = Wb) w5 (w5.setCell ⟨Wb, 0, none⟩ v3) := (Kept.refl (fun b => b = Wb) w5).setCell (p := ⟨Wb, 0, none⟩) (.inl rfl) v3
  have hZM : ∀ b, (av.ownBlock = some b ∨ b = Wb) → M b := by
    rintro b (e | rfl)
    · exact h.sub b (h.aO b e).1
    · exact h.sub _ h.own
  have cl : ∀ o v, o ≠ 0 → w.cell? ⟨Wb, o, none⟩ = some v → (w5.setCell ⟨Wb, 0, none⟩ v3).cell? ⟨Wb, o, none⟩ = some v := fun o v ho e => by
    rw [sc_other _ _ _ _ _ ho, hK.cell (p := ⟨Wb, o, none⟩) hW hnW]; exact e
  have hc5 : w5.cell? ⟨Wb, 0, none⟩ = some av := by rw [hK.cell (p := ⟨Wb, 0, none⟩) hW hnW]; exact h.c0
  have hv3W : v3.ownBlock ≠ some Wb := fun e => by
    rcases hv3 Wb e with e | e
    · exact hnW e
    · omega
  have old : ∀ g, O g → g ≠ Wb → av.ownBlock ≠ some g → v3.ownBlock ≠ some g := fun g h1 h2 h3 e => by
    rcases hv3 g e with e | e
    · exact h3 e
    · have := h.lt g h1; omega
  have keep : ∀ {e : TypeId} {size : Nat} {v : Value} {n : Nat} {xs : List Value}, w.ownsRow 0 e size v n xs → (∀ g, v.ownBlock = some g → g ≠ Wb ∧ av.ownBlock ≠ some g) → (w5.setCell ⟨Wb, 0, none⟩ v3).ownsRow 0 e size v n xs := fun ho hg => ownsRow_kept ho hK6 (fun g e e2 => by
    rcases e2 with e2 | e2
    · exact (hg g e).2 e2
    · exact (hg g e).1 e2)
  refine ⟨⟨hOM, fun b e => ?_, .inl h.own, sc_same _ _ _ _ _ hc5, cl 1 _ (by omega) h.c1, cl 2 _ (by omega) h.c2, cl 3 _ (by omega) h.c3, cl 4 _ (by omega) h.c4, cl 5 _ (by omega) h.c5, fun o => ?_,
    ownsRow_kept hrow hK56 (fun g e e2 => hv3W (by rw [e, e2])), keep h.nrow (fun g e => ⟨(h.nO g e).2, fun e2 => (h.aO g e2).2.2.1 e⟩), keep h.trow (fun g e => ⟨(h.tO g e).2.1, fun e2 => (h.aO g e2).2.2.2.1 e⟩), keep h.urow (fun g e => ⟨(h.uO g e).2.1, fun e2 => (h.aO g e2).2.2.2.2.1 e⟩), keep h.krow (fun g e => ⟨(h.kO g e).2.1, fun e2 => (h.aO g e2).2.2.2.2.2 e⟩),
    fun g e => ⟨.inl (h.nO g e).1, (h.nO g e).2⟩, fun g e => ⟨.inl (h.tO g e).1, (h.tO g e).2⟩, fun g e => ⟨.inl (h.uO g e).1, (h.uO g e).2⟩, fun g e => ⟨.inl (h.kO g e).1, (h.kO g e).2⟩, fun g e => ?_, fun p hp => ?_, fun p hp => ?_⟩, hK6.mono (fun b e => ?_)⟩
  · rcases e with e | e
    · exact Nat.lt_of_lt_of_le (h.lt b e) hK6.size
    · exact Nat.lt_of_lt_of_le (hrow.lt b e).2 hK56.size
  · rw [World.frozen?_setCell, hK.frozen (p := ⟨Wb, o, none⟩) hW hnW]; exact h.fr o
  · refine ⟨.inr e, fun e2 => hv3W (by rw [e, e2]), fun e2 => ?_, fun e2 => ?_, fun e2 => ?_, fun e2 => ?_⟩
    · exact old g (h.nO g e2).1 (h.nO g e2).2 (fun e3 => (h.aO g e3).2.2.1 e2) e
    · exact old g (h.tO g e2).1 (h.tO g e2).2.1 (fun e3 => (h.aO g e3).2.2.2.1 e2) e
    · exact old g (h.uO g e2).1 (h.uO g e2).2.1 (fun e3 => (h.aO g e3).2.2.2.2.1 e2) e
    · exact old g (h.kO g e2).1 (h.kO g e2).2.1 (fun e3 => (h.aO g e3).2.2.2.2.2 e2) e
  · obtain ⟨n, hr⟩ := h.nl p hp; exact ⟨n, hr.step hK6 hZM hM⟩
  · obtain ⟨n, hr⟩ := h.ul p hp; exact ⟨n, hr.step hK6 hZM hM⟩
  · rcases e with e | rfl
    · exact (h.aO b e).1
    · exact h.own
theorem cellsA_length (ps : List (Nat × Nat)) : (cellsA ps).length = ps.length * 2 := by
  unfold cellsA
  induction ps with
  | nil => rfl
  | cons p r ih => rw [List.flatMap_cons, List.length_append, ih]; simp; omega
set_option maxHeartbeats 800000 in
set_option maxRecDepth 1000000 in
theorem l_add {w0 w : World} {h0 Wb : Nat} {O : Nat → Prop} {L : List SP} {names : List (Value × List UInt8)} {nums : List (Value × Int)} {last : Nat} (h : LW w0 h0 Wb O L names nums last) (hb : Below w0.heap.size w0 w) {bx by_ : Nat} (h1 : w0.heap.size ≤ bx) (h2 : w0.heap.size ≤ by_) (h3 : bx ≠ by_)
    (hx : w.heap[bx]? = some (.cells #[.slice none 0 0, .slice none 0 0, .slice none 0 0] 102 (0, 0))) {C : Array Value} (hC : C[0]? = some (.slice none 0 0) ∧ C[1]? = some (.slice none 0 0) ∧ C[2]? = some (.string ⟨#[]⟩)) (hy : w.heap[by_]? = some (.cells C 82 (0, 0))) (hL : L.length ≤ 1000) :
    Calls Tryz.prog 77 #[.pointer (some ⟨Wb, 0, none⟩), .pointer (some ⟨bx, 0, none⟩), .pointer (some ⟨by_, 0, none⟩)] w fun e w' => e = .returned (.bool true) ∧ ∃ O', LW w' h0 Wb O' (L ++ [⟨bx, by_, fun b => b = bx, fun b => b = by_, noSt, noSt⟩]) names nums last ∧ Below h0 w0 w' := by
  obtain ⟨av, nv, tv, uv, kv, hl⟩ := h.lw
  have hWl0 := hl.lt Wb hl.own
  have c0 := (hb.cell (p := ⟨Wb, 0, none⟩) hWl0).trans hl.c0
  have fr0 := (hb.frozen (p := ⟨Wb, 0, none⟩) hWl0).trans (hl.fr 0)
  have hsz := hb.size
  have hxl : bx < w.heap.size := (Array.getElem?_eq_some_iff.1 hx).1
  have hyl : by_ < w.heap.size := (Array.getElem?_eq_some_iff.1 hy).1
  have hrw : w.ownsRow 0 85 2 av L.length (cellsA (L.map fun p => (p.bx, p.by_))) := by
    have := ownsRow_below hl.arow hb
    rwa [List.length_map] at this
  obtain ⟨a, cap, hav, hn, hm, _, _⟩ := owns_form hrw
  rw [hav] at c0
  have HO := hide3 hrw
  have HH := hide3 h
  have HL := hide3 hl
  have HX := hide3 hx
  have HY := hide3 hy
  have HCC := hide3 hC
  have HAV := hide3 hav
  rw [hav] at hrw
  clear h hl hx hy hav hC
  go_enter Tryz.func77, Tryz.ntmps77
  go_wp2_with (at_builtin; go_loud (refine wpl_app2 _ (by rfl) _ _ 66 66 _ (by rfl) 0 85 (.agg #[.pointer none, .pointer none]) 2 16 Tryz.underlying66 Tryz.underlying66 Tryz.info85 (by rfl) (by decide) (hrw.alloc _) ⟨w.heap.size, 0, none⟩ 1 1 [.pointer (some ⟨bx, 0, none⟩), .pointer (some ⟨by_, 0, none⟩)] (by rfl) (by exact cells_of_new w #[.pointer (some ⟨bx, 0, none⟩), .pointer (some ⟨by_, 0, none⟩)] 85) (by rfl) (by rfl) (by intro u hu; simp at hu; rcases hu with rfl | rfl <;> rfl) (by unfold maxLen; omega) (by omega) (Nat.zero_le _) ?_))
  intro v3 w5 ho5 hg5 hl5
  rw [← HAV.out] at hg5 hl5
  have hs5 : w.heap.size + 1 ≤ w5.heap.size := by have := hg5.size; simpa using this
  have hown : ∀ g, av.ownBlock = some g → g < w0.heap.size ∧ g ≠ Wb := fun g e => ⟨HL.out.lt g (HL.out.aO g e).1, (HL.out.aO g e).2.1⟩
  have hblk : ∀ k, k < w.heap.size → av.ownBlock ≠ some k → w5.heap[k]? = w.heap[k]? := fun k hk hne => by
    rw [hg5.block k (by simp; omega) (fun e => hne e.symm), heap_alloc_old _ _ hk]
  have hnW : av.ownBlock ≠ some Wb := fun e => (hown _ e).2 rfl
  have d0 := (World.cell?_of_block (a := ⟨Wb, 0, none⟩) (hblk Wb (by omega) hnW)).trans c0
  have g0 := (World.frozen?_of_block (a := ⟨Wb, 0, none⟩) (hblk Wb (by omega) hnW)).trans fr0
  have HK5 : Hid (Kept (fun b => av.ownBlock = some b) w0 w5) := ⟨hg5.os.trans hb.os, hg5.tape.trans hb.tape, hg5.output.trans hb.output, by omega, fun k hk hne => by rw [hblk k (by omega) hne]; exact hb.block k hk⟩
  have HX5 : Hid (w5.heap[bx]? = some (.cells #[.slice none 0 0, .slice none 0 0, .slice none 0 0] 102 (0, 0))) := by
    show _ = _
    rw [hblk bx hxl (fun e => by have := (hown _ e).1; omega)]; exact HX.out
  have HY5 : Hid (w5.heap[by_]? = some (.cells C 82 (0, 0))) := by
    show _ = _
    rw [hblk by_ hyl (fun e => by have := (hown _ e).1; omega)]; exact HY.out
  have HL5 : Hid (∀ g, v3.ownBlock = some g → av.ownBlock = some g ∨ w.heap.size < g) := fun g e => by
    rcases hl5 g e with e | e
    · exact .inl e
    · exact .inr (by first | omega | (simp at e; omega))
  have HO5 : Hid (w5.ownsRow 0 85 2 v3 ((L.map fun p => (p.bx, p.by_)) ++ [(bx, by_)]).length (cellsA ((L.map fun p => (p.bx, p.by_)) ++ [(bx, by_)]))) := by
    have e1 : ((L.map fun p => (p.bx, p.by_)) ++ [(bx, by_)]).length = L.length + 1 := by simp
    have e2 : cellsA ((L.map fun p => (p.bx, p.by_)) ++ [(bx, by_)]) = cellsA (L.map fun p => (p.bx, p.by_)) ++ [.pointer (some ⟨bx, 0, none⟩), .pointer (some ⟨by_, 0, none⟩)] := by simp [cellsA]
    show w5.ownsRow _ _ _ _ _ _
    rw [e1, e2]; exact ho5
  obtain ⟨a5, c5, hv5, _⟩ := owns_form ho5
  have HOWN := hide3 hown
  subst hv5
  clear ho5 hg5 hl5 hblk hnW hown hrw
  go_wp2
  go_ret
  refine ⟨rfl, fun b => O b ∨ (Value.slice a5 (L.length + 1) c5).ownBlock = some b, ?_⟩
  have hNA := HL.out.newAll (M' := fun b => MM O L b ∨ (O b ∨ (Value.slice a5 (L.length + 1) c5).ownBlock = some b) ∨ b = bx ∨ b = by_) HK5.out HO5.out (fun g e => by
    rcases HL5.out g e with e | e
    · exact .inl e
    · exact .inr (by omega)) (fun b e => by
    rcases e with e | (e | e) | e | e
    · exact .inl e
    · exact .inl (.inl e)
    · rcases HL5.out b e with e | e
      · exact .inl (.inl (HL.out.aO b e).1)
      · exact .inr (by omega)
    · exact .inr (by omega)
    · exact .inr (by omega)) (fun b e => .inr (.inl e))
  have hne : ∀ b, w0.heap.size ≤ b → b < w.heap.size → ¬ (O b ∨ (Value.slice a5 (L.length + 1) c5).ownBlock = some b) := fun b hb1 hb2 e => by
    rcases e with e | e
    · have := HL.out.lt b e; omega
    · rcases HL5.out b e with e | e
      · have := (HOWN.out b e).1; omega
      · omega
  refine HH.out.pair hNA.2 (fun b e => ?_) h1 h2 h3 (hne bx h1 hxl) (hne by_ h2 hyl) ?_ HCC.out ?_ ⟨_, nv, tv, uv, kv, hNA.1⟩
  · rcases e with e | e
    · exact .inl e
    · rcases HL5.out b e with e | e
      · exact .inl (HL.out.aO b e).1
      · exact .inr (by omega)
  · rw [Below.heap_setCell _ _ _ _ (by show bx ≠ Wb; omega)]; exact HX5.out
  · rw [Below.heap_setCell _ _ _ _ (by show by_ ≠ Wb; omega)]; exact HY5.out
end Go.Proofs.YtolgebdmffcemaaGreatDoor
namespace Go.Proofs.YtolgebdmffcemaaGreatDoor
open Go.RowKit
theorem pick_ltAdd (c : Int) (n : Nat) (h : 0 < n) : ∃ i : Nat, i < n ∧ pickI c n = (i : Int) := by
  have h1 : 0 ≤ pickI c n := by
    unfold pickI; split
    · exact Int.emod_nonneg _ (by omega)
    · exact Int.emod_nonneg _ (by omega)
  have h2 : pickI c n < n := by
    unfold pickI; split
    · exact Int.emod_lt_of_pos _ (by omega)
    · exact Int.emod_lt_of_pos _ (by omega)
  exact ⟨(pickI c n).toNat, by omega, by omega⟩
theorem cellsA_atAdd : ∀ (ps : List (Nat × Nat)) (i : Nat) (h : i < ps.length), (cellsA ps)[i * 2]? = some (.pointer (some ⟨(ps[i]'h).1, 0, none⟩)) ∧ (cellsA ps)[i * 2 + 1]? = some (.pointer (some ⟨(ps[i]'h).2, 0, none⟩))
  | p :: r, 0, _ => by simp [cellsA]
  | p :: r, i + 1, h => by
    have ih := cellsA_atAdd r i (by simpa using h)
    unfold cellsA at ih ⊢
    rw [List.flatMap_cons, show (i + 1) * 2 = i * 2 + 2 from by omega]
    simpa using ih
set_option maxHeartbeats 3200000 in
set_option maxRecDepth 1000000 in
theorem l_sAdd {w : World} {h0 Wb : Nat} {O : Nat → Prop} {L : List SP} {names : List (Value × List UInt8)} {nums : List (Value × Int)} {last K : Nat} (h : LW w h0 Wb O L names nums last) (hA : Agree K L) (hK : K ≤ 100000000000) (hla : last ≤ 1000000) (hnm : names.length ≤ 100000000) (hL : 0 < L.length) (hL2 : L.length ≤ 1000) (wi n m : Int) (s t u : List UInt8)
    (hw1 : wi ≤ 9223372036854775807) (hw2 : -9223372036854775808 ≤ wi) (hn1 : n ≤ 9223372036854775807) (hn2 : -9223372036854775808 ≤ n) (hsl : s.length ≤ maxLen) (htl : t.length ≤ maxLen) (hul : u.length ≤ maxLen) :
    Calls Tryz.prog 43 #[.pointer (some ⟨Wb, 0, none⟩), .agg (opC 6 wi n m s t u)] w fun e w' => e = .returned (.bool true) ∧ Goes w w' h0 Wb L.length (names.length + 9) (last + 1) (K + 20) := by
  obtain ⟨i, hi, hpi⟩ := pick_ltAdd wi L.length hL
  have HP := fun W => l_pick wi (L.length : Int) W (by omega) (by omega) hw2 hw1
  rw [hpi] at HP
  have HC := fun W (hW : LW W h0 Wb O L names nums last) => l_vAdd hW hA hK i hi wi n m s t u hn1 hn2 hsl htl hul
  have HG : Hid (∀ W w', Below w.heap.size w W → Goes W w' h0 Wb L.length names.length last (K + 20) → Goes w w' h0 Wb L.length (names.length + 9) (last + 1) (K + 20)) := by
    rintro W w' hb ⟨O', L', names', nums', last', h1, h2, h3, h4, h5, h6⟩
    exact ⟨O', L', names', nums', last', h1, h2, fun j hj => ⟨(h3 j hj).1, by have := (h3 j hj).2; omega⟩, by omega, by omega, (hb.mono h.hs).trans h6⟩
  have HH := hide0 h
  obtain ⟨av, nv, tv, uv, kv, hl⟩ := h.lw
  have hWl := hl.lt Wb hl.own
  have c0 := hl.c0
  have hrow := hl.arow
  rw [List.length_map] at hrow
  obtain ⟨aa, ac, hav, ha1, ha2, ha3, ha4⟩ := owns_form hrow
  rw [hav] at c0
  cases aa with
  | none => have := (ha3 rfl).1; omega
  | some ad =>
  obtain ⟨g, rfl, _, hg, _, hcell⟩ := ha4 ad rfl
  have hca := cellsA_atAdd (L.map fun p => (p.bx, p.by_)) i (by simpa using hi)
  have d1 := hcell _ _ hca.1
  have d2 := hcell _ _ hca.2
  simp only [List.getElem_map] at d1 d2
  unfold maxLen at ha2
  clear h hA hl hrow hav ha3 ha4 hcell hca hpi
  generalize L[i].bx = bx at *
  generalize L[i].by_ = by_ at *
  have HPick := hide0 HP
  have HCall := hide0 HC
  clear HP HC
  go_enter Tryz.func43, Tryz.ntmps43
  unfold opC
  go_wp2_with fail
  have hB1 : Below w.heap.size w (w.alloc (Obj.cells #[.int .i64 6, .int .i64 wi, .int .i64 n, .int .i64 m, .string ⟨s.toArray⟩, .string ⟨t.toArray⟩, .string ⟨u.toArray⟩] 73)) := (Below.refl _ _).alloc (Nat.le_refl _) _
  have hs1 : (w.alloc (Obj.cells #[.int .i64 6, .int .i64 wi, .int .i64 n, .int .i64 m, .string ⟨s.toArray⟩, .string ⟨t.toArray⟩, .string ⟨u.toArray⟩] 73)).heap.size = w.heap.size + 1 := by simp
  have hop : ∀ j v, #[Value.int .i64 6, .int .i64 wi, .int .i64 n, .int .i64 m, .string ⟨s.toArray⟩, .string ⟨t.toArray⟩, .string ⟨u.toArray⟩][j]? = some v → (w.alloc (Obj.cells #[.int .i64 6, .int .i64 wi, .int .i64 n, .int .i64 m, .string ⟨s.toArray⟩, .string ⟨t.toArray⟩, .string ⟨u.toArray⟩] 73)).cell? ⟨w.heap.size, j, none⟩ = some v := fun j v hv => by rw [World.cell?_alloc_at _ _ _ _ rfl]; exact hv
  generalize (w.alloc (Obj.cells #[.int .i64 6, .int .i64 wi, .int .i64 n, .int .i64 m, .string ⟨s.toArray⟩, .string ⟨t.toArray⟩, .string ⟨u.toArray⟩] 73)) = W1 at *
  have o0 := hop 0 _ rfl
  have o1 := hop 1 _ rfl
  have o2 := hop 2 _ rfl
  have o3 := hop 3 _ rfl
  have o4 := hop 4 _ rfl
  have o5 := hop 5 _ rfl
  have o6 := hop 6 _ rfl
  have e0 := (hB1.cell (p := ⟨Wb, 0, none⟩) hWl).trans c0
  have e1 := (hB1.cell (p := ⟨g, i * 2, none⟩) hg).trans d1
  have e2 := (hB1.cell (p := ⟨g, i * 2 + 1, none⟩) hg).trans d2
  have HB1 := hide0 hB1
  have HLW1 := hide0 (HH.out.below hB1)
  have hlt1 : w.heap.size < W1.heap.size := by omega
  clear hop hB1 hs1 c0 d1 d2 HH
  go_region_held3 (fun w' => w'.cell? ⟨Wb, 0, none⟩ = some (.slice (some ⟨g, 0, none⟩) L.length ac) ∧ w'.cell? ⟨w.heap.size, 1, none⟩ = some (.int .i64 wi) ∧ w'.cell? ⟨g, i * 2, none⟩ = some (.pointer (some ⟨bx, 0, none⟩)) ∧ w'.cell? ⟨g, i * 2 + 1, none⟩ = some (.pointer (some ⟨by_, 0, none⟩))) (go_keep) (first
    | (go_at_call 79; refine (HPick.out _).mono ?_; rintro e w4 ⟨rfl, hw4⟩; subst hw4))
  all_goals
    go_wp2_with fail
    have hB2 : Below W1.heap.size W1 (W1.alloc (Obj.cells #[.pointer (some ⟨bx, 0, none⟩), .pointer (some ⟨by_, 0, none⟩)] 85)).drew := ((Below.refl _ _).alloc (Nat.le_refl _) _).drew
    refine (HCall.out _ (HLW1.out.below hB2)).mono ?_
    rintro e w5 ⟨rfl, hgo⟩
    have HGo := hide0 (HG.out _ _ (HB1.out.trans (hB2.mono (by omega))) hgo)
    clear hgo hB2
    go_wp2
    go_ret
    exact ⟨rfl, HGo.out⟩
end Go.Proofs.YtolgebdmffcemaaGreatDoor
namespace Go.Proofs.YtolgebdmffcemaaGreatDoor
open Go.RowKit
set_option maxHeartbeats 400000 in
theorem g_Note1 (tv : Value) (t : List R.Leaf) (path : List UInt8) (text : List UInt8) (w : World) (M : Nat → Prop) (p0 p1 : Nat) (hM : ∀ b, M b → b < w.heap.size) (h : PT w M tv t) (hok : OkT t) (hs : R.isPath path = true) (htl : text.length ≤ maxLen)
    (hc0 : w.cell? ⟨p0, 0, none⟩ = some (.string ⟨path.toArray⟩)) (hc1 : w.cell? ⟨p1, 0, none⟩ = some (.string ⟨text.toArray⟩)) :
    Calls Tryz.prog 73 #[tv, .pointer (some ⟨p0, 0, none⟩), .pointer (some ⟨p1, 0, none⟩)] w fun e w' => Left1 w w' M e t (R.noteV t (R.at_ t path) path text) := by
  have hin := g_note tv t path text w M hM h hok hs htl
  clear h hok
  go_enter Tryz.func73, Tryz.ntmps73
  go_wp2_with fail
  refine hin.mono ?_
  rintro e w1 ⟨va, vn, vc, rfl, hp, hb⟩
  go_wp2
  go_ret2
  exact ⟨va, vn, vc, rfl, hp, hb⟩
set_option maxHeartbeats 800000 in
set_option maxRecDepth 1000000 in
theorem g_change_Note (B : Nat) (st : R.St) (branch path : List UInt8) (text : List UInt8) (w : World) (M O : Nat → Prop) (p0 p1 : Nat) (h : PS w M O B st) (hM : ∀ b, M b → b < w.heap.size) (hi : Inv st) (hG : Glob w) (hpl : path.length ≤ maxLen) (htl : text.length ≤ maxLen)
    (hp0 : p0 < w.heap.size) (hp1 : p1 < w.heap.size) (hc0 : w.cell? ⟨p0, 0, none⟩ = some (.string ⟨path.toArray⟩)) (hc1 : w.cell? ⟨p1, 0, none⟩ = some (.string ⟨text.toArray⟩)) :
    Calls Tryz.prog 55 #[.pointer (some ⟨B, 0, none⟩), .string ⟨branch.toArray⟩, .string ⟨path.toArray⟩, .func (.func 73) #[] #[.pointer (some ⟨p0, 0, none⟩), .pointer (some ⟨p1, 0, none⟩)]] w fun e w' => e = .returned (.int .i64 (R.change st 61 branch path 0 text).1) ∧ PStep w w' M O B (R.change st 61 branch path 0 text).2 := by
  have hPS := h
  obtain ⟨bv, cv, LB, LCm, hP⟩ := h
  have hfd := g_find hP hi branch
  obtain ⟨mx, hmx⟩ := hG.mx
  have hip := fun W (hW : Below w.heap.size w W) => g_isPath path W hpl mx (by rw [hW.cell (p := ⟨0, 0, none⟩) (by have := hG.size; show 0 < _; omega)]; exact hmx)
  have HPS := hide3 hPS
  by_cases hf : R.fnd st.brs branch < st.brs.length
  · obtain ⟨hl, ha, he, _, hwk⟩ := brAddr_some hP branch hf
    have hnn : ¬ R.fndI st.brs branch < 0 := by rw [R.fndI, if_pos hf]; omega
    cases hpa : R.isPath path
    · have HR : Hid (R.change st 61 branch path 0 text = (2, st)) := by show _ = _; rw [R.change, if_neg hnn, if_pos hpa]
      rw [hpa] at hip
      rw [ha] at hfd
      generalize (LB[R.fnd st.brs branch]'hl).2.1 = bb at *
      clear hPS hi hP hf hnn hpa he ha hwk
      go_enter Tryz.func55, Tryz.ntmps55
      go_wp2_with fail
      refine hfd.mono ?_
      rintro e w1 ⟨rfl, hw1⟩
      subst hw1
      go_wp2_with fail
      refine (hip _ (Below.refl _ _)).mono ?_
      rintro e w2 ⟨rfl, hb2⟩
      go_wp2
      go_ret
      exact ⟨ret_int (by rw [HR.out]), by rw [HR.out]; exact PStep.same HPS.out hb2⟩
    · have hat := hP.at_ _ (List.getElem_mem hl)
      have hblk := hP.blk _ (List.getElem_mem hl)
      have hbl := hP.lt _ hblk.1
      rw [hpa] at hip
      rw [ha] at hfd
      have HSet : Hid (∀ (tv : Value) (t : List R.Leaf) (w5 : World), Below w.heap.size w w5 → PT w5 M tv t → PStep w (w5.setCell ⟨(LB[R.fnd st.brs branch]'hl).2.1, 2, none⟩ tv) M O B (R.setWork st (R.fnd st.brs branch) t)) := fun tv t w5 hb ht => setWork_PS hP hl hb ht
      have hokt := workOf_ok hi branch
      have hpt := hat.work
      rw [← hwk] at hpt
      have c2 := hat.c2
      have fr2 := hat.fr 2
      obtain ⟨ta, tc, htv⟩ := pt_form hpt
      rw [htv] at c2 hpt
      have HCh : Hid (R.change st 61 branch path 0 text = if (R.noteV (R.workOf st branch) (R.at_ (R.workOf st branch) path) path text).1 = 0 then (0, R.setWork st (R.fnd st.brs branch) (R.set (R.workOf st branch) (R.noteV (R.workOf st branch) (R.at_ (R.workOf st branch) path) path text).2)) else ((R.noteV (R.workOf st branch) (R.at_ (R.workOf st branch) path) path text).1, st)) := by
        show _ = _
        rw [R.change, if_neg hnn, if_neg (by rw [hpa]; simp)]; rfl
      have hadd := fun W (hW : Below w.heap.size w W) => g_Note1 (.slice ta (R.workOf st branch).length tc) (R.workOf st branch) path text W M p0 p1 (fun b hb => by have := hM b hb; have := hW.size; omega) (hpt.below hW) hokt hpa htl (by rw [hW.cell (p := ⟨p0, 0, none⟩) hp0]; exact hc0) (by rw [hW.cell (p := ⟨p1, 0, none⟩) hp1]; exact hc1)
      generalize (LB[R.fnd st.brs branch]'hl).2.1 = bb at *
      clear hPS hi hP hf hnn hpa he ha hwk hpt hat hokt htv hc0 hc1
      generalize R.workOf st branch = t at *
      generalize R.noteV t (R.at_ t path) path text = r at *
      have HS0 := HPS.out
      go_enter Tryz.func55, Tryz.ntmps55
      go_wp2_with fail
      refine hfd.mono ?_
      rintro e w1 ⟨rfl, hw1⟩
      subst hw1
      go_wp2_with fail
      refine (hip _ (Below.refl _ _)).mono ?_
      rintro e w2 ⟨rfl, hb2⟩
      have d2 := (hb2.cell (p := ⟨bb, 2, none⟩) hbl).trans c2
      go_wp2_with fail
      refine (hadd _ hb2).mono ?_
      rintro e w3 ⟨va, vn, vc, rfl, hp3, hb3⟩
      have hB3 := hb2.trans (hb3.mono hb2.size)
      by_cases hr : r.1 = 0
      · have b1 : (r.1 == 0) = true := by simpa using hr
        have b2 : (r.1 != 0) = false := by simp [hr]
        have d3 := (hB3.cell (p := ⟨bb, 2, none⟩) hbl).trans c2
        have f3 := (hB3.frozen (p := ⟨bb, 2, none⟩) hbl).trans fr2
        have HP3 := hide3 (hp3 hr)
        have HR := hide3 hr
        clear hr hp3 d2
        go_wp2
        go_ret
        rw [HCh.out, if_pos HR.out]
        exact ⟨rfl, HSet.out _ _ _ hB3 HP3.out⟩
      · have b1 : (r.1 == 0) = false := by simpa using hr
        have b2 : (r.1 != 0) = true := by simp [hr]
        have HR := hide3 hr
        clear hr hp3 d2
        go_wp2
        go_ret
        rw [HCh.out, if_neg HR.out]
        exact ⟨rfl, PStep.same HPS.out hB3⟩
  · have hnn : R.fndI st.brs branch < 0 := by rw [R.fndI, if_neg hf]; omega
    have HR : Hid (R.change st 61 branch path 0 text = (5, st)) := by show _ = _; rw [R.change, if_pos hnn]
    have ha : brAddr LB st branch = none := by rw [brAddr, if_neg hf]
    rw [ha] at hfd
    clear hPS hi hP hf hnn ha
    go_enter Tryz.func55, Tryz.ntmps55
    go_wp2_with fail
    refine hfd.mono ?_
    rintro e w1 ⟨rfl, hw1⟩
    subst hw1
    go_wp2
    go_ret
    exact ⟨ret_int (by rw [HR.out]), by rw [HR.out]; exact PStep.same HPS.out (Below.refl _ _)⟩
theorem PStep.afterNote {w w1 w2 : World} {M O : Nat → Prop} {B : Nat} {st : R.St} (hb : Below w.heap.size w w1) (h : PStep w1 w2 M O B st) : PStep w w2 M O B st := by
  obtain ⟨O', h1, h2, h3⟩ := h
  refine ⟨O', h1, (Kept.of_below hb).trans h2, fun b e => ?_⟩
  rcases h3 b e with e | e
  · exact .inl e
  · exact .inr (Nat.le_trans hb.size e)
set_option maxHeartbeats 400000 in
theorem g_Note (B : Nat) (st : R.St) (branch path : List UInt8) (text : List UInt8) (w : World) (M O : Nat → Prop) (h : PS w M O B st) (hM : ∀ b, M b → b < w.heap.size) (hi : Inv st) (hG : Glob w) (hpl : path.length ≤ maxLen) (htl : text.length ≤ maxLen) :
    Calls Tryz.prog 41 #[.pointer (some ⟨B, 0, none⟩), .string ⟨branch.toArray⟩, .string ⟨path.toArray⟩, .string ⟨text.toArray⟩] w fun e w' => e = .returned (.int .i64 (R.change st 61 branch path 0 text).1) ∧ PStep w w' M O B (R.change st 61 branch path 0 text).2 := by
  have hB : Below w.heap.size w ((w.alloc (Obj.cells #[.string ⟨path.toArray⟩] 9)).alloc (Obj.cells #[.string ⟨text.toArray⟩] 9)) := ((Below.refl _ _).alloc (Nat.le_refl _) _).alloc (by simp) _
  have hch := g_change_Note B st branch path text ((w.alloc (Obj.cells #[.string ⟨path.toArray⟩] 9)).alloc (Obj.cells #[.string ⟨text.toArray⟩] 9)) M O w.heap.size (w.heap.size + 1) (h.below hB) (fun b hb => by have := hM b hb; simp; omega) hi (hG.below hB) hpl htl (by simp <;> omega) (by simp <;> omega) (by simp) (by simp)
  clear h
  go_enter Tryz.func41, Tryz.ntmps41
  go_wp2_with fail
  refine hch.mono ?_
  rintro e w1 ⟨rfl, hst⟩
  go_wp2
  go_ret
  exact ⟨rfl, hst.afterNote hB⟩
end Go.Proofs.YtolgebdmffcemaaGreatDoor
