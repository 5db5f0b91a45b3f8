/-
  One step of the statement's (graftlaw.World.step), of the kind Show: as the document says.
  What the statement does with a list that came out (graftlaw.World.keepNames), in memory, step by step.
-/
import Derived.Test.YtolgebdmffcemaaGreatDoorPart31
import Derived.Test.YtolgebdmffcemaaGreatDoorPart23
import Derived.Deep.RegionHeld3
import Derived.Test.YtolgebdmffcemaaGreatDoorPart06
import Derived.Test.YtolgebdmffcemaaGreatDoorPart13
set_option linter.unusedVariables false
namespace Go.Proofs.YtolgebdmffcemaaGreatDoor
open Go.RowKit
theorem pick_ltShow (c : Int) (n : Nat) (h : 0 < n) : ∃ i : Nat, i < n ∧ pickI c n = (i : Int) := by
  have h1 : 0 ≤ pickI c n := by
    unfold pickI; split
    · exact Int.emod_nonneg _ (by omega)
    · exact Int.emod_nonneg _ (by omega)
  have h2 : pickI c n < n := by
    unfold pickI; split
    · exact Int.emod_lt_of_pos _ (by omega)
    · exact Int.emod_lt_of_pos _ (by omega)
  exact ⟨(pickI c n).toNat, by omega, by omega⟩
theorem cellsA_atShow : ∀ (ps : List (Nat × Nat)) (i : Nat) (h : i < ps.length), (cellsA ps)[i * 2]? = some (.pointer (some ⟨(ps[i]'h).1, 0, none⟩)) ∧ (cellsA ps)[i * 2 + 1]? = some (.pointer (some ⟨(ps[i]'h).2, 0, none⟩))
  | p :: r, 0, _ => by simp [cellsA]
  | p :: r, i + 1, h => by
    have ih := cellsA_atShow r i (by simpa using h)
    unfold cellsA at ih ⊢
    rw [List.flatMap_cons, show (i + 1) * 2 = i * 2 + 2 from by omega]
    simpa using ih
set_option maxHeartbeats 3200000 in
set_option maxRecDepth 1000000 in
theorem l_sShow {w : World} {h0 Wb : Nat} {O : Nat → Prop} {L : List SP} {names : List (Value × List UInt8)} {nums : List (Value × Int)} {last K : Nat} (h : LW w h0 Wb O L names nums last) (hA : Agree K L) (hK : K ≤ 100000000000) (hla : last ≤ 1000000) (hnm : names.length ≤ 100000000) (hL : 0 < L.length) (hL2 : L.length ≤ 1000) (wi n m : Int) (s t u : List UInt8)
    (hw1 : wi ≤ 9223372036854775807) (hw2 : -9223372036854775808 ≤ wi) (hn1 : n ≤ 9223372036854775807) (hn2 : -9223372036854775808 ≤ n) (hsl : s.length ≤ maxLen) (htl : t.length ≤ maxLen) (hul : u.length ≤ maxLen) :
    Calls Tryz.prog 43 #[.pointer (some ⟨Wb, 0, none⟩), .agg (opC 11 wi n m s t u)] w fun e w' => e = .returned (.bool true) ∧ Goes w w' h0 Wb L.length (names.length + 9) (last + 1) (K + 20) := by
  obtain ⟨i, hi, hpi⟩ := pick_ltShow wi L.length hL
  have HP := fun W => l_pick wi (L.length : Int) W (by omega) (by omega) hw2 hw1
  rw [hpi] at HP
  have HC := fun W (hW : LW W h0 Wb O L names nums last) => l_vShow hW hA i hi wi n m s t u
  have HG : Hid (∀ W w', Below w.heap.size w W → Goes W w' h0 Wb L.length names.length last K → Goes w w' h0 Wb L.length (names.length + 9) (last + 1) (K + 20)) := by
    rintro W w' hb ⟨O', L', names', nums', last', h1, h2, h3, h4, h5, h6⟩
    exact ⟨O', L', names', nums', last', h1, h2, fun j hj => ⟨(h3 j hj).1, by have := (h3 j hj).2; omega⟩, by omega, by omega, (hb.mono h.hs).trans h6⟩
  have HH := hide0 h
  obtain ⟨av, nv, tv, uv, kv, hl⟩ := h.lw
  have hWl := hl.lt Wb hl.own
  have c0 := hl.c0
  have hrow := hl.arow
  rw [List.length_map] at hrow
  obtain ⟨aa, ac, hav, ha1, ha2, ha3, ha4⟩ := owns_form hrow
  rw [hav] at c0
  cases aa with
  | none => have := (ha3 rfl).1; omega
  | some ad =>
  obtain ⟨g, rfl, _, hg, _, hcell⟩ := ha4 ad rfl
  have hca := cellsA_atShow (L.map fun p => (p.bx, p.by_)) i (by simpa using hi)
  have d1 := hcell _ _ hca.1
  have d2 := hcell _ _ hca.2
  simp only [List.getElem_map] at d1 d2
  unfold maxLen at ha2
  clear h hA hl hrow hav ha3 ha4 hcell hca hpi
  generalize L[i].bx = bx at *
  generalize L[i].by_ = by_ at *
  have HPick := hide0 HP
  have HCall := hide0 HC
  clear HP HC
  go_enter Tryz.func43, Tryz.ntmps43
  unfold opC
  go_wp2_with fail
  have hB1 : Below w.heap.size w (w.alloc (Obj.cells #[.int .i64 11, .int .i64 wi, .int .i64 n, .int .i64 m, .string ⟨s.toArray⟩, .string ⟨t.toArray⟩, .string ⟨u.toArray⟩] 73)) := (Below.refl _ _).alloc (Nat.le_refl _) _
  have hs1 : (w.alloc (Obj.cells #[.int .i64 11, .int .i64 wi, .int .i64 n, .int .i64 m, .string ⟨s.toArray⟩, .string ⟨t.toArray⟩, .string ⟨u.toArray⟩] 73)).heap.size = w.heap.size + 1 := by simp
  have hop : ∀ j v, #[Value.int .i64 11, .int .i64 wi, .int .i64 n, .int .i64 m, .string ⟨s.toArray⟩, .string ⟨t.toArray⟩, .string ⟨u.toArray⟩][j]? = some v → (w.alloc (Obj.cells #[.int .i64 11, .int .i64 wi, .int .i64 n, .int .i64 m, .string ⟨s.toArray⟩, .string ⟨t.toArray⟩, .string ⟨u.toArray⟩] 73)).cell? ⟨w.heap.size, j, none⟩ = some v := fun j v hv => by rw [World.cell?_alloc_at _ _ _ _ rfl]; exact hv
  generalize (w.alloc (Obj.cells #[.int .i64 11, .int .i64 wi, .int .i64 n, .int .i64 m, .string ⟨s.toArray⟩, .string ⟨t.toArray⟩, .string ⟨u.toArray⟩] 73)) = W1 at *
  have o0 := hop 0 _ rfl
  have o1 := hop 1 _ rfl
  have o2 := hop 2 _ rfl
  have o3 := hop 3 _ rfl
  have o4 := hop 4 _ rfl
  have o5 := hop 5 _ rfl
  have o6 := hop 6 _ rfl
  have e0 := (hB1.cell (p := ⟨Wb, 0, none⟩) hWl).trans c0
  have e1 := (hB1.cell (p := ⟨g, i * 2, none⟩) hg).trans d1
  have e2 := (hB1.cell (p := ⟨g, i * 2 + 1, none⟩) hg).trans d2
  have HB1 := hide0 hB1
  have HLW1 := hide0 (HH.out.below hB1)
  have hlt1 : w.heap.size < W1.heap.size := by omega
  clear hop hB1 hs1 c0 d1 d2 HH
  go_region_held3 (fun w' => w'.cell? ⟨Wb, 0, none⟩ = some (.slice (some ⟨g, 0, none⟩) L.length ac) ∧ w'.cell? ⟨w.heap.size, 1, none⟩ = some (.int .i64 wi) ∧ w'.cell? ⟨g, i * 2, none⟩ = some (.pointer (some ⟨bx, 0, none⟩)) ∧ w'.cell? ⟨g, i * 2 + 1, none⟩ = some (.pointer (some ⟨by_, 0, none⟩))) (go_keep) (first
    | (go_at_call 79; refine (HPick.out _).mono ?_; rintro e w4 ⟨rfl, hw4⟩; subst hw4))
  all_goals
    go_wp2_with fail
    have hB2 : Below W1.heap.size W1 (W1.alloc (Obj.cells #[.pointer (some ⟨bx, 0, none⟩), .pointer (some ⟨by_, 0, none⟩)] 85)).drew := ((Below.refl _ _).alloc (Nat.le_refl _) _).drew
    refine (HCall.out _ (HLW1.out.below hB2)).mono ?_
    rintro e w5 ⟨rfl, hgo⟩
    have HGo := hide0 (HG.out _ _ (HB1.out.trans (hB2.mono (by omega))) hgo)
    clear hgo hB2
    go_wp2
    go_ret
    exact ⟨rfl, HGo.out⟩
end Go.Proofs.YtolgebdmffcemaaGreatDoor
namespace Go.Proofs.YtolgebdmffcemaaGreatDoor
open Go.RowKit
/-- an append that made v' of v: in place, or into a new row -/
structure Ap (wr w' : World) (v v' : Value) : Prop where
  os : w'.os = wr.os
  tape : w'.tape = wr.tape
  output : w'.output = wr.output
  size : wr.heap.size ≤ w'.heap.size
  blk : ∀ k, k < wr.heap.size → v.ownBlock ≠ some k → w'.heap[k]? = wr.heap[k]?
  lies : ∀ g, v'.ownBlock = some g → v.ownBlock = some g ∨ wr.heap.size ≤ g
  moved : ∀ g, g < wr.heap.size → v'.ownBlock ≠ some g → w'.heap[g]? = wr.heap[g]?
theorem Ap.of {wr w' : World} {v v' : Value} {o : Obj} (h : (v'.ownBlock = v.ownBlock ∧ (wr.alloc o).grownBy w' v.ownBlock) ∨ (v'.ownBlock = some (wr.heap.size + 1) ∧ (wr.alloc o).grownBy w' none)) : Ap wr w' v v' := by
  rcases h with ⟨h1, h2⟩ | ⟨h1, h2⟩
  · have hb : ∀ k, k < wr.heap.size → v.ownBlock ≠ some k → w'.heap[k]? = wr.heap[k]? := fun k hk hne => by
      rw [h2.block k (by simp; omega) (fun e => hne e.symm)]; exact heap_alloc_old wr o hk
    exact ⟨h2.os, h2.tape, h2.output, by have := h2.size; simp at this; omega, hb, fun g e => .inl (by rw [← h1]; exact e), fun g hg hne => hb g hg (by rw [← h1]; exact hne)⟩
  · have hb : ∀ k, k < wr.heap.size → w'.heap[k]? = wr.heap[k]? := fun k hk => by
      rw [h2.block k (by simp; omega) (by simp)]; exact heap_alloc_old wr o hk
    exact ⟨h2.os, h2.tape, h2.output, by have := h2.size; simp at this; omega, fun k hk _ => hb k hk, fun g e => .inr (by rw [h1] at e; injection e with e; omega), fun g hg _ => hb g hg⟩
theorem ownsRow_blk {w w' : World} {base : Nat} {e : TypeId} {size : Nat} {v : Value} {n : Nat} {xs : List Value} (h : w.ownsRow base e size v n xs) (hb : ∀ g, v.ownBlock = some g → w'.heap[g]? = w.heap[g]?) : w'.ownsRow base e size v n xs := by
  obtain ⟨h1, h2⟩ := h
  refine ⟨h1, ?_⟩
  rcases h2 with h2 | ⟨g, cap, cur, rfl, hg, hh, r⟩
  · exact .inl h2
  · exact .inr ⟨g, cap, cur, rfl, hg, by rw [hb g rfl]; exact hh, r⟩
/-- a list that came out: all its elements are the mark -/
def VL (wr : World) (H0 : Nat) (nv tv lv : Value) (n : Nat) (m : List UInt8) (v : Value) : Prop :=
  ∃ a k c, v = .slice a k c ∧ k ≤ c ∧ c ≤ maxLen ∧ (0 < k → ∃ g, a = some ⟨g, 0, none⟩ ∧ H0 ≤ g ∧ g < wr.heap.size ∧ nv.ownBlock ≠ some g ∧ tv.ownBlock ≠ some g ∧ (∀ j, j < k → wr.cell? ⟨g, j, none⟩ = some (S m)) ∧ (lv.ownBlock = some g → k ≤ n))
structure KI (w0 wr : World) (Wb : Nat) (nv0 tv0 : Value) (nvals tvals : List Value) (m : List UInt8) (last : Nat) (nv tv : Value) (vals : List Value) (t : Nat) (lv : Value) (n : Nat) : Prop where
  kept : Kept (fun b => nv0.ownBlock = some b ∨ tv0.ownBlock = some b ∨ b = Wb) w0 wr
  cs : ∀ o, o ≠ 1 → o ≠ 2 → o ≠ 5 → wr.cell? ⟨Wb, o, none⟩ = w0.cell? ⟨Wb, o, none⟩
  c1 : wr.cell? ⟨Wb, 1, none⟩ = some nv
  c2 : wr.cell? ⟨Wb, 2, none⟩ = some tv
  c5 : wr.cell? ⟨Wb, 5, none⟩ = some (.int .i64 (last : Int))
  fr : ∀ o, wr.frozen? ⟨Wb, o, none⟩ = false
  nrow : wr.ownsRow 0 45 1 nv (nvals.length + vals.length) (nvals ++ vals)
  trow : wr.ownsRow 0 9 1 tv (tvals.length + t) (tvals ++ List.replicate t (S m))
  lrow : wr.ownsRow w0.heap.size 9 1 lv n (List.replicate n (S m))
  nl : ∀ g, nv.ownBlock = some g → nv0.ownBlock = some g ∨ w0.heap.size ≤ g
  tl : ∀ g, tv.ownBlock = some g → tv0.ownBlock = some g ∨ w0.heap.size ≤ g
  nt : ∀ g, nv.ownBlock = some g → tv.ownBlock ≠ some g
  ln : ∀ g, lv.ownBlock = some g → nv.ownBlock ≠ some g ∧ tv.ownBlock ≠ some g
  vl : ∀ v ∈ vals, VL wr w0.heap.size nv tv lv n m v
  wb : Wb < w0.heap.size
  nW : nv0.ownBlock ≠ some Wb
  tW : tv0.ownBlock ≠ some Wb
section
variable {w0 wr w1 : World} {Wb : Nat} {nv0 tv0 : Value} {nvals tvals : List Value} {m : List UInt8} {last : Nat} {nv tv : Value} {vals : List Value} {t : Nat} {lv : Value} {n : Nat}
theorem KI.nW' (h : KI w0 wr Wb nv0 tv0 nvals tvals m last nv tv vals t lv n) : nv.ownBlock ≠ some Wb := fun e => by
  rcases h.nl _ e with e | e
  · exact h.nW e
  · have := h.wb; omega
theorem KI.tW' (h : KI w0 wr Wb nv0 tv0 nvals tvals m last nv tv vals t lv n) : tv.ownBlock ≠ some Wb := fun e => by
  rcases h.tl _ e with e | e
  · exact h.tW e
  · have := h.wb; omega
theorem KI.more (h : KI w0 wr Wb nv0 tv0 nvals tvals m last nv tv vals t lv n) {lv' : Value} (ha : Ap wr w1 lv lv') (hl : w1.ownsRow w0.heap.size 9 1 lv' (n + 1) (List.replicate (n + 1) (S m))) : KI w0 w1 Wb nv0 tv0 nvals tvals m last nv tv vals t lv' (n + 1) := by
  have hsz := h.kept.size
  have hlo : ∀ g, lv.ownBlock = some g → w0.heap.size ≤ g ∧ g < wr.heap.size := h.lrow.lt
  have hW : w1.heap[Wb]? = wr.heap[Wb]? := ha.blk Wb (by have := h.wb; omega) (fun e => by have := (hlo _ e).1; have := h.wb; omega)
  have cl : ∀ o, w1.cell? ⟨Wb, o, none⟩ = wr.cell? ⟨Wb, o, none⟩ := fun o => World.cell?_of_block (a := ⟨Wb, o, none⟩) hW
  refine ⟨⟨ha.os.trans h.kept.os, ha.tape.trans h.kept.tape, ha.output.trans h.kept.output, Nat.le_trans hsz ha.size, fun k hk hn => ?_⟩, fun o h1 h2 h5 => by rw [cl]; exact h.cs o h1 h2 h5, by rw [cl]; exact h.c1, by rw [cl]; exact h.c2, by rw [cl]; exact h.c5, fun o => by rw [World.frozen?_of_block (a := ⟨Wb, o, none⟩) hW]; exact h.fr o,
    ownsRow_blk h.nrow (fun g e => ha.blk g (h.nrow.lt g e).2 (fun e2 => (h.ln g e2).1 e)), ownsRow_blk h.trow (fun g e => ha.blk g (h.trow.lt g e).2 (fun e2 => (h.ln g e2).2 e)), hl, h.nl, h.tl, h.nt, fun g e => ?_, fun v hv => ?_, h.wb, h.nW, h.tW⟩
  · rw [ha.blk k (by omega) (fun e => by have := (hlo _ e).1; omega)]; exact h.kept.block k hk hn
  · rcases ha.lies g e with e | e
    · exact h.ln g e
    · exact ⟨fun e2 => by have := (h.nrow.lt g e2).2; omega, fun e2 => by have := (h.trow.lt g e2).2; omega⟩
  · obtain ⟨a, k, c, rfl, h1, h2, h3⟩ := h.vl v hv
    refine ⟨a, k, c, rfl, h1, h2, fun hk => ?_⟩
    obtain ⟨g, rfl, hg0, hg1, hg2, hg3, hc, hle⟩ := h3 hk
    refine ⟨g, rfl, hg0, Nat.lt_of_lt_of_le hg1 ha.size, hg2, hg3, fun j hj => ?_, fun e => ?_⟩
    · by_cases e : lv'.ownBlock = some g
      · have hkn : k ≤ n := by
          rcases ha.lies g e with e | e
          · exact hle e
          · omega
        have := hl.cells e j (S m) (by rw [List.getElem?_replicate, if_pos (by omega)])
        rwa [addr_lit, Nat.zero_add] at this
      · rw [World.cell?_of_block (a := ⟨g, j, none⟩) (ha.moved g hg1 e)]; exact hc j hj
    · rcases ha.lies g e with e | e
      · have := hle e; omega
      · omega
theorem KI.name (h : KI w0 wr Wb nv0 tv0 nvals tvals m last nv tv vals t lv n) {nv' : Value} (ha : Ap wr w1 nv nv') (hn : w1.ownsRow 0 45 1 nv' (nvals.length + vals.length + 1) (nvals ++ vals ++ [lv])) : KI w0 (w1.setCell ⟨Wb, 1, none⟩ nv') Wb nv0 tv0 nvals tvals m last nv' tv (vals ++ [lv]) t lv n := by
  have hsz := h.kept.size
  have hwb := h.wb
  have hW : w1.heap[Wb]? = wr.heap[Wb]? := ha.blk Wb (by omega) h.nW'
  have cl : ∀ o, o ≠ 1 → (w1.setCell ⟨Wb, 1, none⟩ nv').cell? ⟨Wb, o, none⟩ = wr.cell? ⟨Wb, o, none⟩ := fun o ho => by
    rw [sc_other _ _ _ _ _ ho]; exact World.cell?_of_block (a := ⟨Wb, o, none⟩) hW
  have hbk : ∀ g, g ≠ Wb → (w1.setCell ⟨Wb, 1, none⟩ nv').heap[g]? = w1.heap[g]? := fun g hg => Below.heap_setCell _ _ _ _ hg
  have hss : (w1.setCell ⟨Wb, 1, none⟩ nv').heap.size = w1.heap.size := by simp [World.setCell]
  have hlo : ∀ g, lv.ownBlock = some g → w0.heap.size ≤ g ∧ g < wr.heap.size := h.lrow.lt
  have hnl' : ∀ g, nv'.ownBlock = some g → nv0.ownBlock = some g ∨ w0.heap.size ≤ g := fun g e => by
    rcases ha.lies g e with e | e
    · exact h.nl g e
    · exact .inr (by omega)
  have hnt' : ∀ g, nv'.ownBlock = some g → tv.ownBlock ≠ some g := fun g e => by
    rcases ha.lies g e with e | e
    · exact h.nt g e
    · exact fun e2 => by have := (h.trow.lt g e2).2; omega
  have hln' : ∀ g, lv.ownBlock = some g → nv'.ownBlock ≠ some g := fun g e e2 => by
    rcases ha.lies g e2 with e3 | e3
    · exact (h.ln g e).1 e3
    · have := (hlo g e).2; omega
  have hnW' : nv'.ownBlock ≠ some Wb := fun e => by
    rcases hnl' _ e with e | e
    · exact h.nW e
    · omega
  have hlrow : (w1.setCell ⟨Wb, 1, none⟩ nv').ownsRow w0.heap.size 9 1 lv n (List.replicate n (S m)) := ownsRow_blk h.lrow (fun g e => by rw [hbk g (by have := (hlo g e).1; omega)]; exact ha.blk g (hlo g e).2 (h.ln g e).1)
  refine ⟨⟨ha.os.trans h.kept.os, ha.tape.trans h.kept.tape, ha.output.trans h.kept.output, by rw [hss]; exact Nat.le_trans hsz ha.size, fun k hk hnk => ?_⟩, fun o h1 h2 h5 => by rw [cl o h1]; exact h.cs o h1 h2 h5, ?_, by rw [cl 2 (by omega)]; exact h.c2, by rw [cl 5 (by omega)]; exact h.c5, fun o => ?_,
    ?_, ownsRow_blk h.trow (fun g e => by rw [hbk g (fun e2 => h.tW' (by rw [e, e2]))]; exact ha.blk g (h.trow.lt g e).2 (fun e2 => h.nt g e2 e)), hlrow, hnl', h.tl, hnt', fun g e => ⟨hln' g e, (h.ln g e).2⟩, fun v hv => ?_, h.wb, h.nW, h.tW⟩
  · rw [hbk k (fun e => hnk (.inr (.inr e))), ha.blk k (by omega) (fun e => by
      rcases h.nl k e with e | e
      · exact hnk (.inl e)
      · omega)]
    exact h.kept.block k hk hnk
  · exact sc_same _ _ _ _ nv (by rw [World.cell?_of_block (a := ⟨Wb, 1, none⟩) hW]; exact h.c1)
  · rw [World.frozen?_setCell, World.frozen?_of_block (a := ⟨Wb, o, none⟩) hW]; exact h.fr o
  · have e1 : nvals.length + (vals ++ [lv]).length = nvals.length + vals.length + 1 := by simp; omega
    have e2 : nvals ++ (vals ++ [lv]) = nvals ++ vals ++ [lv] := by simp
    rw [e1, e2]
    exact ownsRow_blk hn (fun g e => hbk g (fun e2 => hnW' (by rw [e, e2])))
  · rcases List.mem_append.1 hv with hv | hv
    · obtain ⟨a, k, c, rfl, h1, h2, h3⟩ := h.vl v hv
      refine ⟨a, k, c, rfl, h1, h2, fun hk => ?_⟩
      obtain ⟨g, rfl, hg0, hg1, hg2, hg3, hc, hle⟩ := h3 hk
      refine ⟨g, rfl, hg0, by rw [hss]; exact Nat.lt_of_lt_of_le hg1 ha.size, fun e => ?_, hg3, fun j hj => ?_, hle⟩
      · rcases ha.lies g e with e | e
        · exact hg2 e
        · omega
      · rw [World.cell?_of_block (a := ⟨g, j, none⟩) ((hbk g (by omega)).trans (ha.blk g hg1 hg2))]; exact hc j hj
    · rw [List.mem_singleton] at hv
      subst hv
      obtain ⟨a, c, hv, h1, h2, h3, h4⟩ := owns_form hlrow
      refine ⟨a, n, c, hv, h1, h2, fun hk => ?_⟩
      cases a with
      | none => have := (h3 rfl).1; omega
      | some ad =>
        obtain ⟨g, rfl, hg0, hg1, _, hc⟩ := h4 ad rfl
        have hown : v.ownBlock = some g := by rw [hv]; rfl
        exact ⟨g, rfl, hg0, hg1, hln' g hown, (h.ln g hown).2, fun j hj => hc j (S m) (by simp [hj]), fun _ => Nat.le_refl _⟩
theorem KI.mark (h : KI w0 wr Wb nv0 tv0 nvals tvals m last nv tv vals t lv n) {tv' : Value} (ha : Ap wr w1 tv tv') (hn : w1.ownsRow 0 9 1 tv' (tvals.length + t + 1) (tvals ++ List.replicate t (S m) ++ [S m])) : KI w0 (w1.setCell ⟨Wb, 2, none⟩ tv') Wb nv0 tv0 nvals tvals m last nv tv' vals (t + 1) lv n := by
  have hsz := h.kept.size
  have hwb := h.wb
  have hW : w1.heap[Wb]? = wr.heap[Wb]? := ha.blk Wb (by omega) h.tW'
  have cl : ∀ o, o ≠ 2 → (w1.setCell ⟨Wb, 2, none⟩ tv').cell? ⟨Wb, o, none⟩ = wr.cell? ⟨Wb, o, none⟩ := fun o ho => by
    rw [sc_other _ _ _ _ _ ho]; exact World.cell?_of_block (a := ⟨Wb, o, none⟩) hW
  have hbk : ∀ g, g ≠ Wb → (w1.setCell ⟨Wb, 2, none⟩ tv').heap[g]? = w1.heap[g]? := fun g hg => Below.heap_setCell _ _ _ _ hg
  have hss : (w1.setCell ⟨Wb, 2, none⟩ tv').heap.size = w1.heap.size := by simp [World.setCell]
  have hlo : ∀ g, lv.ownBlock = some g → w0.heap.size ≤ g ∧ g < wr.heap.size := h.lrow.lt
  have htl' : ∀ g, tv'.ownBlock = some g → tv0.ownBlock = some g ∨ w0.heap.size ≤ g := fun g e => by
    rcases ha.lies g e with e | e
    · exact h.tl g e
    · exact .inr (by omega)
  have htW' : tv'.ownBlock ≠ some Wb := fun e => by
    rcases htl' _ e with e | e
    · exact h.tW e
    · omega
  refine ⟨⟨ha.os.trans h.kept.os, ha.tape.trans h.kept.tape, ha.output.trans h.kept.output, by rw [hss]; exact Nat.le_trans hsz ha.size, fun k hk hnk => ?_⟩, fun o h1 h2 h5 => by rw [cl o h2]; exact h.cs o h1 h2 h5, by rw [cl 1 (by omega)]; exact h.c1, ?_, by rw [cl 5 (by omega)]; exact h.c5, fun o => ?_,
    ownsRow_blk h.nrow (fun g e => by rw [hbk g (fun e2 => h.nW' (by rw [e, e2]))]; exact ha.blk g (h.nrow.lt g e).2 (h.nt g e)), ?_, ownsRow_blk h.lrow (fun g e => by rw [hbk g (by have := (hlo g e).1; omega)]; exact ha.blk g (hlo g e).2 (h.ln g e).2), h.nl, htl', fun g e e2 => ?_, fun g e => ⟨(h.ln g e).1, fun e2 => ?_⟩, fun v hv => ?_, h.wb, h.nW, h.tW⟩
  · rw [hbk k (fun e => hnk (.inr (.inr e))), ha.blk k (by omega) (fun e => by
      rcases h.tl k e with e | e
      · exact hnk (.inr (.inl e))
      · omega)]
    exact h.kept.block k hk hnk
  · exact sc_same _ _ _ _ tv (by rw [World.cell?_of_block (a := ⟨Wb, 2, none⟩) hW]; exact h.c2)
  · rw [World.frozen?_setCell, World.frozen?_of_block (a := ⟨Wb, o, none⟩) hW]; exact h.fr o
  · have e1 : tvals.length + (t + 1) = tvals.length + t + 1 := by omega
    have e2 : tvals ++ List.replicate (t + 1) (S m) = tvals ++ List.replicate t (S m) ++ [S m] := by rw [List.replicate_succ', List.append_assoc]
    rw [e1, e2]
    exact ownsRow_blk hn (fun g e => hbk g (fun e2 => htW' (by rw [e, e2])))
  · rcases ha.lies g e2 with e3 | e3
    · exact h.nt g e e3
    · have := (h.nrow.lt g e).2; omega
  · rcases ha.lies g e2 with e3 | e3
    · exact (h.ln g e).2 e3
    · have := (hlo g e).2; omega
  · obtain ⟨a, k, c, rfl, h1, h2, h3⟩ := h.vl v hv
    refine ⟨a, k, c, rfl, h1, h2, fun hk => ?_⟩
    obtain ⟨g, rfl, hg0, hg1, hg2, hg3, hc, hle⟩ := h3 hk
    refine ⟨g, rfl, hg0, by rw [hss]; exact Nat.lt_of_lt_of_le hg1 ha.size, hg2, fun e => ?_, fun j hj => ?_, hle⟩
    · rcases ha.lies g e with e | e
      · exact hg3 e
      · omega
    · rw [World.cell?_of_block (a := ⟨g, j, none⟩) ((hbk g (by omega)).trans (ha.blk g hg1 hg3))]; exact hc j hj
end
/-- at the end: the statement's memory, with the lists that came out -/
theorem KI.fin {w0 wr : World} {M O : Nat → Prop} {Wb : Nat} {av : Value} {ps : List (Nat × Nat)} {nv0 tv0 uv kv : Value} {names : List (Value × List UInt8)} {nums : List (Value × Int)} {last0 last : Nat} {m : List UInt8} {nv tv : Value} {vals : List Value} {lv : Value} {n : Nat}
    (hl : LWx w0 M O Wb av ps nv0 tv0 uv kv names nums last0) (hM : ∀ b, M b → b < w0.heap.size) (h : KI w0 wr Wb nv0 tv0 (names.map (·.1)) (names.map fun p => S p.2) m last nv tv vals vals.length lv n) :
    LWx wr (fun b => M b ∨ (O b ∨ nv.ownBlock = some b ∨ tv.ownBlock = some b)) (fun b => O b ∨ nv.ownBlock = some b ∨ tv.ownBlock = some b) Wb av ps nv tv uv kv (names ++ vals.map fun v => (v, m)) nums last ∧ Kept O w0 wr ∧ (∀ b, (O b ∨ nv.ownBlock = some b ∨ tv.ownBlock = some b) → O b ∨ w0.heap.size ≤ b) := by
  have hZO : ∀ b, (nv0.ownBlock = some b ∨ tv0.ownBlock = some b ∨ b = Wb) → O b := by
    rintro b (e | e | rfl)
    · exact (hl.nO b e).1
    · exact (hl.tO b e).1
    · exact hl.own
  have hZM : ∀ b, (nv0.ownBlock = some b ∨ tv0.ownBlock = some b ∨ b = Wb) → M b := fun b e => hl.sub b (hZO b e)
  have hsz := h.kept.size
  have hOl : ∀ b, (O b ∨ nv.ownBlock = some b ∨ tv.ownBlock = some b) → O b ∨ w0.heap.size ≤ b := by
    rintro b (e | e | e)
    · exact .inl e
    · rcases h.nl b e with e | e
      · exact .inl (hl.nO b e).1
      · exact .inr e
    · rcases h.tl b e with e | e
      · exact .inl (hl.tO b e).1
      · exact .inr e
  have hMM : ∀ b, (M b ∨ (O b ∨ nv.ownBlock = some b ∨ tv.ownBlock = some b)) → M b ∨ w0.heap.size ≤ b := fun b e => by
    rcases e with e | e
    · exact .inl e
    · rcases hOl b e with e | e
      · exact .inl (hl.sub b e)
      · exact .inr e
  have keep : ∀ {e : TypeId} {size : Nat} {v : Value} {k : Nat} {xs : List Value}, w0.ownsRow 0 e size v k xs → (∀ g, v.ownBlock = some g → g ≠ Wb ∧ nv0.ownBlock ≠ some g ∧ tv0.ownBlock ≠ some g) → wr.ownsRow 0 e size v k xs := fun ho hg => ownsRow_kept ho h.kept (fun g e e2 => by
    rcases e2 with e2 | e2 | e2
    · exact (hg g e).2.1 e2
    · exact (hg g e).2.2 e2
    · exact (hg g e).1 e2)
  have far : ∀ g, O g → nv0.ownBlock ≠ some g → nv.ownBlock ≠ some g := fun g h1 h2 e => by
    rcases h.nl g e with e | e
    · exact h2 e
    · have := hl.lt g h1; omega
  have fart : ∀ g, O g → tv0.ownBlock ≠ some g → tv.ownBlock ≠ some g := fun g h1 h2 e => by
    rcases h.tl g e with e | e
    · exact h2 e
    · have := hl.lt g h1; omega
  have n1 : (names ++ vals.map fun v => (v, m)).length = (names.map (·.1)).length + vals.length := by simp
  have n2 : (names ++ vals.map fun v => (v, m)).map (·.1) = names.map (·.1) ++ vals := by simp [List.map_map, Function.comp_def]
  have n3 : (names ++ vals.map fun v => (v, m)).length = (names.map fun p => S p.2).length + vals.length := by simp
  have n4 : (names ++ vals.map fun v => (v, m)).map (fun p => S p.2) = (names.map fun p => S p.2) ++ List.replicate vals.length (S m) := by
    rw [List.map_append, List.map_map]; congr 1
    exact List.eq_replicate_iff.2 ⟨by simp, by intro b hb; obtain ⟨v, _, rfl⟩ := List.mem_map.1 hb; rfl⟩
  refine ⟨⟨fun b e => .inr e, fun b e => ?_, .inl hl.own, by rw [h.cs 0 (by omega) (by omega) (by omega)]; exact hl.c0, h.c1, h.c2, by rw [h.cs 3 (by omega) (by omega) (by omega)]; exact hl.c3, by rw [h.cs 4 (by omega) (by omega) (by omega)]; exact hl.c4, h.c5, h.fr,
    keep hl.arow (fun g e => ⟨(hl.aO g e).2.1, (hl.aO g e).2.2.1, (hl.aO g e).2.2.2.1⟩), ?_, ?_, keep hl.urow (fun g e => ⟨(hl.uO g e).2.1, (hl.uO g e).2.2.1, (hl.uO g e).2.2.2⟩), keep hl.krow (fun g e => ⟨(hl.kO g e).2.1, (hl.kO g e).2.2.1, (hl.kO g e).2.2.2.1⟩),
    fun g e => ⟨.inr (.inl e), fun e2 => h.nW' (by rw [e, e2])⟩, fun g e => ⟨.inr (.inr e), fun e2 => h.tW' (by rw [e, e2]), fun e2 => h.nt g e2 e⟩,
    fun g e => ⟨.inl (hl.uO g e).1, (hl.uO g e).2.1, far g (hl.uO g e).1 (hl.uO g e).2.2.1, fart g (hl.uO g e).1 (hl.uO g e).2.2.2⟩,
    fun g e => ⟨.inl (hl.kO g e).1, (hl.kO g e).2.1, far g (hl.kO g e).1 (hl.kO g e).2.2.1, fart g (hl.kO g e).1 (hl.kO g e).2.2.2.1, (hl.kO g e).2.2.2.2⟩,
    fun g e => ⟨.inl (hl.aO g e).1, (hl.aO g e).2.1, far g (hl.aO g e).1 (hl.aO g e).2.2.1, fart g (hl.aO g e).1 (hl.aO g e).2.2.2.1, (hl.aO g e).2.2.2.2.1, (hl.aO g e).2.2.2.2.2⟩, fun p hp => ?_, fun p hp => ?_⟩, h.kept.mono hZO, hOl⟩
  · rcases e with e | e | e
    · have := hl.lt b e; omega
    · exact (h.nrow.lt b e).2
    · exact (h.trow.lt b e).2
  · rw [n1, n2]; exact h.nrow
  · rw [n3, n4]; exact h.trow
  · rcases List.mem_append.1 hp with hp | hp
    · obtain ⟨k, hr⟩ := hl.nl p hp; exact ⟨k, hr.step h.kept hZM hMM⟩
    · obtain ⟨v, hv, rfl⟩ := List.mem_map.1 hp
      obtain ⟨a, k, c, rfl, h1, h2, h3⟩ := h.vl v hv
      refine ⟨k, a, c, rfl, h1, h2, fun hk => ?_⟩
      obtain ⟨g, rfl, hg0, hg1, hg2, hg3, hc, _⟩ := h3 hk
      refine ⟨g, 0, rfl, hg1, fun e => ?_, fun j u hu => ?_⟩
      · rcases e with e | e | e | e
        · have := hM g e; omega
        · have := hl.lt g e; omega
        · exact hg2 e
        · exact hg3 e
      · rw [List.getElem?_replicate] at hu
        split at hu
        · rename_i hj
          injection hu with hu; subst hu
          rw [Nat.zero_add]; exact hc j hj
        · cases hu
  · obtain ⟨k, hr⟩ := hl.ul p hp; exact ⟨k, hr.step h.kept hZM hMM⟩
end Go.Proofs.YtolgebdmffcemaaGreatDoor
