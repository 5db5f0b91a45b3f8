/-
  One step of the statement's (graftlaw.World.step), of the kind New: a pair of stores more.
  One step of the statement's (graftlaw.World.step), of any kind from New to Show: as the document says.
  The statement's own function plays (graftlaw.plays) at the kinds up to Show: true, for every script that is not too long.
  The statement's function Values (graftlaw.Values): true, for every script that is not too long.
  From what the row of a law over a script hands over (any slice of steps, of bulk at most 1048576; the tables laid) to what the walk asks: the script as a list of steps, no longer than 131072, and the two package variables that are read.
-/
import Derived.Test.YtolgebdmffcemaaGreatDoorPart23
import Derived.Test.YtolgebdmffcemaaGreatDoorPart11
import Derived.Test.YtolgebdmffcemaaGreatDoorPart31
import Derived.Test.YtolgebdmffcemaaGreatDoorPart24
import Derived.Test.YtolgebdmffcemaaGreatDoorPart27
import Derived.Test.YtolgebdmffcemaaGreatDoorPart29
import Derived.Test.YtolgebdmffcemaaGreatDoorPart30
import Derived.Test.YtolgebdmffcemaaGreatDoorPart32
import Derived.Test.YtolgebdmffcemaaGreatDoorPart33
import Derived.Deep.RegionHeld3
import Derived.Test.YtolgebdmffcemaaGreatDoorRows
import Derived.ProofKit
import Derived.OpenShut
import Derived.Deep.Slices
import Derived.WideKeyArgs
import Derived.Lib.LaidTab
import Derived.Stop.LaidErr
import Derived.Shelf.Strings.SplitShaped
set_option linter.unusedVariables false
namespace Go.Proofs.YtolgebdmffcemaaGreatDoor
open Go.RowKit
theorem zeroStore : Tryz.zeroCells82[0]? = some (.slice none 0 0) ∧ Tryz.zeroCells82[1]? = some (.slice none 0 0) ∧ Tryz.zeroCells82[2]? = some (.string ⟨#[]⟩) := ⟨by kernel_rfl, by kernel_rfl, by kernel_rfl⟩
set_option maxHeartbeats 1600000 in
set_option maxRecDepth 1000000 in
theorem l_sNew {w : World} {h0 Wb : Nat} {O : Nat → Prop} {L : List SP} {names : List (Value × List UInt8)} {nums : List (Value × Int)} {last K : Nat} (h : LW w h0 Wb O L names nums last) (hA : Agree K L) (hL2 : L.length ≤ 1000) (wi n m : Int) (s t u : List UInt8) :
    Calls Tryz.prog 43 #[.pointer (some ⟨Wb, 0, none⟩), .agg (opC 1 wi n m s t u)] w fun e w' => e = .returned (.bool true) ∧ Goes w w' h0 Wb (L.length + 1) names.length last K := by
  have HAdd := hide0 (fun W bx by_ (hb : Below w.heap.size w W) (h1 : w.heap.size ≤ bx) (h2 : w.heap.size ≤ by_) (h3 : bx ≠ by_) hx hy => l_add h hb (bx := bx) (by_ := by_) h1 h2 h3 hx zeroStore hy hL2)
  have HA := hide0 hA
  clear h hA
  unfold opC
  go_enter Tryz.func43, Tryz.ntmps43
  go_wp2_with fail
  refine (g_New _).mono ?_
  rintro e w2 ⟨rfl, hw2⟩
  have hB2 : Below w.heap.size w w2 := by rw [hw2]; exact ((Below.refl _ _).alloc (Nat.le_refl _) _).alloc (by simp) _
  have hs2 : w2.heap.size = w.heap.size + 2 := by rw [hw2]; simp
  have hx2 : w2.heap[w.heap.size + 1]? = some (.cells #[.slice none 0 0, .slice none 0 0, .slice none 0 0] 102 (0, 0)) := by
    rw [hw2]
    have := heap_alloc_new (w.alloc (Obj.cells #[.int .i64 1, .int .i64 wi, .int .i64 n, .int .i64 m, .string ⟨s.toArray⟩, .string ⟨t.toArray⟩, .string ⟨u.toArray⟩] 73)) (Obj.cells #[.slice none 0 0, .slice none 0 0, .slice none 0 0] 102)
    simpa using this
  have HX2 := hide0 hx2
  have HB2 := hide0 hB2
  have HS2 := hide0 hs2
  clear hw2 hx2 hB2 hs2
  go_wp2_with fail
  refine (HAdd.out (w2.alloc (Obj.cells Tryz.zeroCells82 82)) (w.heap.size + 1) w2.heap.size (HB2.out.alloc (by have := HS2.out; omega) _) (by omega) (by have := HS2.out; omega) (by have := HS2.out; omega) (by rw [heap_alloc_old w2 _ (by have := HS2.out; omega)]; exact HX2.out) (heap_alloc_new w2 _)).mono ?_
  rintro e w3 ⟨rfl, O', hl3, hb3⟩
  have HG : Hid (Goes w w3 h0 Wb (L.length + 1) names.length last K) := by
    refine ⟨O', _, names, nums, last, hl3, by simp, fun j hj => ?_, Nat.le_refl _, Nat.le_refl _, hb3⟩
    rw [List.length_append, List.length_singleton] at hj
    by_cases e : j < L.length
    · rw [List.getElem_append_left e]; exact HA.out j e
    · rw [List.getElem_append_right (by omega)]; simp [noSt]
  clear hl3 hb3
  go_wp2
  go_ret
  exact ⟨rfl, HG.out⟩
end Go.Proofs.YtolgebdmffcemaaGreatDoor
namespace Go.Proofs.YtolgebdmffcemaaGreatDoor
open Go.RowKit
/-- all memory of the statement behind c steps -/
def Fine (w0 wr : World) (h0 Wb c : Nat) (len : Nat) : Prop := ∃ O L names nums last, LW wr h0 Wb O L names nums last ∧ L.length = len ∧ Agree (20 * c) L ∧ names.length ≤ 9 * c ∧ last ≤ c ∧ Below h0 w0 wr
theorem Goes.fine {w0 w w' : World} {h0 Wb len nm la K c : Nat} (h : Goes w w' h0 Wb len nm la K) (hb : Below h0 w0 w) (h1 : nm ≤ 9 * (c + 1)) (h2 : la ≤ c + 1) (h3 : K ≤ 20 * (c + 1)) : Fine w0 w' h0 Wb (c + 1) len := by
  obtain ⟨O, L, names, nums, last, a1, a2, a3, a4, a5, a6⟩ := h
  exact ⟨O, L, names, nums, last, a1, a2, fun j hj => ⟨(a3 j hj).1, by have := (a3 j hj).2; omega⟩, by omega, by omega, hb.trans a6⟩
/-- a step's own bounds -/
structure OpOk (k wi n : Int) (s t u : List UInt8) : Prop where
  w1 : wi ≤ 9223372036854775807
  w2 : -9223372036854775808 ≤ wi
  n1 : n ≤ 9223372036854775807
  n2 : -9223372036854775808 ≤ n
  s : s.length ≤ maxLen
  t : t.length ≤ maxLen
  u : u.length ≤ maxLen
theorem l_step {w0 w : World} {h0 Wb c len : Nat} (h : Fine w0 w h0 Wb c len) (hc : c ≤ 900000) (hL2 : len ≤ 900) (k wi n m : Int) (s t u : List UInt8) (hk1 : 1 ≤ k) (hk2 : k ≤ 11) (hL : k = 1 ∨ 0 < len) (ho : OpOk k wi n s t u) :
    Calls Tryz.prog 43 #[.pointer (some ⟨Wb, 0, none⟩), .agg (opC k wi n m s t u)] w fun e w' => e = .returned (.bool true) ∧ Fine w0 w' h0 Wb (c + 1) (if k = 1 then len + 1 else len) := by
  obtain ⟨O, L, names, nums, last, a1, rfl, a3, a4, a5, a6⟩ := h
  have hcase : k = 1 ∨ k = 2 ∨ k = 3 ∨ k = 4 ∨ k = 5 ∨ k = 6 ∨ k = 7 ∨ k = 8 ∨ k = 9 ∨ k = 10 ∨ k = 11 := by omega
  have fin : ∀ (len : Nat) (e : Ending) (w' : World), (e = .returned (.bool true) ∧ Goes w w' h0 Wb len (names.length + 9) (last + 1) (20 * c + 20)) → (e = .returned (.bool true) ∧ Fine w0 w' h0 Wb (c + 1) len) := fun len e w' hh => ⟨hh.1, hh.2.fine a6 (by omega) (by omega) (by omega)⟩
  rcases hcase with rfl | hcase
  · refine (l_sNew a1 a3 (by omega) wi n m s t u).mono fun e w' hh => ⟨hh.1, ?_⟩
    have := hh.2.fine (c := c) a6 (by omega) (by omega) (by omega)
    simpa using this
  have hne : ¬ k = 1 := by omega
  have hL' : 0 < L.length := hL.resolve_left hne
  rw [if_neg hne]
  rcases hcase with rfl | rfl | rfl | rfl | rfl | rfl | rfl | rfl | rfl | rfl
  · exact (l_sBranch a1 a3 (by omega) (by omega) (by omega) hL' (by omega) wi n m s t u ho.w1 ho.w2 ho.n1 ho.n2 ho.s ho.t ho.u).mono (fin _)
  · exact (l_sFork a1 a3 (by omega) (by omega) (by omega) hL' (by omega) wi n m s t u ho.w1 ho.w2 ho.n1 ho.n2 ho.s ho.t ho.u).mono (fin _)
  · exact (l_sDrop a1 a3 (by omega) (by omega) (by omega) hL' (by omega) wi n m s t u ho.w1 ho.w2 ho.n1 ho.n2 ho.s ho.t ho.u).mono (fin _)
  · exact (l_sBranches a1 a3 (by omega) (by omega) (by omega) hL' (by omega) wi n m s t u ho.w1 ho.w2 ho.n1 ho.n2 ho.s ho.t ho.u).mono (fin _)
  · exact (l_sAdd a1 a3 (by omega) (by omega) (by omega) hL' (by omega) wi n m s t u ho.w1 ho.w2 ho.n1 ho.n2 ho.s ho.t ho.u).mono (fin _)
  · exact (l_sNote a1 a3 (by omega) (by omega) (by omega) hL' (by omega) wi n m s t u ho.w1 ho.w2 ho.n1 ho.n2 ho.s ho.t ho.u).mono (fin _)
  · exact (l_sPut a1 a3 (by omega) (by omega) (by omega) hL' (by omega) wi n m s t u ho.w1 ho.w2 ho.n1 ho.n2 ho.s ho.t ho.u).mono (fin _)
  · exact (l_sTake a1 a3 (by omega) (by omega) (by omega) hL' (by omega) wi n m s t u ho.w1 ho.w2 ho.n1 ho.n2 ho.s ho.t ho.u).mono (fin _)
  · exact (l_sDelete a1 a3 (by omega) (by omega) (by omega) hL' (by omega) wi n m s t u ho.w1 ho.w2 ho.n1 ho.n2 ho.s ho.t ho.u).mono (fin _)
  · exact (l_sShow a1 a3 (by omega) (by omega) (by omega) hL' (by omega) wi n m s t u ho.w1 ho.w2 ho.n1 ho.n2 ho.s ho.t ho.u).mono (fin _)
/-- what the walk reads of the statement's memory: how many pairs there are -/
theorem Fine.all {w0 wr : World} {h0 Wb c len : Nat} (h : Fine w0 wr h0 Wb c len) : ∃ aa ac, wr.cell? ⟨Wb, 0, none⟩ = some (.slice aa len ac) ∧ Wb < wr.heap.size := by
  obtain ⟨O, L, names, nums, last, a1, rfl, _⟩ := h
  obtain ⟨av, nv, tv, uv, kv, hl⟩ := a1.lw
  have hrow := hl.arow
  rw [List.length_map] at hrow
  obtain ⟨aa, ac, hav, _⟩ := owns_form hrow
  exact ⟨aa, ac, by rw [← hav]; exact hl.c0, hl.lt Wb hl.own⟩
/-- .. and of a pair of them: the document's branches -/
theorem Fine.br {w0 wr : World} {h0 Wb c len : Nat} (h : Fine w0 wr h0 Wb c len) (i : Nat) (hi : i < len) : ∃ g ac bx by_ ba nb bc, wr.cell? ⟨Wb, 0, none⟩ = some (.slice (some ⟨g, 0, none⟩) len ac) ∧ len ≤ ac ∧ ac ≤ maxLen ∧ wr.cell? ⟨g, i * 2, none⟩ = some (.pointer (some ⟨bx, 0, none⟩)) ∧ wr.cell? ⟨g, i * 2 + 1, none⟩ = some (.pointer (some ⟨by_, 0, none⟩)) ∧
    wr.cell? ⟨by_, 1, none⟩ = some (.slice ba nb bc) ∧ nb ≤ 6 ∧ nb ≤ bc ∧ bc ≤ maxLen ∧ ∀ k, k < nb → ∃ (g2 : Nat) (nm : List UInt8), ba = some ⟨g2, 0, none⟩ ∧ wr.cell? ⟨g2, k * 3, none⟩ = some (.string ⟨nm.toArray⟩) ∧ nm.length ≤ maxLen := by
  obtain ⟨O, L, names, nums, last, a1, rfl, _⟩ := h
  obtain ⟨av, nv, tv, uv, kv, hl⟩ := a1.lw
  have hrow := hl.arow
  rw [List.length_map] at hrow
  obtain ⟨aa, ac, hav, ha1, ha2, ha3, ha4⟩ := owns_form hrow
  cases aa with
  | none => have := (ha3 rfl).1; omega
  | some ad =>
  obtain ⟨g, rfl, _, hg, _, hcell⟩ := ha4 ad rfl
  have hca := cellsA_atAdd (L.map fun p => (p.bx, p.by_)) i (by simpa using hi)
  have d1 := hcell _ _ hca.1
  have d2 := hcell _ _ hca.2
  simp only [List.getElem_map] at d1 d2
  have hy := a1.py i hi
  have hfine := hy.2
  obtain ⟨cv, bv, LB, LCm, hR⟩ := hy.1
  obtain ⟨ba, bc, hbv, hn1, hn2, hn3, hn4⟩ := owns_form hR.row
  have hlen : L[i].sy.brs.length = LB.length := by rw [← hR.brs, List.length_map]
  refine ⟨g, ac, _, _, ba, LB.length, bc, by rw [← hav]; exact hl.c0, ha1, ha2, d1, d2, by rw [← hbv]; exact hR.c1, by have := hfine.many; omega, hn1, hn2, fun k hk => ?_⟩
  cases ba with
  | none => have := (hn3 rfl).1; omega
  | some ad2 =>
    obtain ⟨g2, rfl, _, _, _, hcell2⟩ := hn4 ad2 rfl
    refine ⟨g2, (LB[k]'hk).1.name, rfl, hcell2 _ _ (by have := cellsB_at LB k 0 hk (by omega); simpa using this), ?_⟩
    have hm : (LB[k]'hk).1 ∈ L[i].sy.brs := by rw [← hR.brs]; exact List.mem_map_of_mem (List.getElem_mem hk)
    have := isName_len _ (hfine.names _ hm)
    unfold maxLen; omega
theorem Fine.kept {w0 wr : World} {h0 Wb c len : Nat} (h : Fine w0 wr h0 Wb c len) : Calls Tryz.prog 44 #[.pointer (some ⟨Wb, 0, none⟩)] wr fun e w' => e = .returned (.bool true) ∧ Fine w0 w' h0 Wb c len := by
  obtain ⟨O, L, names, nums, last, a1, a2, a3, a4, a5, a6⟩ := h
  obtain ⟨av, nv, tv, uv, kv, hl⟩ := a1.lw
  refine (l_kept hl).mono ?_
  rintro e w' ⟨rfl, q, rfl⟩
  have hb : Below wr.heap.size wr (wr.drewN q) := ⟨rfl, rfl, rfl, Nat.le_refl _, fun _ _ => rfl⟩
  exact ⟨rfl, O, L, names, nums, last, a1.below hb, a2, a3, a4, a5, a6.trans (hb.mono a1.hs)⟩
theorem Fine.drewN {w0 wr : World} {h0 Wb c len : Nat} (h : Fine w0 wr h0 Wb c len) {w' : World} (hb : Below wr.heap.size wr w') : Fine w0 w' h0 Wb c len := by
  obtain ⟨O, L, names, nums, last, a1, a2, a3, a4, a5, a6⟩ := h
  exact ⟨O, L, names, nums, last, a1.below hb, a2, a3, a4, a5, a6.trans (hb.mono a1.hs)⟩
end Go.Proofs.YtolgebdmffcemaaGreatDoor
namespace Go.Proofs.YtolgebdmffcemaaGreatDoor
open Go.RowKit
/-- a step of the script -/
structure OpL where
  k : Int
  wi : Int
  n : Int
  m : Int
  s : List UInt8
  t : List UInt8
  u : List UInt8
def OpL.ok (o : OpL) : Prop := OpOk o.k o.wi o.n o.s o.t o.u
def OpL.cells (o : OpL) : List Value := (opC o.k o.wi o.n o.m o.s o.t o.u).toList
def cellsO (l : List OpL) : List Value := l.flatMap OpL.cells
theorem cellsO_at : ∀ (l : List OpL) (i j : Nat) (h : i < l.length) (_ : j < 7), (cellsO l)[i * 7 + j]? = (l[i]'h).cells[j]?
  | p :: r, 0, j, _, hj => by
    unfold cellsO
    rw [List.flatMap_cons, Nat.zero_mul, Nat.zero_add, List.getElem?_append_left (by simp [OpL.cells, opC]; omega)]
    rfl
  | p :: r, i + 1, j, h, hj => by
    have ih := cellsO_at r i j (by simpa using h) hj
    unfold cellsO at ih ⊢
    rw [List.flatMap_cons, List.getElem?_append_right (by simp [OpL.cells, opC]; omega)]
    rw [show (i + 1) * 7 + j - p.cells.length = i * 7 + j from by simp [OpL.cells, opC]; omega]
    simpa using ih
theorem LW_new (w : World) (hG : Glob w) : LW (w.alloc (.cells #[.slice none 0 0, .slice none 0 0, .slice none 0 0, .slice none 0 0, .slice none 0 0, .int .i64 0] 70)) w.heap.size w.heap.size (fun b => b = w.heap.size) [] [] [] 0 := by
  have hMM : ∀ b, MM (fun b => b = w.heap.size) [] b → b = w.heap.size := by
    rintro b (e | ⟨j, hj, _⟩)
    · exact e
    · simp at hj
  refine ⟨⟨.slice none 0 0, .slice none 0 0, .slice none 0 0, .slice none 0 0, .slice none 0 0, ?_⟩, fun j hj => by simp at hj, fun j hj => by simp at hj, fun j hj => by simp at hj, fun j hj => by simp at hj, fun i j hi => by simp at hi, fun b e => by rw [hMM b e]; exact Nat.le_refl _, fun b e => by rw [hMM b e]; simp, hG.below ((Below.refl _ _).alloc (Nat.le_refl _) _), hG.size, by simp⟩
  exact ⟨fun b e => .inl e, fun b e => by subst e; simp, rfl, by rw [World.cell?_alloc_at _ _ _ _ rfl]; rfl, by rw [World.cell?_alloc_at _ _ _ _ rfl]; rfl, by rw [World.cell?_alloc_at _ _ _ _ rfl]; rfl, by rw [World.cell?_alloc_at _ _ _ _ rfl]; rfl, by rw [World.cell?_alloc_at _ _ _ _ rfl]; rfl, by rw [World.cell?_alloc_at _ _ _ _ rfl]; rfl, fun o => World.frozen?_alloc_at _ _ _ _ rfl,
    World.ownsRow_nil _ _ _ _, World.ownsRow_nil _ _ _ _, World.ownsRow_nil _ _ _ _, World.ownsRow_nil _ _ _ _, World.ownsRow_nil _ _ _ _, fun g e => by simp [Value.ownBlock] at e, fun g e => by simp [Value.ownBlock] at e, fun g e => by simp [Value.ownBlock] at e, fun g e => by simp [Value.ownBlock] at e, fun g e => by simp [Value.ownBlock] at e, by simp, by simp⟩
theorem Fine.bel {w0 wr : World} {h0 Wb c len : Nat} (h : Fine w0 wr h0 Wb c len) : Below h0 w0 wr := by
  obtain ⟨_, _, _, _, _, _, _, _, _, _, h⟩ := h
  exact h
theorem Fine.up {w0 wr : World} {h0 Wb c len : Nat} (h : Fine w0 wr h0 Wb c len) : Fine w0 wr h0 Wb (c + 1) len := by
  obtain ⟨O, L, names, nums, last, a1, a2, a3, a4, a5, a6⟩ := h
  exact ⟨O, L, names, nums, last, a1, a2, fun j hj => ⟨(a3 j hj).1, by have := (a3 j hj).2; omega⟩, by omega, by omega, a6⟩
theorem ok_small (k wi n : Int) (s t u : List UInt8) (hw1 : wi ≤ 1000000) (hw2 : -1000000 ≤ wi) (hn1 : n ≤ 1000000) (hn2 : -1000000 ≤ n) (hs : s.length ≤ maxLen) (ht : t.length ≤ 100) (hu : u.length ≤ 100) : OpOk k wi n s t u :=
  ⟨by omega, by omega, by omega, by omega, hs, by unfold maxLen; omega, by unfold maxLen; omega⟩
set_option maxHeartbeats 3200000 in
set_option maxRecDepth 1000000 in
theorem l_plays (script : List OpL) (v : Value) (w : World) (hG : Glob w) (h : Rd w (fun _ => False) v script.length (cellsO script)) (hn : script.length ≤ 200000) (hok : ∀ o ∈ script, o.ok) :
    Calls Tryz.prog 14 #[v, .int .i64 11] w fun e w' => e = .returned (.bool true) ∧ Below w.heap.size w w' := by
  obtain ⟨sa, sc, rfl, hs1, hs2, hs3⟩ := h
  have HNew := hide0 (LW_new w hG)
  have HOk := hide0 hok
  have HS3 := hide0 hs3
  unfold maxLen at hs2
  clear hs3 hok hG
  go_enter Tryz.func14, Tryz.ntmps14
  go_wp2_with fail
  have HF0 : Hid (Fine w (w.alloc (.cells #[.slice none 0 0, .slice none 0 0, .slice none 0 0, .slice none 0 0, .slice none 0 0, .int .i64 0] 70)) w.heap.size w.heap.size 0 0) := ⟨_, [], [], [], 0, HNew.out, rfl, fun j hj => by simp at hj, by simp, by simp, (Below.refl _ _).alloc (Nat.le_refl _) _⟩
  refine (l_step HF0.out (by omega) (by omega) 1 0 0 0 [] [] [] (by omega) (by omega) (.inl rfl) (ok_small _ _ _ _ _ _ (by omega) (by omega) (by omega) (by omega) (by unfold maxLen; simp) (by simp) (by simp))).mono ?_
  rintro e w1 ⟨rfl, hf1⟩
  have hf1' : Fine w w1 w.heap.size w.heap.size 1 1 := hf1
  obtain ⟨a1, c1, k1, hl1⟩ := hf1'.all
  have HF1 := hide0 hf1'
  clear hf1 hf1' HF0 HNew
  go_wp2_with fail
  refine (l_step HF1.out (by omega) (by omega) 2 0 0 0 [97] [] [] (by omega) (by omega) (.inr (by omega)) (ok_small _ _ _ _ _ _ (by omega) (by omega) (by omega) (by omega) (by unfold maxLen; simp) (by simp) (by simp))).mono ?_
  rintro e w2 ⟨rfl, hf2⟩
  have HF2 : Hid (Fine w w2 w.heap.size w.heap.size 2 1) := hf2
  clear hf2 HF1 k1
  go_wp2_with fail
  refine (l_step HF2.out (by omega) (by omega) 6 0 5 0 [97] [120, 47, 110] [] (by omega) (by omega) (.inr (by omega)) (ok_small _ _ _ _ _ _ (by omega) (by omega) (by omega) (by omega) (by unfold maxLen; simp) (by simp) (by simp))).mono ?_
  rintro e w3 ⟨rfl, hf3⟩
  have HF3 : Hid (Fine w w3 w.heap.size w.heap.size 3 1) := hf3
  clear hf3 HF2
  go_wp2_with fail
  refine (l_step HF3.out (by omega) (by omega) 11 0 0 0 [97] [] [] (by omega) (by omega) (.inr (by omega)) (ok_small _ _ _ _ _ _ (by omega) (by omega) (by omega) (by omega) (by unfold maxLen; simp) (by simp) (by simp))).mono ?_
  rintro e w4 ⟨rfl, hf4⟩
  have HF4 : Hid (Fine w w4 w.heap.size w.heap.size 4 1) := hf4
  clear hf4 HF3
  go_wp2
  go_loopw [11] (fun i wr => ∃ k len : Nat, k ≤ script.length ∧ i = .int .i64 k ∧ 1 ≤ len ∧ len ≤ 8 ∧ Fine w wr w.heap.size w.heap.size (4 + k) len) (fun i _ => script.length - (intOf i).toNat)
  case atStart => exact ⟨0, 1, Nat.zero_le _, rfl, by omega, by omega, HF4.out⟩
  case round =>
    obtain ⟨k, len, hk, rfl, hl1, hl2, hf⟩ := hrel
    obtain ⟨aa, ac, e0, hWl⟩ := hf.all
    have HF := hide0 hf
    clear hf
    by_cases hlt : k < script.length ∧ len < 8
    · obtain ⟨hlt, hlen⟩ := hlt
      obtain ⟨b, off, rfl, hb, _, hcell⟩ := HS3.out (by omega)
      have hbel := HF.out.bel
      have hat : ∀ j v, j < 7 → (script[k]'hlt).cells[j]? = some v → wr.cell? ⟨b, off + k * 7 + j, none⟩ = some v := fun j v hj hv => by
        rw [hbel.cell (p := ⟨b, off + k * 7 + j, none⟩) hb, Nat.add_assoc]
        exact hcell _ _ (by rw [cellsO_at script k j hlt hj]; exact hv)
      have s0 := hat 0 _ (by omega) rfl
      have s1 := hat 1 _ (by omega) rfl
      have s2 := hat 2 _ (by omega) rfl
      have s3 := hat 3 _ (by omega) rfl
      have s4 := hat 4 _ (by omega) rfl
      have s5 := hat 5 _ (by omega) rfl
      have s6 := hat 6 _ (by omega) rfl
      have hok1 := HOk.out _ (List.getElem_mem hlt)
      simp only [Nat.add_zero] at s0
      clear hcell hat hbel
      generalize script[k]'hlt = o at *
      obtain ⟨ok', owi, on, om, os_, ot, ou⟩ := o
      dsimp only at s0 s1 s2 s3 s4 s5 s6
      have HOp : Hid (OpOk ok' owi on os_ ot ou) := hok1
      clear hok1
      by_cases hkk : 1 ≤ ok' ∧ ok' ≤ 11
      · obtain ⟨hk1, hk2⟩ := hkk
        go_wp2_with fail
        refine (l_step HF.out (by omega) (by omega) ok' owi on om os_ ot ou hk1 hk2 (.inr (by omega)) HOp.out).mono ?_
        rintro e w5 ⟨rfl, hf5⟩
        have HF5 := hide0 hf5
        clear hf5
        go_wp2_with fail
        refine HF5.out.kept.mono ?_
        rintro e w6 ⟨rfl, hf6⟩
        have HF6 := hide0 hf6
        clear hf6
        go_wp2
        go_roundw
        case rel => exact ⟨k + 1, _, by omega, by go_num, by split <;> omega, by split <;> omega, HF6.out⟩
        case measure => simp [intOf]; omega
      · by_cases hk1 : 1 ≤ ok'
        · have hk2 : ¬ ok' ≤ 11 := fun e => hkk ⟨hk1, e⟩
          clear hkk
          go_wp2
          go_roundw
          case rel => exact ⟨k + 1, len, by omega, by go_num, by omega, by omega, HF.out.up⟩
          case measure => simp [intOf]; omega
        · clear hkk
          go_wp2
          go_roundw
          case rel => exact ⟨k + 1, len, by omega, by go_num, by omega, by omega, HF.out.up⟩
          case measure => simp [intOf]; omega
    · by_cases hkn : k < script.length
      · have hle : ¬ len < 8 := fun e => hlt ⟨hkn, e⟩
        clear hlt
        go_wp2
        go_loopw [15] (fun i wr => ∃ j c : Nat, j ≤ len ∧ i = .int .i64 j ∧ c ≤ 4 + script.length + 7 * j ∧ Fine w wr w.heap.size w.heap.size c len) (fun i _ => len - (intOf i).toNat)
        case atStart => exact ⟨0, 4 + k, Nat.zero_le _, rfl, by omega, HF.out⟩
        case round =>
          obtain ⟨j, c, hj, rfl, hcb, hf⟩ := hrel
          by_cases hjl : j < len
          · obtain ⟨aa, ac, e0, hWl⟩ := hf.all
            have HF2 := hide0 hf
            clear hf
            go_wp2
            go_loopw [16] (fun i wr => ∃ x c : Nat, x ≤ 6 ∧ i = .int .i64 x ∧ c ≤ 4 + script.length + 7 * j + x ∧ Fine w wr w.heap.size w.heap.size c len) (fun i _ => 6 - (intOf i).toNat)
            case atStart => exact ⟨0, c, Nat.zero_le _, rfl, by omega, HF2.out⟩
            case round =>
              obtain ⟨x, c, hx, rfl, hcb, hf⟩ := hrel
              obtain ⟨g, ac, bx, by_, ba, nb, bc, f0, hac1, hac2, f1, f2, f3, hnb, hbc1, hbc2, hnm⟩ := hf.br j hjl
              have HF3 := hide0 hf
              unfold maxLen at hac2 hbc2
              clear hf
              by_cases hxn : x < nb
              · obtain ⟨g2, nm, rfl, f4, hnl⟩ := hnm x hxn
                clear hnm
                go_wp2_with fail
                refine (l_step HF3.out (by omega) (by omega) 11 (j : Int) 0 0 nm [] [] (by omega) (by omega) (.inr (by omega)) (ok_small _ _ _ _ _ _ (by omega) (by omega) (by omega) (by omega) hnl (by simp) (by simp))).mono ?_
                rintro e w5 ⟨rfl, hf5⟩
                have HF5 : Hid (Fine w w5 w.heap.size w.heap.size (c + 1) len) := hf5
                clear hf5
                go_wp2
                go_roundw
                case rel => exact ⟨x + 1, c + 1, by omega, by go_num, by omega, HF5.out⟩
                case measure => simp [intOf]; omega
              · clear hnm
                go_wp2
                go_roundw
                case rel => exact ⟨j + 1, c, by omega, by go_num, by omega, HF3.out⟩
                case measure => simp [intOf]; omega
          · have HF2 := hide0 hf
            obtain ⟨aa, ac, e0, hWl⟩ := hf.all
            clear hf
            go_wp2_with fail
            refine HF2.out.kept.mono ?_
            rintro e w6 ⟨rfl, hf6⟩
            have HB6 := hide0 hf6.bel
            clear hf6
            go_wp2
            go_ret
            exact ⟨rfl, HB6.out⟩
      · clear hlt
        go_wp2
        go_loopw [15] (fun i wr => ∃ j c : Nat, j ≤ len ∧ i = .int .i64 j ∧ c ≤ 4 + script.length + 7 * j ∧ Fine w wr w.heap.size w.heap.size c len) (fun i _ => len - (intOf i).toNat)
        case atStart => exact ⟨0, 4 + k, Nat.zero_le _, rfl, by omega, HF.out⟩
        case round =>
          obtain ⟨j, c, hj, rfl, hcb, hf⟩ := hrel
          by_cases hjl : j < len
          · obtain ⟨aa, ac, e0, hWl⟩ := hf.all
            have HF2 := hide0 hf
            clear hf
            go_wp2
            go_loopw [16] (fun i wr => ∃ x c : Nat, x ≤ 6 ∧ i = .int .i64 x ∧ c ≤ 4 + script.length + 7 * j + x ∧ Fine w wr w.heap.size w.heap.size c len) (fun i _ => 6 - (intOf i).toNat)
            case atStart => exact ⟨0, c, Nat.zero_le _, rfl, by omega, HF2.out⟩
            case round =>
              obtain ⟨x, c, hx, rfl, hcb, hf⟩ := hrel
              obtain ⟨g, ac, bx, by_, ba, nb, bc, f0, hac1, hac2, f1, f2, f3, hnb, hbc1, hbc2, hnm⟩ := hf.br j hjl
              have HF3 := hide0 hf
              unfold maxLen at hac2 hbc2
              clear hf
              by_cases hxn : x < nb
              · obtain ⟨g2, nm, rfl, f4, hnl⟩ := hnm x hxn
                clear hnm
                go_wp2_with fail
                refine (l_step HF3.out (by omega) (by omega) 11 (j : Int) 0 0 nm [] [] (by omega) (by omega) (.inr (by omega)) (ok_small _ _ _ _ _ _ (by omega) (by omega) (by omega) (by omega) hnl (by simp) (by simp))).mono ?_
                rintro e w5 ⟨rfl, hf5⟩
                have HF5 : Hid (Fine w w5 w.heap.size w.heap.size (c + 1) len) := hf5
                clear hf5
                go_wp2
                go_roundw
                case rel => exact ⟨x + 1, c + 1, by omega, by go_num, by omega, HF5.out⟩
                case measure => simp [intOf]; omega
              · clear hnm
                go_wp2
                go_roundw
                case rel => exact ⟨j + 1, c, by omega, by go_num, by omega, HF3.out⟩
                case measure => simp [intOf]; omega
          · have HF2 := hide0 hf
            obtain ⟨aa, ac, e0, hWl⟩ := hf.all
            clear hf
            go_wp2_with fail
            refine HF2.out.kept.mono ?_
            rintro e w6 ⟨rfl, hf6⟩
            have HB6 := hide0 hf6.bel
            clear hf6
            go_wp2
            go_ret
            exact ⟨rfl, HB6.out⟩
end Go.Proofs.YtolgebdmffcemaaGreatDoor
namespace Go.Proofs.YtolgebdmffcemaaGreatDoor
open Go.RowKit
set_option maxHeartbeats 400000 in
theorem l_Values (script : List OpL) (v : Value) (w : World) (hG : Glob w) (h : Rd w (fun _ => False) v script.length (cellsO script)) (hn : script.length ≤ 200000) (hok : ∀ o ∈ script, o.ok) :
    Calls Tryz.prog 3 #[v] w fun e w' => e = .returned (.bool true) ∧ Below w.heap.size w w' := by
  have hp := l_plays script v w hG h hn hok
  clear h hG hok
  go_enter Tryz.func3, Tryz.ntmps3
  go_wp2_with fail
  refine hp.mono ?_
  rintro e w1 ⟨rfl, hb⟩
  go_wp2
  go_ret
  exact ⟨rfl, hb⟩
end Go.Proofs.YtolgebdmffcemaaGreatDoor
namespace Go.Proofs.YtolgebdmffcemaaGreatDoor
open Go.ChangeShapes Go.WideShapes Go.ChangeAt Go.RowKit
section
variable {H : Type} {enc : TypeId × Value → H}

theorem bulk_one (d : DataW H) : 1 ≤ Rows.uptoBulk d := by
  cases d with
  | lit l => cases l <;> simp [Rows.uptoBulk]
  | nil => simp [Rows.uptoBulk]
  | ptr d => simp [Rows.uptoBulk]
  | slice elems spare => simp [Rows.uptoBulk]
  | agg parts => simp [Rows.uptoBulk]
  | iface t d => simp [Rows.uptoBulk]
  | map entries => simp [Rows.uptoBulk]
  | held h => simp [Rows.uptoBulk]
theorem bulk_eight {l : List (DataW H)} (h : ∀ d ∈ l, 8 ≤ Rows.uptoBulk d) : 8 * l.length ≤ Rows.uptoBulkAll l := by
  induction l with
  | nil => simp
  | cons x r ih =>
    have h1 := h x (by simp)
    have h2 := ih fun d hd => h d (by simp [hd])
    simp only [Rows.uptoBulkAll, List.length_cons]
    omega

theorem cells_op : Tryz.prog.cellsOf 73 = 7 := by kernel_rfl
theorem cells_int : Tryz.prog.cellsOf 3 = 1 := by kernel_rfl
theorem cells_string : Tryz.prog.cellsOf 9 = 1 := by kernel_rfl

theorem seven {α : Type} (l : List α) (h : l.length = 7) : ∃ a b c d e f g, l = [a, b, c, d, e, f, g] := by
  rcases l with _ | ⟨a, l⟩
  · simp at h
  rcases l with _ | ⟨b, l⟩
  · simp at h
  rcases l with _ | ⟨c, l⟩
  · simp at h
  rcases l with _ | ⟨d, l⟩
  · simp at h
  rcases l with _ | ⟨e, l⟩
  · simp at h
  rcases l with _ | ⟨f, l⟩
  · simp at h
  rcases l with _ | ⟨g, l⟩
  · simp at h
  rcases l with _ | ⟨x, l⟩
  · exact ⟨a, b, c, d, e, f, g, rfl⟩
  · simp at h
theorem wf_bounds {n : Int} (h : (Lit.int .i64 n).wf = true) : -9223372036854775808 ≤ n ∧ n ≤ 9223372036854775807 := by
  simpa [Lit.wf, IntKind.min, IntKind.max, IntKind.bits, IntKind.signed] using h
/-- one element of the script -/
theorem open_op {w : World} {sp : Nat → Bool} {hd : Bool} {n : Nat} {cs : List Value} {x : DataW H × List MemPlace} (h : DataW.trod enc Tryz.prog w 0 sp hd n 73 cs = some x) :
    ∃ o : OpL, cs = o.cells ∧ o.ok ∧ 8 ≤ Rows.uptoBulk x.1 := by
  obtain ⟨xs, m, rfl, rfl, hl, hxl, hf⟩ := DataW.trod_struct Tryz.underlying73 h
  clear h
  rw [cells_op] at hl
  obtain ⟨c0, c1, c2, c3, c4, c5, c6, rfl⟩ := seven cs hl
  obtain ⟨x0, x1, x2, x3, x4, x5, x6, rfl⟩ := seven xs hxl
  have h0 : DataW.trod enc Tryz.prog w 0 sp hd m 3 (([c0, c1, c2, c3, c4, c5, c6].drop 0).take (Tryz.prog.cellsOf 3)) = some x0 := hf 0 _ rfl
  have h1 : DataW.trod enc Tryz.prog w 0 sp hd m 3 (([c0, c1, c2, c3, c4, c5, c6].drop 1).take (Tryz.prog.cellsOf 3)) = some x1 := hf 1 _ rfl
  have h2 : DataW.trod enc Tryz.prog w 0 sp hd m 3 (([c0, c1, c2, c3, c4, c5, c6].drop 2).take (Tryz.prog.cellsOf 3)) = some x2 := hf 2 _ rfl
  have h3 : DataW.trod enc Tryz.prog w 0 sp hd m 3 (([c0, c1, c2, c3, c4, c5, c6].drop 3).take (Tryz.prog.cellsOf 3)) = some x3 := hf 3 _ rfl
  have h4 : DataW.trod enc Tryz.prog w 0 sp hd m 9 (([c0, c1, c2, c3, c4, c5, c6].drop 4).take (Tryz.prog.cellsOf 9)) = some x4 := hf 4 _ rfl
  have h5 : DataW.trod enc Tryz.prog w 0 sp hd m 9 (([c0, c1, c2, c3, c4, c5, c6].drop 5).take (Tryz.prog.cellsOf 9)) = some x5 := hf 5 _ rfl
  have h6 : DataW.trod enc Tryz.prog w 0 sp hd m 9 (([c0, c1, c2, c3, c4, c5, c6].drop 6).take (Tryz.prog.cellsOf 9)) = some x6 := hf 6 _ rfl
  clear hf
  rw [cells_int] at h0 h1 h2 h3
  rw [cells_string] at h4 h5 h6
  obtain ⟨n0, e0, -, k0⟩ := DataW.trod_int Tryz.underlying3 h0
  obtain ⟨n1, e1, -, k1⟩ := DataW.trod_int Tryz.underlying3 h1
  obtain ⟨n2, e2, -, k2⟩ := DataW.trod_int Tryz.underlying3 h2
  obtain ⟨n3, e3, -, k3⟩ := DataW.trod_int Tryz.underlying3 h3
  obtain ⟨s4, e4, -, k4⟩ := DataW.trod_string Tryz.underlying9 h4
  obtain ⟨s5, e5, -, k5⟩ := DataW.trod_string Tryz.underlying9 h5
  obtain ⟨s6, e6, -, k6⟩ := DataW.trod_string Tryz.underlying9 h6
  simp only [List.drop_zero, List.drop_succ_cons, List.take_succ_cons, List.take_zero, List.cons.injEq, and_true] at e0 e1 e2 e3 e4 e5 e6
  subst e0 e1 e2 e3 e4 e5 e6
  refine ⟨⟨n0, n1, n2, n3, s4.data.toList, s5.data.toList, s6.data.toList⟩, ?_, ?_, ?_⟩
  · simp [OpL.cells, opC]
  · have q1 := wf_bounds k1
    have q2 := wf_bounds k2
    exact ⟨q1.2, q1.1, q2.2, q2.1, by simpa using k4, by simpa using k5, by simpa using k6⟩
  · have a0 := bulk_one x0.1
    have a1 := bulk_one x1.1
    have a2 := bulk_one x2.1
    have a3 := bulk_one x3.1
    have a4 := bulk_one x4.1
    have a5 := bulk_one x5.1
    have a6 := bulk_one x6.1
    simp only [Rows.uptoBulk, Rows.uptoBulkAll, List.map]
    omega
theorem cell_block_lt {w : World} {a : Addr} {v : Value} (h : w.cell? a = some v) : a.block < w.heap.size := by
  rcases Nat.lt_or_ge a.block w.heap.size with h' | h'
  · exact h'
  · simp [World.cell?, Array.getElem?_eq_none h'] at h
theorem cellsO_length (l : List OpL) : (cellsO l).length = 7 * l.length := by
  induction l with
  | nil => rfl
  | cons o l ih =>
    show (o.cells ++ cellsO l).length = _
    rw [List.length_append, ih]
    simp [OpL.cells, opC]
    omega
set_option maxRecDepth 20000 in
/-- the script -/
theorem open_script {w : World} {base : Nat} {v : Value} {d : DataW H} {ps : List MemPlace} (hv : Value.okWide Tryz.prog w .any base 22 v) (h : DataW.Trod enc Tryz.prog w 0 (fun _ => true) true 22 v d ps) {N : Nat} (hb : Rows.uptoBulk d ≤ N) :
    ∃ script : List OpL, 8 * script.length ≤ N ∧ (∀ o ∈ script, o.ok) ∧ Rd w (fun _ => False) v script.length (cellsO script) := by
  obtain ⟨fuel, h⟩ := h
  obtain ⟨a, len, cap, rfl⟩ := okWide_slice Tryz.underlying22 hv
  clear hv
  rcases Deep.open_slice Tryz.underlying22 h with ⟨h1, h2⟩ | ⟨a', len', cap', m, n, D, Pl, h1, -, hl, hc, hm, hx, he⟩
  · obtain ⟨rfl, rfl, rfl⟩ : a = none ∧ len = 0 ∧ cap = 0 := by simpa [Value.cells] using h1
    exact ⟨[], by simp, by simp, none, 0, rfl, Nat.le_refl _, Nat.zero_le _, fun h => absurd h (Nat.lt_irrefl _)⟩
  · obtain ⟨rfl, rfl, rfl⟩ : a = some a' ∧ len = len' ∧ cap = cap' := by simpa [Value.cells] using h1
    obtain rfl : m = cap := by simpa using hm
    obtain ⟨hx1, hx2⟩ := Prod.mk.inj hx
    clear hx hx2 h h1 hm
    rw [hx1] at hb
    clear hx1
    rw [cells_op] at he
    have inh : Inhabited OpL := ⟨⟨0, 0, 0, 0, [], [], []⟩⟩
    obtain ⟨f, hf⟩ := Deep.choose_lt (α := OpL) (n := m) (p := fun i o => w.cells? 0 (a'.add (i * 7)) 7 = some o.cells ∧ o.ok ∧ 8 ≤ Rows.uptoBulk (D i)) (fun i hi => by
      obtain ⟨cs, h1, h2⟩ := he i hi
      obtain ⟨o, rfl, h3, h4⟩ := open_op h2
      exact ⟨o, h1, h3, h4⟩)
    have hlen : 8 * len ≤ N := by
      have h1 := bulk_eight (l := (List.range len).map D) (fun d hd => by
        obtain ⟨i, hi, rfl⟩ := List.mem_map.1 hd
        exact (hf i (Nat.lt_of_lt_of_le (List.mem_range.1 hi) hl)).2.2)
      rw [List.length_map, List.length_range] at h1
      simp only [Rows.uptoBulk] at hb
      omega
    refine ⟨(List.range len).map f, by simp; omega, fun o ho => ?_, some a', m, by simp, by simpa using hl, hc, fun h0 => ?_⟩
    · obtain ⟨i, hi, rfl⟩ := List.mem_map.1 ho
      exact (hf i (Nat.lt_of_lt_of_le (List.mem_range.1 hi) hl)).2.1
    · have h0' : 0 < len := by simpa using h0
      have hcell : ∀ i, i < len → ∀ j, j < 7 → w.cell? ((a'.add (i * 7)).add j) = (f i).cells[j]? := fun i hi => (World.cells?_some (hf i (Nat.lt_of_lt_of_le hi hl)).1).2.2
      obtain ⟨b, off, spot⟩ := a'
      have g0 := hcell 0 h0' 0 (by omega)
      have g1 : (f 0).cells[0]? = some (.int .i64 (f 0).k) := rfl
      rw [g1] at g0
      obtain rfl : spot = none := by simpa [Addr.add] using World.cell?_spot g0
      refine ⟨b, off, rfl, ?_, id, fun j u hu => ?_⟩
      · exact cell_block_lt g0
      · have hj : j < 7 * len := by
          have := (List.getElem?_eq_some_iff.1 hu).1
          rw [cellsO_length, List.length_map, List.length_range] at this
          exact this
        have h1 := hcell (j / 7) (by omega) (j % 7) (by omega)
        rw [Deep.add_add, show j / 7 * 7 + j % 7 = j from by omega] at h1
        rw [add_plain] at h1
        rw [h1, ← hu]
        have h2 := cellsO_at ((List.range len).map f) (j / 7) (j % 7) (by simp; omega) (by omega)
        rw [show j / 7 * 7 + j % 7 = j from by omega] at h2
        rw [h2]
        simp
end
theorem cells_u64 : Tryz.prog.cellsOf 278 = 1 := by kernel_rfl
theorem cells_pow : Tryz.prog.cellsOf 298 = 20 := by kernel_rfl
theorem glob_one_type : (Tryz.prog.globals[1]?).map (·.type) = some 298 := by kernel_rfl
theorem glob_five : Tryz.prog.globalNamed "math/bits.deBruijn64tab" = some 7 := by kernel_rfl
theorem laid_list {W : World} {l : List (String × DataW Unit)} (h : laidMetH Tryz.prog l W) (hl : (l.filter fun x => x.2.handleName?.isSome) = []) : laidMet Tryz.prog l W := by
  unfold laidMetH at h
  rw [hl] at h
  exact h
/-- the two package variables that the walk reads -/
theorem glob_of {W : World} (h : laidMetH Tryz.prog Rows.valuesUptoRow.laid W) (hs : W.ShapedOpen Tryz.prog) : Glob W := by
  refine ⟨Tryz.laysM146.s1_3 W hs, ?_, ?_⟩
  · have h1 := (laid_list h (by kernel_rfl)).tail.tail
    exact Lib.tabIs_of_head (zs := Lib.pow10Tab) glob_one glob_one_type Tryz.underlying298 Tryz.underlying278 cells_u64 cells_pow h1
  · have h1 := laid_list h (by kernel_rfl)
    obtain ⟨ps, ⟨_, _, _, _, _, _, _, _, _, _, ⟨g, t, cs, fuel, p, q, hg, ht, hv, _, _, _⟩, _⟩, _⟩ := h1
    obtain rfl : (7 : Nat) = g := Option.some.inj (glob_five.symm.trans hg)
    simp only [World.var?, glob_five, Option.bind_some] at hv
    rcases Nat.lt_or_ge 7 W.heap.size with h' | h'
    · omega
    · rw [Array.getElem?_eq_none h'] at hv
      cases hv
end Go.Proofs.YtolgebdmffcemaaGreatDoor
