/-
  The statement's own look at the lists that came out (graftlaw.World.kept): true, where each reads as its owner wrote it; pick.
  What the statement's own functions make of memory: words for it.
  What becomes of a store of the program (package graft) in memory: a branch more, a branch less, another tree at work on.
-/
import Derived.Test.YtolgebdmffcemaaGreatDoorPart06
import Derived.Deep.QuietTactic
import Derived.BigQuiet
import Derived.Test.YtolgebdmffcemaaGreatDoorPart10
import Derived.Test.YtolgebdmffcemaaGreatDoorPart07
set_option linter.unusedVariables false
namespace Go.Proofs.YtolgebdmffcemaaGreatDoor
open Go.RowKit
theorem hide0 {p : Prop} (h : p) : Hid p := h
def pickI (c n : Int) : Int := if c < 0 then (-(c + 1)) % n else c % n
set_option maxHeartbeats 400000 in
theorem l_pick (c n : Int) (w : World) (h1 : 0 < n) (h2 : n ≤ 9223372036854775807) (h3 : -9223372036854775808 ≤ c) (h4 : c ≤ 9223372036854775807) :
    Calls Tryz.prog 79 #[.int .i64 c, .int .i64 n] w fun e w' => e = .returned (.int .i64 (pickI c n)) ∧ w' = w := by
  by_cases hc : c < 0
  · have HP : Hid (pickI c n = (-(c + 1)) % n) := by show _ = _; rw [pickI, if_pos hc]
    go_enter Tryz.func79, Tryz.ntmps79
    go_wp2
    go_ret
    exact ⟨ret_int (by rw [HP.out, ← Int.neg_tmod, Int.tmod_eq_emod_of_nonneg (by omega)]), rfl⟩
  · have HP : Hid (pickI c n = c % n) := by show _ = _; rw [pickI, if_neg hc]
    go_enter Tryz.func79, Tryz.ntmps79
    go_wp2
    go_ret
    exact ⟨ret_int (by rw [HP.out]), rfl⟩
set_option maxHeartbeats 400000 in
theorem l_num (c : Int) (w : World) :
    Calls Tryz.prog 117 #[.int .i64 c] w fun e w' => e = .returned (.int .i64 c) ∧ w' = w := by
  go_enter Tryz.func117, Tryz.ntmps117
  go_wp2
  go_ret
  exact ⟨rfl, rfl⟩
set_option maxHeartbeats 3200000 in
set_option maxRecDepth 1000000 in
theorem l_kept {w : World} {M O : Nat → Prop} {Wb : Nat} {av : Value} {ps : List (Nat × Nat)} {nv tv uv kv : Value} {names : List (Value × List UInt8)} {nums : List (Value × Int)} {last : Nat} (h : LWx w M O Wb av ps nv tv uv kv names nums last) :
    Calls Tryz.prog 44 #[.pointer (some ⟨Wb, 0, none⟩)] w fun e w' => e = .returned (.bool true) ∧ ∃ q, w' = w.drewN q := by
  have c1 := h.c1
  have c2 := h.c2
  have c3 := h.c3
  have c4 := h.c4
  obtain ⟨na, nc, rfl, hn1, hn2, hn3, hn4⟩ := owns_form h.nrow
  obtain ⟨sa, sc, rfl, hs1, hs2, hs3, hs4⟩ := owns_form h.trow
  obtain ⟨ua, uc, rfl, hu1, hu2, hu3, hu4⟩ := owns_form h.urow
  obtain ⟨ka, kc, rfl, hk1, hk2, hk3, hk4⟩ := owns_form h.krow
  have HN := hide0 h.nl
  have HU := hide0 h.ul
  clear h
  unfold maxLen at hn2 hs2 hu2 hk2
  go_enter Tryz.func44, Tryz.ntmps44
  go_wp2
  go_loopw [3] (fun i wr => ∃ k q : Nat, k ≤ names.length ∧ i = .int .i64 k ∧ wr = w.drewN q) (fun i _ => names.length - (intOf i).toNat)
  case atStart => exact ⟨0, 0, Nat.zero_le _, rfl, rfl⟩
  case round =>
    obtain ⟨k, q, hk, rfl, rfl⟩ := hrel
    by_cases hlt : k < names.length
    · cases na with
      | none => have := (hn3 rfl).1; omega
      | some ad =>
      cases sa with
      | none => have := (hs3 rfl).1; omega
      | some ad2 =>
        obtain ⟨g, rfl, _, hg, _, hcell⟩ := hn4 ad rfl
        obtain ⟨g2, rfl, _, hg2, _, hcell2⟩ := hs4 ad2 rfl
        have d1 : w.cell? ⟨g, k, none⟩ = some (names[k]'hlt).1 := hcell k _ (by simp [hlt])
        have d2 : w.cell? ⟨g2, k, none⟩ = some (.string ⟨(names[k]'hlt).2.toArray⟩) := hcell2 k _ (by simp [hlt, S])
        obtain ⟨n, la, lc, hlv, hl1, hl2, hl3⟩ := HN.out _ (List.getElem_mem hlt)
        rw [hlv] at d1
        generalize (names[k]'hlt).2 = m at *
        unfold maxLen at hl2
        clear hcell hcell2 hlv
        go_wp2
        go_loopw [4] (fun i wr => ∃ j q : Nat, j ≤ n ∧ i = .int .i64 j ∧ wr = w.drewN q) (fun i _ => n - (intOf i).toNat)
        case atStart => exact ⟨0, q, Nat.zero_le _, rfl, rfl⟩
        case round =>
          obtain ⟨j, q, hj, rfl, rfl⟩ := hrel
          by_cases hjl : j < n
          · obtain ⟨b, off, rfl, _, _, hc⟩ := hl3 (by omega)
            have d3 : w.cell? ⟨b, off + j, none⟩ = some (.string ⟨m.toArray⟩) := hc j _ (by simp [hjl, S])
            clear hc
            go_wp2
            go_quiet (fail)
            go_wp2
            go_roundw
            case rel => exact ⟨j + 1, _, by omega, by go_num, rfl⟩
            case measure => simp [intOf]; omega
          · go_wp2
            go_roundw
            case rel => exact ⟨k + 1, q, by omega, by go_num, rfl⟩
            case measure => simp [intOf]; omega
    · go_wp2
      go_loopw [5] (fun i wr => ∃ k q : Nat, k ≤ nums.length ∧ i = .int .i64 k ∧ wr = w.drewN q) (fun i _ => nums.length - (intOf i).toNat)
      case atStart => exact ⟨0, q, Nat.zero_le _, rfl, rfl⟩
      case round =>
        obtain ⟨k, q, hk, rfl, rfl⟩ := hrel
        by_cases hlt : k < nums.length
        · cases ua with
          | none => have := (hu3 rfl).1; omega
          | some ad =>
          cases ka with
          | none => have := (hk3 rfl).1; omega
          | some ad2 =>
            obtain ⟨g, rfl, _, hg, _, hcell⟩ := hu4 ad rfl
            obtain ⟨g2, rfl, _, hg2, _, hcell2⟩ := hk4 ad2 rfl
            have d1 : w.cell? ⟨g, k, none⟩ = some (nums[k]'hlt).1 := hcell k _ (by simp [hlt])
            have d2 : w.cell? ⟨g2, k, none⟩ = some (.int .i64 (nums[k]'hlt).2) := hcell2 k _ (by simp [hlt])
            obtain ⟨n, la, lc, hlv, hl1, hl2, hl3⟩ := HU.out _ (List.getElem_mem hlt)
            rw [hlv] at d1
            generalize (nums[k]'hlt).2 = m at *
            unfold maxLen at hl2
            clear hcell hcell2 hlv hu4 hk4 hn4 hs4
            go_wp2
            go_loopw [6] (fun i wr => ∃ j q : Nat, j ≤ n ∧ i = .int .i64 j ∧ wr = w.drewN q) (fun i _ => n - (intOf i).toNat)
            case atStart => exact ⟨0, q, Nat.zero_le _, rfl, rfl⟩
            case round =>
              obtain ⟨j, q, hj, rfl, rfl⟩ := hrel
              by_cases hjl : j < n
              · obtain ⟨b, off, rfl, _, _, hc⟩ := hl3 (by omega)
                have d3 : w.cell? ⟨b, off + j, none⟩ = some (.int .i64 m) := hc j _ (by simp [hjl])
                clear hc
                go_wp2
                go_quiet (fail)
                go_wp2
                go_roundw
                case rel => exact ⟨j + 1, _, by omega, by go_num, rfl⟩
                case measure => simp [intOf]; omega
              · go_wp2
                go_roundw
                case rel => exact ⟨k + 1, q, by omega, by go_num, rfl⟩
                case measure => simp [intOf]; omega
        · go_wp2
          go_ret
          exact ⟨rfl, _, rfl⟩
end Go.Proofs.YtolgebdmffcemaaGreatDoor
namespace Go.Proofs.YtolgebdmffcemaaGreatDoor
open Go.RowKit
/-- a step's seven cells -/
def opC (k wi n m : Int) (s t u : List UInt8) : Array Value := #[.int .i64 k, .int .i64 wi, .int .i64 n, .int .i64 m, .string ⟨s.toArray⟩, .string ⟨t.toArray⟩, .string ⟨u.toArray⟩]
/-- both stores of each pair hold the same; their packs are not too long -/
def Agree (K : Nat) (L : List SP) : Prop := ∀ (j : Nat) (h : j < L.length), L[j].sx = L[j].sy ∧ L[j].sy.packed.length ≤ K
/-- what a call of the statement's does: all memory stands as the document asks -/
def Goes (w w' : World) (h0 Wb : Nat) (len nm la K : Nat) : Prop := ∃ O L' names nums last, LW w' h0 Wb O L' names nums last ∧ L'.length = len ∧ Agree K L' ∧ names.length ≤ nm ∧ last ≤ la ∧ Below h0 w w'
theorem change_packed (st : R.St) (kind : Int) (branch path : List UInt8) (n : Int) (text : List UInt8) : (R.change st kind branch path n text).2.packed = st.packed := by
  unfold R.change
  split
  · rfl
  · split
    · rfl
    · split
      · rfl
      · rfl
theorem rec_len (c : UInt8) (b : List UInt8) : (R.record c b).length = b.length + 4 := by simp [R.record, R.recHead]
theorem made_packed (st : R.St) (name fr : List UInt8) (fork : Bool) : (R.made st name fr fork).2.packed.length ≤ st.packed.length + 20 := by
  unfold R.made
  split
  · simp
  · rename_i hn
    have hl : name.length ≤ 8 := isName_len name (by simpa using hn)
    split
    · simp
    · split
      · simp
      · split
        · simp
        · simp only [R.headNew, List.length_append, rec_len, List.length_cons]; omega
theorem dropped_packed (st : R.St) (h : Inv st) (name : List UInt8) : (R.dropped st name).2.packed.length ≤ st.packed.length + 20 := by
  unfold R.dropped
  split
  · simp
  · rename_i hf
    have hl : name.length ≤ 8 := by
      have hlt : R.fnd st.brs name < st.brs.length := by
        rcases R.fndI_cases st.brs name with e | e
        · rw [e.1] at hf; omega
        · exact e.2
      have := h.names _ (List.getElem_mem hlt)
      rw [R.fnd_name _ _ hlt] at this
      exact isName_len name this
    simp only [List.length_append, rec_len]; omega
theorem agree_both {K K' : Nat} {L L1 L2 : List SP} {i : Nat} {st : R.St} (hA : Agree K L) (hK : K ≤ K') (hi : i < L.length) (l1 : L1.length = L.length) (l2 : L2.length = L1.length) (x1 : ∃ h1 : i < L1.length, L1[i].sx = st) (o1 : ∀ (j : Nat) (hj : j < L.length) (hj1 : j < L1.length), j ≠ i → L1[j] = L[j])
    (x2 : ∃ h2 : i < L2.length, L2[i].sy = st ∧ ∃ h1 : i < L1.length, L2[i].sx = L1[i].sx) (o2 : ∀ (j : Nat) (hj : j < L1.length) (hj1 : j < L2.length), j ≠ i → L2[j] = L1[j]) (hp : st.packed.length ≤ K') : Agree K' L2 := by
  intro j hj
  by_cases e : j = i
  · subst e
    obtain ⟨_, e1⟩ := x1
    obtain ⟨_, e2, _, e3⟩ := x2
    rw [e3, e2, e1]
    exact ⟨rfl, hp⟩
  · rw [o2 j (by omega) hj e, o1 j (by omega) (by omega) e]
    have := hA j (by omega)
    exact ⟨this.1, by omega⟩
end Go.Proofs.YtolgebdmffcemaaGreatDoor
namespace Go.Proofs.YtolgebdmffcemaaGreatDoor
open Go.RowKit
theorem ptrs_take (L : List BrP) (k : Nat) : ptrs (L.take k) = (ptrs L).take k := by simp [ptrs, List.map_take]
theorem ptrs_drop (L : List BrP) (k : Nat) : ptrs (L.drop k) = (ptrs L).drop k := by simp [ptrs, List.map_drop]
/-- the branches of a store are others: a new row in its place -/
theorem newRow_PSx {w w5 : World} {M O : Nat → Prop} {B : Nat} {st st' : R.St} {bv cv : Value} {LB LB' : List BrP} {LCm : List (R.Cm × Value × Value)} (hP : PSx w M O B st bv cv LB LCm) {v3 : Value} (hK : Kept (fun b => bv.ownBlock = some b) w w5)
    (hrow : w5.ownsRow 0 88 1 v3 LB'.length (ptrs LB')) (hv3 : ∀ g, v3.ownBlock = some g → bv.ownBlock = some g ∨ w.heap.size ≤ g)
    (hold : ∀ p ∈ LB', p ∈ LB ∨ (w.heap.size ≤ p.2.1 ∧ p.2.1 < w5.heap.size ∧ (PT w M p.2.2 p.1.work ∧ BrAt w5 (fun _ => False) p) ∧ v3.ownBlock ≠ some p.2.1)) (hdist : (LB'.map (·.2.1)).Nodup) (hbrs : LB'.map (·.1) = st'.brs) (hcms : st'.cms = st.cms) (hpkd : st'.packed = st.packed) :
    ∃ O', PSx (w5.setCell ⟨B, 0, none⟩ v3) (fun b => M b ∨ O' b) O' B st' v3 cv LB' LCm ∧ Kept O w (w5.setCell ⟨B, 0, none⟩ v3) ∧ (∀ b, O' b → O b ∨ w.heap.size ≤ b) := by
  have hB := hP.lt B hP.own
  have hBn : bv.ownBlock ≠ some B := fun e => (hP.rowO B e).2 rfl
  have hZM : ∀ b, (bv.ownBlock = some b ∨ b = B) → M b := by
    rintro b (e | rfl)
    · exact hP.sub b (hP.rowO b e).1
    · exact hP.sub _ hP.own
  have hK6 : Kept (fun b => bv.ownBlock = some b ∨ b = B) w (w5.setCell ⟨B, 0, none⟩ v3) := (hK.mono (fun b e => .inl e)).setCell (p := ⟨B, 0, none⟩) (.inl (.inr rfl)) v3
  have hK56 : Kept (fun b => b = B) w5 (w5.setCell ⟨B, 0, none⟩ v3) := (Kept.refl (fun b => b = B) w5).setCell (p := ⟨B, 0, none⟩) (.inl rfl) v3
  have hc5 : w5.cell? ⟨B, 0, none⟩ = some bv := by rw [hK.cell (p := ⟨B, 0, none⟩) hB hBn]; exact hP.c0
  have hv3B : v3.ownBlock ≠ some B := fun e => by
    rcases hv3 B e with e | e
    · exact hBn e
    · omega
  have hMM : ∀ O' : Nat → Prop, (∀ b, O' b → O b ∨ w.heap.size ≤ b) → ∀ b, (M b ∨ O' b) → M b ∨ w.heap.size ≤ b := fun O' h b e => by
    rcases e with e | e
    · exact .inl e
    · rcases h b e with e | e
      · exact .inl (hP.sub b e)
      · exact .inr e
  refine ⟨fun b => O b ∨ v3.ownBlock = some b ∨ ∃ p ∈ LB', p.2.1 = b, ?_, hK6.mono (fun b e => by
    rcases e with e | rfl
    · exact (hP.rowO b e).1
    · exact hP.own), fun b e => by
    rcases e with e | e | ⟨p, hp, rfl⟩
    · exact .inl e
    · rcases hv3 b e with e | e
      · exact .inl (hP.rowO b e).1
      · exact .inr e
    · rcases hold p hp with h | h
      · exact .inl (hP.blk p h).1
      · exact .inr h.1⟩
  have hO' : ∀ b, (O b ∨ v3.ownBlock = some b ∨ ∃ p ∈ LB', p.2.1 = b) → O b ∨ w.heap.size ≤ b := fun b e => by
    rcases e with e | e | ⟨p, hp, rfl⟩
    · exact .inl e
    · rcases hv3 b e with e | e
      · exact .inl (hP.rowO b e).1
      · exact .inr e
    · rcases hold p hp with h | h
      · exact .inl (hP.blk p h).1
      · exact .inr h.1
  have hs5 : w.heap.size ≤ w5.heap.size := hK.size
  refine ⟨fun b e => .inr e, fun b e => ?_, .inl hP.own, sc_same _ _ _ _ _ hc5, ?_, fun o => ?_, hbrs, ownsRow_kept hrow hK56 (fun g e e2 => hv3B (by rw [e, e2])), fun g e => ⟨.inr (.inl e), fun e2 => hv3B (by rw [e, e2])⟩, ?_, ?_, hdist, by rw [hcms]; exact hP.cms, ?_, ?_, ?_, ?_, ?_⟩
  · have : b < w5.heap.size := by
      rcases e with e | e | ⟨p, hp, rfl⟩
      · have := hP.lt b e; omega
      · exact (hrow.lt b e).2
      · rcases hold p hp with h | h
        · have := hP.lt _ (hP.blk p h).1; omega
        · exact h.2.1
    exact Nat.lt_of_lt_of_le this hK56.size
  · rw [sc_other _ _ _ _ _ (by omega), hK.cell (p := ⟨B, 1, none⟩) hB hBn]; exact hP.c1
  · have := (Kept.refl (fun b => b = B) w5).setCell (p := ⟨B, 0, none⟩) (.inl rfl) v3
    rw [World.frozen?_setCell, hK.frozen (p := ⟨B, o, none⟩) hB hBn]; exact hP.fr o
  · intro p hp
    rcases hold p hp with h | h
    · exact (hP.at_ p h).kept hK6 (hP.lt _ (hP.blk p h).1) (fun e => by
        rcases e with e | e
        · exact (hP.blk p h).2.2.1 e
        · exact (hP.blk p h).2.1 e) hZM (hMM _ hO')
    · have hat := h.2.2.1.2
      have hpB : ¬ p.2.1 = B := by have := h.1; omega
      exact ⟨by rw [hK56.cell (p := ⟨p.2.1, 0, none⟩) h.2.1 hpB]; exact hat.c0, by rw [hK56.cell (p := ⟨p.2.1, 1, none⟩) h.2.1 hpB]; exact hat.c1, by rw [hK56.cell (p := ⟨p.2.1, 2, none⟩) h.2.1 hpB]; exact hat.c2,
        fun o => by rw [hK56.frozen (p := ⟨p.2.1, o, none⟩) h.2.1 hpB]; exact hat.fr o, h.2.2.1.1.step hK6 hZM (hMM _ hO')⟩
  · intro p hp
    refine ⟨.inr (.inr ⟨p, hp, rfl⟩), ?_⟩
    rcases hold p hp with h | h
    · refine ⟨(hP.blk p h).2.1, fun e => ?_, (hP.blk p h).2.2.2⟩
      rcases hv3 _ e with e | e
      · exact (hP.blk p h).2.2.1 e
      · have := hP.lt _ (hP.blk p h).1; omega
    · exact ⟨by omega, h.2.2.2, fun e => by have := hP.lt _ (hP.crowO _ e).1; omega⟩
  · exact ownsRow_kept hP.crow hK6 (fun g e e2 => by
      rcases e2 with e2 | e2
      · exact (hP.crowO g e).2.2 e2
      · exact (hP.crowO g e).2.1 e2)
  · intro g e
    refine ⟨.inl (hP.crowO g e).1, (hP.crowO g e).2.1, fun e2 => ?_⟩
    rcases hv3 g e2 with e2 | e2
    · exact (hP.crowO g e).2.2 e2
    · have := hP.lt _ (hP.crowO g e).1; omega
  · exact fun p hp => (hP.ctree p hp).step hK6 hZM (hMM _ hO')
  · exact fun p hp => (hP.cpar p hp).step hK6 hZM (hMM _ hO')
  · rw [hpkd]
    obtain ⟨pv, hpk⟩ := hP.pk
    have hZ : ∀ g, pv.ownBlock = some g → ¬ (bv.ownBlock = some g ∨ g = B) := fun g e e2 => by
      rcases e2 with e2 | e2
      · exact (hpk.rowO g e).2.2.1 e2
      · exact (hpk.rowO g e).2.1 e2
    refine ⟨pv, ?_, ownsRow_kept hpk.row hK6 hZ, fun g e => ?_⟩
    · rw [sc_other _ _ _ _ _ (by omega), hK.cell (p := ⟨B, 2, none⟩) hB hBn]; exact hpk.c2
    · have hg := hpk.rowO g e
      have hgl := hP.lt g hg.1
      refine ⟨.inl hg.1, hg.2.1, fun e2 => ?_, hg.2.2.2.1, fun p hp => ?_⟩
      · rcases hv3 g e2 with e2 | e2
        · exact hg.2.2.1 e2
        · omega
      · rcases hold p hp with h | h
        · exact hg.2.2.2.2 p h
        · have := h.1; omega
/-- one branch more -/
theorem insB_PSx {w w5 : World} {M O : Nat → Prop} {B : Nat} {st st' : R.St} {bv cv : Value} {LB : List BrP} {LCm : List (R.Cm × Value × Value)} (hP : PSx w M O B st bv cv LB LCm) {v3 : Value} (hK : Kept (fun b => bv.ownBlock = some b) w w5) (nb : BrP)
    (hrow : w5.ownsRow 0 88 1 v3 (LB.length + 1) ((ptrs LB).take (R.pos st.brs nb.1.name) ++ (Value.pointer (some ⟨nb.2.1, 0, none⟩) :: (ptrs LB).drop (R.pos st.brs nb.1.name)))) (hv3 : ∀ g, v3.ownBlock = some g → bv.ownBlock = some g ∨ w.heap.size ≤ g)
    (hnb : w.heap.size ≤ nb.2.1 ∧ nb.2.1 < w5.heap.size ∧ (PT w M nb.2.2 nb.1.work ∧ BrAt w5 (fun _ => False) nb) ∧ v3.ownBlock ≠ some nb.2.1) (hbrs : st'.brs = R.insB st.brs nb.1) (hcms : st'.cms = st.cms) (hpkd : st'.packed = st.packed) :
    ∃ O', PSx (w5.setCell ⟨B, 0, none⟩ v3) (fun b => M b ∨ O' b) O' B st' v3 cv (LB.take (R.pos st.brs nb.1.name) ++ nb :: LB.drop (R.pos st.brs nb.1.name)) LCm ∧ Kept O w (w5.setCell ⟨B, 0, none⟩ v3) ∧ (∀ b, O' b → O b ∨ w.heap.size ≤ b) := by
  have hlen : st.brs.length = LB.length := by rw [← hP.brs, List.length_map]
  have hple : R.pos st.brs nb.1.name ≤ LB.length := by rw [← hlen]; exact List.findIdx_le_length
  generalize hp : R.pos st.brs nb.1.name = p at *
  refine newRow_PSx hP hK (LB' := LB.take p ++ nb :: LB.drop p) ?_ hv3 ?_ ?_ ?_ hcms hpkd
  · have e1 : (LB.take p ++ nb :: LB.drop p).length = LB.length + 1 := by simp only [List.length_append, List.length_take, List.length_cons, List.length_drop]; omega
    have e2 : ptrs (LB.take p ++ nb :: LB.drop p) = (ptrs LB).take p ++ (Value.pointer (some ⟨nb.2.1, 0, none⟩) :: (ptrs LB).drop p) := by simp [ptrs, List.map_take, List.map_drop]
    rw [e1, e2]; exact hrow
  · intro q hq
    rcases List.mem_append.1 hq with h | h
    · exact .inl (List.mem_of_mem_take h)
    · rcases List.mem_cons.1 h with rfl | h
      · exact .inr hnb
      · exact .inl (List.mem_of_mem_drop h)
  · have hperm : (LB.take p ++ nb :: LB.drop p).Perm (nb :: LB) := by
      have := List.perm_middle (l₁ := LB.take p) (a := nb) (l₂ := LB.drop p)
      rwa [List.take_append_drop] at this
    rw [(hperm.map (fun q : BrP => q.2.1)).nodup_iff, List.map_cons, List.nodup_cons]
    refine ⟨fun hm => ?_, hP.dist⟩
    obtain ⟨q, hq, e⟩ := List.mem_map.1 hm
    have := hP.lt _ (hP.blk q hq).1
    have := hnb.1
    omega
  · rw [hbrs, R.insB, hp, ← hP.brs]; simp [List.map_take, List.map_drop]
/-- one branch less -/
theorem delB_PSx {w w5 : World} {M O : Nat → Prop} {B : Nat} {st st' : R.St} {bv cv : Value} {LB : List BrP} {LCm : List (R.Cm × Value × Value)} (hP : PSx w M O B st bv cv LB LCm) {v3 : Value} (hK : Kept (fun b => bv.ownBlock = some b) w w5) {p : Nat} (hp : p < LB.length)
    (hrow : w5.ownsRow 0 88 1 v3 (LB.length - 1) ((ptrs LB).take p ++ (ptrs LB).drop (p + 1))) (hv3 : ∀ g, v3.ownBlock = some g → bv.ownBlock = some g ∨ w.heap.size ≤ g)
    (hbrs : st'.brs = st.brs.take p ++ st.brs.drop (p + 1)) (hcms : st'.cms = st.cms) (hpkd : st'.packed = st.packed) :
    ∃ O', PSx (w5.setCell ⟨B, 0, none⟩ v3) (fun b => M b ∨ O' b) O' B st' v3 cv (LB.take p ++ LB.drop (p + 1)) LCm ∧ Kept O w (w5.setCell ⟨B, 0, none⟩ v3) ∧ (∀ b, O' b → O b ∨ w.heap.size ≤ b) := by
  have hsub : (LB.take p ++ LB.drop (p + 1)).Sublist LB := by
    have h1 : (LB.drop (p + 1)).Sublist (LB.drop p) := by rw [← List.drop_drop]; exact List.drop_sublist _ _
    have := List.Sublist.append (List.Sublist.refl (LB.take p)) h1
    rwa [List.take_append_drop] at this
  refine newRow_PSx hP hK (LB' := LB.take p ++ LB.drop (p + 1)) ?_ hv3 (fun q hq => .inl (hsub.subset hq)) ((hsub.map _).nodup hP.dist) ?_ hcms hpkd
  · have e1 : (LB.take p ++ LB.drop (p + 1)).length = LB.length - 1 := by simp only [List.length_append, List.length_take, List.length_drop]; omega
    have e2 : ptrs (LB.take p ++ LB.drop (p + 1)) = (ptrs LB).take p ++ (ptrs LB).drop (p + 1) := by simp [ptrs, List.map_take, List.map_drop]
    rw [e1, e2]; exact hrow
  · rw [hbrs, ← hP.brs]; simp [List.map_take, List.map_drop]
/-- another branch in a branch's place: the same name, maybe another head and another tree at work on -/
theorem setBr_PSx {w w5 w6 : World} {M O : Nat → Prop} {B : Nat} {st : R.St} {bv cv : Value} {LB : List BrP} {LCm : List (R.Cm × Value × Value)} (hP : PSx w M O B st bv cv LB LCm) {i : Nat} (hi : i < LB.length) {tv : Value} {nb : R.Br} (hb5 : Below w.heap.size w w5)
    (hK5 : Kept (fun b => b = (LB[i]'hi).2.1) w5 w6) (hat : BrAt w6 M (nb, (LB[i]'hi).2.1, tv)) :
    PSx w6 M O B { st with brs := st.brs.set i nb } bv cv (LB.set i (nb, (LB[i]'hi).2.1, tv)) LCm ∧ Kept O w w6 := by
  have hP5 := hP.below hb5
  have hmem : LB[i]'hi ∈ LB := List.getElem_mem hi
  obtain ⟨hO, hnB, hnr, hnc⟩ := hP.blk _ hmem
  have hlt5 := hP5.lt _ hO
  generalize hx : LB[i]'hi = x at *
  have hZM : ∀ b, b = x.2.1 → M b := fun b e => by subst e; exact hP.sub _ hO
  have hMM : ∀ b, M b → M b ∨ w5.heap.size ≤ b := fun b e => .inl e
  refine ⟨?_, ((Kept.of_below hb5).mono (M := fun _ => False) (fun _ e => e.elim)).trans (hK5.mono (fun b e => by subst e; exact hO))⟩
  have hmap1 : (LB.set i (nb, x.2.1, tv)).map (·.2.1) = LB.map (·.2.1) := by
    rw [List.map_set]
    apply List.ext_getElem?
    intro j
    rw [List.getElem?_set]
    split
    · rename_i e; subst e; simp [hi, hx]
    · rfl
  have hptr : ptrs (LB.set i (nb, x.2.1, tv)) = ptrs LB := by
    have := congrArg (List.map fun b : Nat => Value.pointer (some ⟨b, 0, none⟩)) hmap1
    simpa [ptrs, List.map_map, Function.comp_def] using this
  have hset : ∀ p ∈ LB.set i (nb, x.2.1, tv), p = (nb, x.2.1, tv) ∨ (p ∈ LB ∧ p.2.1 ≠ x.2.1) := by
    intro p hp
    obtain ⟨j, hj, rfl⟩ := List.getElem_of_mem hp
    rw [List.getElem_set]
    split
    · exact .inl rfl
    · rename_i hij
      have hj' : j < LB.length := by simpa using hj
      refine .inr ⟨List.getElem_mem _, fun e => hij ?_⟩
      have hd := hP.dist
      unfold List.Nodup at hd
      rw [List.pairwise_iff_getElem] at hd
      rcases Nat.lt_trichotomy i j with h | h | h
      · exact (hd i j (by simpa using hi) (by simpa using hj') h (by rw [List.getElem_map, List.getElem_map, hx]; exact e.symm)).elim
      · exact h
      · exact (hd j i (by simpa using hj') (by simpa using hi) h (by rw [List.getElem_map, List.getElem_map, hx]; exact e)).elim
  refine ⟨hP.sub, fun b e => Nat.lt_of_lt_of_le (hP5.lt b e) hK5.size, hP.own, ?_, ?_, fun o => ?_, ?_, ?_, hP.rowO, ?_, ?_, by rw [hmap1]; exact hP.dist, hP.cms, ?_, hP.crowO, ?_, ?_, ?_⟩
  · rw [hK5.cell (p := ⟨B, 0, none⟩) (hP5.lt B hP.own) (fun e => hnB e.symm)]; exact hP5.c0
  · rw [hK5.cell (p := ⟨B, 1, none⟩) (hP5.lt B hP.own) (fun e => hnB e.symm)]; exact hP5.c1
  · rw [hK5.frozen (p := ⟨B, o, none⟩) (hP5.lt B hP.own) (fun e => hnB e.symm)]; exact hP5.fr o
  · rw [List.map_set, hP.brs]
  · rw [List.length_set, hptr]
    exact ownsRow_kept hP5.row hK5 (fun g e e2 => hnr (by rw [e, e2]))
  · intro p hp
    rcases hset p hp with rfl | ⟨hp, hpn⟩
    · exact hat
    · exact (hP5.at_ p hp).kept hK5 (hP5.lt _ (hP.blk p hp).1) hpn hZM hMM
  · intro p hp
    rcases hset p hp with rfl | ⟨hp, _⟩
    · exact ⟨hO, hnB, hnr, hnc⟩
    · exact hP.blk p hp
  · exact ownsRow_kept hP5.crow hK5 (fun g e e2 => hnc (by rw [e, e2]))
  · exact fun p hp => (hP5.ctree p hp).step hK5 hZM hMM
  · exact fun p hp => (hP5.cpar p hp).step hK5 hZM hMM
  · obtain ⟨pv, hpk⟩ := hP5.pk
    refine ⟨pv, ?_, ownsRow_kept hpk.row hK5 (fun g e e2 => (hpk.rowO g e).2.2.2.2 x (by rw [← hx]; exact List.getElem_mem hi) e2.symm), fun g e => ?_⟩
    · rw [hK5.cell (p := ⟨B, 2, none⟩) (hP5.lt B hP.own) (fun e => hnB e.symm)]; exact hpk.c2
    · have hg := hpk.rowO g e
      refine ⟨hg.1, hg.2.1, hg.2.2.1, hg.2.2.2.1, fun p hp => ?_⟩
      rcases hset p hp with rfl | ⟨hp, _⟩
      · exact hg.2.2.2.2 x (by rw [← hx]; exact List.getElem_mem hi)
      · exact hg.2.2.2.2 p hp
/-- what is explicit is a step -/
theorem PSx.toStep {w w' : World} {M O O' : Nat → Prop} {B : Nat} {st' : R.St} {bv cv : Value} {LB : List BrP} {LCm : List (R.Cm × Value × Value)} (h : PSx w' (fun b => M b ∨ O' b) O' B st' bv cv LB LCm) (hk : Kept O w w') (hO : ∀ b, O' b → O b ∨ w.heap.size ≤ b) : PStep w w' M O B st' := ⟨O', ⟨bv, cv, LB, LCm, h⟩, hk, hO⟩
theorem PSx.widen {w : World} {M O : Nat → Prop} {B : Nat} {st : R.St} {bv cv : Value} {LB : List BrP} {LCm : List (R.Cm × Value × Value)} (h : PSx w M O B st bv cv LB LCm) : PSx w (fun b => M b ∨ O b) O B st bv cv LB LCm :=
  h.kept (Kept.refl (fun _ => False) _) (fun _ e => e.elim) (fun b e => by rcases e with e | e; exact .inl e; exact .inl (h.sub b e)) (fun b e => .inr e)
/-- another tree at work on -/
theorem setWork_PS {w w5 : World} {M O : Nat → Prop} {B : Nat} {st : R.St} {bv cv : Value} {LB : List BrP} {LCm : List (R.Cm × Value × Value)} (hP : PSx w M O B st bv cv LB LCm) {i : Nat} (hi : i < LB.length) {tv : Value} {t : List R.Leaf} (hb5 : Below w.heap.size w w5) (htr : PT w5 M tv t) :
    PStep w (w5.setCell ⟨(LB[i]'hi).2.1, 2, none⟩ tv) M O B (R.setWork st i t) := by
  have hat := (hP.below hb5).at_ _ (List.getElem_mem hi)
  have hO := (hP.blk _ (List.getElem_mem hi)).1
  have hK5 : Kept (fun b => b = (LB[i]'hi).2.1) w5 (w5.setCell ⟨(LB[i]'hi).2.1, 2, none⟩ tv) := (Kept.refl (fun b => b = (LB[i]'hi).2.1) w5).setCell (p := ⟨(LB[i]'hi).2.1, 2, none⟩) (.inl rfl) tv
  obtain ⟨h1, h2⟩ := setBr_PSx (nb := { (LB[i]'hi).1 with work := t }) (tv := tv) hP hi hb5 hK5 ⟨by rw [sc_other _ _ _ _ _ (by omega)]; exact hat.c0, by rw [sc_other _ _ _ _ _ (by omega)]; exact hat.c1, sc_same _ _ _ _ _ hat.c2, fun o => by rw [World.frozen?_setCell]; exact hat.fr o,
    htr.step hK5 (fun b e => by subst e; exact hP.sub _ hO) (fun b e => .inl e)⟩
  have he : R.setWork st i t = { st with brs := st.brs.set i { (LB[i]'hi).1 with work := t } } := by
    have hbi : st.brs[i]? = some (LB[i]'hi).1 := by rw [← hP.brs, List.getElem?_map, List.getElem?_eq_getElem hi]; rfl
    unfold R.setWork
    rw [hbi]
  rw [he]
  exact h1.widen.toStep h2 (fun b e => .inl e)
/-- the pack has become longer -/
theorem setPk_PS {w w5 : World} {M O : Nat → Prop} {B : Nat} {st : R.St} {bv cv pv : Value} {LB : List BrP} {LCm : List (R.Cm × Value × Value)} (hP : PSx w M O B st bv cv LB LCm) (hpk : PkAt w O B st.packed bv cv LB pv) {v3 : Value} {pk : List UInt8} (hK : Kept (fun b => pv.ownBlock = some b) w w5)
    (hrow : w5.ownsRow 0 5 1 v3 pk.length (Lib.byteCells pk)) (hv3 : ∀ g, v3.ownBlock = some g → pv.ownBlock = some g ∨ w.heap.size ≤ g) :
    PStep w (w5.setCell ⟨B, 2, none⟩ v3) M O B { st with packed := pk } := by
  have hB := hP.lt B hP.own
  have hBn : pv.ownBlock ≠ some B := fun e => (hpk.rowO B e).2.1 rfl
  have hK6 : Kept (fun b => pv.ownBlock = some b ∨ b = B) w (w5.setCell ⟨B, 2, none⟩ v3) := (hK.mono (fun b e => .inl e)).setCell (p := ⟨B, 2, none⟩) (.inl (.inr rfl)) v3
  have hK56 : Kept (fun b => b = B) w5 (w5.setCell ⟨B, 2, none⟩ v3) := (Kept.refl (fun b => b = B) w5).setCell (p := ⟨B, 2, none⟩) (.inl rfl) v3
  have hZM : ∀ b, (pv.ownBlock = some b ∨ b = B) → M b := by
    rintro b (e | rfl)
    · exact hP.sub b (hpk.rowO b e).1
    · exact hP.sub _ hP.own
  have hv3B : v3.ownBlock ≠ some B := fun e => by
    rcases hv3 B e with e | e
    · exact hBn e
    · omega
  have hO' : ∀ b, (O b ∨ v3.ownBlock = some b) → O b ∨ w.heap.size ≤ b := fun b e => by
    rcases e with e | e
    · exact .inl e
    · rcases hv3 b e with e | e
      · exact .inl (hpk.rowO b e).1
      · exact .inr e
  have hMM : ∀ b, (M b ∨ (O b ∨ v3.ownBlock = some b)) → M b ∨ w.heap.size ≤ b := fun b e => by
    rcases e with e | e
    · exact .inl e
    · rcases hO' b e with e | e
      · exact .inl (hP.sub b e)
      · exact .inr e
  have hs5 : w.heap.size ≤ w5.heap.size := hK.size
  refine ⟨fun b => O b ∨ v3.ownBlock = some b, ⟨bv, cv, LB, LCm, fun b e => .inr e, fun b e => ?_, .inl hP.own, ?_, ?_, fun o => ?_, hP.brs, ?_, fun g e => ⟨.inl (hP.rowO g e).1, (hP.rowO g e).2⟩, ?_, fun p hp => ⟨.inl (hP.blk p hp).1, (hP.blk p hp).2⟩, hP.dist, hP.cms, ?_, fun g e => ⟨.inl (hP.crowO g e).1, (hP.crowO g e).2⟩, ?_, ?_, v3, ?_, ?_, ?_⟩, hK6.mono (fun b e => by
    rcases e with e | rfl
    · exact (hpk.rowO b e).1
    · exact hP.own), hO'⟩
  · have : b < w5.heap.size := by
      rcases e with e | e
      · have := hP.lt b e; omega
      · exact (hrow.lt b e).2
    exact Nat.lt_of_lt_of_le this hK56.size
  · rw [sc_other _ _ _ _ _ (by omega), hK.cell (p := ⟨B, 0, none⟩) hB hBn]; exact hP.c0
  · rw [sc_other _ _ _ _ _ (by omega), hK.cell (p := ⟨B, 1, none⟩) hB hBn]; exact hP.c1
  · rw [World.frozen?_setCell, hK.frozen (p := ⟨B, o, none⟩) hB hBn]; exact hP.fr o
  · exact ownsRow_kept hP.row hK6 (fun g e e2 => by
      rcases e2 with e2 | e2
      · exact (hpk.rowO g e2).2.2.1 e
      · exact (hP.rowO g e).2 e2)
  · exact fun p hp => (hP.at_ p hp).kept hK6 (hP.lt _ (hP.blk p hp).1) (fun e => by
      rcases e with e | e
      · exact (hpk.rowO _ e).2.2.2.2 p hp rfl
      · exact (hP.blk p hp).2.1 e) hZM hMM
  · exact ownsRow_kept hP.crow hK6 (fun g e e2 => by
      rcases e2 with e2 | e2
      · exact (hpk.rowO g e2).2.2.2.1 e
      · exact (hP.crowO g e).2.1 e2)
  · exact fun p hp => (hP.ctree p hp).step hK6 hZM hMM
  · exact fun p hp => (hP.cpar p hp).step hK6 hZM hMM
  · exact sc_same _ _ _ _ pv (by rw [hK.cell (p := ⟨B, 2, none⟩) hB hBn]; exact hpk.c2)
  · exact ownsRow_kept hrow hK56 (fun g e e2 => hv3B (by rw [e, e2]))
  · intro g e
    rcases hv3 g e with e2 | e2
    · have hg := hpk.rowO g e2
      exact ⟨.inr e, hg.2.1, hg.2.2⟩
    · refine ⟨.inr e, by omega, fun e3 => ?_, fun e3 => ?_, fun p hp e3 => ?_⟩
      · have := hP.lt _ (hP.rowO _ e3).1; omega
      · have := hP.lt _ (hP.crowO _ e3).1; omega
      · have := hP.lt _ (hP.blk p hp).1; omega
end Go.Proofs.YtolgebdmffcemaaGreatDoor
