/-
  How a store of the document's answer (graftref) lies in memory: words for it.
  What functions of the document's answer (graftref) that read lists of strings give.
  What the document's answer (graftref) makes of a bag's items, and of a number's digits.
  What small functions of the document's answer (graftref) give, for every string.
  What the document's answer (graftref) says of paths: which is one, which is ahead of another one.
-/
import Derived.Test.YtolgebdmffcemaaGreatDoorPart01
import Derived.Deep.AppendSrc
import Derived.Deep.QuietTactic
import Derived.BigQuiet
import Derived.WalkSmall
import Derived.Lib.ItoaLen
import Derived.Lib.ItoaMem
set_option linter.unusedVariables false
namespace Go.Proofs.YtolgebdmffcemaaGreatDoor
open Go.RowKit
def cellsB (L : List (R.Br × Value)) : List Value := L.flatMap fun p => [.string ⟨p.1.name.toArray⟩, .int .i64 (p.1.head : Int), p.2]
def cellsC (L : List (R.Cm × Value × Value)) : List Value := L.flatMap fun p => [p.2.1, p.2.2]
/-- the store st lies at block B; the blocks that O names are its own to be written; M names all such blocks of all -/
structure RSx (w : World) (M O : Nat → Prop) (B : Nat) (st : R.St) (cv bv : Value) (LB : List (R.Br × Value)) (LCm : List (R.Cm × Value × Value)) : Prop where
  sub : ∀ b, O b → M b
  lt : ∀ b, O b → b < w.heap.size
  own : O B
  c0 : w.cell? ⟨B, 0, none⟩ = some cv
  c1 : w.cell? ⟨B, 1, none⟩ = some bv
  c2 : w.cell? ⟨B, 2, none⟩ = some (.string ⟨st.packed.toArray⟩)
  fr : ∀ o, w.frozen? ⟨B, o, none⟩ = false
  brs : LB.map (·.1) = st.brs
  row : w.ownsRow 0 87 3 bv LB.length (cellsB LB)
  rowO : ∀ g, bv.ownBlock = some g → O g ∧ g ≠ B
  work : ∀ p ∈ LB, Tr w M p.2 p.1.work
  cms : LCm.map (·.1) = st.cms
  crow : w.ownsRow 0 210 2 cv LCm.length (cellsC LCm)
  crowO : ∀ g, cv.ownBlock = some g → O g ∧ g ≠ B ∧ bv.ownBlock ≠ some g
  ctree : ∀ p ∈ LCm, Tr w M p.2.1 p.1.tree
  cpar : ∀ p ∈ LCm, Rd w M p.2.2 p.1.parents.length (p.1.parents.map fun (n : Nat) => Value.int .i64 (n : Int))
def RS (w : World) (M O : Nat → Prop) (B : Nat) (st : R.St) : Prop := ∃ cv bv LB LCm, RSx w M O B st cv bv LB LCm
theorem cellsB_length (L : List (R.Br × Value)) : (cellsB L).length = L.length * 3 := by
  unfold cellsB
  induction L with
  | nil => rfl
  | cons p r ih => rw [List.flatMap_cons, List.length_append, ih]; simp; omega
theorem cellsB_at : ∀ (L : List (R.Br × Value)) (i j : Nat) (h : i < L.length) (_ : j < 3), (cellsB L)[i * 3 + j]? = [Value.string ⟨(L[i]'h).1.name.toArray⟩, .int .i64 ((L[i]'h).1.head : Int), (L[i]'h).2][j]?
  | p :: r, 0, j, _, hj => by
    unfold cellsB
    rw [List.flatMap_cons, Nat.zero_mul, Nat.zero_add, List.getElem?_append_left (by simp; omega)]
    rfl
  | p :: r, i + 1, j, h, hj => by
    have ih := cellsB_at r i j (by simpa using h) hj
    unfold cellsB at ih ⊢
    rw [List.flatMap_cons, List.getElem?_append_right (by simp; omega)]
    rw [show (i + 1) * 3 + j - [Value.string ⟨p.1.name.toArray⟩, .int .i64 (p.1.head : Int), p.2].length = i * 3 + j from by simp; omega]
    simpa using ih
/-- a row of one's own, taken apart: nil and empty, or a block -/
theorem owns_form {w : World} {base : Nat} {e : TypeId} {size : Nat} {v : Value} {n : Nat} {xs : List Value} (h : w.ownsRow base e size v n xs) :
    ∃ a cap, v = .slice a n cap ∧ n ≤ cap ∧ cap ≤ maxLen ∧ (a = none → n = 0 ∧ cap = 0) ∧ ∀ ad, a = some ad → ∃ g, ad = ⟨g, 0, none⟩ ∧ base ≤ g ∧ g < w.heap.size ∧ (∀ o, w.frozen? ⟨g, o, none⟩ = false) ∧ (∀ j u, xs[j]? = some u → w.cell? ⟨g, j, none⟩ = some u) := by
  obtain ⟨h1, h2⟩ := h
  rcases h2 with ⟨rfl, rfl⟩ | ⟨g, cap, cur, rfl, hg, hh, hn, hcm, hs, ht⟩
  · exact ⟨none, 0, rfl, Nat.le_refl _, by unfold maxLen; omega, fun _ => ⟨rfl, rfl⟩, fun ad e => by cases e⟩
  · refine ⟨_, cap, rfl, hn, hcm, fun e => by (cases e), fun ad e => ?_⟩
    simp only [Option.some.injEq] at e
    subst e
    refine ⟨g, rfl, hg, (Array.getElem?_eq_some_iff.1 hh).1, fun o => ?_, fun j u hu => ?_⟩
    · simp [World.frozen?, hh]
    · simp only [World.cell?, hh]
      rw [← ht, List.getElem?_take] at hu
      split at hu
      · simpa using hu
      · cases hu
/-- a slice of whatever row appended to a row of the call's own -/
theorem wp_app_src {P : Program} (w : World) {ops : Array Oper} {rest : List Oper} {o : Oper} {a : Act} {Q : Exit → Act → World → Prop}
    (hg : o.guard = none) (s x : Operand) (t : TypeId) (hop : o.op = Op.call { callee := Callee.builtin Builtin.append, args := #[s, x], argTypes := #[t, t] })
    (base : Nat) (e : TypeId) (z : Value) (size bytes : Nat) (h1 : P.underlying t = some (.slice e)) (h2 : (P.info? e).map (fun i => (i.zero, i.size, i.bytes)) = some (some z, size, bytes)) (h6 : z.cells.size = size) (h7 : 0 < size)
    {v : Value} {n : Nat} {xs : List Value} (hown : w.ownsRow base e size v n xs) (ao : Option Addr) (m c : Nat) (news : List Value) (hn : news.length = m * size) (hnone : ao = none → m = 0 ∧ c = 0)
    (hc : ∀ ad, ao = some ad → ∀ j u, news[j]? = some u → w.cell? (ad.add j) = some u) (hs : a.eval s = v)
    (hx : a.eval x = .slice ao m c) (h1c : ∀ u ∈ news, u.oneCell' = true) (b1 : n + m ≤ maxLen) (b2 : (n + m) * bytes ≤ 140737488355328) (hB : base ≤ w.heap.size)
    (hK : ∀ v' w', w'.ownsRow base e size v' (n + m) (xs ++ news) → w.grownBy w' v.ownBlock → wpList P ops Q rest (a.put o.dst v') w') :
    wpList P ops Q (o :: rest) a w := by
  obtain ⟨i0, hi, hz0, hz1, hz2⟩ := info_parts h2
  cases ao with
  | some ad =>
    refine wpList_append_own _ hg s x t hop base e i0 z size bytes h1 hi hz0 hz1 hz2 h6 h7 v n xs hs hown ad m c news hx hn (hc ad rfl) h1c b1 b2 hB ?_
    intro v' w' ho hgr _
    exact hK v' w' ho hgr
  | none =>
    obtain ⟨rfl, rfl⟩ := hnone rfl
    have hnews : news = [] := List.eq_nil_of_length_eq_zero (by simpa using hn)
    subst hnews
    refine wpList_plain hg fun K hK' => ?_
    have hrun := run_append_owned_none (P := P) w base t o.type e i0 size h1 hi _ n xs hown
    unfold Oper.wp
    simp [execOp, hop, resolve, invoke, builtin, hs, hx, hrun, Result.andThen]
    refine hK' _ _ (hK _ w (by simpa using hown) (World.grownBy.refl _ _))
theorem Tryz.info87 : (Tryz.prog.info? 87).map (fun i => (i.zero, i.size, i.bytes)) = some (some (.agg #[.string ⟨#[]⟩, .int .i64 0, .slice none 0 0]), 3, 48) := by kernel_rfl
end Go.Proofs.YtolgebdmffcemaaGreatDoor
namespace Go.Proofs.YtolgebdmffcemaaGreatDoor
open Go.RowKit
set_option maxHeartbeats 400000 in
theorem r_in (v : Value) (l : List (List UInt8)) (s : List UInt8) (w : World) (M : Nat → Prop) (h : Rd w M v l.length (l.map S)) :
    Calls Tryz.prog 172 #[v, .string ⟨s.toArray⟩] w fun e w' => e = .returned (.bool (l.any fun x => x == s)) ∧ w' = w := by
  obtain ⟨a, cap, rfl, hn, hm, hc⟩ := h
  unfold maxLen at hm
  go_enter Tryz.func172, Tryz.ntmps172
  go_wp2
  go_loop [5] (fun i => ∃ k : Nat, k ≤ l.length ∧ i = .int .i64 k ∧ ((l.take k).any fun x => x == s) = false) (fun i => l.length - (intOf i).toNat)
  case atStart => exact ⟨0, Nat.zero_le _, rfl, rfl⟩
  case round =>
    obtain ⟨k, hk, rfl, hall⟩ := hrel
    by_cases hlt : k < l.length
    · obtain ⟨b, off, rfl, _, _, hcell⟩ := hc (by omega)
      have hx : w.cell? ⟨b, off + k, none⟩ = some (.string ⟨l[k].toArray⟩) := hcell k _ (by simp [S, hlt])
      clear hcell hc
      go_wp2
      · go_ret; exact ⟨ret_bool (R.any_hit l _ k hlt ‹_›), rfl⟩
      · go_round
        case rel => exact ⟨k + 1, by omega, by go_num, R.any_snoc l _ k hlt hall ‹_›⟩
        case measure => simp [intOf]; omega
    · go_wp2
      go_ret; exact ⟨ret_bool (R.any_end l _ k hlt hall), rfl⟩
theorem leads_eq (s t : List UInt8) (hl : s.length < t.length) : R.leads s t = ((({ data := t.toArray } : ByteArray).extract 0 s.length).toList == s && ((({ data := t.toArray } : ByteArray)[s.length]'(by simpa [ByteArray.size] using hl)).toNat : Int) == 47) := by
  rw [ByteArray.extract_mk, ByteArray.toList_mk]
  have e : (({ data := t.toArray } : ByteArray)[s.length]'(by simpa [ByteArray.size] using hl)) = t[s.length] := by
    show (t.toArray)[s.length] = _
    simp
  rw [e, R.leads, decide_eq_true hl, List.getElem?_eq_getElem hl]
  simp only [List.drop_zero, Nat.sub_zero, Bool.true_and]
  congr 1
  rw [Bool.eq_iff_iff]
  simp only [beq_iff_eq, Option.some.injEq]
  constructor
  · intro h; rw [h]; rfl
  · intro h; exact UInt8.toNat_inj.1 (by simpa using Int.ofNat.inj h)
set_option maxHeartbeats 400000 in
theorem r_leads (s t : List UInt8) (w : World) :
    Calls Tryz.prog 216 #[.string ⟨s.toArray⟩, .string ⟨t.toArray⟩] w fun e w' => e = .returned (.bool (R.leads s t)) ∧ w' = w := by
  by_cases hl : s.length < t.length
  · go_enter Tryz.func216, Tryz.ntmps216
    go_wp2
    all_goals (go_ret; exact ⟨ret_bool (by rw [leads_eq s t hl]; simp [*]), rfl⟩)
  · go_enter Tryz.func216, Tryz.ntmps216
    go_wp2
    go_ret; exact ⟨ret_bool (by rw [R.leads, decide_eq_false hl]; rfl), rfl⟩
/-- the pieces ahead of k, and the one that ends there -/
def Cutting (s : List UInt8) (k q : Nat) (ps : List (List UInt8)) : Prop := q ≤ k ∧ (∀ c ∈ (s.drop q).take (k - q), c ≠ 47) ∧ R.spl s = ps ++ R.spl (s.drop q)
theorem Cutting.hit {s : List UInt8} {k q : Nat} {ps : List (List UInt8)} (h : Cutting s k q ps) (hk : k < s.length) (h47 : s[k] = 47) : Cutting s (k + 1) (k + 1) (ps ++ [(s.drop q).take (k - q)]) := by
  obtain ⟨h1, h2, h3⟩ := h
  refine ⟨Nat.le_refl _, by simp, ?_⟩
  have e : s.drop q = (s.drop q).take (k - q) ++ 47 :: s.drop (k + 1) := by
    conv => lhs; rw [← List.take_append_drop (k - q) (s.drop q)]
    rw [List.drop_drop, show q + (k - q) = k from by omega, List.drop_eq_getElem_cons hk, h47]
  rw [h3]
  conv => lhs; rw [e, R.spl_cut _ _ h2]
  simp
theorem Cutting.miss {s : List UInt8} {k q : Nat} {ps : List (List UInt8)} (h : Cutting s k q ps) (hk : k < s.length) (h47 : s[k] ≠ 47) : Cutting s (k + 1) q ps := by
  obtain ⟨h1, h2, h3⟩ := h
  refine ⟨by omega, ?_, h3⟩
  have hlt : k - q < (s.drop q).length := by simp; omega
  rw [show k + 1 - q = (k - q) + 1 from by omega, List.take_succ_eq_append_getElem hlt]
  intro c hc
  rcases List.mem_append.1 hc with hc | hc
  · exact h2 c hc
  · rw [List.mem_singleton] at hc
    rw [hc, List.getElem_drop]
    simpa [show q + (k - q) = k from by omega] using h47
theorem Cutting.last {s : List UInt8} {q : Nat} {ps : List (List UInt8)} (h : Cutting s s.length q ps) : R.spl s = ps ++ [(s.drop q).take (s.length - q)] := by
  obtain ⟨h1, h2, h3⟩ := h
  rw [h3]
  rw [List.take_of_length_le (by simp)] at h2 ⊢
  rw [R.spl_plain _ h2]
theorem S_extract (s : List UInt8) (q k : Nat) : Value.string (({ data := s.toArray } : ByteArray).extract q k) = S ((s.drop q).take (k - q)) := by
  rw [ByteArray.extract_mk]; rfl
theorem at_mk (s : List UInt8) (k : Nat) (_h : k < s.length) (hb : k < ({ data := s.toArray } : ByteArray).size) : (({ data := s.toArray } : ByteArray)[k]'hb) = s[k] := by
  show (s.toArray)[k] = _
  simp
theorem u8_eq (c : UInt8) (n : Nat) (hn : n < 256) : ((c.toNat : Int) == (n : Int)) = decide (c = UInt8.ofNat n) := by
  rw [Bool.eq_iff_iff]
  simp only [beq_iff_eq, decide_eq_true_eq]
  constructor
  · intro h; apply UInt8.toNat_inj.1; simp [UInt8.toNat_ofNat', Nat.mod_eq_of_lt hn]; exact Int.ofNat.inj h
  · intro h; rw [h]; simp [UInt8.toNat_ofNat', Nat.mod_eq_of_lt hn]
set_option maxHeartbeats 800000 in
set_option maxRecDepth 1000000 in
theorem r_names (s : List UInt8) (w : World) (hs : s.length ≤ 1000) :
    Calls Tryz.prog 215 #[.string ⟨s.toArray⟩] w fun e w' => ∃ v, e = .returned v ∧ w'.ownsRow w.heap.size 9 1 v (R.spl s).length ((R.spl s).map S) ∧ Below w.heap.size w w' := by
  go_enter Tryz.func215, Tryz.ntmps215
  go_wp2
  go_loopw [3, 4, 5] (fun v f i wr => ∃ (k q : Nat) (ps : List (List UInt8)), i = .int .i64 k ∧ f = .int .i64 q ∧ ps.length ≤ k ∧ wr.ownsRow w.heap.size 9 1 v ps.length (ps.map S) ∧ Below w.heap.size w wr ∧
      ((k ≤ s.length ∧ Cutting s k q ps) ∨ (k = s.length + 1 ∧ ps = R.spl s))) (fun _ _ i _ => s.length + 1 - (intOf i).toNat)
  case atStart => exact ⟨0, 0, [], rfl, rfl, Nat.le_refl _, World.ownsRow_nil _ _ _ _, Below.refl _ _, .inl ⟨Nat.zero_le _, Nat.le_refl _, by simp, by simp⟩⟩
  case round =>
    obtain ⟨k, q, ps, rfl, rfl, hps, hown, hb, hor⟩ := hrel
    have hsz := hb.size
    by_cases hlt : k ≤ s.length
    · have hA : Cutting s k q ps := by
        rcases hor with h | h
        · exact h.2
        · omega
      clear hor
      have hq := hA.1
      by_cases hend : k < s.length
      · by_cases h47 : s[k] = 47
        · have hbb : ((({ data := s.toArray } : ByteArray)[k]'(by simpa [ByteArray.size] using hend)).toNat : Int) = 47 := by rw [at_mk s k hend, h47]; rfl
          have hkb : ((k : Int) == (s.length : Int)) = false := by simp; omega
          have H47 : Hid (s[k] = 47) := h47
          clear h47
          go_wp2_with (at_builtin; go_loud (refine wp_app wr rfl _ _ 45 rfl w.heap.size 9 (.string ⟨#[]⟩) 1 16 Tryz.underlying45 Tryz.info9 rfl (by decide) hown _ rfl (by rfl) (by rfl) (by intro u hu; simp at hu; subst hu; rfl) (by unfold maxLen; omega) (by omega) (by omega) ?_))
          intro v' w1 hown' hgr
          go_wp2
          go_roundw
          case rel =>
            refine ⟨k + 1, k + 1, ps ++ [(s.drop q).take (k - q)], by go_num, by go_num, by simp; omega, ?_, hb.grown hgr hsz (fun j hj => (hown.lt j hj).1), .inl ⟨by omega, hA.hit hend H47.out⟩⟩
            simpa [S_extract] using hown'
          case measure => simp [intOf]; omega
        · have hbb : ((({ data := s.toArray } : ByteArray)[k]'(by simpa [ByteArray.size] using hend)).toNat : Int) ≠ 47 := by
            rw [at_mk s k hend]; intro h; exact h47 (UInt8.toNat_inj.1 (by simpa using Int.ofNat.inj h))
          have hkb : ((k : Int) == (s.length : Int)) = false := by simp; omega
          have hb2 : (((({ data := s.toArray } : ByteArray)[k]'(by simpa [ByteArray.size] using hend)).toNat : Int) == 47) = false := by simpa using hbb
          clear hbb
          have H47 : Hid (s[k] ≠ 47) := h47
          clear h47
          go_wp2
          go_roundw
          case rel => exact ⟨k + 1, q, ps, by go_num, rfl, by omega, hown, hb, .inl ⟨by omega, hA.miss hend H47.out⟩⟩
          case measure => simp [intOf]; omega
      · obtain rfl : k = s.length := by omega
        go_wp2_with (at_builtin; go_loud (refine wp_app wr rfl _ _ 45 rfl w.heap.size 9 (.string ⟨#[]⟩) 1 16 Tryz.underlying45 Tryz.info9 rfl (by decide) hown _ rfl (by rfl) (by rfl) (by intro u hu; simp at hu; subst hu; rfl) (by unfold maxLen; omega) (by omega) (by omega) ?_))
        intro v' w1 hown' hgr
        go_wp2
        go_roundw
        case rel =>
          refine ⟨s.length + 1, s.length + 1, ps ++ [(s.drop q).take (s.length - q)], by go_num, by go_num, by simp; omega, ?_, hb.grown hgr hsz (fun j hj => (hown.lt j hj).1), .inr ⟨rfl, hA.last.symm⟩⟩
          simpa [S_extract] using hown'
        case measure => simp [intOf]
    · obtain ⟨-, rfl⟩ : k = s.length + 1 ∧ ps = R.spl s := by
        rcases hor with h | h
        · exact absurd h.1 hlt
        · exact h
      clear hor
      go_wp2
      go_ret
      exact ⟨_, rfl, hown, hb⟩
end Go.Proofs.YtolgebdmffcemaaGreatDoor
namespace Go.Proofs.YtolgebdmffcemaaGreatDoor
open Go.RowKit
theorem digit_of (p : Nat) (h : p < 10) : (({ data := #[48, 49, 50, 51, 52, 53, 54, 55, 56, 57] } : ByteArray).extract p (p + 1)) = ⟨[UInt8.ofNat (48 + p)].toArray⟩ := by
  have : ∀ q : Fin 10, (({ data := #[48, 49, 50, 51, 52, 53, 54, 55, 56, 57] } : ByteArray).extract q.val (q.val + 1)) = ⟨[UInt8.ofNat (48 + q.val)].toArray⟩ := by decide +kernel
  exact this ⟨p, h⟩
theorem mk_add (x y : List UInt8) : (ByteArray.mk x.toArray ++ ByteArray.mk y.toArray) = ByteArray.mk (x ++ y).toArray := ByteArray.mk_append_mk x y
theorem dec_step (m : Nat) (h : 9 < m) : Lib.decDigits m = Lib.decDigits (m / 10) ++ [UInt8.ofNat (48 + m % 10)] := by
  conv => lhs; unfold Lib.decDigits
  rw [dif_neg (by omega)]
theorem dec_last (m : Nat) (h : ¬ 9 < m) : Lib.decDigits m = [UInt8.ofNat (48 + m)] := by
  unfold Lib.decDigits
  rw [dif_pos (by omega)]
set_option maxHeartbeats 800000 in
set_option maxRecDepth 1000000 in
theorem r_digits_pos (n : Nat) (w : World) (h : n ≤ 1000000000000) :
    Calls Tryz.prog 244 #[.int .i64 n] w fun e w' => e = .returned (.string ⟨(Lib.decDigits n).toArray⟩) ∧ w' = w := by
  have hlen := Lib.itoa_length_le (n : Int) (by omega) (by omega)
  rw [Lib.itoa_nonneg] at hlen
  have HN : Hid ((Lib.decDigits n).length ≤ 21) := hlen
  clear hlen
  go_enter Tryz.func244, Tryz.ntmps244
  go_wp2
  go_loop [0, 3] (fun t s => ∃ (m : Nat) (acc : List UInt8), m ≤ n ∧ t = .int .i64 m ∧ s = .string ⟨acc.toArray⟩ ∧ Lib.decDigits n = Lib.decDigits m ++ acc) (fun t _ => (intOf t).toNat)
  case atStart => exact ⟨n, [], Nat.le_refl _, rfl, rfl, by simp⟩
  case round =>
    obtain ⟨m, acc, hm, rfl, rfl, he⟩ := hrel
    have hacc : acc.length ≤ 21 := by have := HN.out; rw [he, List.length_append] at this; omega
    have HE : Hid (Lib.decDigits n = Lib.decDigits m ++ acc) := he
    clear he
    by_cases h9 : 9 < m
    · have hd := digit_of (m % 10) (by omega)
      have HD : Hid ((({ data := #[48, 49, 50, 51, 52, 53, 54, 55, 56, 57] } : ByteArray).extract (m % 10) (m % 10 + 1)) = ⟨[UInt8.ofNat (48 + m % 10)].toArray⟩) := hd
      clear hd
      go_wp2
      go_round
      case rel => exact ⟨m / 10, UInt8.ofNat (48 + m % 10) :: acc, by omega, by go_num, by rw [HD.out, mk_add]; rfl, by rw [HE.out, dec_step m h9]; simp⟩
      case measure => simp [intOf]; omega
    · have HD : Hid ((({ data := #[48, 49, 50, 51, 52, 53, 54, 55, 56, 57] } : ByteArray).extract m (m + 1)) = ⟨[UInt8.ofNat (48 + m)].toArray⟩) := digit_of m (by omega)
      go_wp2
      go_ret
      exact ⟨ret_str (by rw [HD.out, mk_add, HE.out, dec_last m h9]), rfl⟩
set_option maxHeartbeats 800000 in
set_option maxRecDepth 1000000 in
theorem r_digits (n : Int) (w : World) (h : n ≤ 1000000000000) (h' : -1000000000000 ≤ n) :
    Calls Tryz.prog 244 #[.int .i64 n] w fun e w' => e = .returned (.string ⟨(Lib.itoa n).toArray⟩) ∧ w' = w := by
  by_cases hn : n < 0
  · obtain ⟨u, rfl⟩ : ∃ u : Nat, n = -(u : Int) := ⟨n.natAbs, by omega⟩
    have hlen := Lib.itoa_length_le (-(u : Int)) (by omega) (by omega)
    rw [Lib.itoa_neg u (by omega)] at hlen ⊢
    have hl2 : (Lib.decDigits u).length ≤ 21 := by simp only [List.length_cons] at hlen; omega
    clear hlen
    go_enter Tryz.func244, Tryz.ntmps244
    go_wp2_with fail
    refine (r_digits_pos u _ (by omega)).mono ?_
    rintro e w1 ⟨rfl, rfl⟩
    go_wp2
    go_ret
    exact ⟨ret_str (by rw [show ({ data := #[45] } : ByteArray) = ⟨[(45 : UInt8)].toArray⟩ from rfl, mk_add]; rfl), rfl⟩
  · obtain ⟨u, rfl⟩ : ∃ u : Nat, n = (u : Int) := ⟨n.toNat, by omega⟩
    rw [Lib.itoa_nonneg]
    exact r_digits_pos u w (by omega)
set_option maxHeartbeats 800000 in
set_option maxRecDepth 1000000 in
theorem r_item (v : Value) (l : List (List UInt8)) (s : List UInt8) (w : World) (M : Nat → Prop) (h : Rd w M v l.length (l.map S)) (hl : l.length ≤ 1000) :
    Calls Tryz.prog 174 #[v, .string ⟨s.toArray⟩] w fun e w' => ∃ v', e = .returned v' ∧ w'.ownsRow w.heap.size 9 1 v' (R.item l s).length ((R.item l s).map S) ∧ Below w.heap.size w w' := by
  obtain ⟨a, cap, rfl, hn, hm, hc⟩ := h
  unfold maxLen at hm
  go_enter Tryz.func174, Tryz.ntmps174
  go_wp2
  go_loopw [5, 6, 7] (fun o d i wr => ∃ (k : Nat) (done : Bool) (acc : List (List UInt8)), k ≤ l.length ∧ i = .int .i64 k ∧ d = .bool done ∧ wr.ownsRow w.heap.size 9 1 o acc.length (acc.map S) ∧ Below w.heap.size w wr ∧ acc.length ≤ 2 * k ∧
      R.item l s = acc ++ R.itemL s done (l.drop k)) (fun _ _ i _ => l.length - (intOf i).toNat)
  case atStart => exact ⟨0, false, [], Nat.zero_le _, rfl, rfl, World.ownsRow_nil _ _ _ _, Below.refl _ _, by simp, by simp [R.item]⟩
  case round =>
    obtain ⟨k, done, acc, hk, rfl, rfl, hown, hb, hal, he⟩ := hrel
    have HE : Hid (R.item l s = acc ++ R.itemL s done (l.drop k)) := he
    clear he
    have hsz := hb.size
    by_cases hlt : k < l.length
    · obtain ⟨b, off, rfl, hbs, _, hcell⟩ := hc (by omega)
      have hx : wr.cell? ⟨b, off + k, none⟩ = some (.string ⟨l[k].toArray⟩) := (hb.cell (by exact hbs)).trans (hcell k _ (by simp [S, hlt]))
      clear hcell hc
      by_cases hsk : s = l[k]
      · have b2 : (s == l[k]) = true := by simpa using hsk
        have b3 : (l[k] == s) = true := by simpa using hsk.symm
        have HS : Hid (s = l[k]) := hsk
        clear hsk
        cases done
        · go_wp2_with (at_builtin; go_loud (refine wp_app wr rfl _ _ 45 rfl w.heap.size 9 (.string ⟨#[]⟩) 1 16 Tryz.underlying45 Tryz.info9 rfl (by decide) hown _ rfl (by rfl) (by rfl) (by intro u hu; simp at hu; subst hu; rfl) (by unfold maxLen; omega) (by omega) (by omega) ?_))
          intro v' w1 hown' hgr
          have hx1 : w1.cell? ⟨b, off + k, none⟩ = some (.string ⟨l[k].toArray⟩) := hgr.cell hx (fun e => by have := (hown.lt b e.symm).1; omega)
          go_wp2
          go_roundw
          case rel => exact ⟨k + 1, true, acc ++ [s], by omega, by go_num, rfl, by simpa [S] using hown', hb.grown hgr hsz (fun j hj => (hown.lt j hj).1), by (try simp); omega, by rw [HE.out, R.itemL_from s l k hlt]; simp [b2, b3]⟩
          case measure => simp [intOf]; omega
        · go_wp2
          go_roundw
          case rel => exact ⟨k + 1, true, acc, by omega, by go_num, rfl, by simpa [S] using hown, hb, by (try simp); omega, by rw [HE.out, R.itemL_from s l k hlt]; simp [b2, b3]⟩
          case measure => simp [intOf]; omega
      · have b2 : (s == l[k]) = false := by simpa using hsk
        have b3 : (l[k] == s) = false := by simpa using fun e => hsk e.symm
        have HS : Hid (s ≠ l[k]) := hsk
        clear hsk
        cases hlt2 : Op.bytesLess s l[k]
        · cases done
          all_goals
            go_wp2_with (at_builtin; go_loud (refine wp_app wr rfl _ _ 45 rfl w.heap.size 9 (.string ⟨#[]⟩) 1 16 Tryz.underlying45 Tryz.info9 rfl (by decide) hown _ rfl (by rfl) (by rfl) (by intro u hu; simp at hu; subst hu; rfl) (by unfold maxLen; omega) (by omega) (by omega) ?_))
            intro v' w1 hown' hgr
            go_wp2
            go_roundw
            case rel => exact ⟨k + 1, _, acc ++ [l[k]], by omega, by go_num, rfl, by simpa [S] using hown', hb.grown hgr hsz (fun j hj => (hown.lt j hj).1), by (try simp); omega, by rw [HE.out, R.itemL_from s l k hlt]; simp [b2, b3, hlt2]⟩
            case measure => simp [intOf]; omega
        · cases done
          · go_wp2_with (at_builtin; go_loud (refine wp_app wr rfl _ _ 45 rfl w.heap.size 9 (.string ⟨#[]⟩) 1 16 Tryz.underlying45 Tryz.info9 rfl (by decide) hown _ rfl (by rfl) (by rfl) (by intro u hu; simp at hu; subst hu; rfl) (by unfold maxLen; omega) (by omega) (by omega) ?_))
            intro v' w1 hown' hgr
            have hx1 : w1.cell? ⟨b, off + k, none⟩ = some (.string ⟨l[k].toArray⟩) := hgr.cell hx (fun e => by have := (hown.lt b e.symm).1; omega)
            have hsz1 := hgr.size
            go_wp2_with (at_builtin; go_loud (refine wp_app w1 rfl _ _ 45 rfl w.heap.size 9 (.string ⟨#[]⟩) 1 16 Tryz.underlying45 Tryz.info9 rfl (by decide) hown' _ rfl (by rfl) (by rfl) (by intro u hu; simp at hu; subst hu; rfl) (by unfold maxLen; omega) (by omega) (by omega) ?_))
            intro v2 w2 hown2 hgr2
            go_wp2
            go_roundw
            case rel => exact ⟨k + 1, true, acc ++ [s, l[k]], by omega, by go_num, rfl, by simpa [S] using hown2, ((hb.grown hgr hsz (fun j hj => (hown.lt j hj).1)).grown hgr2 (by omega) (fun j hj => (hown'.lt j hj).1)), by (try simp); omega, by rw [HE.out, R.itemL_from s l k hlt]; simp [b2, b3, hlt2]⟩
            case measure => simp [intOf]; omega
          · go_wp2_with (at_builtin; go_loud (refine wp_app wr rfl _ _ 45 rfl w.heap.size 9 (.string ⟨#[]⟩) 1 16 Tryz.underlying45 Tryz.info9 rfl (by decide) hown _ rfl (by rfl) (by rfl) (by intro u hu; simp at hu; subst hu; rfl) (by unfold maxLen; omega) (by omega) (by omega) ?_))
            intro v' w1 hown' hgr
            go_wp2
            go_roundw
            case rel => exact ⟨k + 1, true, acc ++ [l[k]], by omega, by go_num, rfl, by simpa [S] using hown', hb.grown hgr hsz (fun j hj => (hown.lt j hj).1), by (try simp); omega, by rw [HE.out, R.itemL_from s l k hlt]; simp [b2, b3, hlt2]⟩
            case measure => simp [intOf]; omega
    · have HD : Hid (R.item l s = acc ++ if done then [] else [s]) := by
        show R.item l s = _
        rw [HE.out, List.drop_eq_nil_of_le (by omega), R.itemL]
      clear HE
      cases done
      · go_wp2_with (at_builtin; go_loud (refine wp_app wr rfl _ _ 45 rfl w.heap.size 9 (.string ⟨#[]⟩) 1 16 Tryz.underlying45 Tryz.info9 rfl (by decide) hown _ rfl (by rfl) (by rfl) (by intro u hu; simp at hu; subst hu; rfl) (by unfold maxLen; omega) (by omega) (by omega) ?_))
        intro v' w1 hown' hgr
        go_wp2
        go_ret
        exact ⟨_, rfl, by rw [HD.out]; simpa [S] using hown', hb.grown hgr hsz (fun j hj => (hown.lt j hj).1)⟩
      · go_wp2
        go_ret
        exact ⟨_, rfl, by rw [HD.out]; simpa [S] using hown, hb⟩
end Go.Proofs.YtolgebdmffcemaaGreatDoor
namespace Go.Proofs.YtolgebdmffcemaaGreatDoor
open Go.RowKit
set_option maxHeartbeats 400000 in
theorem r_IsName (s : ByteArray) (w : World) (hs : s.size ≤ maxLen) :
    Calls Tryz.prog 163 #[.string s] w fun e w' => e = .returned (.bool (R.isName s.data.toList)) ∧ w' = w := by
  unfold maxLen at hs
  go_enter Tryz.func163, Tryz.ntmps163
  go_wp2
  go_loop [3] (fun i => ∃ k : Nat, k ≤ s.size ∧ i = .int .i64 k ∧ (s.data.toList.take k).all R.nb = true) (fun i => s.size - (intOf i).toNat)
  case atStart => exact ⟨0, Nat.zero_le _, rfl, rfl⟩
  case round =>
    obtain ⟨k, hk, rfl, hall⟩ := hrel
    by_cases hlt : k < s.size
    · go_wp2
      all_goals first
        | (go_ret; exact ⟨ret_bool (R.isName_bad s k hlt (R.nb_no _ (by omega))), rfl⟩)
        | (go_round
           case rel => exact ⟨k + 1, by omega, by go_num, R.take_all s R.nb k hlt hall (R.nb_yes _ (by omega))⟩
           case measure => simp [intOf]; omega)
    · go_wp2
      all_goals (go_ret; exact ⟨ret_bool (by rw [R.isName_end s k hlt hall]; simp; try omega), rfl⟩)
set_option maxHeartbeats 400000 in
theorem r_IsText (s : ByteArray) (w : World) (hs : s.size ≤ maxLen) :
    Calls Tryz.prog 171 #[.string s] w fun e w' => e = .returned (.bool (R.isText s.data.toList)) ∧ w' = w := by
  unfold maxLen at hs
  by_cases h20 : 20 < (s.size : Int)
  · go_enter Tryz.func171, Tryz.ntmps171
    go_wp2
    go_ret
    exact ⟨ret_bool (R.isText_long s h20), rfl⟩
  go_enter Tryz.func171, Tryz.ntmps171
  go_wp2
  go_loop [3] (fun i => ∃ k : Nat, k ≤ s.size ∧ i = .int .i64 k ∧ (s.data.toList.take k).all R.tb = true) (fun i => s.size - (intOf i).toNat)
  case atStart => exact ⟨0, Nat.zero_le _, rfl, rfl⟩
  case round =>
    obtain ⟨k, hk, rfl, hall⟩ := hrel
    by_cases hlt : k < s.size
    · rcases bool_eq (s[k].toNat : Int) 59 with ⟨b59, h59⟩ | ⟨b59, h59⟩
      all_goals go_wp2
      all_goals first
        | (go_ret; exact ⟨ret_bool (R.isText_bad s k hlt (R.tb_no _ (by omega))), rfl⟩)
        | (go_round
           case rel => exact ⟨k + 1, by omega, by go_num, R.take_all s R.tb k hlt hall (R.tb_yes _ (by omega))⟩
           case measure => simp [intOf]; omega)
    · go_wp2
      all_goals (go_ret; exact ⟨ret_bool (R.isText_end s k hlt (by omega) hall), rfl⟩)
end Go.Proofs.YtolgebdmffcemaaGreatDoor
namespace Go.Proofs.YtolgebdmffcemaaGreatDoor
open Go.RowKit
set_option maxHeartbeats 800000 in
set_option maxRecDepth 1000000 in
theorem r_ahead (s t : List UInt8) (w : World) (hs : s.length ≤ 1000) (ht : t.length ≤ 1000) :
    Calls Tryz.prog 214 #[.string ⟨s.toArray⟩, .string ⟨t.toArray⟩] w fun e w' => e = .returned (.bool (R.ahead s t)) ∧ Below w.heap.size w w' := by
  go_enter Tryz.func214, Tryz.ntmps214
  go_wp2_with fail
  refine (r_names s _ hs).mono ?_
  rintro e w1 ⟨v1, rfl, ho1, hb1⟩
  go_wp2_with fail
  refine (r_names t _ ht).mono ?_
  rintro e w2 ⟨v2, rfl, ho2, hb2⟩
  have hB : Below w.heap.size w w2 := hb1.trans (hb2.mono hb1.size)
  obtain ⟨a1, cap1, rfl, hn1, hm1, hc1⟩ := (Rd.of_owns (M := fun _ => False) ho1 (fun _ h => h.elim)).below hb2
  obtain ⟨a2, cap2, rfl, hn2, hm2, hc2⟩ := Rd.of_owns (M := fun _ => False) ho2 (fun _ h => h.elim)
  clear ho1 ho2 hb1 hb2
  have HX : Hid (R.ahead s t = R.aheadL (R.spl s) (R.spl t)) := rfl
  have l1 := (R.spl_length s).1
  have l2 := (R.spl_length t).1
  generalize R.spl s = x at *
  generalize R.spl t = y at *
  go_wp2
  go_loopw [7] (fun i wr => ∃ k q : Nat, k ≤ x.length ∧ k ≤ y.length ∧ i = .int .i64 k ∧ wr = w2.drewN q ∧ R.aheadL x y = R.aheadL (x.drop k) (y.drop k)) (fun i _ => x.length - (intOf i).toNat)
  case atStart => exact ⟨0, 0, Nat.zero_le _, Nat.zero_le _, rfl, rfl, rfl⟩
  case round =>
    obtain ⟨k, q, hk1, hk2, rfl, rfl, he⟩ := hrel
    have HE : Hid (R.aheadL x y = R.aheadL (x.drop k) (y.drop k)) := he
    clear he
    by_cases hlt : k < x.length ∧ k < y.length
    · obtain ⟨hx, hy⟩ := hlt
      obtain ⟨b1, o1, rfl, _, _, hcell1⟩ := hc1 (by omega)
      have hx1 : w2.cell? ⟨b1, o1 + k, none⟩ = some (.string ⟨x[k].toArray⟩) := hcell1 k _ (by simp [S, hx])
      obtain ⟨b2, o2, rfl, _, _, hcell2⟩ := hc2 (by omega)
      have hx2 : w2.cell? ⟨b2, o2 + k, none⟩ = some (.string ⟨y[k].toArray⟩) := hcell2 k _ (by simp [S, hy])
      clear hcell1 hcell2 hc1 hc2
      by_cases hxy : x[k] = y[k]
      · have hbq : (x[k] == y[k]) = true := by simpa using hxy
        have HXY : Hid (x[k] = y[k]) := hxy
        clear hxy
        go_wp2
        go_quiet (fail)
        go_wp2
        go_roundw
        case rel => exact ⟨k + 1, _, by omega, by omega, by go_num, rfl, by rw [HE.out, R.aheadL_step x y k hx hy HXY.out]⟩
        case measure => simp [intOf]; omega
      · have hbq : (x[k] == y[k]) = false := by simpa using hxy
        have HXY : Hid (x[k] ≠ y[k]) := hxy
        clear hxy
        go_wp2
        go_quiet (fail)
        go_wp2
        go_quiet (fail)
        go_wp2
        go_ret
        exact ⟨ret_bool (by rw [HX.out, HE.out, R.aheadL_part x y k hx hy HXY.out]), below_drewN (below_drewN (below_drewN hB _) _) _⟩
    · by_cases hx : k < x.length
      all_goals
        go_wp2
        go_ret
        exact ⟨ret_bool (by rw [HX.out, HE.out, R.aheadL_end x y k hlt hk1 hk2]; try simp), below_drewN hB _⟩
set_option maxHeartbeats 800000 in
set_option maxRecDepth 1000000 in
theorem r_IsPath (s : List UInt8) (w : World) (hs : s.length ≤ maxLen) :
    Calls Tryz.prog 168 #[.string ⟨s.toArray⟩] w fun e w' => e = .returned (.bool (R.isPath s)) ∧ Below w.heap.size w w' := by
  unfold maxLen at hs
  by_cases h100 : 100 < s.length
  · go_enter Tryz.func168, Tryz.ntmps168
    go_wp2
    go_ret
    exact ⟨ret_bool (by rw [R.isPath, decide_eq_false (by omega)]; rfl), Below.refl _ _⟩
  go_enter Tryz.func168, Tryz.ntmps168
  go_wp2_with fail
  refine (r_names s _ (by omega)).mono ?_
  rintro e w1 ⟨v1, rfl, ho1, hb1⟩
  obtain ⟨a1, cap1, rfl, hn1, hm1, hc1⟩ := Rd.of_owns (M := fun _ => False) ho1 (fun _ h => h.elim)
  clear ho1
  have HX : Hid (R.isPath s = ((R.spl s).all R.isName && decide ((R.spl s).length ≤ 4))) := by
    show R.isPath s = _
    rw [R.isPath, decide_eq_true (by omega), Bool.true_and]
  have HL : Hid (∀ p ∈ R.spl s, p.length ≤ 1000) := fun p hp => by have := R.spl_mem s p hp; omega
  have l1 := (R.spl_length s).1
  generalize R.spl s = x at *
  go_wp2
  go_loop [4] (fun i => ∃ k : Nat, k ≤ x.length ∧ i = .int .i64 k ∧ (x.take k).all R.isName = true) (fun i => x.length - (intOf i).toNat)
  case atStart => exact ⟨0, Nat.zero_le _, rfl, rfl⟩
  case round =>
    obtain ⟨k, hk1, rfl, he⟩ := hrel
    have HE : Hid ((x.take k).all R.isName = true) := he
    clear he
    by_cases hx : k < x.length
    · obtain ⟨b1, o1, rfl, _, _, hcell1⟩ := hc1 (by omega)
      have hx1 : w1.cell? ⟨b1, o1 + k, none⟩ = some (.string ⟨x[k].toArray⟩) := hcell1 k _ (by simp [S, hx])
      clear hcell1 hc1
      go_wp2_with fail
      refine (r_IsName _ _ (by have := HL.out x[k] (List.getElem_mem hx); simp [ByteArray.size, maxLen]; omega)).mono ?_
      rintro e w2 ⟨rfl, rfl⟩
      cases hr : R.isName x[k]
      · have HR : Hid (R.isName x[k] = false) := hr
        clear hr
        go_wp2
        go_ret
        exact ⟨ret_bool (by rw [HX.out, R.all_bad x _ k hx HR.out]; rfl), hb1⟩
      · have HR : Hid (R.isName x[k] = true) := hr
        clear hr
        go_wp2
        go_round
        case rel => exact ⟨k + 1, by omega, by go_num, R.all_snoc x _ k hx HE.out HR.out⟩
        case measure => simp [intOf]; omega
    · go_wp2
      go_ret
      exact ⟨ret_bool (by rw [HX.out, R.all_end x _ k hx HE.out, Bool.true_and]; exact decide_eq_decide.2 (by omega)), hb1⟩
end Go.Proofs.YtolgebdmffcemaaGreatDoor
