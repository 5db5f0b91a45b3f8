/-
  Laws of append in place and of clear, for rows whose elements take several cells.
  What Go's slices.Delete makes of a row of its caller's own (branches): one element less.
  The program's Branch, Fork, Drop (over Store.treeOf, Store.grow): as the document's answer has them.
-/
import Derived.Test.YtojlbiaedhkddaaGreatDoorPart12
import Derived.Deep.AppendSrc
import Derived.Test.YtojlbiaedhkddaaGreatDoorPart02
import Derived.Test.YtojlbiaedhkddaaGreatDoorPart11
import Derived.Test.YtojlbiaedhkddaaGreatDoorPart10
set_option linter.unusedVariables false
namespace Go.Proofs.YtojlbiaedhkddaaGreatDoor
open Go.RowKit
theorem run_appN {P : Program} (w : World) (t ty e : TypeId) (i : TypeInfo) (size g sLen sCap : Nat) (a : Addr) (m c : Nat) (cur : Array Value) (t0 : TypeId) (news : List Value) (ht : P.underlying t = some (.slice e)) (hi : P.info? e = some i) (hs : i.size = size)
    (hg : w.heap[g]? = some (.cells cur t0 (0, 0))) (hn : news.length = m * size) (hsrc : ∀ j v, news[j]? = some v → w.cell? (a.add j) = some v) (h1 : ∀ v ∈ news, v.oneCell' = true) (hroom : sLen + m ≤ sCap) (hfit : sLen * size + news.length ≤ cur.size) :
    (Builtin.append_ #[t, t] ty #[.slice (some ⟨g, 0, none⟩) sLen sCap, .slice (some a) m c]).run P w = .ok (.slice (some ⟨g, 0, none⟩) (sLen + m) sCap) (w.setRow g (cur.toList.take (sLen * size) ++ news ++ cur.toList.drop (sLen * size + news.length)).toArray) := by
  have hl := run_loadCells_list (P := P) w a news hsrc
  have hst := run_storeCells_at P g (sLen * size) t0 news 0 cur w hg (by simpa using hfit) h1
  rw [hn] at hl
  simp only [Nat.add_zero] at hst
  have ha : (⟨g, 0, none⟩ : Addr).add (sLen * size) = ⟨g, sLen * size, none⟩ := by rw [addr_lit, Nat.zero_add]
  simp [Builtin.append_, run_underlying ht, sizeOf, typeInfo, hi, hs, Builtin.lenOf, hroom, Builtin.firstCells, hl, ha, hst]
theorem run_clearN {P : Program} (w : World) (t ty e : TypeId) (i : TypeInfo) (z : Value) (size g o k c : Nat) (cur : Array Value) (t0 : TypeId) (ht : P.underlying t = some (.slice e)) (hi : P.info? e = some i) (hz : i.zero = some z) (hzs : z.cells.size = size) (hz1 : ∀ v ∈ z.cells.toList, v.oneCell' = true)
    (hg : w.heap[g]? = some (.cells cur t0 (0, 0))) (hfit : o + size ≤ cur.size) (_hsz : 0 < size) (hk : k = 1) :
    (Builtin.clear_ #[t] ty #[.slice (some ⟨g, o, none⟩) k c]).run P w = .ok (.tuple #[]) (w.setRow g (cur.toList.take o ++ z.cells.toList ++ cur.toList.drop (o + z.cells.toList.length)).toArray) := by
  subst hk
  have hzc : (Builtin.zeroCells z.cells 1).toList = z.cells.toList := by
    apply List.ext_getElem?
    intro j
    simp only [Builtin.zeroCells, Array.getElem?_toList, Array.getElem?_map, Nat.one_mul]
    by_cases hj : j < z.cells.size
    · simp [hj, Nat.mod_eq_of_lt hj]
    · simp [hj]
  have hst := run_storeCells_at P g o t0 z.cells.toList 0 cur w hg (by simp only [Array.length_toList, Nat.add_zero]; omega) hz1
  simp only [Nat.add_zero] at hst
  simp [Builtin.clear_, run_underlying ht, zeroValue, typeInfo, hi, hz, hzc, hst]
theorem stp_append {P : Program} {ops : Array Oper} {o : Oper} {a : Act} {w : World} {K : Act → World → Prop} {Q : Exit → Act → World → Prop} {E : Prop}
    (hg : o.guard = none) (d x : Operand) (dT sT : TypeId) (hop : o.op = Op.call { callee := Callee.builtin Builtin.append, args := #[d, x], argTypes := #[dT, sT] })
    (v u : Value) (hd : a.eval d = v) (hx : a.eval x = u) {v' : Value} {w' : World} (hr : (Builtin.append_ #[dT, sT] o.type #[v, u]).run P w = .ok v' w') (hK : K (a.put o.dst v') w') :
    if Region.wanted o (yielded ops a.tmps) = true then Oper.wp P o a w K Q else E := by
  have hw : Region.wanted o (yielded ops a.tmps) = true := by simp [Region.wanted, hg]
  rw [if_pos hw]
  unfold Oper.wp
  simp [execOp, hop, resolve, invoke, builtin, hd, hx, hr, Result.andThen]
  exact hK
theorem row_del (cur xs Z : List Value) (m i size : Nat) (hi : i ≤ m) (hx : xs.length = (m + 1) * size) (hZ : Z.length = size) (hc : (m + 1) * size ≤ cur.length) (ht : cur.take ((m + 1) * size) = xs) :
    let c1 := cur.take (i * size) ++ xs.drop ((i + 1) * size) ++ cur.drop (i * size + (xs.drop ((i + 1) * size)).length)
    let c2 := c1.take (m * size) ++ Z ++ c1.drop (m * size + Z.length)
    c1.length = cur.length ∧ c2.length = cur.length ∧ c2.take (m * size) = xs.take (i * size) ++ xs.drop ((i + 1) * size) := by
  have e1 : (i + 1) * size = i * size + size := by rw [Nat.add_mul, Nat.one_mul]
  have e2 : (m + 1) * size = m * size + size := by rw [Nat.add_mul, Nat.one_mul]
  have hle : i * size ≤ m * size := Nat.mul_le_mul_right _ hi
  rw [e2] at hc hx ht
  rw [e1]
  generalize i * size = p at *
  generalize m * size = q at *
  have hpx : xs.take p = cur.take p := by rw [← ht, List.take_take]; congr 1; omega
  intro c1 c2
  have l1 : c1.length = cur.length := by
    show (cur.take p ++ xs.drop (p + size) ++ cur.drop (p + (xs.drop (p + size)).length)).length = _
    simp only [List.length_append, List.length_take, List.length_drop]; omega
  have hc1p : c1.take q = cur.take p ++ xs.drop (p + size) := by
    show (cur.take p ++ xs.drop (p + size) ++ cur.drop (p + (xs.drop (p + size)).length)).take q = _
    rw [List.take_append_of_le_length (by simp only [List.length_append, List.length_take, List.length_drop]; omega), List.take_of_length_le (by simp only [List.length_append, List.length_take, List.length_drop]; omega)]
  refine ⟨l1, ?_, ?_⟩
  · show (c1.take q ++ Z ++ c1.drop (q + Z.length)).length = _
    simp only [List.length_append, List.length_take, List.length_drop]; omega
  · show (c1.take q ++ Z ++ c1.drop (q + Z.length)).take q = _
    rw [List.append_assoc, List.take_append_of_le_length (by simp only [List.length_take]; omega), List.take_take, Nat.min_self, hc1p, hpx]
/-- append to a row of one's own: in place, or into a new row, and then all that was there stands as it stood -/
theorem run_append_own2 {P : Program} (w : World) (base : Nat) (t ty e : TypeId) (i : TypeInfo) (z : Value) (size bytes : Nat) (ht : P.underlying t = some (.slice e)) (hi : P.info? e = some i) (hz : i.zero = some z) (hsize : i.size = size) (hby : i.bytes = bytes) (hzs : z.cells.size = size) (hsz : 0 < size)
    (v : Value) (n : Nat) (xs : List Value) (hown : w.ownsRow base e size v n xs) (a : Addr) (m c : Nat) (news : List Value) (hl : news.length = m * size) (hnews : ∀ j u, news[j]? = some u → w.cell? (a.add j) = some u) (h1 : ∀ u ∈ news, u.oneCell' = true)
    (h63 : n + m ≤ maxLen) (hbytes : (n + m) * bytes ≤ 140737488355328) (hbase : base ≤ w.heap.size) :
    ∃ v' w', (Builtin.append_ #[t, t] ty #[v, .slice (some a) m c]).run P w = .ok v' w' ∧ w'.ownsRow base e size v' (n + m) (xs ++ news) ∧ ((v'.ownBlock = v.ownBlock ∧ w.grownBy w' v.ownBlock) ∨ (v'.ownBlock = some w.heap.size ∧ w.grownBy w' none)) := by
  obtain ⟨v', w', hr, h2, h3, _, h5⟩ := run_append_own_at (P := P) w base t ty e i z size bytes ht hi hz hsize hby hzs hsz v n xs hown a m c news hl hnews h1 h63 hbytes hbase
  refine ⟨v', w', hr, h2, ?_⟩
  have hown' := hown
  obtain ⟨hxl, ho⟩ := hown
  rcases ho with ⟨rfl, rfl⟩ | ⟨g, cap, cur, rfl, hg, hh, hn, hcm, hs, htk⟩
  · have e0 : (Value.slice none 0 0).ownBlock = none := rfl
    rw [e0] at h3 h5 ⊢
    rcases h5 with h5 | h5
    · exact .inl ⟨h5, h3⟩
    · exact .inr ⟨h5, h3⟩
  · by_cases hroom : n + m ≤ cap
    · have hrun := run_appN (P := P) w t ty e i size g n cap a m c cur e news ht hi hsize hh hl hnews h1 hroom (by
        rw [hl, hs, ← Nat.add_mul]; exact Nat.mul_le_mul_right _ hroom)
      rw [hr] at hrun
      injection hrun with e1 e2
      subst e1
      exact .inl ⟨rfl, h3⟩
    · unfold maxLen at h63
      have hold : (Builtin.firstCells i.size n (.slice (some ⟨g, 0, none⟩) n cap)).run P w.drew = .ok xs.toArray w.drew := by
        rw [hsize]
        refine run_firstCells_some w.drew size n ⟨g, 0, none⟩ n cap xs hxl (fun j u hj => ?_)
        rw [addr_lit, Nat.zero_add]
        rw [← htk, List.getElem?_take] at hj
        split at hj
        · show w.cell? _ = _
          simp only [World.cell?, hh]; simpa using hj
        · cases hj
      have hsrc : Src P i.size t (.slice (some a) m c) m news w := by
        rw [hsize]; exact Src.ofSlice w ht a m c news hl hnews h1
      have hrun := run_append_grow_src (P := P) w t t ty e i z ht hi hz (some ⟨g, 0, none⟩) n cap xs hold (.slice (some a) m c) m news hsrc (by omega) (by omega) (by rw [hby]; exact growslice_fits (by omega) hbytes)
      rw [hr] at hrun
      injection hrun with e1 e2
      subst e1 e2
      refine .inr ⟨rfl, ⟨rfl, rfl, rfl, by simp, fun k hk _ => ?_⟩⟩
      exact heap_alloc_old w.drew _ hk
theorem wpl_app3 {P : Program} (w : World) {ops : Array Oper} {rest : List Oper} {o : Oper} {a : Act} {Q : Exit → Act → World → Prop}
    (hg : o.guard = none) (s x : Operand) (t : TypeId) (hop : o.op = Op.call { callee := Callee.builtin Builtin.append, args := #[s, x], argTypes := #[t, t] })
    (base : Nat) (e : TypeId) (z : Value) (size bytes : Nat) (h1 : P.underlying t = some (.slice e)) (h2 : (P.info? e).map (fun i => (i.zero, i.size, i.bytes)) = some (some z, size, bytes)) (h6 : z.cells.size = size) (h7 : 0 < size)
    {v : Value} {n : Nat} {xs : List Value} (hown : w.ownsRow base e size v n xs) (ad : Addr) (m c : Nat) (news : List Value) (hn : news.length = m * size)
    (hc : ∀ j u, news[j]? = some u → w.cell? (ad.add j) = some u) (hs : a.eval s = v)
    (hx : a.eval x = .slice (some ad) m c) (h1c : ∀ u ∈ news, u.oneCell' = true) (b1 : n + m ≤ maxLen) (b2 : (n + m) * bytes ≤ 140737488355328) (hB : base ≤ w.heap.size)
    (hK : ∀ v' w', w'.ownsRow base e size v' (n + m) (xs ++ news) → ((v'.ownBlock = v.ownBlock ∧ w.grownBy w' v.ownBlock) ∨ (v'.ownBlock = some w.heap.size ∧ w.grownBy w' none)) → wpList P ops Q rest (a.put o.dst v') w') :
    wpList P ops Q (o :: rest) a w := by
  obtain ⟨i0, hi, hz0, hz1, hz2⟩ := info_parts h2
  obtain ⟨v', w', hr, h3, h4⟩ := run_append_own2 (P := P) w base t o.type e i0 z size bytes h1 hi hz0 hz1 hz2 h6 h7 v n xs hown ad m c news hn hc h1c b1 b2 hB
  exact Lib.wpList_append_run w hg s x t t hop v (.slice (some ad) m c) hs hx v' w' hr (hK v' w' h3 h4)
end Go.Proofs.YtojlbiaedhkddaaGreatDoor
namespace Go.Proofs.YtojlbiaedhkddaaGreatDoor
open Go.RowKit
set_option maxHeartbeats 3200000 in
set_option maxRecDepth 1000000 in
theorem s_DelB_at (g m cap i base : Nat) (xs : List Value) (cur : Array Value) (w : World) (hi : i ≤ m) (hg : w.heap[g]? = some (.cells cur 105 (0, 0))) (hbg : base ≤ g) (hcap : m + 1 ≤ cap) (hcm : cap ≤ 9223372036854775807) (hcs : cur.size = cap * 1) (hxs : cur.toList.take ((m + 1) * 1) = xs)
    (h1x : ∀ u ∈ xs, u.oneCell' = true) :
    Calls Tryz.prog 57 #[.slice (some ⟨g, 0, none⟩) (m + 1) cap, .int .i64 (i : Int), .int .i64 ((i : Int) + 1)] w fun e w' => ∃ v', e = .returned v' ∧ w'.ownsRow base 105 1 v' m (xs.take (i * 1) ++ xs.drop ((i + 1) * 1)) ∧ w.grownBy w' (some g) ∧ (∀ g', v'.ownBlock = some g' → some g = some g' ∨ w.heap.size ≤ g') := by
  have hxl : xs.length = (m + 1) * 1 := by rw [← hxs, List.length_take, Array.length_toList]; omega
  obtain ⟨i0, hi0, hz0, hz1, hz2⟩ := info_parts Tryz.info105
  have hZ1 : ∀ v ∈ (Value.pointer none).cells.toList, v.oneCell' = true := by
    intro v hv; simp [Value.cells] at hv; rw [hv]; rfl
  have hZs : (Value.pointer none).cells.toList.length = 1 := by simp [Value.cells]
  obtain ⟨r1, r2, r3⟩ := row_del cur.toList xs (Value.pointer none).cells.toList m i 1 hi hxl hZs (by rw [Array.length_toList, hcs]; omega) hxs
  have hxc : ∀ j u, xs[j]? = some u → w.cell? ⟨g, j, none⟩ = some u := fun j u hj => by
    rw [← hxs, List.getElem?_take] at hj
    split at hj
    · simp only [World.cell?, hg]; simpa using hj
    · cases hj
  obtain ⟨A, hA, hsrc⟩ : ∃ A : Addr, (if cap = i + 1 then some (⟨g, 0, none⟩ : Addr) else some ⟨g, (i + 1) * 1, none⟩) = some A ∧ ∀ j u, (xs.drop ((i + 1) * 1))[j]? = some u → w.cell? (A.add j) = some u := by
    by_cases h : cap = i + 1
    · refine ⟨⟨g, 0, none⟩, by simp [h], fun j u hu => ?_⟩
      rw [List.drop_eq_nil_of_le (by rw [hxl]; omega)] at hu
      simp at hu
    · refine ⟨⟨g, (i + 1) * 1, none⟩, by simp [h], fun j u hu => ?_⟩
      rw [addr_lit]; rw [List.getElem?_drop] at hu; exact hxc _ _ hu
  obtain ⟨c1, hc1⟩ : ∃ c1 : Array Value, c1 = (cur.toList.take (i * 1) ++ xs.drop ((i + 1) * 1) ++ cur.toList.drop (i * 1 + (xs.drop ((i + 1) * 1)).length)).toArray := ⟨_, rfl⟩
  have hc1l : c1.toList = cur.toList.take (i * 1) ++ xs.drop ((i + 1) * 1) ++ cur.toList.drop (i * 1 + (xs.drop ((i + 1) * 1)).length) := by rw [hc1]
  rw [← hc1l] at r1 r2 r3
  obtain ⟨c2, hc2⟩ : ∃ c2 : Array Value, c2 = (c1.toList.take (m * 1) ++ (Value.pointer none).cells.toList ++ c1.toList.drop (m * 1 + (Value.pointer none).cells.toList.length)).toArray := ⟨_, rfl⟩
  have hc2l : c2.toList = c1.toList.take (m * 1) ++ (Value.pointer none).cells.toList ++ c1.toList.drop (m * 1 + (Value.pointer none).cells.toList.length) := by rw [hc2]
  rw [← hc2l] at r2 r3
  have hap : ∀ ty dc, (Builtin.append_ #[59, 59] ty #[.slice (some ⟨g, 0, none⟩) i cap, .slice (some A) (m - i) dc]).run Tryz.prog w.drew = .ok (.slice (some ⟨g, 0, none⟩) (i + (m - i)) cap) (w.drew.setRow g c1) := fun ty dc => by
    have h := run_appN (P := Tryz.prog) w.drew 59 ty 105 i0 1 g i cap A (m - i) dc cur 105 (xs.drop ((i + 1) * 1)) Tryz.underlying59 hi0 hz1 hg (by rw [List.length_drop, hxl]; omega) hsrc (fun u hu => h1x u (List.mem_of_mem_drop hu)) (by omega) (by rw [List.length_drop, hxl, hcs]; omega)
    rw [← hc1] at h
    exact h
  have hcr : ∀ ty dc, (Builtin.clear_ #[59] ty #[.slice (some ⟨g, m * 1, none⟩) 1 dc]).run Tryz.prog (w.drew.setRow g c1) = .ok (.tuple #[]) ((w.drew.setRow g c1).setRow g c2) := fun ty dc => by
    have h := run_clearN (P := Tryz.prog) (w.drew.setRow g c1) 59 ty 105 i0 (Value.pointer none) 1 g (m * 1) 1 dc c1 105 Tryz.underlying59 hi0 hz0 (by simpa using hZs) hZ1 (setRow_heap w.drew g cur c1 105 _ hg) (by rw [← Array.length_toList, r1, Array.length_toList, hcs]; omega) (by decide) rfl
    rw [← hc2] at h
    exact h
  have HF : Hid (((w.drew.setRow g c1).setRow g c2).ownsRow base 105 1 (.slice (some ⟨g, 0, none⟩) m cap) m (xs.take (i * 1) ++ xs.drop ((i + 1) * 1)) ∧ w.grownBy ((w.drew.setRow g c1).setRow g c2) (some g)) := by
    refine ⟨⟨?_, .inr ⟨g, cap, c2, rfl, hbg, ?_, by omega, by unfold maxLen; omega, by rw [← Array.length_toList, r2, Array.length_toList, hcs], r3⟩⟩, ⟨rfl, rfl, rfl, by simp, fun k hk hkn => ?_⟩⟩
    · simp only [List.length_append, List.length_take, List.length_drop, hxl]; omega
    · exact setRow_heap _ g c1 c2 105 _ (setRow_heap w.drew g cur c1 105 _ hg)
    · rw [setRow_other _ _ _ _ (by rintro rfl; exact hkn rfl), setRow_other _ _ _ _ (by rintro rfl; exact hkn rfl)]; rfl
  have hic : i ≤ cap := by omega
  have hn1 : ¬ ((i : Int) = (i : Int) + 1) := by omega
  have hw1 : IntKind.i64.wrap ((i : Int) + 1) = (i : Int) + 1 := by rw [IntKind.wrap_i64]; omega
  have htn : ((i : Int) + 1).toNat = i + 1 := by omega
  have hb1 : (0 : Int) ≤ (i : Int) + 1 := by omega
  have him : i + (m - i) = m := by omega
  have hcm1 : ¬ (cap = m) := by omega
  have hiI : (i : Int) ≤ (m : Int) := by omega
  rw [him] at hap
  clear hg r1 r2 r3 hc1 hc1l hc2 hc2l h1x hcs hxs hxl hxc hsrc hZ1 hZs hz0 hz1 hz2 hi0
  simp only [Nat.mul_one] at hap hcr hA
  go_enter Tryz.func57, Tryz.ntmps57
  go_wp2_with fail
  go_region_law (refine stp_append (by rfl) (.tmp 22) (.tmp 25) 59 59 (by rfl) (.slice (some ⟨g, 0, none⟩) i cap) (.slice (some A) (m - i) (cap - (i + 1))) (by simp [Act.eval, Act.put]) (by simp [Act.eval, Act.put]) (hap _ _) ?_)
  go_wp2_with (simp only [hcr])
  go_ret
  exact ⟨_, rfl, HF.out.1, HF.out.2, fun g' e => .inl e⟩
theorem s_DelB (v : Value) (n i base : Nat) (xs : List Value) (w : World) (hown : w.ownsRow base 105 1 v n xs) (hi : i < n) (h1x : ∀ u ∈ xs, u.oneCell' = true) :
    Calls Tryz.prog 57 #[v, .int .i64 (i : Int), .int .i64 ((i : Int) + 1)] w fun e w' => ∃ v', e = .returned v' ∧ w'.ownsRow base 105 1 v' (n - 1) (xs.take (i * 1) ++ xs.drop ((i + 1) * 1)) ∧ w.grownBy w' v.ownBlock ∧ (∀ g, v'.ownBlock = some g → v.ownBlock = some g ∨ w.heap.size ≤ g) := by
  obtain ⟨h1, h2⟩ := hown
  rcases h2 with ⟨rfl, rfl⟩ | ⟨g, cap, cur, rfl, hb, hg, hn, hcm, hs, ht⟩
  · omega
  · unfold maxLen at hcm
    obtain ⟨m, rfl⟩ : ∃ m, n = m + 1 := ⟨n - 1, by omega⟩
    exact s_DelB_at g m cap i base xs cur w (by omega) hg hb hn (by omega) hs ht h1x
end Go.Proofs.YtojlbiaedhkddaaGreatDoor
namespace Go.Proofs.YtojlbiaedhkddaaGreatDoor
open Go.RowKit
theorem cellsK_at : ∀ (L : List (R.Cm × Value × Value)) (i : Nat) (h : i < L.length), (cellsK L)[i * 2 + 1]? = some (L[i]'h).2.2
  | p :: r, 0, _ => by simp [cellsK]
  | p :: r, i + 1, h => by
    have ih := cellsK_at r i (by simpa using h)
    unfold cellsK at ih ⊢
    rw [List.flatMap_cons, show (i + 1) * 2 + 1 = (i * 2 + 1) + 2 from by omega]
    simpa using ih
set_option maxHeartbeats 400000 in
theorem g_treeOf {w : World} {M O : Nat → Prop} {B : Nat} {st : R.St} {bv cv : Value} {LB : List BrP} {LCm : List (R.Cm × Value × Value)} (h : PSx w M O B st bv cv LB LCm) (n : Nat) (hn : n ≤ st.cms.length) (_hc : st.cms.length ≤ 60) :
    Calls Tryz.prog 87 #[.pointer (some ⟨B, 0, none⟩), .int .i64 (n : Int)] w fun e w' => ∃ ta tc, e = .returned (.slice ta (R.treeOf st n).length tc) ∧ PT w M (.slice ta (R.treeOf st n).length tc) (R.treeOf st n) ∧ w' = w := by
  by_cases h0 : n = 0
  · subst h0
    have ht : R.treeOf st 0 = [] := by simp [R.treeOf]
    rw [ht]
    clear h
    go_enter Tryz.func87, Tryz.ntmps87
    go_wp2
    go_ret
    exact ⟨none, 0, rfl, ⟨[], rfl, ⟨none, 0, rfl, by simp, by unfold maxLen; omega, fun h => by simp at h⟩, by simp⟩, rfl⟩
  · have hln : st.cms.length = LCm.length := by rw [← h.cms, List.length_map]
    have hlt : n - 1 < LCm.length := by omega
    have hT : R.treeOf st n = (LCm[n - 1]'hlt).1.tree := by
      rw [R.treeOf, if_neg h0, ← h.cms, List.getElem?_map, List.getElem?_eq_getElem hlt]; rfl
    have hp := h.ctree _ (List.getElem_mem hlt)
    rw [← hT] at hp
    have c1 := h.c1
    obtain ⟨a, cap, rfl, hnc, hm, hnil, hsome⟩ := owns_form h.crow
    cases a with
    | none => have := (hnil rfl).1; omega
    | some ad =>
    obtain ⟨g, rfl, _, _, _, hcell⟩ := hsome ad rfl
    have e1 := hcell _ _ (cellsK_at LCm (n - 1) hlt)
    obtain ⟨ta, tc, hv⟩ : ∃ a c, (LCm[n - 1]'hlt).2.2 = .slice a (R.treeOf st n).length c := by
      obtain ⟨L, hL, ⟨a, c, hv, _⟩, _⟩ := hp
      exact ⟨a, c, by rw [hv, ← hL, List.length_map]⟩
    rw [hv] at e1 hp
    unfold maxLen at hm
    have HP := hide3 hp
    have hnn : ((n : Int) == 0) = false := by rw [Bool.eq_false_iff]; simp; omega
    have hsub : (n : Int) - 1 = ((n - 1 : Nat) : Int) := by omega
    clear h hcell hsome hnil hT hp hv h0
    generalize R.treeOf st n = tr at *
    obtain ⟨m, hm1⟩ : ∃ m, m = n - 1 := ⟨_, rfl⟩
    rw [← hm1] at e1 hlt hsub
    clear hm1
    go_enter Tryz.func87, Tryz.ntmps87
    go_wp2
    go_ret
    exact ⟨ta, tc, rfl, HP.out, rfl⟩
def grown (st : R.St) (name : List UInt8) (head : Nat) : Int × R.St :=
  if 0 ≤ R.fndI st.brs name then (9, st) else if 6 ≤ st.brs.length then (4, st) else (0, R.headNew st { name := name, head := head, work := R.treeOf st head })
set_option maxHeartbeats 1600000 in
set_option maxRecDepth 1000000 in
theorem g_grow (B : Nat) (st : R.St) (name : List UInt8) (head : Nat) (w : World) (M O : Nat → Prop) (h : PS w M O B st) (hi : Inv st) (hh : head ≤ st.cms.length) :
    Calls Tryz.prog 53 #[.pointer (some ⟨B, 0, none⟩), .string ⟨name.toArray⟩, .int .i64 (head : Int)] w fun e w' => e = .returned (.int .i64 (grown st name head).1) ∧ PStep w w' M O B (grown st name head).2 := by
  have hPS := h
  obtain ⟨bv, cv, LB, LCm, hP⟩ := h
  have hpl := g_splace hP hi name
  rw [fnd_any] at hpl
  by_cases hf : R.fnd st.brs name < st.brs.length
  · have HR : Hid (grown st name head = (9, st)) := by show _ = _; rw [grown, if_pos (by rw [R.fndI, if_pos hf]; omega)]
    rw [decide_eq_true hf] at hpl
    have HPS := hide3 hPS
    clear hP hi hf hPS
    go_enter Tryz.func53, Tryz.ntmps53
    go_wp2_with fail
    refine hpl.mono ?_
    rintro e w1 ⟨rfl, hw1⟩
    subst hw1
    go_wp2
    go_ret
    exact ⟨ret_int (by rw [HR.out]), by rw [HR.out]; exact PStep.same HPS.out (Below.refl _ _)⟩
  rw [decide_eq_false hf] at hpl
  have hnf : ¬ 0 ≤ R.fndI st.brs name := by rw [R.fndI, if_neg hf]; omega
  have hlen : st.brs.length = LB.length := by rw [← hP.brs, List.length_map]
  obtain ⟨a, cap, hbv, hn, hm, hnil, hsome⟩ := owns_form hP.row
  have c0 := hP.c0
  rw [hbv] at c0
  unfold maxLen at hm
  by_cases h6 : 6 ≤ st.brs.length
  · have HR : Hid (grown st name head = (4, st)) := by show _ = _; rw [grown, if_neg hnf, if_pos h6]
    have HPS := hide3 hPS
    have h6' : 6 ≤ LB.length := by omega
    clear hP hi hf hPS hsome hnil hlen h6 hnf
    go_enter Tryz.func53, Tryz.ntmps53
    go_wp2_with fail
    refine hpl.mono ?_
    rintro e w1 ⟨rfl, hw1⟩
    subst hw1
    go_wp2
    go_ret
    exact ⟨ret_int (by rw [HR.out]), by rw [HR.out]; exact PStep.same HPS.out (Below.refl _ _)⟩
  have HR : Hid (grown st name head = (0, R.headNew st { name := name, head := head, work := R.treeOf st head })) := by show _ = _; rw [grown, if_neg hnf, if_neg h6]
  have hto := fun W (hW : Below w.heap.size w W) => g_treeOf (hP.below hW) head hh hi.few
  have h6' : ¬ 6 ≤ LB.length := by omega
  have HP := hide3 hP
  have hBl := hP.lt B hP.own
  have fr0 := hP.fr 0
  clear hP hi hf hPS hsome hnil hlen h6 hnf
  go_enter Tryz.func53, Tryz.ntmps53
  go_wp2_with fail
  refine hpl.mono ?_
  rintro e w1 ⟨rfl, hw1⟩
  subst hw1
  go_wp2_with fail
  refine (hto _ (Below.refl _ _)).mono ?_
  rintro e w2 ⟨ta, tc, rfl, hpt, hw2⟩
  subst hw2
  have HPT := hide3 hpt
  clear hto hpl hpt
  have hrw := HP.out.row
  have hbO : ∀ g, bv.ownBlock = some g → g < w2.heap.size ∧ g ≠ B := fun g e => ⟨HP.out.lt g (HP.out.rowO g e).1, (HP.out.rowO g e).2⟩
  have hpp : posK R.Br.name st.brs name ≤ LB.length := by
    have := posK_le R.Br.name st.brs name
    have e : st.brs.length = LB.length := by rw [← HP.out.brs, List.length_map]
    omega
  have HIns := s_InsB bv LB.length (posK R.Br.name st.brs name) (w2.heap.size + 1) 0 (ptrs LB) #[.pointer (some ⟨w2.heap.size, 0, none⟩)] ((w2.alloc (Obj.cells #[.string ⟨name.toArray⟩, .int .i64 (head : Int), .slice ta (R.treeOf st head).length tc] 110)).alloc (Obj.cells #[.pointer (some ⟨w2.heap.size, 0, none⟩)] 105)) ((hrw.alloc _).alloc _) (Nat.zero_le _) hpp (by omega) (by simpa using heap_alloc_new (w2.alloc (Obj.cells #[.string ⟨name.toArray⟩, .int .i64 (head : Int), .slice ta (R.treeOf st head).length tc] 110)) (Obj.cells #[.pointer (some ⟨w2.heap.size, 0, none⟩)] 105)) rfl (fun e => by have := (hbO _ e).1; omega) (by
      intro u hu
      obtain ⟨q, _, rfl⟩ := List.mem_map.1 hu
      rfl) (by intro u hu; simp at hu; subst hu; rfl)
  have HBO := hide3 hbO
  have HBV := hide3 hbv
  rw [hbv] at HIns
  clear hrw hbO
  go_wp2_with fail
  refine HIns.mono ?_
  rintro e w3 ⟨v3, rfl, ho3, hg3, hl3⟩
  rw [← hbv] at hg3 hl3
  have hs3 : w2.heap.size + 2 ≤ w3.heap.size := by have := hg3.size; simpa using this
  have hnB : bv.ownBlock ≠ some B := fun e => (HBO.out _ e).2 rfl
  have hblk : ∀ k, k < w2.heap.size → bv.ownBlock ≠ some k → w3.heap[k]? = w2.heap[k]? := fun k hk hne => by
    rw [hg3.block k (by simp; omega) (fun e => hne e.symm), heap_alloc_old _ _ (by simp; omega), heap_alloc_old _ _ hk]
  have d0 : w3.cell? ⟨B, 0, none⟩ = some (.slice a LB.length cap) := (World.cell?_of_block (a := ⟨B, 0, none⟩) (hblk B hBl hnB)).trans c0
  have g0 : w3.frozen? ⟨B, 0, none⟩ = false := (World.frozen?_of_block (a := ⟨B, 0, none⟩) (hblk B hBl hnB)).trans fr0
  have hbb : w3.heap[w2.heap.size]? = some (.cells #[.string ⟨name.toArray⟩, .int .i64 (head : Int), .slice ta (R.treeOf st head).length tc] 110 (0, 0)) := by
    rw [hg3.block _ (by simp; omega) (fun e => by have := (HBO.out _ e.symm).1; omega), heap_alloc_old _ _ (by simp)]
    exact heap_alloc_new w2 _
  have HK : Hid (Kept (fun b => bv.ownBlock = some b) w2 w3) := ⟨hg3.os, hg3.tape, hg3.output, by omega, fun k hk hne => hblk k hk hne⟩
  have HAt : Hid (BrAt w3 (fun _ => False) ({ name := name, head := head, work := R.treeOf st head }, w2.heap.size, .slice ta (R.treeOf st head).length tc)) :=
    ⟨by simp only [World.cell?, hbb]; rfl, by simp only [World.cell?, hbb]; rfl, by simp only [World.cell?, hbb]; rfl, fun o => by simp [World.frozen?, hbb], HPT.out.step HK.out (fun b e => HP.out.sub b (HP.out.rowO b e).1) (fun b e => e.elim)⟩
  have HL3 : Hid (∀ g, v3.ownBlock = some g → bv.ownBlock = some g ∨ w2.heap.size + 2 ≤ g) := fun g e => by
    rcases hl3 g e with h | h
    · exact .inl h
    · exact .inr (by simpa using h)
  have HO3 := hide3 ho3
  obtain ⟨a3, c3, hv3, _⟩ := owns_form ho3
  subst hv3
  have hp : R.pos st.brs name = posK R.Br.name st.brs name := rfl
  clear hg3 hl3 ho3 HIns hblk hbb hnB HBO
  clear hbv
  go_wp2
  go_ret
  refine ⟨ret_int (by rw [HR.out]), ?_⟩
  rw [HR.out]
  refine insB_PS HP.out HK.out ({ name := name, head := head, work := R.treeOf st head }, w2.heap.size, .slice ta (R.treeOf st head).length tc) ?_ (fun g e => by
    rcases HL3.out g e with h | h
    · exact .inl h
    · exact .inr (by omega)) ⟨Nat.le_refl _, by show w2.heap.size < _; omega, ⟨HPT.out, HAt.out⟩, fun e => ?_⟩ rfl rfl
  · have := HO3.out
    simpa [hp] using this
  · rcases HL3.out _ e with h | h
    · have := HP.out.lt _ (HP.out.rowO _ h).1
      simp only at this; omega
    · simp only at h; omega
theorem made_branch (st : R.St) (name fr : List UInt8) : R.made st name fr false = if R.isName name = false then (1, st) else grown st name 0 := by
  unfold R.made grown
  simp
theorem made_fork (st : R.St) (name fr : List UInt8) : R.made st name fr true = if R.isName name = false then (1, st) else if R.fndI st.brs fr < 0 then (5, st) else grown st name (R.headOf st fr) := by
  unfold R.made grown
  simp
theorem g_isName' (s : List UInt8) (w : World) (hs : s.length ≤ maxLen) :
    Calls Tryz.prog 52 #[.string ⟨s.toArray⟩] w fun e w' => e = .returned (.bool (R.isName s)) ∧ w' = w := by
  have h := g_isName ⟨s.toArray⟩ w (by simpa [ByteArray.size] using hs)
  simpa using h
set_option maxHeartbeats 400000 in
theorem g_Branch (B : Nat) (st : R.St) (name : List UInt8) (w : World) (M O : Nat → Prop) (h : PS w M O B st) (hi : Inv st) (hnl : name.length ≤ maxLen) :
    Calls Tryz.prog 19 #[.pointer (some ⟨B, 0, none⟩), .string ⟨name.toArray⟩] w fun e w' => e = .returned (.int .i64 (R.made st name [] false).1) ∧ PStep w w' M O B (R.made st name [] false).2 := by
  have hn := g_isName' name w hnl
  have hg := g_grow B st name 0 w M O h hi (Nat.zero_le _)
  rw [made_branch]
  cases hb : R.isName name
  · rw [hb] at hn
    simp only [if_true]
    have HPS := hide3 h
    clear h hi hb hg
    go_enter Tryz.func19, Tryz.ntmps19
    go_wp2_with fail
    refine hn.mono ?_
    rintro e w1 ⟨rfl, hw1⟩
    subst hw1
    go_wp2
    go_ret
    exact ⟨rfl, PStep.same HPS.out (Below.refl _ _)⟩
  · rw [hb] at hn
    simp only [Bool.true_eq_false, if_false]
    clear h hi hb
    go_enter Tryz.func19, Tryz.ntmps19
    go_wp2_with fail
    refine hn.mono ?_
    rintro e w1 ⟨rfl, hw1⟩
    subst hw1
    go_wp2_with fail
    refine hg.mono ?_
    rintro e w2 ⟨rfl, hst⟩
    go_wp2
    go_ret
    exact ⟨rfl, hst⟩
theorem brAddr_some {w : World} {M O : Nat → Prop} {B : Nat} {st : R.St} {bv cv : Value} {LB : List BrP} {LCm : List (R.Cm × Value × Value)} (h : PSx w M O B st bv cv LB LCm) (s : List UInt8) (hf : R.fnd st.brs s < st.brs.length) :
    ∃ hl : R.fnd st.brs s < LB.length, brAddr LB st s = some ⟨(LB[R.fnd st.brs s]'hl).2.1, 0, none⟩ ∧ (LB[R.fnd st.brs s]'hl).1 = (st.brs[R.fnd st.brs s]'hf) ∧ R.headOf st s = (LB[R.fnd st.brs s]'hl).1.head ∧ R.workOf st s = (LB[R.fnd st.brs s]'hl).1.work := by
  have hl : R.fnd st.brs s < LB.length := by rw [← h.brs, List.length_map] at hf; rw [← h.brs]; exact hf
  have he : (LB[R.fnd st.brs s]'hl).1 = (st.brs[R.fnd st.brs s]'hf) := by simp only [← h.brs, List.getElem_map]
  refine ⟨hl, ?_, he, ?_, ?_⟩
  · rw [brAddr, if_pos hf, List.getElem?_eq_getElem hl]; rfl
  · rw [R.headOf, List.getElem?_eq_getElem hf, he]; rfl
  · rw [R.workOf, List.getElem?_eq_getElem hf, he]; rfl
set_option maxHeartbeats 400000 in
theorem g_Fork (B : Nat) (st : R.St) (name fr : List UInt8) (w : World) (M O : Nat → Prop) (h : PS w M O B st) (hi : Inv st) (hnl : name.length ≤ maxLen) :
    Calls Tryz.prog 22 #[.pointer (some ⟨B, 0, none⟩), .string ⟨name.toArray⟩, .string ⟨fr.toArray⟩] w fun e w' => e = .returned (.int .i64 (R.made st name fr true).1) ∧ PStep w w' M O B (R.made st name fr true).2 := by
  have hn := g_isName' name w hnl
  have hPS := h
  obtain ⟨bv, cv, LB, LCm, hP⟩ := h
  have hfd := g_find hP hi fr
  rw [made_fork]
  cases hb : R.isName name
  · rw [hb] at hn
    simp only [if_true]
    have HPS := hide3 hPS
    clear hPS hi hb hP hfd
    go_enter Tryz.func22, Tryz.ntmps22
    go_wp2_with fail
    refine hn.mono ?_
    rintro e w1 ⟨rfl, hw1⟩
    subst hw1
    go_wp2
    go_ret
    exact ⟨rfl, PStep.same HPS.out (Below.refl _ _)⟩
  rw [hb] at hn
  simp only [Bool.true_eq_false, if_false]
  by_cases hf : R.fnd st.brs fr < st.brs.length
  · have hnn : ¬ R.fndI st.brs fr < 0 := by rw [R.fndI, if_pos hf]; omega
    rw [if_neg hnn]
    obtain ⟨hl, ha, he, hh, _⟩ := brAddr_some hP fr hf
    have hhd : R.headOf st fr ≤ st.cms.length := by rw [hh, he]; exact hi.heads _ (List.getElem_mem hf)
    have hg := g_grow B st name (R.headOf st fr) w M O hPS hi hhd
    have e1 := (hP.at_ _ (List.getElem_mem hl)).c1
    rw [ha] at hfd
    rw [← hh] at e1
    generalize (LB[R.fnd st.brs fr]'hl).2.1 = bb at *
    clear hPS hi hb hP hnn hf he ha hh hhd
    generalize R.headOf st fr = hd at *
    go_enter Tryz.func22, Tryz.ntmps22
    go_wp2_with fail
    refine hn.mono ?_
    rintro e w1 ⟨rfl, hw1⟩
    subst hw1
    go_wp2_with fail
    refine hfd.mono ?_
    rintro e w1 ⟨rfl, hw1⟩
    subst hw1
    go_wp2_with fail
    refine hg.mono ?_
    rintro e w2 ⟨rfl, hst⟩
    go_wp2
    go_ret
    exact ⟨rfl, hst⟩
  · have hnn : R.fndI st.brs fr < 0 := by rw [R.fndI, if_neg hf]; omega
    rw [if_pos hnn]
    have ha : brAddr LB st fr = none := by rw [brAddr, if_neg hf]
    rw [ha] at hfd
    have HPS := hide3 hPS
    clear hPS hi hb hP hnn hf ha
    go_enter Tryz.func22, Tryz.ntmps22
    go_wp2_with fail
    refine hn.mono ?_
    rintro e w1 ⟨rfl, hw1⟩
    subst hw1
    go_wp2_with fail
    refine hfd.mono ?_
    rintro e w1 ⟨rfl, hw1⟩
    subst hw1
    go_wp2
    go_ret
    exact ⟨rfl, PStep.same HPS.out (Below.refl _ _)⟩
set_option maxHeartbeats 800000 in
theorem g_Drop (B : Nat) (st : R.St) (name : List UInt8) (w : World) (M O : Nat → Prop) (h : PS w M O B st) (hi : Inv st) :
    Calls Tryz.prog 24 #[.pointer (some ⟨B, 0, none⟩), .string ⟨name.toArray⟩] w fun e w' => e = .returned (.int .i64 (R.dropped st name).1) ∧ PStep w w' M O B (R.dropped st name).2 := by
  have hPS := h
  obtain ⟨bv, cv, LB, LCm, hP⟩ := h
  have hpl := g_splace hP hi name
  rw [fnd_any] at hpl
  by_cases hf : R.fnd st.brs name < st.brs.length
  · have hnn : ¬ R.fndI st.brs name < 0 := by rw [R.fndI, if_pos hf]; omega
    have HR : Hid (R.dropped st name = (0, { st with brs := st.brs.take (R.fnd st.brs name) ++ st.brs.drop (R.fnd st.brs name + 1), packed := st.packed ++ R.record 68 name })) := by show _ = _; rw [R.dropped, if_neg hnn]
    rw [decide_eq_true hf, ← fnd_pos hi.sort name hf] at hpl
    have hlen : st.brs.length = LB.length := by rw [← hP.brs, List.length_map]
    have hfl : R.fnd st.brs name < LB.length := by omega
    obtain ⟨a, cap, hbv, hn, hm, hnil, hsome⟩ := owns_form hP.row
    have c0 := hP.c0
    have fr0 := hP.fr 0
    have hBl := hP.lt B hP.own
    have hD := s_DelB bv LB.length (R.fnd st.brs name) 0 (ptrs LB) w hP.row hfl (by
      intro u hu
      obtain ⟨q, _, rfl⟩ := List.mem_map.1 hu
      rfl)
    have HP := hide3 hP
    have HBV := hide3 hbv
    rw [hbv] at hD c0
    unfold maxLen at hm
    have hL6 : LB.length ≤ 6 := by have := hi.many; omega
    clear hPS hi hP hnn hf hsome hnil hlen
    generalize R.fnd st.brs name = k at *
    go_enter Tryz.func24, Tryz.ntmps24
    go_wp2_with fail
    refine hpl.mono ?_
    rintro e w1 ⟨rfl, hw1⟩
    subst hw1
    go_wp2_with fail
    refine hD.mono ?_
    rintro e w3 ⟨v3, rfl, ho3, hg3, hl3⟩
    rw [← hbv] at hg3 hl3
    have hnB : bv.ownBlock ≠ some B := fun e => (HP.out.rowO _ e).2 rfl
    have hblk : w3.heap[B]? = w1.heap[B]? := hg3.block B hBl (fun e => hnB e.symm)
    have d0 := (World.cell?_of_block (a := ⟨B, 0, none⟩) hblk).trans c0
    have g0 := (World.frozen?_of_block (a := ⟨B, 0, none⟩) hblk).trans fr0
    have HK : Hid (Kept (fun b => bv.ownBlock = some b) w1 w3) := ⟨hg3.os, hg3.tape, hg3.output, hg3.size, fun k hk hne => hg3.block k hk (fun e => hne e.symm)⟩
    have HL3 := hide3 hl3
    have HO3 := hide3 ho3
    obtain ⟨a3, c3, hv3, _⟩ := owns_form ho3
    subst hv3
    clear hg3 hl3 ho3 hD hblk hbv hnB
    go_wp2
    go_ret
    refine ⟨ret_int (by rw [HR.out]), ?_⟩
    rw [HR.out]
    refine delB_PS HP.out HK.out hfl ?_ HL3.out rfl rfl
    have := HO3.out
    simpa using this
  · have hnn : R.fndI st.brs name < 0 := by rw [R.fndI, if_neg hf]; omega
    have HR : Hid (R.dropped st name = (5, st)) := by show _ = _; rw [R.dropped, if_pos hnn]
    rw [decide_eq_false hf] at hpl
    have HPS := hide3 hPS
    clear hPS hi hP hnn hf
    go_enter Tryz.func24, Tryz.ntmps24
    go_wp2_with fail
    refine hpl.mono ?_
    rintro e w1 ⟨rfl, hw1⟩
    subst hw1
    go_wp2
    go_ret
    exact ⟨ret_int (by rw [HR.out]), by rw [HR.out]; exact PStep.same HPS.out (Below.refl _ _)⟩
end Go.Proofs.YtojlbiaedhkddaaGreatDoor
