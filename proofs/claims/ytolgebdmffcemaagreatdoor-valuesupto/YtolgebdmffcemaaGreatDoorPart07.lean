/-
  Plain facts: what every store keeps to (names, paths and items in order; the limits), and that the document's changes keep it.
  How a store of the program (package graft) lies in memory: words for it, and what keeps them.
-/
import Derived.Test.YtolgebdmffcemaaGreatDoorPart06
import Derived.Test.YtolgebdmffcemaaGreatDoorPart05
set_option linter.unusedVariables false
namespace Go.Proofs.YtolgebdmffcemaaGreatDoor
structure OkL (x : R.Leaf) : Prop where
  path : R.isPath x.path = true
  kind : (x.kind = 35 ∧ x.text = [] ∧ x.items = []) ∨ (x.kind = 61 ∧ x.n = 0 ∧ x.items = []) ∨ (x.kind = 42 ∧ x.n = 0 ∧ x.text = [] ∧ x.items ≠ [])
  hi : x.n ≤ 1000000000
  lo : -1000000000 ≤ x.n
  text : R.isText x.text = true
  many : x.items.length ≤ 8
  item : ∀ i ∈ x.items, R.isText i = true ∧ i ≠ []
  sort : SortedI x.items
structure OkT (t : List R.Leaf) : Prop where
  sort : Sorted t
  few : t.length ≤ 24
  ok : ∀ x ∈ t, OkL x
structure Inv (st : R.St) : Prop where
  many : st.brs.length ≤ 6
  names : ∀ b ∈ st.brs, R.isName b.name = true
  sort : SortK R.Br.name st.brs
  work : ∀ b ∈ st.brs, OkT b.work
  heads : ∀ b ∈ st.brs, b.head ≤ st.cms.length
  few : st.cms.length ≤ 60
  trees : ∀ c ∈ st.cms, OkT c.tree
  pars : ∀ (i : Nat) (h : i < st.cms.length), ∀ p ∈ st.cms[i].parents, 1 ≤ p ∧ p ≤ i
theorem isText_len (l : List UInt8) (h : R.isText l = true) : l.length ≤ 20 := by
  simp only [R.isText, Bool.and_eq_true, decide_eq_true_eq] at h; exact h.1
theorem isName_len (l : List UInt8) (h : R.isName l = true) : l.length ≤ 8 := by
  simp only [R.isName, Bool.and_eq_true, decide_eq_true_eq] at h; exact h.2.2
theorem isPath_len (l : List UInt8) (h : R.isPath l = true) : l.length ≤ 100 := by
  simp only [R.isPath, Bool.and_eq_true, decide_eq_true_eq] at h; exact h.1
theorem OkL.good {x : R.Leaf} (h : OkL x) : R.Good x :=
  ⟨by have := isPath_len _ h.path; omega, by have := h.hi; omega, by have := h.lo; omega, by have := isText_len _ h.text; omega, by have := h.many; omega, fun i hi => by have := isText_len _ (h.item i hi).1; omega⟩
theorem OkL.nz {x : R.Leaf} (h : OkL x) : x.kind ≠ 0 := by
  rcases h.kind with h | h | h <;> (rw [h.1]; decide)
theorem Inv.fine {st : R.St} (h : Inv st) : R.Fine st :=
  ⟨h.many, ⟨by have := h.few; omega, h.heads⟩, fun b hb => isName_len _ (h.names b hb), fun b hb => (h.work b hb).few, fun b hb x hx => ((h.work b hb).ok x hx).good⟩
theorem OkT.nil : OkT [] := ⟨fun i j hi => by simp at hi, by simp, by simp⟩
theorem at_any (t : List R.Leaf) (p : List UInt8) : ((t.any fun x => x.path == p) = false ∧ R.at_ t p = R.none p) ∨ ((t.any fun x => x.path == p) = true ∧ R.at_ t p ∈ t ∧ (R.at_ t p).path = p) := by
  unfold R.at_
  cases h : t.find? fun x => x.path == p with
  | none =>
    refine .inl ⟨?_, rfl⟩
    rw [Bool.eq_false_iff]; intro ha
    obtain ⟨y, hy, hys⟩ := List.any_eq_true.1 ha
    exact absurd hys (by have := List.find?_eq_none.1 h y hy; simpa using this)
  | some y =>
    have h1 := List.find?_some h
    have h2 := List.mem_of_find?_eq_some h
    exact .inr ⟨List.any_eq_true.2 ⟨y, h2, h1⟩, h2, beq_iff_eq.1 h1⟩
theorem OkT.bytes {t : List R.Leaf} (h : OkT t) : ∀ y ∈ t, ∀ c ∈ y.path, 47 ≤ c := fun y hy => isPath_bytes _ (h.ok y hy).path
theorem set_gone {t : List R.Leaf} (h : OkT t) (x : R.Leaf) (hp : R.isPath x.path = true) (hk : x.kind = 0) : R.set t x = t.filter fun y => !(y.path == x.path) := by
  rw [R.set, decide_eq_true hk, setL_insK x (isPath_bytes _ hp) t true h.bytes, insK_true]
theorem set_laid {t : List R.Leaf} (h : OkT t) (x : R.Leaf) (hp : R.isPath x.path = true) (hk : x.kind ≠ 0) : R.set t x = insK R.Leaf.path x x.path false t := by
  rw [R.set, decide_eq_false hk, setL_insK x (isPath_bytes _ hp) t false h.bytes]
theorem set_hit {t : List R.Leaf} (h : OkT t) (x : R.Leaf) (hp : R.isPath x.path = true) (hk : x.kind ≠ 0) (ha : (t.any fun y => y.path == x.path) = true) : R.set t x = t.take (posT t x.path) ++ x :: t.drop (posT t x.path + 1) := by
  rw [set_laid h x hp hk]; exact insK_hit x h.sort.k ha
theorem set_miss {t : List R.Leaf} (h : OkT t) (x : R.Leaf) (hp : R.isPath x.path = true) (hk : x.kind ≠ 0) (ha : (t.any fun y => y.path == x.path) = false) : R.set t x = t.take (posT t x.path) ++ x :: t.drop (posT t x.path) := by
  rw [set_laid h x hp hk]; exact insK_miss x h.sort.k ha
theorem set_cut {t : List R.Leaf} (h : OkT t) (x : R.Leaf) (hp : R.isPath x.path = true) (hk : x.kind = 0) (ha : (t.any fun y => y.path == x.path) = true) : R.set t x = t.take (posT t x.path) ++ t.drop (posT t x.path + 1) := by
  rw [set_gone h x hp hk]; exact filt_hit h.sort.k ha
theorem set_same {t : List R.Leaf} (h : OkT t) (x : R.Leaf) (hp : R.isPath x.path = true) (hk : x.kind = 0) (ha : (t.any fun y => y.path == x.path) = false) : R.set t x = t := by
  rw [set_gone h x hp hk]; exact filt_miss R.Leaf.path x.path t ha
theorem item_hit {l : List (List UInt8)} (h : SortedI l) (s : List UInt8) (ha : (l.any fun y => y == s) = true) : R.item l s = l := by
  rw [R.item, itemL_insK, insK_hit s h.k ha]
  obtain ⟨hp, he⟩ := posK_hit (k := id) (s := s) h.k ha
  have e : s :: l.drop (posK id l s + 1) = l.drop (posK id l s) := by
    rw [List.drop_eq_getElem_cons hp]; congr 1; exact he.symm
  rw [e, List.take_append_drop]
theorem item_miss {l : List (List UInt8)} (h : SortedI l) (s : List UInt8) (ha : (l.any fun y => y == s) = false) : R.item l s = l.take (posS l s) ++ s :: l.drop (posS l s) := by
  rw [R.item, itemL_insK]; exact insK_miss s h.k ha
theorem without_hit {l : List (List UInt8)} (h : SortedI l) (s : List UInt8) (ha : (l.any fun y => y == s) = true) : R.without l s = l.take (posS l s) ++ l.drop (posS l s + 1) := filt_hit (k := id) h.k ha
theorem item_sort {l : List (List UInt8)} (h : SortedI l) (s : List UInt8) : SortedI (R.item l s) := by
  rw [R.item, itemL_insK]; exact SortK.i (insK_sort rfl h.k)
theorem item_mem {l : List (List UInt8)} {s z : List UInt8} (h : z ∈ R.item l s) : z = s ∨ z ∈ l := by
  rw [R.item, itemL_insK] at h; exact insK_mem h
theorem item_ne (l : List (List UInt8)) (h : SortedI l) (s : List UInt8) : R.item l s ≠ [] := by
  cases ha : l.any fun y => y == s
  · rw [item_miss h s ha]; simp
  · rw [item_hit h s ha]; intro e; rw [e] at ha; simp at ha
/-- a value that is laid down keeps the tree -/
theorem set_ok {t : List R.Leaf} (h : OkT t) (x : R.Leaf) (hp : R.isPath x.path = true) (hx : x.kind ≠ 0 → OkL x) (hm : x.kind ≠ 0 → (R.at_ t x.path).kind = 0 → t.length < 24) : OkT (R.set t x) := by
  by_cases hk : x.kind = 0
  · rw [set_gone h x hp hk]
    refine ⟨SortK.t (List.Pairwise.sublist List.filter_sublist h.sort.k), ?_, fun y hy => h.ok y (List.mem_filter.1 hy).1⟩
    have := List.length_filter_le (fun y : R.Leaf => !(y.path == x.path)) t
    have := h.few; omega
  · have hs : Sorted (R.set t x) := by rw [set_laid h x hp hk]; exact SortK.t (insK_sort rfl h.sort.k)
    refine ⟨hs, ?_, fun y hy => ?_⟩
    · rcases at_any t x.path with ⟨ha, he⟩ | ⟨ha, h1, h2⟩
      · rw [set_miss h x hp hk ha]
        have := hm hk (by rw [he]; rfl)
        simp only [List.length_append, List.length_cons, List.length_take, List.length_drop]; omega
      · rw [set_hit h x hp hk ha]
        obtain ⟨hpl, _⟩ := posK_hit (k := R.Leaf.path) h.sort.k ha
        have e : posT t x.path = posK R.Leaf.path t x.path := rfl
        have := h.few
        simp only [List.length_append, List.length_cons, List.length_take, List.length_drop]; omega
    · rw [set_laid h x hp hk] at hy
      rcases insK_mem hy with rfl | hy
      · exact hx hk
      · exact h.ok y hy
theorem at_ok {t : List R.Leaf} (h : OkT t) (p : List UInt8) : R.at_ t p = R.none p ∨ OkL (R.at_ t p) := by
  rcases at_any t p with ⟨_, he⟩ | ⟨_, h1, _⟩
  · exact .inl he
  · exact .inr (h.ok _ h1)
/-- what a change lays down under its path -/
theorem valV_ok {t : List R.Leaf} (h : OkT t) (kind : Int) (path : List UInt8) (n : Int) (text : List UInt8) (hp : R.isPath path = true) (hk : kind = 0 ∨ kind = 45 ∨ kind = 35 ∨ kind = 61 ∨ kind = 42)
    (h0 : (R.valV kind t (R.at_ t path) path n text).1 = 0) : OkT (R.set t (R.valV kind t (R.at_ t path) path n text).2) := by
  generalize hx : R.at_ t path = x at *
  have hox : x = R.none path ∨ OkL x := by rw [← hx]; exact at_ok h path
  have hpath : x.path = path := by
    rcases at_any t path with ⟨_, he⟩ | ⟨_, _, h2⟩
    · rw [← hx, he]; rfl
    · rw [← hx]; exact h2
  have hsI : SortedI x.items := by
    rcases hox with rfl | hox
    · intro i j hi; simp [R.none] at hi
    · exact hox.sort
  have hfin : ∀ y : R.Leaf, y.path = path → (y.kind ≠ 0 → OkL y) → (y.kind ≠ 0 → x.kind = 0 → t.length < 24) → OkT (R.set t y) := fun y hy h1 h2 =>
    set_ok h y (by rw [hy]; exact hp) h1 fun h3 h4 => h2 h3 (by rw [hy, hx] at h4; exact h4)
  rcases hk with rfl | rfl | rfl | rfl | rfl
  · simp only [R.valV, if_true, R.delV] at h0 ⊢
    split at h0
    · cases h0
    · rw [if_neg (by assumption)]
      exact hfin _ rfl (fun h => absurd rfl h) (fun h => absurd rfl h)
  · simp only [R.valV, show ¬ (45 : Int) = 0 by decide, if_false, if_true, R.takeV] at h0 ⊢
    split at h0
    · cases h0
    · rename_i c1
      split at h0
      · cases h0
      · rename_i c2
        split at h0
        · cases h0
        · rename_i c3
          rw [if_neg c1, if_neg c2, if_neg c3]
          have c3' : (x.items.any fun y => y == text) = true := by simpa using c3
          have hko : OkL x ∧ x.kind = 42 := by
            rcases hox with rfl | hox
            · simp [R.none] at c3'
            · refine ⟨hox, ?_⟩
              have := hox.nz
              by_cases e : x.kind = 42
              · exact e
              · exact absurd ⟨this, e⟩ c2
          refine hfin _ rfl (fun hne => ?_) (fun hne hz => absurd hz hko.1.nz)
          have hw : R.without x.items text ≠ [] := by
            intro e; simp [e] at hne
          refine ⟨hp, .inr (.inr ⟨by simp [hw], rfl, rfl, hw⟩), by simp, by simp, rfl, ?_, fun i hi => hko.1.item i (List.mem_filter.1 hi).1, SortK.i (List.Pairwise.sublist List.filter_sublist hko.1.sort.k)⟩
          have := List.length_filter_le (fun y : List UInt8 => !(y == text)) x.items
          have := hko.1.many
          simp only [R.without]; omega
  · simp only [R.valV, show ¬ (35 : Int) = 0 by decide, show ¬ (35 : Int) = 45 by decide, if_false, if_true, R.addV] at h0 ⊢
    split at h0
    · cases h0
    · rename_i c1
      split at h0
      · cases h0
      · rename_i c2
        split at h0
        · cases h0
        · rename_i c3
          split at h0
          · cases h0
          · rename_i c4
            rw [if_neg c1, if_neg c2, if_neg c3, if_neg c4]
            refine hfin _ rfl (fun _ => ?_) (fun _ hz => by
              rcases Nat.lt_or_ge t.length 24 with h | h
              · exact h
              · exact absurd ⟨hz, h⟩ c4)
            exact ⟨hp, .inl ⟨rfl, rfl, rfl⟩, by simp only; omega, by simp only; omega, rfl, by simp, by simp, fun i j hi => by simp at hi⟩
  · simp only [R.valV, show ¬ (61 : Int) = 0 by decide, show ¬ (61 : Int) = 45 by decide, show ¬ (61 : Int) = 35 by decide, if_false, if_true, R.noteV] at h0 ⊢
    split at h0
    · cases h0
    · rename_i c1
      split at h0
      · cases h0
      · rename_i c2
        split at h0
        · cases h0
        · rename_i c3
          split at h0
          · cases h0
          · rename_i c4
            rw [if_neg c1, if_neg c2, if_neg c3, if_neg c4]
            refine hfin _ rfl (fun _ => ?_) (fun _ hz => by
              rcases Nat.lt_or_ge t.length 24 with h | h
              · exact h
              · exact absurd ⟨hz, h⟩ c4)
            exact ⟨hp, .inr (.inl ⟨rfl, rfl, rfl⟩), by simp, by simp, by simpa using c1, by simp, by simp, fun i j hi => by simp at hi⟩
  · simp only [R.valV, show ¬ (42 : Int) = 0 by decide, show ¬ (42 : Int) = 45 by decide, show ¬ (42 : Int) = 35 by decide, show ¬ (42 : Int) = 61 by decide, if_false, R.putV] at h0 ⊢
    split at h0
    · cases h0
    · rename_i c1
      split at h0
      · cases h0
      · rename_i c2
        split at h0
        · cases h0
        · rename_i c3
          split at h0
          · cases h0
          · rename_i c4
            split at h0
            · cases h0
            · rename_i c5
              rw [if_neg c1, if_neg c2, if_neg c3, if_neg c4, if_neg c5]
              refine hfin _ rfl (fun _ => ?_) (fun _ hz => by
                rcases Nat.lt_or_ge t.length 24 with h | h
                · exact h
                · exact absurd ⟨hz, h⟩ c5)
              have c1' : R.isText text = true ∧ text ≠ [] := by simpa using c1
              refine ⟨hp, .inr (.inr ⟨rfl, rfl, rfl, item_ne _ hsI _⟩), by simp, by simp, rfl, by simp only; omega, fun i hi => ?_, item_sort hsI text⟩
              rcases item_mem hi with rfl | hi
              · exact c1'
              · rcases hox with rfl | hox
                · simp [R.none] at hi
                · exact hox.item i hi
/-! branches -/
theorem fnd_any (l : List R.Br) (n : List UInt8) : (l.any fun b => b.name == n) = decide (R.fnd l n < l.length) := by
  rw [Bool.eq_iff_iff, decide_eq_true_eq, List.any_eq_true]
  unfold R.fnd
  rw [List.findIdx_lt_length]
theorem fnd_pos {l : List R.Br} (h : SortK R.Br.name l) (n : List UInt8) (hl : R.fnd l n < l.length) : R.fnd l n = posK R.Br.name l n := by
  obtain ⟨hp, he⟩ := posK_hit (k := R.Br.name) (s := n) h (by rw [fnd_any]; exact decide_eq_true hl)
  have hf := R.fnd_name l n hl
  have hs := (sortK_iff _ _).1 h
  rcases Nat.lt_trichotomy (R.fnd l n) (posK R.Br.name l n) with hlt | e | hgt
  · have := hs _ _ hl hp hlt; rw [hf, he, bytesLess_irrefl] at this; cases this
  · exact e
  · have := hs _ _ hp hl hgt; rw [hf, he, bytesLess_irrefl] at this; cases this
theorem insB_insK {l : List R.Br} (h : SortK R.Br.name l) (b : R.Br) (hn : ¬ R.fnd l b.name < l.length) : R.insB l b = insK R.Br.name b b.name false l := by
  rw [insK_miss b h (by rw [fnd_any]; exact decide_eq_false hn)]; rfl
theorem treeOf_ok {st : R.St} (h : Inv st) (n : Nat) : OkT (R.treeOf st n) := by
  unfold R.treeOf
  split
  · exact OkT.nil
  · cases e : st.cms[n - 1]? with
    | none => exact OkT.nil
    | some c => exact h.trees c (List.mem_of_getElem? e)
theorem made_inv {st : R.St} (h : Inv st) (name fr : List UInt8) (fork : Bool) : Inv (R.made st name fr fork).2 := by
  unfold R.made
  split
  · exact h
  · rename_i hn
    split
    · exact h
    · split
      · exact h
      · rename_i hf
        split
        · exact h
        · rename_i hm
          have hnl : ¬ R.fnd st.brs name < st.brs.length := by
            intro e; exact hf (by rw [R.fndI, if_pos e]; omega)
          have hhead : (if fork then R.headOf st fr else 0) ≤ st.cms.length := by
            split
            · unfold R.headOf
              cases e : st.brs[R.fnd st.brs fr]? with
              | none => simp
              | some b => exact h.heads b (List.mem_of_getElem? e)
            · omega
          generalize hb : ({ name := name, head := if fork then R.headOf st fr else 0, work := R.treeOf st (if fork then R.headOf st fr else 0) } : R.Br) = b
          have hbn : b.name = name := by rw [← hb]
          have hins := insB_insK h.sort b (by rw [hbn]; exact hnl)
          have hmem : ∀ z ∈ R.insB st.brs b, z = b ∨ z ∈ st.brs := fun z hz => by rw [hins] at hz; exact insK_mem hz
          have hlen : (R.insB st.brs b).length = st.brs.length + 1 := by
            have hle : R.pos st.brs b.name ≤ st.brs.length := List.findIdx_le_length
            simp only [R.insB, List.length_append, List.length_take, List.length_cons, List.length_drop]; omega
          refine ⟨?_, ?_, ?_, ?_, ?_, h.few, h.trees, h.pars⟩
          · show (R.insB st.brs b).length ≤ 6
            omega
          · intro z hz
            rcases hmem z hz with rfl | hz
            · rw [hbn]; simpa using hn
            · exact h.names z hz
          · show SortK R.Br.name (R.insB st.brs b)
            rw [hins]; exact insK_sort rfl h.sort
          · intro z hz
            rcases hmem z hz with rfl | hz
            · rw [← hb]; exact treeOf_ok h _
            · exact h.work z hz
          · intro z hz
            rcases hmem z hz with rfl | hz
            · rw [← hb]; exact hhead
            · exact h.heads z hz
theorem dropped_inv {st : R.St} (h : Inv st) (n : List UInt8) : Inv (R.dropped st n).2 := by
  unfold R.dropped
  split
  · exact h
  · have hsub : (st.brs.take (R.fnd st.brs n) ++ st.brs.drop (R.fnd st.brs n + 1)).Sublist st.brs := by
      have h1 : (st.brs.drop (R.fnd st.brs n + 1)).Sublist (st.brs.drop (R.fnd st.brs n)) := by
        rw [← List.drop_drop]; exact List.drop_sublist _ _
      have := List.Sublist.append (List.Sublist.refl (st.brs.take (R.fnd st.brs n))) h1
      rwa [List.take_append_drop] at this
    refine ⟨Nat.le_trans hsub.length_le h.many, fun b hb => h.names b (hsub.subset hb), List.Pairwise.sublist hsub h.sort, fun b hb => h.work b (hsub.subset hb), fun b hb => h.heads b (hsub.subset hb), h.few, h.trees, h.pars⟩
theorem setWork_inv {st : R.St} (h : Inv st) (i : Nat) (t : List R.Leaf) (ht : OkT t) : Inv (R.setWork st i t) := by
  unfold R.setWork
  cases e : st.brs[i]? with
  | none => exact h
  | some b =>
    obtain ⟨hi, hb⟩ := List.getElem?_eq_some_iff.1 e
    have hbm : b ∈ st.brs := List.mem_of_getElem? e
    have hmem : ∀ z ∈ st.brs.set i { b with work := t }, z = { b with work := t } ∨ z ∈ st.brs := fun z hz => (List.mem_or_eq_of_mem_set hz).symm
    refine ⟨by simpa using h.many, fun z hz => ?_, ?_, fun z hz => ?_, fun z hz => ?_, h.few, h.trees, h.pars⟩
    · rcases hmem z hz with rfl | hz
      · exact h.names b hbm
      · exact h.names z hz
    · show SortK R.Br.name (st.brs.set i { b with work := t })
      rw [sortK_iff]
      have hs := (sortK_iff _ _).1 h.sort
      intro p q hp hq hpq
      have g : ∀ (p : Nat) (hp : p < (st.brs.set i { b with work := t }).length), (st.brs.set i { b with work := t })[p].name = (st.brs[p]'(by simpa using hp)).name := by
        intro p hp
        rw [List.getElem_set]
        split
        · rename_i e; subst e; simp only; rw [hb]
        · rfl
      rw [g, g]
      exact hs p q _ _ hpq
    · rcases hmem z hz with rfl | hz
      · exact ht
      · exact h.work z hz
    · rcases hmem z hz with rfl | hz
      · exact h.heads b hbm
      · exact h.heads z hz
theorem workOf_ok {st : R.St} (h : Inv st) (n : List UInt8) : OkT (R.workOf st n) := by
  unfold R.workOf
  cases e : st.brs[R.fnd st.brs n]? with
  | none => exact OkT.nil
  | some b => exact h.work b (List.mem_of_getElem? e)
theorem change_inv {st : R.St} (h : Inv st) (kind : Int) (branch path : List UInt8) (n : Int) (text : List UInt8) (hk : kind = 0 ∨ kind = 45 ∨ kind = 35 ∨ kind = 61 ∨ kind = 42) : Inv (R.change st kind branch path n text).2 := by
  unfold R.change
  split
  · exact h
  · split
    · exact h
    · rename_i hp
      split
      · rename_i h0
        exact setWork_inv h _ _ (valV_ok (workOf_ok h branch) kind path n text (by simpa using hp) hk h0)
      · exact h
end Go.Proofs.YtolgebdmffcemaaGreatDoor
namespace Go.Proofs.YtolgebdmffcemaaGreatDoor
open Go.RowKit
/-- a branch of the program's, the block that it lies in, its tree's slice -/
abbrev BrP := R.Br × Nat × Value
def ptrs (L : List BrP) : List Value := L.map fun p => Value.pointer (some ⟨p.2.1, 0, none⟩)
def cellsK (L : List (R.Cm × Value × Value)) : List Value := L.flatMap fun p => [p.2.1, p.2.2]
structure BrAt (w : World) (M : Nat → Prop) (p : BrP) : Prop where
  c0 : w.cell? ⟨p.2.1, 0, none⟩ = some (.string ⟨p.1.name.toArray⟩)
  c1 : w.cell? ⟨p.2.1, 1, none⟩ = some (.int .i64 (p.1.head : Int))
  c2 : w.cell? ⟨p.2.1, 2, none⟩ = some p.2.2
  fr : ∀ o, w.frozen? ⟨p.2.1, o, none⟩ = false
  work : PT w M p.2.2 p.1.work
/-- the pack pk, as the store at block B has it -/
structure PkAt (w : World) (O : Nat → Prop) (B : Nat) (pk : List UInt8) (bv cv : Value) (LB : List BrP) (pv : Value) : Prop where
  c2 : w.cell? ⟨B, 2, none⟩ = some pv
  row : w.ownsRow 0 5 1 pv pk.length (Lib.byteCells pk)
  rowO : ∀ g, pv.ownBlock = some g → O g ∧ g ≠ B ∧ bv.ownBlock ≠ some g ∧ cv.ownBlock ≠ some g ∧ ∀ p ∈ LB, p.2.1 ≠ g
/-- the store st lies at block B; the blocks that O names are its own to be written; M names all such blocks of all -/
structure PSx (w : World) (M O : Nat → Prop) (B : Nat) (st : R.St) (bv cv : Value) (LB : List BrP) (LCm : List (R.Cm × Value × Value)) : Prop where
  sub : ∀ b, O b → M b
  lt : ∀ b, O b → b < w.heap.size
  own : O B
  c0 : w.cell? ⟨B, 0, none⟩ = some bv
  c1 : w.cell? ⟨B, 1, none⟩ = some cv
  fr : ∀ o, w.frozen? ⟨B, o, none⟩ = false
  brs : LB.map (·.1) = st.brs
  row : w.ownsRow 0 88 1 bv LB.length (ptrs LB)
  rowO : ∀ g, bv.ownBlock = some g → O g ∧ g ≠ B
  at_ : ∀ p ∈ LB, BrAt w M p
  blk : ∀ p ∈ LB, O p.2.1 ∧ p.2.1 ≠ B ∧ bv.ownBlock ≠ some p.2.1 ∧ cv.ownBlock ≠ some p.2.1
  dist : (LB.map (·.2.1)).Nodup
  cms : LCm.map (·.1) = st.cms
  crow : w.ownsRow 0 114 2 cv LCm.length (cellsK LCm)
  crowO : ∀ g, cv.ownBlock = some g → O g ∧ g ≠ B ∧ bv.ownBlock ≠ some g
  ctree : ∀ p ∈ LCm, PT w M p.2.2 p.1.tree
  cpar : ∀ p ∈ LCm, Rd w M p.2.1 p.1.parents.length (p.1.parents.map fun (n : Nat) => Value.int .i64 (n : Int))
  pk : ∃ pv, PkAt w O B st.packed bv cv LB pv
theorem PkAt.kept {w w' : World} {O Z : Nat → Prop} {B : Nat} {pk : List UInt8} {bv cv pv : Value} {LB : List BrP} (h : PkAt w O B pk bv cv LB pv) (hk : Kept Z w w') (hB : B < w.heap.size) (hBZ : ¬ Z B) (hZ : ∀ g, pv.ownBlock = some g → ¬ Z g) : PkAt w' O B pk bv cv LB pv :=
  ⟨by rw [hk.cell (p := ⟨B, 2, none⟩) hB hBZ]; exact h.c2, ownsRow_kept h.row hk hZ, h.rowO⟩
def PS (w : World) (M O : Nat → Prop) (B : Nat) (st : R.St) : Prop := ∃ bv cv LB LCm, PSx w M O B st bv cv LB LCm
/-- what a call on a store may do -/
def PStep (w w' : World) (M O : Nat → Prop) (B : Nat) (st' : R.St) : Prop := ∃ O', PS w' (fun b => M b ∨ O' b) O' B st' ∧ Kept O w w' ∧ (∀ b, O' b → O b ∨ w.heap.size ≤ b)
theorem BrAt.kept {w w' : World} {M M' Z : Nat → Prop} {p : BrP} (h : BrAt w M p) (hk : Kept Z w w') (hb : p.2.1 < w.heap.size) (hZ : ¬ Z p.2.1) (hZM : ∀ b, Z b → M b) (hM : ∀ b, M' b → M b ∨ w.heap.size ≤ b) : BrAt w' M' p :=
  ⟨by rw [hk.cell (p := ⟨p.2.1, 0, none⟩) hb hZ]; exact h.c0, by rw [hk.cell (p := ⟨p.2.1, 1, none⟩) hb hZ]; exact h.c1, by rw [hk.cell (p := ⟨p.2.1, 2, none⟩) hb hZ]; exact h.c2,
    fun o => by rw [hk.frozen (p := ⟨p.2.1, o, none⟩) hb hZ]; exact h.fr o, h.work.step hk hZM hM⟩
theorem PSx.kept {w w' : World} {M O : Nat → Prop} {B : Nat} {st : R.St} {bv cv : Value} {LB : List BrP} {LCm : List (R.Cm × Value × Value)} (h : PSx w M O B st bv cv LB LCm) {Z : Nat → Prop} (hk : Kept Z w w') (hZ : ∀ b, Z b → M b ∧ ¬ O b) {M' : Nat → Prop} (hM : ∀ b, M' b → M b ∨ w.heap.size ≤ b) (hOM : ∀ b, O b → M' b) : PSx w' M' O B st bv cv LB LCm := by
  have hB := h.lt B h.own
  have hBZ : ¬ Z B := fun e => (hZ B e).2 h.own
  have hZM : ∀ b, Z b → M b := fun b e => (hZ b e).1
  exact ⟨hOM, fun b hb => Nat.lt_of_lt_of_le (h.lt b hb) hk.size, h.own, by rw [hk.cell (p := ⟨B, 0, none⟩) hB hBZ]; exact h.c0, by rw [hk.cell (p := ⟨B, 1, none⟩) hB hBZ]; exact h.c1,
    fun o => by rw [hk.frozen (p := ⟨B, o, none⟩) hB hBZ]; exact h.fr o, h.brs, ownsRow_kept h.row hk (fun g e e2 => (hZ g e2).2 (h.rowO g e).1), h.rowO,
    fun p hp => (h.at_ p hp).kept hk (h.lt _ (h.blk p hp).1) (fun e => (hZ _ e).2 (h.blk p hp).1) hZM hM, h.blk, h.dist, h.cms, ownsRow_kept h.crow hk (fun g e e2 => (hZ g e2).2 (h.crowO g e).1), h.crowO,
    fun p hp => (h.ctree p hp).step hk hZM hM, fun p hp => (h.cpar p hp).step hk hZM hM,
    by obtain ⟨pv, hp⟩ := h.pk; exact ⟨pv, hp.kept hk hB hBZ (fun g e e2 => (hZ g e2).2 (hp.rowO g e).1)⟩⟩
theorem PS.kept {w w' : World} {M O : Nat → Prop} {B : Nat} {st : R.St} (h : PS w M O B st) {Z : Nat → Prop} (hk : Kept Z w w') (hZ : ∀ b, Z b → M b ∧ ¬ O b) {M' : Nat → Prop} (hM : ∀ b, M' b → M b ∨ w.heap.size ≤ b) (hOM : ∀ b, O b → M' b) : PS w' M' O B st := by
  obtain ⟨bv, cv, LB, LCm, h⟩ := h
  exact ⟨bv, cv, LB, LCm, h.kept hk hZ hM hOM⟩
theorem PSx.below {w w' : World} {M O : Nat → Prop} {B : Nat} {st : R.St} {bv cv : Value} {LB : List BrP} {LCm : List (R.Cm × Value × Value)} (h : PSx w M O B st bv cv LB LCm) (hb : Below w.heap.size w w') : PSx w' M O B st bv cv LB LCm :=
  h.kept (Kept.of_below (M := fun _ => False) hb) (fun _ e => e.elim) (fun _ e => .inl e) h.sub
theorem PS.below {w w' : World} {M O : Nat → Prop} {B : Nat} {st : R.St} (h : PS w M O B st) (hb : Below w.heap.size w w') : PS w' M O B st := by
  obtain ⟨bv, cv, LB, LCm, h⟩ := h
  exact ⟨bv, cv, LB, LCm, h.below hb⟩
theorem PStep.same {w w' : World} {M O : Nat → Prop} {B : Nat} {st : R.St} (h : PS w M O B st) (hb : Below w.heap.size w w') : PStep w w' M O B st := by
  have hs : ∀ b, O b → M b := by obtain ⟨bv, cv, LB, LCm, h⟩ := h; exact h.sub
  exact ⟨O, (h.below hb).kept (Kept.refl (fun _ => False) _) (fun _ e => e.elim) (fun b e => by rcases e with e | e; exact .inl e; exact .inl (hs b e)) (fun b e => .inr e), Kept.of_below hb, fun b e => .inl e⟩
theorem PStep.trans {w w1 w2 : World} {M O O1 : Nat → Prop} {B : Nat} {st : R.St} (hk : Kept O w w1) (hO : ∀ b, O1 b → O b ∨ w.heap.size ≤ b) (h : PStep w1 w2 (fun b => M b ∨ O1 b) O1 B st) : PStep w w2 M O B st := by
  obtain ⟨O2, hp, hk2, h2⟩ := h
  refine ⟨O2, hp.kept (Kept.refl (fun _ => False) _) (fun _ e => e.elim) (fun b e => ?_) (fun b e => .inr e), ⟨hk2.os.trans hk.os, hk2.tape.trans hk.tape, hk2.output.trans hk.output, Nat.le_trans hk.size hk2.size, fun k hk' hn => ?_⟩, fun b e => ?_⟩
  · rcases e with e | e
    · exact .inl (.inl (.inl e))
    · exact .inl (.inr e)
  · rw [hk2.block k (Nat.lt_of_lt_of_le hk' hk.size) (fun e => by rcases hO k e with e | e; exact hn e; omega)]
    exact hk.block k hk' hn
  · rcases h2 b e with e | e
    · exact hO b e
    · exact .inr (Nat.le_trans hk.size e)
theorem PStep.after {w w1 w2 : World} {M O : Nat → Prop} {B : Nat} {st : R.St} (hb : Below w.heap.size w w1) (h : PStep w1 w2 M O B st) : PStep w w2 M O B st := by
  obtain ⟨O2, hp, hk2, h2⟩ := h
  exact ⟨O2, hp, (Kept.of_below hb).trans hk2, fun b e => by
    rcases h2 b e with e | e
    · exact .inl e
    · exact .inr (Nat.le_trans hb.size e)⟩
theorem ptrs_at {w : World} {g : Nat} {L : List BrP} (hc : ∀ j u, (ptrs L)[j]? = some u → w.cell? ⟨g, j, none⟩ = some u) (i : Nat) (h : i < L.length) : w.cell? ⟨g, i, none⟩ = some (.pointer (some ⟨(L[i]'h).2.1, 0, none⟩)) :=
  hc i _ (by simp [ptrs, h])
end Go.Proofs.YtolgebdmffcemaaGreatDoor
