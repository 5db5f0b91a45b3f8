/-
  How the statement's own memory (graftlaw.World) lies: words for it, and what keeps them.
  How a tree of the program (package graft) lies in memory: words for it.
  Plain functions on stores of the document's answer (graftref): what the calls make of them.
  Plain functions on stores of the document's answer (graftref): Show and Drop.
  Plain functions on stores of the document's answer (graftref): what Change makes of them.
  Plain facts of bytes and lists in order: what the document's answer (graftref) does to a tree, a bag or a list of branches that is in order is what a search by halves and one cut make of it.
-/
import Derived.Test.YtolgebdmffcemaaGreatDoorPart05
import Derived.Test.YtolgebdmffcemaaGreatDoorPart01
import Derived.Test.YtolgebdmffcemaaGreatDoorPart04
set_option linter.unusedVariables false
namespace Go.Proofs.YtolgebdmffcemaaGreatDoor
open Go.RowKit
def cellsA (ps : List (Nat × Nat)) : List Value := ps.flatMap fun p => [Value.pointer (some ⟨p.1, 0, none⟩), .pointer (some ⟨p.2, 0, none⟩)]
/-- the statement's own memory at block Wb: the pairs of stores; the lists that came out, as their owner wrote them full, each with its mark -/
structure LWx (w : World) (M O : Nat → Prop) (Wb : Nat) (av : Value) (ps : List (Nat × Nat)) (nv tv uv kv : Value) (names : List (Value × List UInt8)) (nums : List (Value × Int)) (last : Nat) : Prop where
  sub : ∀ b, O b → M b
  lt : ∀ b, O b → b < w.heap.size
  own : O Wb
  c0 : w.cell? ⟨Wb, 0, none⟩ = some av
  c1 : w.cell? ⟨Wb, 1, none⟩ = some nv
  c2 : w.cell? ⟨Wb, 2, none⟩ = some tv
  c3 : w.cell? ⟨Wb, 3, none⟩ = some uv
  c4 : w.cell? ⟨Wb, 4, none⟩ = some kv
  c5 : w.cell? ⟨Wb, 5, none⟩ = some (.int .i64 (last : Int))
  fr : ∀ o, w.frozen? ⟨Wb, o, none⟩ = false
  arow : w.ownsRow 0 85 2 av ps.length (cellsA ps)
  nrow : w.ownsRow 0 45 1 nv names.length (names.map (·.1))
  trow : w.ownsRow 0 9 1 tv names.length (names.map fun p => S p.2)
  urow : w.ownsRow 0 39 1 uv nums.length (nums.map (·.1))
  krow : w.ownsRow 0 3 1 kv nums.length (nums.map fun p => .int .i64 p.2)
  nO : ∀ g, nv.ownBlock = some g → O g ∧ g ≠ Wb
  tO : ∀ g, tv.ownBlock = some g → O g ∧ g ≠ Wb ∧ nv.ownBlock ≠ some g
  uO : ∀ g, uv.ownBlock = some g → O g ∧ g ≠ Wb ∧ nv.ownBlock ≠ some g ∧ tv.ownBlock ≠ some g
  kO : ∀ g, kv.ownBlock = some g → O g ∧ g ≠ Wb ∧ nv.ownBlock ≠ some g ∧ tv.ownBlock ≠ some g ∧ uv.ownBlock ≠ some g
  aO : ∀ g, av.ownBlock = some g → O g ∧ g ≠ Wb ∧ nv.ownBlock ≠ some g ∧ tv.ownBlock ≠ some g ∧ uv.ownBlock ≠ some g ∧ kv.ownBlock ≠ some g
  nl : ∀ p ∈ names, ∃ n, Rd w M p.1 n (List.replicate n (S p.2))
  ul : ∀ p ∈ nums, ∃ n, Rd w M p.1 n (List.replicate n (.int .i64 p.2))
theorem LWx.kept {w w' : World} {M M' O Z : Nat → Prop} {Wb : Nat} {av : Value} {ps : List (Nat × Nat)} {nv tv uv kv : Value} {names : List (Value × List UInt8)} {nums : List (Value × Int)} {last : Nat} (h : LWx w M O Wb av ps nv tv uv kv names nums last)
    (hk : Kept Z w w') (hZ : ∀ b, Z b → M b ∧ ¬ O b) (hM : ∀ b, M' b → M b ∨ w.heap.size ≤ b) (hOM : ∀ b, O b → M' b) : LWx w' M' O Wb av ps nv tv uv kv names nums last := by
  have hW := h.lt Wb h.own
  have hn : ¬ Z Wb := fun e => (hZ Wb e).2 h.own
  have hZM : ∀ b, Z b → M b := fun b e => (hZ b e).1
  have cl : ∀ o v, w.cell? ⟨Wb, o, none⟩ = some v → w'.cell? ⟨Wb, o, none⟩ = some v := fun o v e => by rw [hk.cell (p := ⟨Wb, o, none⟩) hW hn]; exact e
  exact ⟨hOM, fun b e => Nat.lt_of_lt_of_le (h.lt b e) hk.size, h.own, cl _ _ h.c0, cl _ _ h.c1, cl _ _ h.c2, cl _ _ h.c3, cl _ _ h.c4, cl _ _ h.c5, fun o => by rw [hk.frozen (p := ⟨Wb, o, none⟩) hW hn]; exact h.fr o,
    ownsRow_kept h.arow hk (fun g e e2 => (hZ g e2).2 (h.aO g e).1), ownsRow_kept h.nrow hk (fun g e e2 => (hZ g e2).2 (h.nO g e).1), ownsRow_kept h.trow hk (fun g e e2 => (hZ g e2).2 (h.tO g e).1), ownsRow_kept h.urow hk (fun g e e2 => (hZ g e2).2 (h.uO g e).1), ownsRow_kept h.krow hk (fun g e e2 => (hZ g e2).2 (h.kO g e).1),
    h.nO, h.tO, h.uO, h.kO, h.aO, fun p hp => by obtain ⟨n, hr⟩ := h.nl p hp; exact ⟨n, hr.step hk hZM hM⟩, fun p hp => by obtain ⟨n, hr⟩ := h.ul p hp; exact ⟨n, hr.step hk hZM hM⟩⟩
end Go.Proofs.YtolgebdmffcemaaGreatDoor
namespace Go.Proofs.YtolgebdmffcemaaGreatDoor
open Go.RowKit
/-- the program's number for a kind -/
def pk (x : R.Leaf) : Int := if x.kind = 35 then 1 else if x.kind = 61 then 2 else if x.kind = 42 then 3 else 0
/-- a leaf of the program as five cells; iv: its slice of items -/
def PC (x : R.Leaf) (iv : Value) : List Value := [.string ⟨x.path.toArray⟩, .int .i64 (pk x), .int .i64 x.n, .string ⟨x.text.toArray⟩, iv]
def cellsP (L : List (R.Leaf × Value)) : List Value := L.flatMap fun p => PC p.1 p.2
def PT (w : World) (M : Nat → Prop) (v : Value) (t : List R.Leaf) : Prop := ∃ L : List (R.Leaf × Value), L.map (·.1) = t ∧ Rd w M v L.length (cellsP L) ∧ ∀ p ∈ L, It w M p
theorem PT.kept {w w' : World} {M : Nat → Prop} {v : Value} {t : List R.Leaf} (h : PT w M v t) (hk : Kept M w w') : PT w' M v t := by
  obtain ⟨L, h1, h2, h3⟩ := h
  exact ⟨L, h1, h2.kept hk, fun p hp => Rd.kept (h3 p hp) hk⟩
theorem PT.step {w w' : World} {M M' O : Nat → Prop} {v : Value} {t : List R.Leaf} (h : PT w M v t) (hk : Kept O w w') (hO : ∀ b, O b → M b) (hM : ∀ b, M' b → M b ∨ w.heap.size ≤ b) : PT w' M' v t := by
  obtain ⟨L, h1, h2, h3⟩ := h
  exact ⟨L, h1, h2.step hk hO hM, fun p hp => Rd.step (h3 p hp) hk hO hM⟩
theorem PT.below {w w' : World} {M : Nat → Prop} {v : Value} {t : List R.Leaf} (h : PT w M v t) (hb : Below w.heap.size w w') : PT w' M v t := h.kept (Kept.of_below hb)
theorem cellsP_length (L : List (R.Leaf × Value)) : (cellsP L).length = L.length * 5 := by
  unfold cellsP
  induction L with
  | nil => rfl
  | cons p r ih => rw [List.flatMap_cons, List.length_append, ih]; simp [PC]; omega
theorem cellsP_at : ∀ (L : List (R.Leaf × Value)) (i j : Nat) (h : i < L.length) (_ : j < 5), (cellsP L)[i * 5 + j]? = (PC (L[i]'h).1 (L[i]'h).2)[j]?
  | p :: r, 0, j, _, hj => by
    unfold cellsP
    rw [List.flatMap_cons, Nat.zero_mul, Nat.zero_add, List.getElem?_append_left (by simp [PC]; omega)]
    rfl
  | p :: r, i + 1, j, h, hj => by
    have ih := cellsP_at r i j (by simpa using h) hj
    unfold cellsP at ih ⊢
    rw [List.flatMap_cons, List.getElem?_append_right (by simp [PC]; omega)]
    rw [show (i + 1) * 5 + j - (PC p.1 p.2).length = i * 5 + j from by simp [PC]; omega]
    simpa using ih
theorem leafP {w : World} {b off : Nat} {L : List (R.Leaf × Value)} (hc : ∀ j u, (cellsP L)[j]? = some u → w.cell? ⟨b, off + j, none⟩ = some u) (i : Nat) (h : i < L.length) :
    w.cell? ⟨b, off + i * 5, none⟩ = some (.string ⟨(L[i]'h).1.path.toArray⟩) ∧ w.cell? ⟨b, off + i * 5 + 1, none⟩ = some (.int .i64 (pk (L[i]'h).1)) ∧ w.cell? ⟨b, off + i * 5 + 2, none⟩ = some (.int .i64 (L[i]'h).1.n) ∧
    w.cell? ⟨b, off + i * 5 + 3, none⟩ = some (.string ⟨(L[i]'h).1.text.toArray⟩) ∧ w.cell? ⟨b, off + i * 5 + 4, none⟩ = some (L[i]'h).2 := by
  have g : ∀ j u, j < 5 → (PC (L[i]'h).1 (L[i]'h).2)[j]? = some u → w.cell? ⟨b, off + i * 5 + j, none⟩ = some u := by
    intro j u hj hu
    rw [Nat.add_assoc]
    exact hc _ _ (by rw [cellsP_at L i j h hj]; exact hu)
  exact ⟨g 0 _ (by omega) rfl, g 1 _ (by omega) rfl, g 2 _ (by omega) rfl, g 3 _ (by omega) rfl, g 4 _ (by omega) rfl⟩
/-- the five cells of the leaf at place i; its items as a slice written out -/
theorem leafP' {w : World} {M : Nat → Prop} {b off : Nat} {L : List (R.Leaf × Value)} (hI : ∀ p ∈ L, It w M p) (hc : ∀ j u, (cellsP L)[j]? = some u → w.cell? ⟨b, off + j, none⟩ = some u) (i : Nat) (h : i < L.length) :
    ∃ (x : R.Leaf) (ia : Option Addr) (ic : Nat), Hid (L[i]'h = (x, .slice ia x.items.length ic)) ∧ It w M (x, .slice ia x.items.length ic) ∧ w.cell? ⟨b, off + i * 5, none⟩ = some (.string ⟨x.path.toArray⟩) ∧ w.cell? ⟨b, off + i * 5 + 1, none⟩ = some (.int .i64 (pk x)) ∧ w.cell? ⟨b, off + i * 5 + 2, none⟩ = some (.int .i64 x.n) ∧
    w.cell? ⟨b, off + i * 5 + 3, none⟩ = some (.string ⟨x.text.toArray⟩) ∧ w.cell? ⟨b, off + i * 5 + 4, none⟩ = some (.slice ia x.items.length ic) := by
  obtain ⟨c0, c1, c2, c3, c4⟩ := leafP hc i h
  have hi := hI _ (List.getElem_mem h)
  obtain ⟨ia, ic, hv, h1, h2, h3⟩ := hi
  refine ⟨(L[i]'h).1, ia, ic, ?_, ⟨ia, ic, rfl, h1, h2, h3⟩, c0, c1, c2, c3, by rw [c4, hv]⟩
  show L[i]'h = _
  rw [← hv]
theorem cellsP_snoc (L : List (R.Leaf × Value)) (x : R.Leaf) (iv : Value) : cellsP (L ++ [(x, iv)]) = cellsP L ++ [.string ⟨x.path.toArray⟩, .int .i64 (pk x), .int .i64 x.n, .string ⟨x.text.toArray⟩, iv] := by
  simp [cellsP, PC]
end Go.Proofs.YtolgebdmffcemaaGreatDoor
namespace Go.Proofs.YtolgebdmffcemaaGreatDoor
namespace R
def treeOf (st : St) (n : Nat) : List Leaf := if n = 0 then [] else ((st.cms[n - 1]?).map (·.tree)).getD []
def headOf (st : St) (n : List UInt8) : Nat := ((st.brs[fnd st.brs n]?).map (·.head)).getD 0
def made (st : St) (name fr : List UInt8) (fork : Bool) : Int × St :=
  if isName name = false then (1, st)
  else if fork = true ∧ fndI st.brs fr < 0 then (5, st)
  else if 0 ≤ fndI st.brs name then (9, st)
  else if 6 ≤ st.brs.length then (4, st)
  else (0, headNew st { name := name, head := if fork then headOf st fr else 0, work := treeOf st (if fork then headOf st fr else 0) })
theorem fndI_cases (l : List Br) (n : List UInt8) : (fndI l n = -1 ∧ ¬ fnd l n < l.length) ∨ (fndI l n = (fnd l n : Int) ∧ fnd l n < l.length) := by
  unfold fndI
  split
  · exact .inr ⟨rfl, by assumption⟩
  · exact .inl ⟨rfl, by assumption⟩
/-- a store whose heads are commits that are there, few enough to be told by a byte -/
structure Heads (st : St) : Prop where
  few : st.cms.length ≤ 255
  head : ∀ b ∈ st.brs, b.head ≤ st.cms.length
end R
end Go.Proofs.YtolgebdmffcemaaGreatDoor
namespace Go.Proofs.YtolgebdmffcemaaGreatDoor
namespace R
/-- what every store keeps to: few branches, short names, trees that are small -/
structure Fine (st : St) : Prop where
  many : st.brs.length ≤ 6
  heads : Heads st
  name : ∀ b ∈ st.brs, b.name.length ≤ 8
  few : ∀ b ∈ st.brs, b.work.length ≤ 24
  good : ∀ b ∈ st.brs, ∀ x ∈ b.work, Good x
def workOf (st : St) (n : List UInt8) : List Leaf := ((st.brs[fnd st.brs n]?).map (·.work)).getD []
def shown (st : St) (n : List UInt8) : List UInt8 × Int := if fndI st.brs n < 0 then ([], 5) else (Written (workOf st n), 0)
def dropped (st : St) (n : List UInt8) : Int × St :=
  if fndI st.brs n < 0 then (5, st) else (0, { st with brs := st.brs.take (fnd st.brs n) ++ st.brs.drop (fnd st.brs n + 1), packed := st.packed ++ record 68 n })
theorem fnd_name (l : List Br) (n : List UInt8) (h : fnd l n < l.length) : (l[fnd l n]'h).name = n := by
  have h2 := List.findIdx_getElem (p := fun b : Br => b.name == n) (w := h)
  exact beq_iff_eq.1 h2
end R
end Go.Proofs.YtolgebdmffcemaaGreatDoor
namespace Go.Proofs.YtolgebdmffcemaaGreatDoor
namespace R
def setWork (st : St) (i : Nat) (t : List Leaf) : St := { st with brs := match st.brs[i]? with | some b => st.brs.set i { b with work := t } | Option.none => st.brs }
def without (l : List (List UInt8)) (s : List UInt8) : List (List UInt8) := l.filter fun x => !(x == s)
/-- the value that a change leaves under the path, or the error: Take -/
def takeV (x : Leaf) (path text : List UInt8) : Int × Leaf :=
  if (!isText text || text == []) = true then (3, x)
  else if x.kind ≠ 0 ∧ x.kind ≠ 42 then (6, x)
  else if (x.items.any fun y => y == text) = false then (10, x)
  else (0, { path := path, kind := if without x.items text = [] then 0 else 42, n := 0, text := [], items := without x.items text })
def delV (x : Leaf) (path : List UInt8) : Int × Leaf := if x.kind = 0 then (10, x) else (0, none path)
def addV (t : List Leaf) (x : Leaf) (path : List UInt8) (n : Int) : Int × Leaf :=
  if x.kind ≠ 0 ∧ x.kind ≠ 35 then (6, x)
  else if blocked t path = true then (7, x)
  else if 1000000000 - x.n < n ∨ n < -1000000000 - x.n then (8, x)
  else if x.kind = 0 ∧ 24 ≤ t.length then (4, x)
  else (0, { path := path, kind := 35, n := x.n + n, text := [], items := [] })
def noteV (t : List Leaf) (x : Leaf) (path text : List UInt8) : Int × Leaf :=
  if isText text = false then (3, x)
  else if x.kind ≠ 0 ∧ x.kind ≠ 61 then (6, x)
  else if blocked t path = true then (7, x)
  else if x.kind = 0 ∧ 24 ≤ t.length then (4, x)
  else (0, { path := path, kind := 61, n := 0, text := text, items := [] })
def putV (t : List Leaf) (x : Leaf) (path text : List UInt8) : Int × Leaf :=
  if (!isText text || text == []) = true then (3, x)
  else if x.kind ≠ 0 ∧ x.kind ≠ 42 then (6, x)
  else if blocked t path = true then (7, x)
  else if 8 < (item x.items text).length then (4, x)
  else if x.kind = 0 ∧ 24 ≤ t.length then (4, x)
  else (0, { path := path, kind := 42, n := 0, text := [], items := item x.items text })
def valV (kind : Int) (t : List Leaf) (x : Leaf) (path : List UInt8) (n : Int) (text : List UInt8) : Int × Leaf :=
  if kind = 0 then delV x path else if kind = 45 then takeV x path text else if kind = 35 then addV t x path n else if kind = 61 then noteV t x path text else putV t x path text
def change (st : St) (kind : Int) (branch path : List UInt8) (n : Int) (text : List UInt8) : Int × St :=
  if fndI st.brs branch < 0 then (5, st)
  else if isPath path = false then (2, st)
  else if (valV kind (workOf st branch) (at_ (workOf st branch) path) path n text).1 = 0 then
    (0, setWork st (fnd st.brs branch) (set (workOf st branch) (valV kind (workOf st branch) (at_ (workOf st branch) path) path n text).2))
  else ((valV kind (workOf st branch) (at_ (workOf st branch) path) path n text).1, st)
end R
end Go.Proofs.YtolgebdmffcemaaGreatDoor
namespace Go.Proofs.YtolgebdmffcemaaGreatDoor
theorem bytesLess_irrefl : ∀ s : List UInt8, Op.bytesLess s s = false
  | [] => rfl
  | c :: r => by rw [Op.bytesLess, bytesLess_irrefl r]; simp
def lessS (s y : List UInt8) : Bool := Op.bytesLess y s
/-- how many of a list in order are ahead of s -/
def posS (l : List (List UInt8)) (s : List UInt8) : Nat := l.findIdx fun y => !lessS s y
/-- the paths of a tree are in order -/
def Sorted (t : List R.Leaf) : Prop := ∀ (i j : Nat) (hi : i < t.length) (hj : j < t.length), i < j → Op.bytesLess t[i].path t[j].path = true
def posT (t : List R.Leaf) (s : List UInt8) : Nat := t.findIdx fun x => !lessS s x.path
theorem bytesLess_trans : ∀ a b c : List UInt8, Op.bytesLess a b = true → Op.bytesLess b c = true → Op.bytesLess a c = true
  | _, _, [], _, h => by cases ‹List UInt8› <;> cases h
  | [], _, _ :: _, _, _ => rfl
  | _ :: _, [], _ :: _, h, _ => by cases h
  | a :: x, b :: y, c :: z, h1, h2 => by
    have ih := bytesLess_trans x y z
    rw [Op.bytesLess] at h1 h2 ⊢
    simp only [Bool.or_eq_true, decide_eq_true_eq, Bool.and_eq_true, beq_iff_eq] at h1 h2 ⊢
    rcases h1 with h1 | ⟨rfl, h1⟩
    · rcases h2 with h2 | ⟨rfl, _⟩
      · exact .inl (UInt8.lt_trans h1 h2)
      · exact .inl h1
    · rcases h2 with h2 | ⟨rfl, h2⟩
      · exact .inl h2
      · exact .inr ⟨rfl, ih h1 h2⟩
theorem Sorted.mono {t : List R.Leaf} (h : Sorted t) (s : List UInt8) (i j : Nat) (hi : i < t.length) (hj : j < t.length) (hij : i ≤ j) (hl : lessS s t[j].path = true) : lessS s t[i].path = true := by
  rcases Nat.lt_or_eq_of_le hij with hlt | rfl
  · exact bytesLess_trans _ _ _ (h i j hi hj hlt) hl
  · exact hl
/-- items in order -/
def SortedI (l : List (List UInt8)) : Prop := ∀ (i j : Nat) (hi : i < l.length) (hj : j < l.length), i < j → Op.bytesLess l[i] l[j] = true
theorem SortedI.mono {l : List (List UInt8)} (h : SortedI l) (s : List UInt8) (i j : Nat) (hi : i < l.length) (hj : j < l.length) (hij : i ≤ j) (hl : lessS s l[j] = true) : lessS s l[i] = true := by
  rcases Nat.lt_or_eq_of_le hij with hlt | rfl
  · exact bytesLess_trans _ _ _ (h i j hi hj hlt) hl
  · exact hl
theorem bytesLess_tri : ∀ a b : List UInt8, Op.bytesLess a b = false → Op.bytesLess b a = false → a = b
  | [], [], _, _ => rfl
  | [], _ :: _, h, _ => by cases h
  | _ :: _, [], _, h => by cases h
  | a :: x, b :: y, h1, h2 => by
    have ih := bytesLess_tri x y
    rw [Op.bytesLess] at h1 h2
    simp only [Bool.or_eq_false_iff, decide_eq_false_iff_not, Bool.and_eq_false_iff] at h1 h2
    have e : a = b := UInt8.le_antisymm (UInt8.not_lt.1 h2.1) (UInt8.not_lt.1 h1.1)
    subst e
    rw [ih (by simpa using h1.2) (by simpa using h2.2)]
theorem bytesLess_asymm (a b : List UInt8) (h : Op.bytesLess a b = true) : Op.bytesLess b a = false := by
  rw [Bool.eq_false_iff]; intro h2
  have := bytesLess_trans _ _ _ h h2
  rw [bytesLess_irrefl] at this; cases this
theorem bytesLess_ne (a b : List UInt8) (h : Op.bytesLess a b = true) : (a == b) = false := by
  rw [Bool.eq_false_iff]; intro h2
  rw [beq_iff_eq.1 h2, bytesLess_irrefl] at h; cases h
/-! the order of paths, name by name, is that of their bytes -/
theorem aheadL_nil (y : List (List UInt8)) : R.aheadL [] y = decide (0 < y.length) := by cases y <;> rfl
theorem aheadL_nil' (y : List (List UInt8)) : R.aheadL y [] = false := by cases y <;> rfl
theorem ahead_less : ∀ a b : List UInt8, (∀ c ∈ a, 47 ≤ c) → (∀ c ∈ b, 47 ≤ c) → R.ahead a b = Op.bytesLess a b
  | [], [], _, _ => rfl
  | [], c :: r, _, _ => by
    unfold R.ahead
    rw [R.spl, R.spl]
    split
    · rw [R.aheadL, if_pos rfl, aheadL_nil]
      exact decide_eq_true (by have := (R.spl_length r).2; omega)
    · split
      · rw [R.aheadL, if_neg (by simp)]; rfl
      · rw [R.aheadL, if_neg (by simp)]; rfl
  | c :: r, [], _, _ => by
    unfold R.ahead
    rw [R.spl, R.spl]
    split
    · rw [R.aheadL, if_pos rfl, aheadL_nil']; rfl
    · split
      · rw [R.aheadL, if_neg (by simp)]; rfl
      · rw [R.aheadL, if_neg (by simp)]; rfl
  | c :: r, d :: q, ha, hb => by
    have ih := ahead_less r q (fun x hx => ha x (List.mem_cons_of_mem _ hx)) (fun x hx => hb x (List.mem_cons_of_mem _ hx))
    have hc := ha c (List.mem_cons_self ..)
    have hd := hb d (List.mem_cons_self ..)
    unfold R.ahead at ih ⊢
    rw [Op.bytesLess, R.spl, R.spl]
    by_cases h1 : c = 47
    · subst h1
      rw [if_pos rfl]
      by_cases h2 : d = 47
      · subst h2
        rw [if_pos rfl, R.aheadL, if_pos rfl, ih]
        simp
      · rw [if_neg h2]
        have hlt : (47 : UInt8) < d := by
          rcases UInt8.lt_or_le 47 d with h | h
          · exact h
          · exact absurd (UInt8.le_antisymm h hd) h2
        split
        · rw [R.aheadL, if_neg (by simp)]; simp [hlt, Op.bytesLess]
        · rw [R.aheadL, if_neg (by simp)]; simp [hlt, Op.bytesLess]
    · rw [if_neg h1]
      have hlt : (47 : UInt8) < c := by
        rcases UInt8.lt_or_le 47 c with h | h
        · exact h
        · exact absurd (UInt8.le_antisymm h hc) h1
      by_cases h2 : d = 47
      · subst h2
        rw [if_pos rfl]
        have hn : ¬ c < 47 := UInt8.not_lt.2 (UInt8.le_of_lt hlt)
        split
        · rw [R.aheadL, if_neg (by simp)]; simp [hn, h1, Op.bytesLess]
        · rw [R.aheadL, if_neg (by simp)]; simp [hn, h1, Op.bytesLess]
      · rw [if_neg h2]
        have l1 := (R.spl_length r).2
        have l2 := (R.spl_length q).2
        generalize R.spl r = x at *
        generalize R.spl q = y at *
        cases x with
        | nil => simp at l1
        | cons h t =>
          cases y with
          | nil => simp at l2
          | cons h' t' =>
            simp only
            rw [R.aheadL] at ih ⊢
            by_cases hcd : c = d
            · subst hcd
              by_cases hh : h = h'
              · subst hh
                rw [if_pos rfl] at ih ⊢
                rw [ih]; simp
              · rw [if_neg hh] at ih
                rw [if_neg (by simp [hh]), Op.bytesLess, ih]
            · rw [if_neg (by simp [hcd]), Op.bytesLess]
              have : (c == d) = false := by simpa using hcd
              simp [this]
theorem spl_bytes : ∀ (l : List UInt8), ∀ c ∈ l, c = 47 ∨ ∃ p ∈ R.spl l, c ∈ p
  | [], c, h => by simp at h
  | d :: r, c, h => by
    have ih := spl_bytes r
    rw [R.spl]
    by_cases hd : d = 47
    · subst hd
      rw [if_pos rfl]
      rcases List.mem_cons.1 h with rfl | h
      · exact .inl rfl
      · rcases ih c h with e | ⟨p, hp, hc⟩
        · exact .inl e
        · exact .inr ⟨p, List.mem_cons_of_mem _ hp, hc⟩
    · rw [if_neg hd]
      have l1 := (R.spl_length r).2
      generalize R.spl r = x at *
      cases x with
      | nil => simp at l1
      | cons a t =>
        rcases List.mem_cons.1 h with rfl | h
        · exact .inr ⟨_, List.mem_cons_self .., List.mem_cons_self ..⟩
        · rcases ih c h with e | ⟨p, hp, hc⟩
          · exact .inl e
          · rcases List.mem_cons.1 hp with rfl | hp
            · exact .inr ⟨_, List.mem_cons_self .., List.mem_cons_of_mem _ hc⟩
            · exact .inr ⟨p, List.mem_cons_of_mem _ hp, hc⟩
theorem isPath_bytes (l : List UInt8) (h : R.isPath l = true) : ∀ c ∈ l, 47 ≤ c := by
  intro c hc
  simp only [R.isPath, Bool.and_eq_true, decide_eq_true_eq, List.all_eq_true] at h
  rcases spl_bytes l c hc with rfl | ⟨p, hp, hcp⟩
  · exact UInt8.le_refl _
  · have := h.2.1 p hp
    simp only [R.isName, Bool.and_eq_true, List.all_eq_true] at this
    have := this.1 c hcp
    simp only [R.nb, Bool.or_eq_true, Bool.and_eq_true, decide_eq_true_eq] at this
    rw [UInt8.le_iff_toNat_le]
    show (47 : UInt8).toNat ≤ _
    simp; omega
/-! a list in order of its keys -/
def SortK {α : Type} (k : α → List UInt8) (l : List α) : Prop := l.Pairwise fun a b => Op.bytesLess (k a) (k b) = true
def posK {α : Type} (k : α → List UInt8) (l : List α) (s : List UInt8) : Nat := l.findIdx fun x => !lessS s (k x)
theorem sortK_iff {α : Type} (k : α → List UInt8) (l : List α) : SortK k l ↔ ∀ (i j : Nat) (hi : i < l.length) (hj : j < l.length), i < j → Op.bytesLess (k l[i]) (k l[j]) = true := List.pairwise_iff_getElem
theorem Sorted.k {t : List R.Leaf} (h : Sorted t) : SortK R.Leaf.path t := (sortK_iff _ _).2 h
theorem SortK.t {t : List R.Leaf} (h : SortK R.Leaf.path t) : Sorted t := (sortK_iff _ _).1 h
theorem SortedI.k {t : List (List UInt8)} (h : SortedI t) : SortK id t := (sortK_iff _ _).2 h
theorem SortK.i {t : List (List UInt8)} (h : SortK id t) : SortedI t := (sortK_iff _ _).1 h
theorem SortK.mono {α : Type} {k : α → List UInt8} {l : List α} (h : SortK k l) (s : List UInt8) (i j : Nat) (hi : i < l.length) (hj : j < l.length) (hij : i ≤ j) (hl : lessS s (k l[j]) = true) : lessS s (k l[i]) = true := by
  rcases Nat.lt_or_eq_of_le hij with hlt | rfl
  · exact bytesLess_trans _ _ _ ((sortK_iff _ _).1 h i j hi hj hlt) hl
  · exact hl
def insK {α : Type} (k : α → List UInt8) (x : α) (s : List UInt8) : Bool → List α → List α
  | d, [] => if d then [] else [x]
  | d, y :: ys =>
    (if !d && (Op.bytesLess s (k y) || s == k y) then [x] else []) ++ ((if k y == s then [] else [y]) ++ insK k x s (d || (Op.bytesLess s (k y) || s == k y)) ys)
theorem itemL_insK (s : List UInt8) : ∀ (l : List (List UInt8)) (d : Bool), R.itemL s d l = insK id s s d l
  | [], d => rfl
  | y :: ys, d => by rw [R.itemL, insK, itemL_insK s ys]; rfl
theorem setL_insK (x : R.Leaf) (hx : ∀ c ∈ x.path, 47 ≤ c) : ∀ (l : List R.Leaf) (d : Bool), (∀ y ∈ l, ∀ c ∈ y.path, 47 ≤ c) → R.setL x d l = insK R.Leaf.path x x.path d l
  | [], d, _ => rfl
  | y :: ys, d, h => by
    rw [R.setL, insK, ahead_less x.path y.path hx (h y (List.mem_cons_self ..)), setL_insK x hx ys _ fun z hz => h z (List.mem_cons_of_mem _ hz)]
theorem insK_true {α : Type} (k : α → List UInt8) (x : α) (s : List UInt8) : ∀ l : List α, insK k x s true l = l.filter fun y => !(k y == s)
  | [] => rfl
  | y :: ys => by
    rw [insK, Bool.true_or, insK_true k x s ys, List.filter_cons]
    cases k y == s <;> simp
theorem filt_miss {α : Type} (k : α → List UInt8) (s : List UInt8) (l : List α) (h : (l.any fun y => k y == s) = false) : (l.filter fun y => !(k y == s)) = l := by
  rw [List.filter_eq_self]
  intro y hy
  have := List.any_eq_false.1 h y hy
  simpa using this
theorem posK_cons {α : Type} (k : α → List UInt8) (s : List UInt8) (y : α) (ys : List α) : posK k (y :: ys) s = if lessS s (k y) = true then posK k ys s + 1 else 0 := by
  unfold posK
  rw [List.findIdx_cons]
  cases lessS s (k y) <;> simp
theorem rest_miss {α : Type} {k : α → List UInt8} {y : α} {ys : List α} (h : SortK k (y :: ys)) (s : List UInt8) (hl : lessS s (k y) = false) : (ys.any fun z => k z == s) = false := by
  rw [Bool.eq_false_iff]
  intro ha
  obtain ⟨z, hz, hzs⟩ := List.any_eq_true.1 ha
  have := List.rel_of_pairwise_cons h hz
  rw [beq_iff_eq.1 hzs] at this
  rw [lessS, this] at hl; cases hl
theorem posK_hit {α : Type} {k : α → List UInt8} {s : List UInt8} : ∀ {l : List α}, SortK k l → (l.any fun y => k y == s) = true → ∃ hp : posK k l s < l.length, k (l[posK k l s]'hp) = s
  | [], _, h => by simp at h
  | y :: ys, hs, h => by
    by_cases hl : lessS s (k y) = true
    · have hne := bytesLess_ne _ _ hl
      rw [List.any_cons, hne, Bool.false_or] at h
      obtain ⟨hp, he⟩ := posK_hit (List.Pairwise.of_cons hs) h
      have e : posK k (y :: ys) s = posK k ys s + 1 := by rw [posK_cons, if_pos hl]
      refine ⟨by rw [e]; simpa using hp, ?_⟩
      simp only [e, List.getElem_cons_succ]; exact he
    · have hl' : lessS s (k y) = false := by simpa using hl
      rw [List.any_cons, rest_miss hs s hl', Bool.or_false] at h
      have e : posK k (y :: ys) s = 0 := by rw [posK_cons, if_neg hl]
      refine ⟨by rw [e]; simp, ?_⟩
      simp only [e, List.getElem_cons_zero]; exact beq_iff_eq.1 h
theorem posK_le {α : Type} (k : α → List UInt8) (l : List α) (s : List UInt8) : posK k l s ≤ l.length := List.findIdx_le_length
theorem filt_hit {α : Type} {k : α → List UInt8} {s : List UInt8} : ∀ {l : List α}, SortK k l → (l.any fun y => k y == s) = true → (l.filter fun y => !(k y == s)) = l.take (posK k l s) ++ l.drop (posK k l s + 1)
  | [], _, h => by simp at h
  | y :: ys, hs, h => by
    by_cases hl : lessS s (k y) = true
    · have hne := bytesLess_ne _ _ hl
      rw [List.any_cons, hne, Bool.false_or] at h
      rw [posK_cons, if_pos hl, List.filter_cons, hne, filt_hit (List.Pairwise.of_cons hs) h]
      simp
    · have hl' : lessS s (k y) = false := by simpa using hl
      have hr := rest_miss hs s hl'
      rw [List.any_cons, hr, Bool.or_false] at h
      rw [posK_cons, if_neg hl, List.filter_cons, h, filt_miss k s ys hr]
      simp
theorem insK_hit {α : Type} {k : α → List UInt8} {s : List UInt8} (x : α) : ∀ {l : List α}, SortK k l → (l.any fun y => k y == s) = true → insK k x s false l = l.take (posK k l s) ++ x :: l.drop (posK k l s + 1)
  | [], _, h => by simp at h
  | y :: ys, hs, h => by
    by_cases hl : lessS s (k y) = true
    · have hne := bytesLess_ne _ _ hl
      have h2 := bytesLess_asymm _ _ hl
      have hne' : (s == k y) = false := by rw [Bool.eq_false_iff] at hne ⊢; intro e; exact hne (by rw [beq_iff_eq] at e ⊢; exact e.symm)
      rw [List.any_cons, hne, Bool.false_or] at h
      rw [posK_cons, if_pos hl, insK, hne, h2, hne', Bool.or_self, Bool.or_self, insK_hit x (List.Pairwise.of_cons hs) h]
      simp
    · have hl' : lessS s (k y) = false := by simpa using hl
      have hr := rest_miss hs s hl'
      rw [List.any_cons, hr, Bool.or_false] at h
      have h3 : (s == k y) = true := by rw [beq_iff_eq] at h ⊢; exact h.symm
      rw [posK_cons, if_neg hl, insK, h, h3, Bool.or_true, Bool.or_true, insK_true, filt_miss k s ys hr]
      simp
theorem insK_miss {α : Type} {k : α → List UInt8} {s : List UInt8} (x : α) : ∀ {l : List α}, SortK k l → (l.any fun y => k y == s) = false → insK k x s false l = l.take (posK k l s) ++ x :: l.drop (posK k l s)
  | [], _, _ => by simp [insK, posK]
  | y :: ys, hs, h => by
    rw [List.any_cons, Bool.or_eq_false_iff] at h
    have hne' : (s == k y) = false := by have := h.1; rw [Bool.eq_false_iff] at this ⊢; intro e; exact this (by rw [beq_iff_eq] at e ⊢; exact e.symm)
    by_cases hl : lessS s (k y) = true
    · have h2 := bytesLess_asymm _ _ hl
      rw [posK_cons, if_pos hl, insK, h.1, h2, hne', Bool.or_self, Bool.or_self, insK_miss x (List.Pairwise.of_cons hs) h.2]
      simp
    · have hl' : lessS s (k y) = false := by simpa using hl
      have h3 : Op.bytesLess s (k y) = true := by
        cases hc : Op.bytesLess s (k y)
        · rw [bytesLess_tri _ _ hc hl'] at hne'; simp at hne'
        · rfl
      rw [posK_cons, if_neg hl, insK, h.1, h3, Bool.true_or, Bool.or_true, insK_true, filt_miss k s ys h.2]
      simp
theorem insK_mem {α : Type} {k : α → List UInt8} {s : List UInt8} {x : α} : ∀ {l : List α} {d : Bool} {z : α}, z ∈ insK k x s d l → z = x ∨ z ∈ l
  | [], d, z, h => by cases d <;> simp_all [insK]
  | y :: ys, d, z, h => by
    rw [insK, List.mem_append, List.mem_append] at h
    rcases h with h | h | h
    · split at h
      · exact .inl (by simpa using h)
      · simp at h
    · split at h
      · simp at h
      · exact .inr (by rw [List.mem_singleton.1 h]; exact List.mem_cons_self ..)
    · rcases insK_mem h with e | e
      · exact .inl e
      · exact .inr (List.mem_cons_of_mem _ e)
theorem insK_sort {α : Type} {k : α → List UInt8} {s : List UInt8} {x : α} (hx : k x = s) : ∀ {l : List α}, SortK k l → SortK k (insK k x s false l)
  | [], _ => by simp [insK, SortK]
  | y :: ys, hs => by
    have hys := List.Pairwise.of_cons hs
    have hrel : ∀ z ∈ ys, Op.bytesLess (k y) (k z) = true := fun z hz => List.rel_of_pairwise_cons hs hz
    have hf : SortK k (ys.filter fun y => !(k y == s)) := List.Pairwise.sublist List.filter_sublist hys
    rw [insK]
    cases hc : (Op.bytesLess s (k y) || s == k y)
    · rw [Bool.or_eq_false_iff] at hc
      have hne : (k y == s) = false := by have := hc.2; rw [Bool.eq_false_iff] at this ⊢; intro e; exact this (by rw [beq_iff_eq] at e ⊢; exact e.symm)
      have hlt : Op.bytesLess (k y) s = true := by
        cases h : Op.bytesLess (k y) s
        · rw [bytesLess_tri _ _ h hc.1] at hne; simp at hne
        · rfl
      rw [hne]
      simp only [Bool.not_false, Bool.true_and, Bool.false_eq_true, if_false, List.nil_append, Bool.or_self, List.singleton_append]
      refine List.Pairwise.cons (fun z hz => ?_) (insK_sort hx hys)
      rcases insK_mem hz with rfl | hz
      · rw [hx]; exact hlt
      · exact hrel z hz
    · simp only [Bool.not_false, Bool.true_and, if_true, Bool.or_true]
      rw [insK_true]
      by_cases he : k y = s
      · have : (k y == s) = true := by simpa using he
        rw [this]
        simp only [if_true, List.nil_append, List.singleton_append]
        refine List.Pairwise.cons (fun z hz => ?_) hf
        rw [hx, ← he]; exact hrel z (List.mem_filter.1 hz).1
      · have hne : (k y == s) = false := by simpa using he
        have hlt : Op.bytesLess s (k y) = true := by
          cases h : Op.bytesLess s (k y)
          · rw [h, Bool.false_or] at hc; exact absurd (beq_iff_eq.1 hc).symm he
          · rfl
        rw [hne]
        simp only [Bool.false_eq_true, if_false, List.singleton_append]
        refine List.Pairwise.cons (fun z hz => ?_) (List.Pairwise.cons (fun z hz => hrel z (List.mem_filter.1 hz).1) hf)
        rcases List.mem_cons.1 hz with rfl | hz
        · rw [hx]; exact hlt
        · rw [hx]; exact bytesLess_trans _ _ _ hlt (hrel z (List.mem_filter.1 hz).1)
end Go.Proofs.YtolgebdmffcemaaGreatDoor
