/-
  A row that says 'leaving': from the same row that says 'alone' (who is alone is, all the more, only leaving).
  Plain functions of bytes and lists that the document's answer (graftref) computes; nothing is proved of the program here. No condition.
  How slices of strings lie in memory: words for it, and what keeps them.
-/
import Derived.JoinedCond
import Derived.Handed
import Derived.ClaimOpenTies
import Derived.Laws.Strings
import Derived.Laws.Concat
import Derived.Lib.ItoaNum
import Derived.Test.YtolgebdmffcemaaGreatDoorRows
import Derived.WalkKit
import Derived.WalkSpells
import Derived.WalkLawsBesides
set_option linter.unusedVariables false
namespace Go.Proofs.YtolgebdmffcemaaGreatDoor
open Go

theorem onlyLeaving_of_quiet {P : Program} {m : Machine} (h : m.quiet) : m.OnlyLeaving P := by
  obtain ⟨h1, h2⟩ := h
  refine ⟨fun g hg => ⟨0, ?_⟩, h2⟩
  have h3 := List.all_eq_true.1 h1 g hg
  simpa [Goroutine.LeavesIn] using h3

theorem leaving_of_alone {P : Program} {m : Machine} {w : World} {t : Trace} (h : aloneAtReturn P m w t) : leavingAtReturn P m w t :=
  ⟨h.2.1, onlyLeaving_of_quiet h.1, h.2.2⟩

theorem form_entering {c : OpenClaim} (hstart : c.start = .entering) (hst : c.stops = []) (C : Checked) (os : Os) (f : FuncId) (L : List FuncId) (Pre : World → Array Value → Prop) (Post : Stop.Interp → World → Array Value → Value → World → Prop) :
    c.form C os f L Pre Post = ∀ F : Stop.Interp, ReturnsInOpen c.assume none C os f .any c.okInput Pre (Post F) (c.atReturn C.prog) (c.always C.prog L) := by
  unfold OpenClaim.form
  rw [hstart, hst]

theorem holds_leaving {p : Pinned} {s : OpenSpec} {c : OpenClaim} (hstart : c.start = .entering) (hst : c.stops = []) (hlv : c.leaving = true) (hwf : OpenClaim.wf s c = true) (h : ({ c with leaving := false } : OpenClaim).holds p s) : c.holds p s := by
  obtain ⟨_, a2, a3, a4, a5, a6, a7, a8, f, fn, a9, a10, a11, a12, a13, a14, a15, a16, a17, a18, a19, a20, a21, a22, a23, a24, a25, a26, a27, a28, a29, L, a30, a31⟩ := h
  refine ⟨hwf, a2, a3, a4, a5, a6, a7, a8, f, fn, a9, a10, a11, a12, a13, a14, a15, a16, a17, a18, a19, a20, a21, a22, a23, a24, a25, a26, a27, a28, a29, L, a30, fun os st hq H enc inj => ?_⟩
  have h1 := a31 os st hq H enc inj
  rw [form_entering (c := { c with leaving := false }) hstart hst] at h1
  rw [form_entering hstart hst]
  have e2 : c.atReturn p.checked.prog = leavingAtReturn p.checked.prog := by unfold OpenClaim.atReturn; rw [hlv]
  rw [e2]
  exact fun F => ReturnsInOpen.mono (fun _ _ _ x => leaving_of_alone x) (fun _ x => x) (h1 F)
end Go.Proofs.YtolgebdmffcemaaGreatDoor
namespace Go.Proofs.YtolgebdmffcemaaGreatDoor
namespace R

def nb (c : UInt8) : Bool := (decide (97 ≤ c.toNat) && decide (c.toNat ≤ 122)) || (decide (48 ≤ c.toNat) && decide (c.toNat ≤ 57))
def isName (l : List UInt8) : Bool := l.all nb && (decide (1 ≤ l.length) && decide (l.length ≤ 8))
def spl : List UInt8 → List (List UInt8)
  | [] => [[]]
  | c :: r => if c = 47 then [] :: spl r else match spl r with
    | [] => [[c]]
    | h :: t => (c :: h) :: t
def isPath (l : List UInt8) : Bool := decide (l.length ≤ 100) && ((spl l).all isName && decide ((spl l).length ≤ 4))
def tb (c : UInt8) : Bool := decide (32 ≤ c.toNat) && (decide (c.toNat ≤ 126) && !decide (c.toNat = 59))
def isText (l : List UInt8) : Bool := decide (l.length ≤ 20) && l.all tb
def leads (a b : List UInt8) : Bool := decide (a.length < b.length) && (b.take a.length == a && b[a.length]? == some 47)
def aheadL : List (List UInt8) → List (List UInt8) → Bool
  | x :: xs, y :: ys => if x = y then aheadL xs ys else Op.bytesLess x y
  | x, y => decide (x.length < y.length)
def ahead (a b : List UInt8) : Bool := aheadL (spl a) (spl b)

structure Leaf where
  path : List UInt8
  kind : Int
  n : Int
  text : List UInt8
  items : List (List UInt8)

def none (p : List UInt8) : Leaf := { path := p, kind := 0, n := 0, text := [], items := [] }
def at_ (t : List Leaf) (p : List UInt8) : Leaf := (t.find? fun x => x.path == p).getD (none p)
def setL (x : Leaf) : Bool → List Leaf → List Leaf
  | done, [] => if done then [] else [x]
  | done, y :: ys =>
    (if !done && (ahead x.path y.path || x.path == y.path) then [x] else []) ++ ((if y.path == x.path then [] else [y]) ++ setL x (done || (ahead x.path y.path || x.path == y.path)) ys)
def set (t : List Leaf) (x : Leaf) : List Leaf := setL x (decide (x.kind = 0)) t
def blocked (t : List Leaf) (p : List UInt8) : Bool := t.any fun x => leads x.path p || leads p x.path
def itemL (s : List UInt8) : Bool → List (List UInt8) → List (List UInt8)
  | done, [] => if done then [] else [s]
  | done, y :: ys =>
    (if !done && (Op.bytesLess s y || s == y) then [s] else []) ++ ((if y == s then [] else [y]) ++ itemL s (done || (Op.bytesLess s y || s == y)) ys)
def item (l : List (List UInt8)) (s : List UInt8) : List (List UInt8) := itemL s false l
def joinI : List (List UInt8) → List UInt8
  | [] => []
  | [x] => x
  | x :: y :: r => x ++ (59 :: joinI (y :: r))
def written (x : Leaf) : List UInt8 := if x.kind = 35 then 35 :: Lib.itoa x.n else if x.kind = 61 then 61 :: x.text else 42 :: joinI x.items
def line (x : Leaf) : List UInt8 := x.path ++ (32 :: (written x ++ [10]))
def Written (t : List Leaf) : List UInt8 := t.flatMap line

def sumB : List UInt8 → Nat
  | [] => 0
  | c :: r => c.toNat + sumB r
def recHead (letter : UInt8) (body : List UInt8) : List UInt8 := letter :: UInt8.ofNat (body.length / 256) :: UInt8.ofNat (body.length % 256) :: body
def record (letter : UInt8) (body : List UInt8) : List UInt8 := recHead letter body ++ [UInt8.ofNat ((1 + sumB (recHead letter body)) % 251)]
structure Br where
  name : List UInt8
  head : Nat
  work : List Leaf
structure Cm where
  tree : List Leaf
  parents : List Nat
structure St where
  cms : List Cm
  brs : List Br
  packed : List UInt8
/-- a branch's place; how many there are, if there is none -/
def fnd (l : List Br) (n : List UInt8) : Nat := l.findIdx fun b => b.name == n
def fndI (l : List Br) (n : List UInt8) : Int := if fnd l n < l.length then (fnd l n : Int) else -1
/-- what is of any size that a store keeps -/
structure Good (x : Leaf) : Prop where
  path : x.path.length ≤ 1000
  hi : x.n ≤ 1000000000000
  lo : -1000000000000 ≤ x.n
  text : x.text.length ≤ 1000
  many : x.items.length ≤ 100
  item : ∀ i ∈ x.items, i.length ≤ 1000
def joinF : List (List UInt8) → List UInt8
  | [] => []
  | x :: r => (59 :: x) ++ joinF r
/-! small laws -/
theorem joinI_eq : ∀ (x : List UInt8) (r : List (List UInt8)), joinI (x :: r) = x ++ joinF r
  | x, [] => by simp [joinI, joinF]
  | x, y :: r => by rw [joinI, joinI_eq y r]; simp [joinF]
theorem joinF_snoc : ∀ (l : List (List UInt8)) (x : List UInt8), joinF (l ++ [x]) = joinF l ++ 59 :: x
  | [], x => by simp [joinF]
  | y :: r, x => by rw [List.cons_append, joinF, joinF_snoc r x, joinF]; simp
theorem joinI_snoc (l : List (List UInt8)) (x : List UInt8) (h : l ≠ []) : joinI (l ++ [x]) = joinI l ++ 59 :: x := by
  match l, h with
  | y :: r, _ => rw [List.cons_append, joinI_eq, joinI_eq, joinF_snoc]; simp
theorem joinF_length : ∀ (l : List (List UInt8)), (∀ i ∈ l, i.length ≤ 1000) → (joinF l).length ≤ l.length * 1001
  | [], _ => by simp [joinF]
  | y :: r, h => by
    have h1 := h y (List.mem_cons_self ..)
    have h2 := joinF_length r fun i hi => h i (List.mem_cons_of_mem _ hi)
    simp only [joinF, List.length_append, List.length_cons]; omega
theorem joinI_length (l : List (List UInt8)) (h : ∀ i ∈ l, i.length ≤ 1000) : (joinI l).length ≤ l.length * 1001 := by
  match l with
  | [] => simp [joinI]
  | y :: r =>
    have h1 := h y (List.mem_cons_self ..)
    have h2 := joinF_length r fun i hi => h i (List.mem_cons_of_mem _ hi)
    rw [joinI_eq]; simp only [List.length_append, List.length_cons]; omega
theorem size_list (s : ByteArray) : s.data.toList.length = s.size := by rw [Array.length_toList]; rfl
theorem get_list (s : ByteArray) (k : Nat) (h : k < s.size) : s.data.toList[k]? = some s[k] := by
  rw [List.getElem?_eq_getElem (by rw [size_list]; exact h)]; rfl
theorem take_snoc (s : ByteArray) (k : Nat) (h : k < s.size) : s.data.toList.take (k + 1) = s.data.toList.take k ++ [s[k]] := by
  rw [List.take_succ_eq_append_getElem (by rw [size_list]; exact h)]; rfl
theorem drop_cons (s : ByteArray) (k : Nat) (h : k < s.size) : s.data.toList.drop k = s[k] :: s.data.toList.drop (k + 1) := by
  rw [List.drop_eq_getElem_cons (by rw [size_list]; exact h)]; rfl
theorem take_all (s : ByteArray) (p : UInt8 → Bool) (k : Nat) (h : k < s.size) (ha : (s.data.toList.take k).all p = true) (hp : p s[k] = true) : (s.data.toList.take (k + 1)).all p = true := by
  rw [take_snoc s k h, List.all_append, ha]; simp [hp]
theorem all_of_take (s : ByteArray) (p : UInt8 → Bool) (k : Nat) (h : ¬ k < s.size) (ha : (s.data.toList.take k).all p = true) : s.data.toList.all p = true := by
  rwa [List.take_of_length_le (by rw [size_list]; omega)] at ha
theorem not_all (s : ByteArray) (p : UInt8 → Bool) (k : Nat) (h : k < s.size) (hp : p s[k] = false) : s.data.toList.all p = false := by
  rw [← List.take_append_drop k s.data.toList, drop_cons s k h, List.all_append, List.all_cons, hp]; simp
theorem nb_no (c : UInt8) (h : ((c.toNat : Int) < 97 ∨ 122 < (c.toNat : Int)) ∧ ((c.toNat : Int) < 48 ∨ 57 < (c.toNat : Int))) : nb c = false := by
  simp [nb]; omega
theorem nb_yes (c : UInt8) (h : ¬ (((c.toNat : Int) < 97 ∨ 122 < (c.toNat : Int)) ∧ ((c.toNat : Int) < 48 ∨ 57 < (c.toNat : Int)))) : nb c = true := by
  simp [nb]; omega
theorem tb_no (c : UInt8) (h : (c.toNat : Int) < 32 ∨ 126 < (c.toNat : Int) ∨ (c.toNat : Int) = 59) : tb c = false := by
  simp only [tb, Bool.and_eq_false_iff, decide_eq_false_iff_not, Bool.not_eq_false', decide_eq_true_eq]; omega
theorem tb_yes (c : UInt8) (h : ¬ ((c.toNat : Int) < 32 ∨ 126 < (c.toNat : Int) ∨ (c.toNat : Int) = 59)) : tb c = true := by
  simp only [tb, Bool.and_eq_true, decide_eq_true_eq, Bool.not_eq_true', decide_eq_false_iff_not]; omega
theorem isName_bad (s : ByteArray) (k : Nat) (h : k < s.size) (hp : nb s[k] = false) : isName s.data.toList = false := by
  unfold isName; rw [not_all s nb k h hp]; rfl
theorem isName_end (s : ByteArray) (k : Nat) (h : ¬ k < s.size) (ha : (s.data.toList.take k).all nb = true) : isName s.data.toList = (decide (1 ≤ (s.size : Int)) && decide ((s.size : Int) ≤ 8)) := by
  unfold isName; rw [all_of_take s nb k h ha, size_list, Bool.true_and]
  congr 1 <;> exact decide_eq_decide.2 (by omega)
theorem isText_long (s : ByteArray) (h : 20 < (s.size : Int)) : isText s.data.toList = false := by
  unfold isText; rw [size_list, decide_eq_false (by omega)]; rfl
theorem isText_bad (s : ByteArray) (k : Nat) (h : k < s.size) (hp : tb s[k] = false) : isText s.data.toList = false := by
  unfold isText; rw [not_all s tb k h hp, Bool.and_false]
theorem isText_end (s : ByteArray) (k : Nat) (h : ¬ k < s.size) (hs : ¬ 20 < (s.size : Int)) (ha : (s.data.toList.take k).all tb = true) : isText s.data.toList = true := by
  unfold isText; rw [all_of_take s tb k h ha, size_list, Bool.and_true]; exact decide_eq_true (by omega)
theorem spl_plain : ∀ (l : List UInt8), (∀ c ∈ l, c ≠ 47) → spl l = [l]
  | [], _ => rfl
  | c :: r, h => by
    have hr := spl_plain r fun x hx => h x (List.mem_cons_of_mem _ hx)
    rw [spl, if_neg (h c (List.mem_cons_self ..)), hr]
theorem spl_cut : ∀ (l r : List UInt8), (∀ c ∈ l, c ≠ 47) → spl (l ++ 47 :: r) = l :: spl r
  | [], r, _ => by rw [List.nil_append, spl, if_pos rfl]
  | c :: l, r, h => by
    have hr := spl_cut l r fun x hx => h x (List.mem_cons_of_mem _ hx)
    rw [List.cons_append, spl, if_neg (h c (List.mem_cons_self ..)), hr]
theorem spl_length : ∀ (l : List UInt8), (spl l).length ≤ l.length + 1 ∧ 1 ≤ (spl l).length
  | [] => ⟨Nat.le_refl _, Nat.le_refl _⟩
  | c :: r => by
    have hr := spl_length r
    rw [spl]
    split
    · simp only [List.length_cons]; omega
    · split
      · simp
      · rename_i h t e; rw [e] at hr; simp only [List.length_cons] at hr ⊢; omega
theorem spl_mem : ∀ (l : List UInt8), ∀ p ∈ spl l, p.length ≤ l.length
  | [], p, h => by simp [spl] at h; subst h; simp
  | c :: r, p, h => by
    have hr := spl_mem r
    rw [spl] at h
    split at h
    · rcases List.mem_cons.1 h with rfl | h
      · simp
      · have := hr p h; simp only [List.length_cons]; omega
    · split at h
      · simp at h; subst h; simp
      · rename_i a t e
        rcases List.mem_cons.1 h with rfl | h
        · have := hr a (by rw [e]; exact List.mem_cons_self ..); simp only [List.length_cons]; omega
        · have := hr p (by rw [e]; exact List.mem_cons_of_mem _ h); simp only [List.length_cons]; omega
theorem any_snoc {α : Type} (l : List α) (p : α → Bool) (k : Nat) (h : k < l.length) (ha : (l.take k).any p = false) (hp : p l[k] = false) : (l.take (k + 1)).any p = false := by
  rw [List.take_succ_eq_append_getElem h, List.any_append, ha]; simp [hp]
theorem any_end {α : Type} (l : List α) (p : α → Bool) (k : Nat) (h : ¬ k < l.length) (ha : (l.take k).any p = false) : l.any p = false := by
  rwa [List.take_of_length_le (by omega)] at ha
theorem any_hit {α : Type} (l : List α) (p : α → Bool) (k : Nat) (h : k < l.length) (hp : p l[k] = true) : l.any p = true :=
  List.any_eq_true.2 ⟨l[k], List.getElem_mem h, hp⟩
theorem aheadL_step (x y : List (List UInt8)) (k : Nat) (hx : k < x.length) (hy : k < y.length) (he : x[k] = y[k]) : aheadL (x.drop k) (y.drop k) = aheadL (x.drop (k + 1)) (y.drop (k + 1)) := by
  rw [List.drop_eq_getElem_cons hx, List.drop_eq_getElem_cons hy, aheadL, if_pos he]
theorem aheadL_part (x y : List (List UInt8)) (k : Nat) (hx : k < x.length) (hy : k < y.length) (he : x[k] ≠ y[k]) : aheadL (x.drop k) (y.drop k) = Op.bytesLess x[k] y[k] := by
  rw [List.drop_eq_getElem_cons hx, List.drop_eq_getElem_cons hy, aheadL, if_neg he]
theorem aheadL_end (x y : List (List UInt8)) (k : Nat) (hk : ¬ (k < x.length ∧ k < y.length)) (h1 : k ≤ x.length) (h2 : k ≤ y.length) : aheadL (x.drop k) (y.drop k) = decide ((x.length : Int) < (y.length : Int)) := by
  have e : ∀ a b : List (List UInt8), (a = [] ∨ b = []) → aheadL a b = decide (a.length < b.length) := by
    intro a b h
    rcases h with rfl | rfl
    · cases b <;> rfl
    · cases a <;> rfl
  rw [e _ _ (by
    by_cases h : k < x.length
    · right; exact List.drop_eq_nil_of_le (by omega)
    · left; exact List.drop_eq_nil_of_le (by omega))]
  exact decide_eq_decide.2 (by simp only [List.length_drop]; omega)
theorem all_snoc {α : Type} (l : List α) (p : α → Bool) (k : Nat) (h : k < l.length) (ha : (l.take k).all p = true) (hp : p l[k] = true) : (l.take (k + 1)).all p = true := by
  rw [List.take_succ_eq_append_getElem h, List.all_append, ha]; simp [hp]
theorem all_end {α : Type} (l : List α) (p : α → Bool) (k : Nat) (h : ¬ k < l.length) (ha : (l.take k).all p = true) : l.all p = true := by
  rwa [List.take_of_length_le (by omega)] at ha
theorem all_bad {α : Type} (l : List α) (p : α → Bool) (k : Nat) (h : k < l.length) (hp : p l[k] = false) : l.all p = false := by
  rw [Bool.eq_false_iff]; intro ha; have := List.all_eq_true.1 ha l[k] (List.getElem_mem h); rw [hp] at this; cases this
/-- what itemL has given when it comes to place k: the list so far, and the flag -/
theorem itemL_from (s : List UInt8) (l : List (List UInt8)) (k : Nat) (h : k < l.length) (d : Bool) : itemL s d (l.drop k) =
    (if !d && (Op.bytesLess s l[k] || s == l[k]) then [s] else []) ++ ((if l[k] == s then [] else [l[k]]) ++ itemL s (d || (Op.bytesLess s l[k] || s == l[k])) (l.drop (k + 1))) := by
  rw [List.drop_eq_getElem_cons h, itemL]
theorem item_length (s : List UInt8) : ∀ (l : List (List UInt8)) (d : Bool), (itemL s d l).length ≤ l.length + 1
  | [], d => by cases d <;> simp [itemL]
  | y :: ys, d => by
    have h1 := item_length s ys (d || (Op.bytesLess s y || s == y))
    have h2 : d = true → ∀ l, (itemL s d l).length ≤ l.length := by
      intro hd; subst hd
      intro l
      induction l with
      | nil => simp [itemL]
      | cons a t ih => rw [itemL]; simp only [Bool.not_true, Bool.false_and, Bool.false_eq_true, if_false, List.nil_append, List.length_append, Bool.true_or, List.length_cons]; split <;> simp <;> omega
    have h3 : ∀ l, (itemL s true l).length ≤ l.length := by
      intro l
      induction l with
      | nil => simp [itemL]
      | cons a t ih => rw [itemL]; simp only [Bool.not_true, Bool.false_and, Bool.false_eq_true, if_false, List.nil_append, List.length_append, Bool.true_or, List.length_cons]; split <;> simp <;> omega
    rw [itemL]
    by_cases hc : (!d && (Op.bytesLess s y || s == y)) = true
    · have hd : (d || (Op.bytesLess s y || s == y)) = true := by
        simp only [Bool.and_eq_true] at hc; rw [hc.2]; simp
      rw [if_pos hc, hd]
      have := h3 ys
      simp only [List.length_append, List.length_cons, List.length_nil]
      split <;> simp <;> omega
    · rw [if_neg hc]
      simp only [List.length_append, List.length_cons, List.length_nil]
      split <;> simp <;> omega
theorem line_length (x : Leaf) (hw : (written x).length ≤ 200000) (hp : x.path.length ≤ 1000) : (line x).length ≤ 1000000 := by
  simp only [line, List.length_append, List.length_cons, List.length_nil]; omega
theorem Written_snoc (t : List Leaf) (k : Nat) (h : k < t.length) : Written (t.take (k + 1)) = Written (t.take k) ++ line t[k] := by
  unfold Written
  rw [List.take_succ_eq_append_getElem h, List.flatMap_append]; simp
theorem setL_from (x : Leaf) (l : List Leaf) (k : Nat) (h : k < l.length) (d : Bool) : setL x d (l.drop k) =
    (if !d && (ahead x.path l[k].path || x.path == l[k].path) then [x] else []) ++ ((if l[k].path == x.path then [] else [l[k]]) ++ setL x (d || (ahead x.path l[k].path || x.path == l[k].path)) (l.drop (k + 1))) := by
  rw [List.drop_eq_getElem_cons h, setL]
theorem sumB_append : ∀ (a b : List UInt8), sumB (a ++ b) = sumB a + sumB b
  | [], b => by simp [sumB]
  | c :: a, b => by rw [List.cons_append, sumB, sumB_append a b, sumB]; omega
theorem sumB_le : ∀ (a : List UInt8), sumB a ≤ a.length * 255
  | [] => by simp [sumB]
  | c :: a => by have := sumB_le a; have hc : c.toNat < 256 := c.toNat_lt; simp only [sumB, List.length_cons]; omega
theorem sumB_take (s : List UInt8) (k : Nat) (h : k < s.length) : sumB (s.take (k + 1)) = sumB (s.take k) + s[k].toNat := by
  rw [List.take_succ_eq_append_getElem h, sumB_append]; simp [sumB]
theorem fnd_hit (l : List Br) (n : List UInt8) (k : Nat) (h : k < l.length) (ha : ((l.take k).any fun b => b.name == n) = false) (hp : (l[k].name == n) = true) : fndI l n = (k : Int) := by
  have e : fnd l n = k := by
    unfold fnd
    rw [List.findIdx_eq h]
    refine ⟨by simpa using hp, fun j hj => ?_⟩
    have := List.any_eq_false.1 ha l[j] (by rw [List.mem_take_iff_getElem]; exact ⟨j, by omega, rfl⟩)
    simpa using this
  rw [fndI, e, if_pos h]
theorem fnd_none (l : List Br) (n : List UInt8) (k : Nat) (h : ¬ k < l.length) (ha : ((l.take k).any fun b => b.name == n) = false) : fndI l n = -1 := by
  have := any_end l _ k h ha
  rw [fndI, if_neg]
  intro hlt
  have h2 := List.findIdx_getElem (p := fun b : Br => b.name == n) (w := hlt)
  have h3 := List.any_eq_false.1 this _ (List.getElem_mem hlt)
  exact h3 h2
end R
end Go.Proofs.YtolgebdmffcemaaGreatDoor
namespace Go.Proofs.YtolgebdmffcemaaGreatDoor
open Go.RowKit
def S (l : List UInt8) : Value := .string ⟨l.toArray⟩
/-- v is a slice of n elements whose cells, in w, are xs; its block is old and not one of those that M names. -/
def Rd (w : World) (M : Nat → Prop) (v : Value) (n : Nat) (xs : List Value) : Prop :=
  ∃ a cap, v = .slice a n cap ∧ n ≤ cap ∧ cap ≤ maxLen ∧ (0 < n → ∃ b off, a = some ⟨b, off, none⟩ ∧ b < w.heap.size ∧ ¬ M b ∧ ∀ j u, xs[j]? = some u → w.cell? ⟨b, off + j, none⟩ = some u)
/-- w' is w but for blocks that M names, and new ones. -/
structure Kept (M : Nat → Prop) (w w' : World) : Prop where
  os : w'.os = w.os
  tape : w'.tape = w.tape
  output : w'.output = w.output
  size : w.heap.size ≤ w'.heap.size
  block : ∀ k, k < w.heap.size → ¬ M k → w'.heap[k]? = w.heap[k]?
theorem Kept.refl (M : Nat → Prop) (w : World) : Kept M w w := ⟨rfl, rfl, rfl, Nat.le_refl _, fun _ _ _ => rfl⟩
theorem Kept.of_below {M : Nat → Prop} {w w' : World} (h : Below w.heap.size w w') : Kept M w w' := ⟨h.os, h.tape, h.output, h.size, fun k hk _ => h.block k hk⟩
theorem Kept.trans {M : Nat → Prop} {a b c : World} (h : Kept M a b) (k : Kept M b c) : Kept M a c :=
  ⟨k.os.trans h.os, k.tape.trans h.tape, k.output.trans h.output, Nat.le_trans h.size k.size, fun i hi hM => (k.block i (Nat.lt_of_lt_of_le hi h.size) hM).trans (h.block i hi hM)⟩
theorem Kept.mono {M M' : Nat → Prop} {w w' : World} (h : Kept M w w') (hm : ∀ b, M b → M' b) : Kept M' w w' := ⟨h.os, h.tape, h.output, h.size, fun k hk hn => h.block k hk fun e => hn (hm k e)⟩
theorem Kept.setCell {M : Nat → Prop} {a w : World} (h : Kept M a w) {p : Addr} (hp : M p.block ∨ a.heap.size ≤ p.block) (u : Value) : Kept M a (w.setCell p u) :=
  ⟨h.os, h.tape, h.output, by simpa [World.setCell] using h.size, fun k hk hn => by
    rw [Below.heap_setCell _ _ _ _ (by rintro rfl; rcases hp with hp | hp; exact hn hp; omega)]; exact h.block k hk hn⟩
theorem Kept.drewN {M : Nat → Prop} {a w : World} (h : Kept M a w) (q : Nat) : Kept M a (w.drewN q) := ⟨h.os, h.tape, h.output, h.size, h.block⟩
theorem Kept.cell {M : Nat → Prop} {w w' : World} (h : Kept M w w') {p : Addr} (hp : p.block < w.heap.size) (hM : ¬ M p.block) : w'.cell? p = w.cell? p := World.cell?_of_block (w := w) (h.block _ hp hM)
theorem Kept.frozen {M : Nat → Prop} {w w' : World} (h : Kept M w w') {p : Addr} (hp : p.block < w.heap.size) (hM : ¬ M p.block) : w'.frozen? p = w.frozen? p := World.frozen?_of_block (w := w) (h.block _ hp hM)
/-- what is read stays read while nothing old is written but what O names (a part of M), and what M names grows by new blocks alone -/
theorem Rd.step {w w' : World} {M M' O : Nat → Prop} {v : Value} {n : Nat} {xs : List Value} (h : Rd w M v n xs) (hk : Kept O w w') (hO : ∀ b, O b → M b) (hM : ∀ b, M' b → M b ∨ w.heap.size ≤ b) : Rd w' M' v n xs := by
  obtain ⟨a, cap, rfl, h1, h2, h3⟩ := h
  refine ⟨a, cap, rfl, h1, h2, fun h0 => ?_⟩
  obtain ⟨b, off, rfl, hb, hMb, hc⟩ := h3 h0
  refine ⟨b, off, rfl, Nat.lt_of_lt_of_le hb hk.size, fun e => by rcases hM b e with e | e; exact hMb e; omega, fun j u hu => ?_⟩
  rw [World.cell?_of_block (w := w) (hk.block b hb fun e => hMb (hO b e))]
  exact hc j u hu
theorem Rd.kept {w w' : World} {M : Nat → Prop} {v : Value} {n : Nat} {xs : List Value} (h : Rd w M v n xs) (hk : Kept M w w') : Rd w' M v n xs := by
  obtain ⟨a, cap, rfl, h1, h2, h3⟩ := h
  refine ⟨a, cap, rfl, h1, h2, fun h0 => ?_⟩
  obtain ⟨b, off, rfl, hb, hM, hc⟩ := h3 h0
  refine ⟨b, off, rfl, Nat.lt_of_lt_of_le hb hk.size, hM, fun j u hu => ?_⟩
  rw [World.cell?_of_block (w := w) (hk.block b hb hM)]
  exact hc j u hu
theorem Rd.below {w w' : World} {M : Nat → Prop} {v : Value} {n : Nat} {xs : List Value} (h : Rd w M v n xs) (hb : Below w.heap.size w w') : Rd w' M v n xs := h.kept (Kept.of_below hb)
theorem Rd.of_owns {w : World} {base : Nat} {M : Nat → Prop} {e : TypeId} {sz : Nat} {v : Value} {n : Nat} {xs : List Value} (h : w.ownsRow base e sz v n xs) (hM : ∀ b, M b → b < base) : Rd w M v n xs := by
  obtain ⟨h1, h2⟩ := h
  rcases h2 with ⟨rfl, rfl⟩ | ⟨g, cap, cur, rfl, hg, hh, hn, hcm, hs, ht⟩
  · exact ⟨none, 0, rfl, Nat.le_refl _, by unfold maxLen; omega, fun h => absurd h (Nat.lt_irrefl _)⟩
  · refine ⟨_, cap, rfl, hn, hcm, fun _ => ⟨g, 0, rfl, (Array.getElem?_eq_some_iff.1 hh).1, fun hm => by have := hM g hm; omega, fun j u hu => ?_⟩⟩
    simp only [World.cell?, hh]
    rw [← ht, List.getElem?_take] at hu
    split at hu
    · simpa using hu
    · cases hu
theorem new_one (w : World) (u : Value) (t : TypeId) : ∀ (j : Nat) (x : Value), [u][j]? = some x → (w.alloc (.cells #[u] t)).cell? ((⟨w.heap.size, 0, none⟩ : Addr).add j) = some x := by
  intro j x hj
  match j, hj with
  | 0, hj => simp at hj; subst hj; simp [Addr.add]
theorem Tryz.info9 : (Tryz.prog.info? 9).map (fun i => (i.zero, i.size, i.bytes)) = some (some (.string ⟨#[]⟩), 1, 16) := by kernel_rfl
theorem Tryz.info216 : (Tryz.prog.info? 216).map (fun i => (i.zero, i.size, i.bytes)) = some (some (.agg #[.string ⟨#[]⟩, .int .u8 0, .int .i64 0, .string ⟨#[]⟩, .slice none 0 0]), 5, 72) := by kernel_rfl
theorem cells_of_new (w : World) (C : Array Value) (t : TypeId) : ∀ (j : Nat) (x : Value), C.toList[j]? = some x → (w.alloc (.cells C t)).cell? ((⟨w.heap.size, 0, none⟩ : Addr).add j) = some x := by
  intro j x hj
  have hadd : (⟨w.heap.size, 0, none⟩ : Addr).add j = ⟨w.heap.size, j, none⟩ := by unfold Addr.add; split <;> simp_all
  rw [hadd, World.cell?_alloc_at _ _ _ _ rfl]
  simpa using hj
/-- One element more, laid in a new block, appended to a row of the call's own. -/
theorem wp_app {P : Program} (w : World) {ops : Array Oper} {rest : List Oper} {o : Oper} {a : Act} {Q : Exit → Act → World → Prop}
    (hg : o.guard = none) (s x : Operand) (t : TypeId) (hop : o.op = Op.call { callee := Callee.builtin Builtin.append, args := #[s, x], argTypes := #[t, t] })
    (base : Nat) (e : TypeId) (z : Value) (size bytes : Nat) (h1 : P.underlying t = some (.slice e)) (h2 : (P.info? e).map (fun i => (i.zero, i.size, i.bytes)) = some (some z, size, bytes)) (h6 : z.cells.size = size) (h7 : 0 < size)
    {v : Value} {n : Nat} {xs : List Value} (hown : w.ownsRow base e size v n xs) (C : Array Value) (hC : C.size = size) (hs : a.eval s = v)
    (hx : a.eval x = .slice (some ⟨w.heap.size, 0, none⟩) 1 1) (h1c : ∀ u ∈ C.toList, u.oneCell' = true) (b1 : n + 1 ≤ maxLen) (b2 : (n + 1) * bytes ≤ 140737488355328) (hB : base ≤ w.heap.size)
    (hK : ∀ v' w', w'.ownsRow base e size v' (n + 1) (xs ++ C.toList) → w.grownBy w' v.ownBlock → wpList P ops Q rest (a.put o.dst v') w') :
    wpList P ops Q (o :: rest) a (w.alloc (.cells C e)) := by
  obtain ⟨i0, hi, hz0, hz1, hz2⟩ := info_parts h2
  refine wpList_append_own _ hg s x t hop base e i0 z size bytes h1 hi hz0 hz1 hz2 h6 h7 v n xs hs (hown.alloc _) ⟨w.heap.size, 0, none⟩ 1 1 C.toList hx (by simp [hC]) (cells_of_new w C e) h1c b1 b2 (by simp; omega) ?_
  intro v' w' ho hgr _
  refine hK v' w' ho ⟨hgr.os, hgr.tape, hgr.output, by have := hgr.size; simp at this; omega, fun k hk hne => ?_⟩
  rw [hgr.block k (by simp; omega) hne]
  exact Below.heap_alloc _ _ _ hk
/-- a leaf of the document's answer as five cells; iv: its slice of items -/
def LC (x : R.Leaf) (iv : Value) : List Value := [.string ⟨x.path.toArray⟩, .int .u8 x.kind, .int .i64 x.n, .string ⟨x.text.toArray⟩, iv]
def cellsT (L : List (R.Leaf × Value)) : List Value := L.flatMap fun p => LC p.1 p.2
def It (w : World) (M : Nat → Prop) (p : R.Leaf × Value) : Prop := Rd w M p.2 p.1.items.length (p.1.items.map S)
def Tr (w : World) (M : Nat → Prop) (v : Value) (t : List R.Leaf) : Prop := ∃ L : List (R.Leaf × Value), L.map (·.1) = t ∧ Rd w M v L.length (cellsT L) ∧ ∀ p ∈ L, It w M p
theorem Tr.kept {w w' : World} {M : Nat → Prop} {v : Value} {t : List R.Leaf} (h : Tr w M v t) (hk : Kept M w w') : Tr w' M v t := by
  obtain ⟨L, h1, h2, h3⟩ := h
  exact ⟨L, h1, h2.kept hk, fun p hp => Rd.kept (h3 p hp) hk⟩
theorem Tr.step {w w' : World} {M M' O : Nat → Prop} {v : Value} {t : List R.Leaf} (h : Tr w M v t) (hk : Kept O w w') (hO : ∀ b, O b → M b) (hM : ∀ b, M' b → M b ∨ w.heap.size ≤ b) : Tr w' M' v t := by
  obtain ⟨L, h1, h2, h3⟩ := h
  exact ⟨L, h1, h2.step hk hO hM, fun p hp => Rd.step (h3 p hp) hk hO hM⟩
theorem Tr.below {w w' : World} {M : Nat → Prop} {v : Value} {t : List R.Leaf} (h : Tr w M v t) (hb : Below w.heap.size w w') : Tr w' M v t := h.kept (Kept.of_below hb)
theorem cellsT_length (L : List (R.Leaf × Value)) : (cellsT L).length = L.length * 5 := by
  unfold cellsT
  induction L with
  | nil => rfl
  | cons p r ih => rw [List.flatMap_cons, List.length_append, ih]; simp [LC]; omega
theorem cellsT_at : ∀ (L : List (R.Leaf × Value)) (i j : Nat) (h : i < L.length) (_ : j < 5), (cellsT L)[i * 5 + j]? = (LC (L[i]'h).1 (L[i]'h).2)[j]?
  | p :: r, 0, j, _, hj => by
    unfold cellsT
    rw [List.flatMap_cons, Nat.zero_mul, Nat.zero_add, List.getElem?_append_left (by simp [LC]; omega)]
    rfl
  | p :: r, i + 1, j, h, hj => by
    have ih := cellsT_at r i j (by simpa using h) hj
    unfold cellsT at ih ⊢
    rw [List.flatMap_cons, List.getElem?_append_right (by simp [LC]; omega)]
    rw [show (i + 1) * 5 + j - (LC p.1 p.2).length = i * 5 + j from by simp [LC]; omega]
    simpa using ih
theorem leaf_cells {w : World} {b off : Nat} {L : List (R.Leaf × Value)} (hc : ∀ j u, (cellsT L)[j]? = some u → w.cell? ⟨b, off + j, none⟩ = some u) (i : Nat) (h : i < L.length) :
    w.cell? ⟨b, off + i * 5, none⟩ = some (.string ⟨(L[i]'h).1.path.toArray⟩) ∧ w.cell? ⟨b, off + i * 5 + 1, none⟩ = some (.int .u8 (L[i]'h).1.kind) ∧ w.cell? ⟨b, off + i * 5 + 2, none⟩ = some (.int .i64 (L[i]'h).1.n) ∧
    w.cell? ⟨b, off + i * 5 + 3, none⟩ = some (.string ⟨(L[i]'h).1.text.toArray⟩) ∧ w.cell? ⟨b, off + i * 5 + 4, none⟩ = some (L[i]'h).2 := by
  have g : ∀ j u, j < 5 → (LC (L[i]'h).1 (L[i]'h).2)[j]? = some u → w.cell? ⟨b, off + i * 5 + j, none⟩ = some u := by
    intro j u hj hu
    rw [Nat.add_assoc]
    exact hc _ _ (by rw [cellsT_at L i j h hj]; exact hu)
  exact ⟨g 0 _ (by omega) rfl, g 1 _ (by omega) rfl, g 2 _ (by omega) rfl, g 3 _ (by omega) rfl, g 4 _ (by omega) rfl⟩
/-- the five cells of the leaf at place i; its items as a slice written out -/
theorem leaf_cells' {w : World} {M : Nat → Prop} {b off : Nat} {L : List (R.Leaf × Value)} (hI : ∀ p ∈ L, It w M p) (hc : ∀ j u, (cellsT L)[j]? = some u → w.cell? ⟨b, off + j, none⟩ = some u) (i : Nat) (h : i < L.length) :
    ∃ (x : R.Leaf) (ia : Option Addr) (ic : Nat), Hid (L[i]'h = (x, .slice ia x.items.length ic)) ∧ It w M (x, .slice ia x.items.length ic) ∧ w.cell? ⟨b, off + i * 5, none⟩ = some (.string ⟨x.path.toArray⟩) ∧ w.cell? ⟨b, off + i * 5 + 1, none⟩ = some (.int .u8 x.kind) ∧ w.cell? ⟨b, off + i * 5 + 2, none⟩ = some (.int .i64 x.n) ∧
    w.cell? ⟨b, off + i * 5 + 3, none⟩ = some (.string ⟨x.text.toArray⟩) ∧ w.cell? ⟨b, off + i * 5 + 4, none⟩ = some (.slice ia x.items.length ic) := by
  obtain ⟨c0, c1, c2, c3, c4⟩ := leaf_cells hc i h
  have hi := hI _ (List.getElem_mem h)
  obtain ⟨ia, ic, hv, h1, h2, h3⟩ := hi
  refine ⟨(L[i]'h).1, ia, ic, ?_, ⟨ia, ic, rfl, h1, h2, h3⟩, c0, c1, c2, c3, by rw [c4, hv]⟩
  show L[i]'h = _
  rw [← hv]
theorem ownsRow_below {w w' : World} {base : Nat} {e : TypeId} {size : Nat} {v : Value} {n : Nat} {xs : List Value} (h : w.ownsRow base e size v n xs) (hb : Below w.heap.size w w') : w'.ownsRow base e size v n xs :=
  h.kept (row := none) ⟨hb.os, hb.tape, hb.output, hb.size, fun k hk _ => hb.block k hk⟩ (by cases v.ownBlock <;> simp)
theorem ownsRow_drewN {w : World} {q base : Nat} {e : TypeId} {size : Nat} {v : Value} {n : Nat} {xs : List Value} (h : w.ownsRow base e size v n xs) : (w.drewN q).ownsRow base e size v n xs := h
theorem cellsT_snoc (L : List (R.Leaf × Value)) (x : R.Leaf) (iv : Value) : cellsT (L ++ [(x, iv)]) = cellsT L ++ [.string ⟨x.path.toArray⟩, .int .u8 x.kind, .int .i64 x.n, .string ⟨x.text.toArray⟩, iv] := by
  simp [cellsT, LC]
theorem five_one (a b : List UInt8) (k n : Int) (ia : Option Addr) (il ic : Nat) : ∀ u ∈ #[Value.string ⟨a.toArray⟩, .int .u8 k, .int .i64 n, .string ⟨b.toArray⟩, .slice ia il ic].toList, u.oneCell' = true := by
  intro u hu
  simp only [List.mem_cons, List.not_mem_nil, or_false] at hu
  rcases hu with rfl | rfl | rfl | rfl | rfl <;> rfl
theorem bool_eq (a b : Int) : ((a == b) = true ∧ a = b) ∨ ((a == b) = false ∧ a ≠ b) := by
  by_cases h : a = b
  · exact .inl ⟨by simpa using h, h⟩
  · exact .inr ⟨by simpa using h, h⟩
theorem ret_bool {a b : Bool} (h : b = a) : Ending.returned (.bool a) = .returned (.bool b) := by rw [h]
theorem ret_int {k : IntKind} {a b : Int} (h : b = a) : Ending.returned (.int k a) = .returned (.int k b) := by rw [h]
theorem ret_str {a b : ByteArray} (h : b = a) : Ending.returned (.string a) = .returned (.string b) := by rw [h]
end Go.Proofs.YtolgebdmffcemaaGreatDoor
