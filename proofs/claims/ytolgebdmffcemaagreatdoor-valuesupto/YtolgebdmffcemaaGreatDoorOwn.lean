/-
  THE ROW AND THE CARD of graftlaw.Values, the second form: for every script that, with all its texts, is of bulk at most 1048576, the call returns true and leaves the script as it was.
  What the row of graftlaw.Values, the second form, says of the program's text: closed facts, each checked by itself.
  THE CARD of graftlaw.Values, the second form: for every script that, with all its texts, is of bulk at most 1048576, the call returns true and leaves the script as it was (the tables of Go's library laid as the program's text lays them).
-/
import Derived.Test.YtolgebdmffcemaaGreatDoorCards
import Derived.Test.YtolgebdmffcemaaGreatDoorTie
import Derived.Test.YtolgebdmffcemaaGreatDoorPart01
import Derived.Test.YtolgebdmffcemaaGreatDoorPart34
import Derived.Deep.DeepHandedRow
import Derived.LaidLaws
set_option linter.unusedVariables false
namespace Go.Proofs.YtolgebdmffcemaaGreatDoor
open Go.ChangeShapes Go.WideShapes Go.ChangeAt Go.RowKit

theorem keptBut_of_below {W W' : World} (h : Below W.heap.size W W') (may : MemPlace → Prop) : W.keptBut W' may := by
  refine ⟨h.os, h.output, fun i hi => ?_⟩
  rw [h.block i hi]
  cases W.heap[i]? with
  | none => rfl
  | some o => cases o <;> first | exact ⟨rfl, rfl, rfl, fun _ _ => rfl⟩ | exact Or.inr ⟨rfl, rfl⟩ | rfl
theorem sameAt_of_below {W W' : World} (h : Below W.heap.size W W') {p : MemPlace} (hp : p.block < W.heap.size) : W.sameAt W' p := by
  have h1 := h.block p.block hp
  cases p <;> simp only [World.sameAt, MemPlace.block, World.cell?] at h1 ⊢ <;> simp [h1]
theorem laid_out : laidOutB Tryz.prog = true := by kernel_rfl
theorem script_readable : Tryz.prog.readableRec 22 = true := by kernel_rfl
theorem script_lt : 22 < Tryz.prog.types.size := of_decide_eq_true (by kernel_rfl)

set_option maxRecDepth 20000 in
theorem contract (H : Type) (enc : TypeId × Value → H) (W : World) (base : Nat) (args : Array Value) (ds gs : List (DataW H)) (before : List MemPlace)
    (hval : ∀ (j : Nat) t v, Tryz.f3.params[j]? = some t → args[j]? = some v → Value.okWide Tryz.prog W .any base t v)
    (hW : DataW.Whole enc Tryz.prog Tryz.f3.params.toList Rows.valuesSpec.vars false W args.toList ds gs before) (hk : Rows.uptoSmall H (ds ++ gs) = true)
    (hL : laidMetH Tryz.prog Rows.valuesUptoRow.laid W) (hS : W.ShapedOpen Tryz.prog) :
    Calls Tryz.prog 3 args W fun e W' => ∃ v, e = .returned v ∧ Rows.valuesSpec.post enc Tryz.prog Tryz.f3 false true false false W args v W' := by
  have hW' := hW
  obtain ⟨p, q, hA0, hV, rfl, hfz, hnd⟩ := hW
  have hA : DataW.TrodAll enc Tryz.prog W 0 (fun _ => true) true Tryz.f3.params.toList args.toList ds p := hA0
  rw [Tryz.params3] at hA hval
  obtain ⟨v0, vs0, d0, ds0, p0, q0, hargs, rfl, rfl, h0, r0⟩ := trodAll_cons hA
  obtain ⟨rfl, rfl, rfl⟩ := trodAll_nil r0
  obtain rfl : args = #[v0] := by cases args; simp_all
  obtain ⟨rfl, rfl⟩ := trodVars_none hV
  clear hA0
  simp only [List.append_nil] at hW' hk
  have hb := of_decide_eq_true hk
  simp only [Rows.uptoBulkAll, Nat.add_zero] at hb
  obtain ⟨script, hn, hok, hRd⟩ := open_script (hval 0 22 v0 rfl rfl) h0 hb
  refine (l_Values script v0 W (glob_of hL hS) hRd (by omega) hok).mono fun e W' ⟨he, hg⟩ => ?_
  subst he
  have hlt : ∀ x ∈ p0, x.block < W.heap.size := fun x hx => hW'.lt x (by simpa using hx)
  refine ⟨_, rfl, [d0], [], p0, [], p0, [], by simpa using hW', trodAll_cons_mk (shut_bool Tryz.underlying4 _) trodAll_mk0, ?_, rfl, keptBut_of_below hg _, fun h => by cases h⟩
  exact ⟨p0, [], Go.WideElems.Trod_stays laid_out script_readable script_lt h0 (fun x hx => sameAt_of_below hg (hlt x hx)) (fun x hx => by simpa using hlt x hx), rfl, (List.append_nil _).symm⟩

/-- a table's cells -/
def lit0 : DataW Unit → List Value
  | .lit (.int k z) => [.int k z]
  | _ => []
def lit1 : DataW Unit → List Value
  | .agg l => l.flatMap lit0
  | d => lit0 d
def lit2 : DataW Unit → Array Value
  | .agg l => (l.flatMap lit1).toArray
  | d => (lit1 d).toArray
def laidBlock (d : DataW Unit) : Obj → Obj
  | .cells _ t frozen => .cells (lit2 d) t frozen
  | o => o
/-- an error's variable: it points to the block b -/
def errBlock (b : Nat) : Obj → Obj
  | .cells _ t frozen => .cells #[.iface 323 (.pointer (some ⟨b, 0, none⟩))] t frozen
  | o => o
set_option maxRecDepth 100000 in
/-- A world for the witness: the settled one, each table holding what its initialiser lays. -/
theorem laid_world (os : Os) : ∃ w0 : World, w0.os = os ∧ (w0.forCall (fun _ _ => 0) ⟨#[], #[.slice none 0 0], []⟩).variablesB Tryz.checked.prog = true ∧
    ((w0.forCall (fun _ _ => 0) ⟨#[], #[.slice none 0 0], []⟩).heap.toList.drop Tryz.checked.prog.globals.size).take ((begin Tryz.checked.prog (fun _ _ => 0) default).world.heap.size - Tryz.checked.prog.globals.size) =
      (begin Tryz.checked.prog (fun _ _ => 0) default).world.heap.toList.drop Tryz.checked.prog.globals.size ∧
    Input.okWideB Tryz.checked.prog (w0.forCall (fun _ _ => 0) ⟨#[], #[.slice none 0 0], []⟩) 3 ⟨#[], #[.slice none 0 0], []⟩ = true ∧
    laidMet Tryz.prog Rows.valuesUptoRow.laid (w0.forCall (fun _ _ => 0) ⟨#[], #[.slice none 0 0], []⟩).memory :=
  ⟨{ World.holding Tryz.prog os ⟨#[], #[], []⟩ with heap := (((((((((World.holding Tryz.prog os ⟨#[], #[], []⟩).heap.modify 1 (laidBlock Rows.laid_internal_strconv_uint64pow10)).modify 2 (laidBlock Rows.laid_unicode_utf8_first)).modify 3 (laidBlock Rows.laid_unicode_utf8_acceptRanges)).modify 4 (errBlock 13)).modify 5 (errBlock 14)).modify 6 (laidBlock Rows.laid_math_bits_deBruijn32tab)).modify 7 (laidBlock Rows.laid_math_bits_deBruijn64tab)).push (.cells #[.string ⟨#[105, 110, 118, 97, 108, 105, 100, 32, 115, 121, 110, 116, 97, 120]⟩] 325 (0, 0))).push (.cells #[.string ⟨#[118, 97, 108, 117, 101, 32, 111, 117, 116, 32, 111, 102, 32, 114, 97, 110, 103, 101]⟩] 325 (0, 0)) },
    rfl, by kernel_rfl, by kernel_rfl, by kernel_rfl, laidMet_of_run' 8 (by kernel_rfl) (by kernel_rfl)⟩
theorem reads (w0 : World) {H : Type} (enc : TypeId × Value → H) : DataW.whole enc Tryz.prog (w0.forCall (fun _ _ => 0) ⟨#[], #[.slice none 0 0], []⟩).memory Tryz.f3.params.toList Rows.valuesSpec.vars false #[Value.slice none 0 0].toList 8 = some ([.nil], [], []) := by kernel_rfl
theorem own : ownKnob Tryz.prog.godebug = none := by kernel_rfl
set_option maxRecDepth 100000 in
theorem liftedUpto (os : Os) (started : os.Started) (H : Type) (enc : TypeId × Value → H) (F : Stop.Interp) :
    ReturnsInHanded {} Tryz.checked os 3 .any ((Rows.OpenSpec.upto Rows.valuesSpec).preRow enc Tryz.prog Tryz.f3 Rows.valuesUptoRow.domain false Rows.valuesUptoRow.laid) (((Rows.OpenSpec.upto Rows.valuesSpec).at F).post enc Tryz.prog Tryz.f3 false true false false) := by
  obtain ⟨w0, ho, h1, h2, h3, h4⟩ := laid_world os
  refine returnsInHanded_of_row (C := Tryz.checked) (s := Rows.OpenSpec.upto Rows.valuesSpec) own started (by kernel_rfl) Tryz.func3
    (witness_row_at (enc := enc) (C := Tryz.checked) false w0 #[.slice none 0 0] ho h1 h2 h3
      (OpenSpec.preRow_of_cond 8 (reads w0 enc) (by kernel_rfl) (fun k hk => by cases hk; kernel_rfl) (by kernel_rfl) h4)) ?_
  intro W base args ds gs before hval hW _ hc _ hL hS _
  exact contract H enc W base args ds gs before hval hW (hc _ rfl) hL hS
end Go.Proofs.YtolgebdmffcemaaGreatDoor
namespace Go.Proofs.YtolgebdmffcemaaGreatDoor
open Go.ChangeShapes Go.WideShapes Go.ChangeAt Go.RowKit
set_option maxRecDepth 100000 in
set_option maxHeartbeats 400000000 in
theorem closed_values : joinedFacts Tryz.pinned.checked.prog 3 Tryz.f3 (Rows.OpenSpec.upto Rows.valuesSpec).bare { Rows.valuesUptoRow with leaving := false } = true := by
  unfold joinedFacts
  simp only [Bool.and_eq_true]
  repeat' apply And.intro
  all_goals as_aux_lemma => kernel_rfl
end Go.Proofs.YtolgebdmffcemaaGreatDoor
namespace Go.Proofs.YtolgebdmffcemaaGreatDoor
open Go.ChangeShapes Go.WideShapes Go.ChangeAt Go.RowKit
set_option maxRecDepth 100000 in
theorem said_alone : ({ Rows.valuesUptoRow with leaving := false } : OpenClaim).holds Tryz.pinned (Rows.OpenSpec.upto Rows.valuesSpec) :=
  OpenClaim.holds_of_cond 3 Tryz.f3 rfl rfl rfl rfl rfl rfl rfl ⟨rfl, rfl, rfl, rfl, rfl⟩ rfl rfl rfl rfl rfl (by as_aux_lemma => kernel_rfl) Tryz.func3 closed_values
    (of_decide_eq_true (by as_aux_lemma => kernel_rfl)) (by unfold Func.isWrapper; first | (rw [if_pos (by decide +kernel)]; kernel_rfl) | (rw [if_neg (by decide +kernel)]; exact ⟨rfl, rfl⟩))
    (fun os started H enc _ F => by rw [OpenClaim.pre_eq_preRow]; exact liftedUpto os started H enc F)
theorem saidUpto : Rows.ValuesUptoSaid := holds_leaving rfl rfl rfl (by as_aux_lemma => kernel_rfl) said_alone

/-- No parameter wants a stand-in; the program's own looks are off. -/
theorem plain (f : FuncId) (fn : Func) (hf : Tryz.pinned.checked.prog.funcNamed "graft/graftlaw.Values" = some f) (hfn : Tryz.pinned.checked.prog.funcs[f]? = some fn) :
    true = Tryz.pinned.checked.prog.looks [] ∧ ∀ (j : Nat) t, fn.params[j]? = some t → Tryz.pinned.checked.prog.wantsStandIn t = false := by
  obtain rfl : f = 3 := Option.some.inj ((show Tryz.prog.funcNamed "graft/graftlaw.Values" = some 3 by kernel_rfl).symm.trans hf) |>.symm
  obtain rfl : fn = Tryz.f3 := (Option.some.inj (Tryz.func3.symm.trans hfn)).symm
  refine ⟨by as_aux_lemma => kernel_rfl, fun j t ht => ?_⟩
  rw [Tryz.params3] at ht
  obtain rfl : t = 22 := by simpa using Array.mem_of_getElem? ht
  exact (show Tryz.prog.wantsStandIn 22 = false by kernel_rfl)

/-- a tied card whose program starts goroutines -/
theorem tied_goes (Lk : Looks) {p : Pinned} {s : OpenSpec} {c : OpenClaim} (kinds : List LaidKind) (tests : Bool) (har : Bool × String) (lk : Bool)
    (hc : c.holds p s) (hw : c.wfByText s = true) (htie : c.laidByTextAt Lk p kinds tests)
    (hst : c.start = .entering) (hnb : c.noBlocks = false ∧ c.again = false) (hm : p.checked.prog.mainIs = some (har.1, har.2.toList)) (hn : (!har.1 && har.2.isEmpty && !lk) = false)
    (hl : ∀ f fn, p.checked.prog.funcNamed c.func = some f → p.checked.prog.funcs[f]? = some fn → lk = p.checked.prog.looks [] ∧ ∀ (j : Nat) t, fn.params[j]? = some t → p.checked.prog.wantsStandIn t = false)
    (hg : true = c.goesBy p.checked.prog) :
    Claim7.holds p (.plain s) { stood := { row := c, standIns := [], harness := har, looks := lk }, kinds := [], alts := [], goes := true, laidByText := true, laidKinds := kinds, laidTests := tests, laidLooks := Lk } := by
  have h6 : Claim7.isSixth { stood := { row := c, standIns := [], harness := har, looks := lk }, kinds := [] } = false := by simpa [Claim7.isSixth] using hn
  exact ⟨Claim7.tied_new_at Lk kinds tests (Claim7.new_of_sixth hc har lk hst hnb hm h6 hl) hw, fun D hD => (by cases hD), htie, (fun h => by cases h), hg⟩

theorem values_upto : Rows.ValuesUptoCardSaid :=
  tied_goes .later _ _ _ _ saidUpto (by as_aux_lemma => kernel_rfl) valuesUpto_row_tie rfl ⟨rfl, rfl⟩ (by as_aux_lemma => kernel_rfl) rfl plain (by as_aux_lemma => kernel_rfl)
#print axioms values_upto
end Go.Proofs.YtolgebdmffcemaaGreatDoor
