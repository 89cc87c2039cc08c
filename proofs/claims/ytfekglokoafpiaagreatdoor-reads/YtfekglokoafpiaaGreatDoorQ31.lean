/-
  Proved: of any bytes as the text of one file the program's answers to the questions Known, Tokens, Tree and Exports are the document's: Reads returns true at every text, and leaves its argument as it was. The tables that its road reads hold what the program's text lays (the tied card).
-/
import Derived.Test.YtfekglokoafpiaaGreatDoorQ30
import Derived.Test.YtfekglokoafpiaaGreatDoorCards
import Derived.Test.YtfekglokoafpiaaGreatDoorTie
import Derived.WalkKit
import Derived.ProofKit
import Derived.OpenShut
import Derived.ShutString
import Derived.Deep.DeepHandedRow
import Derived.Lib.LaidTab
import Derived.Stop.LaidErr
import Derived.SevenTiedAt

set_option linter.unusedVariables false
set_option linter.unusedSimpArgs false

namespace Go.Proofs.YtfekglokoafpiaaGreatDoor
open Go.ChangeShapes Go.WideShapes Go.ChangeAt Go.RowKit
open Go.ChangeMaps (open_string shut_string)

theorem own : ownKnob Tryz.prog.godebug = none := by kernel_rfl
theorem gTab : Tryz.prog.globalNamed "internal/strconv.uint64pow10" = some 1 := by kernel_rfl
theorem gTabType : (Tryz.prog.globals[1]?).map (·.type) = some 277 := by kernel_rfl
theorem cellsTab : Tryz.prog.cellsOf 277 = 20 := by kernel_rfl
theorem cellsU64 : Tryz.prog.cellsOf 47 = 1 := by kernel_rfl
/-- What the row's list gives: the table of powers. -/
theorem table {W : World} (h : laidMetH Tryz.prog Rows.readsRow.laid W) : Lib.TabIs Tryz.prog W "internal/strconv.uint64pow10" .u64 Lib.pow10Tab := by
  rw [MakeChecks.laidMetH_plain _ _ _ (by kernel_rfl)] at h
  have h2 := laidMet.tail (laidMet.tail (show laidMet Tryz.prog (("math/bits.deBruijn32tab", Rows.laid_math_bits_deBruijn32tab) :: ("math/bits.deBruijn64tab", Rows.laid_math_bits_deBruijn64tab) :: ("internal/strconv.uint64pow10", Lib.tabData .u64 Lib.pow10Tab) :: [("strconv.ErrRange", Rows.laid_strconv_ErrRange), ("strconv.ErrSyntax", Rows.laid_strconv_ErrSyntax)]) W from h))
  exact Lib.tabIs_of_head gTab gTabType Tryz.underlying277 Tryz.underlying47 cellsU64 cellsTab h2

set_option maxRecDepth 100000 in
theorem contract (H : Type) (enc : TypeId × Value → H) (W : World) (base : Nat) (args : Array Value) (ds gs : List (DataW H)) (before : List MemPlace)
    (hval : ∀ (j : Nat) t v, Tryz.f3.params[j]? = some t → args[j]? = some v → Value.okWide Tryz.prog W .any base t v)
    (hW : DataW.Whole enc Tryz.prog Tryz.f3.params.toList Rows.readsSpec.vars false W args.toList ds gs before) (hL : laidMetH Tryz.prog Rows.readsRow.laid W) :
    Calls Tryz.prog 3 args W fun e W' => ∃ v, e = .returned v ∧ Rows.readsSpec.post enc Tryz.prog Tryz.f3 false true false false W args v W' := by
  have hW' := hW
  obtain ⟨p, q, hA0, hV, rfl, hfz, hnd⟩ := hW
  have hA : DataW.TrodAll enc Tryz.prog W 0 (fun _ => true) true Tryz.f3.params.toList args.toList ds p := hA0
  rw [Tryz.params3] at hA hval
  obtain ⟨v0, d0, rfl, rfl, h0⟩ := trodAll_one hA
  obtain ⟨rfl, rfl⟩ := trodVars_none hV
  obtain ⟨a0, rfl, rfl, rfl, w0⟩ := open_string Tryz.underlying9 (hval 0 9 v0 rfl rfl) h0
  clear hA0
  simp only [List.append_nil] at hW'
  refine (reads_any a0 w0 W (Lib.tabBelow_of_tabIs (table hL))).mono fun e W' ⟨he, hg⟩ => ?_
  subst he
  exact ⟨_, rfl, _, _, _, [], [], [], hW', trodAll_mk1 (shut_bool Tryz.underlying4 _), (trodAll_cons_mk (shut_string Tryz.underlying9 w0) trodAll_mk0), rfl, hg.frame _, fun h => by cases h⟩

def litCells : DataW Unit → List Value
  | .agg l => l.map fun | .lit (.int k z) => Value.int k z | _ => .nilIface
  | _ => []

/-- A world for the witness: the settled one, the variables holding what their initialisers lay. -/
def LaidW (os : Os) (w : World) : Prop :=
  w =
    (let N := (World.settled Tryz.prog os).heap.size
     let w0 := World.holding Tryz.prog os ⟨#[.cells #[.string ⟨#[118, 97, 108, 117, 101, 32, 111, 117, 116, 32, 111, 102, 32, 114, 97, 110, 103, 101]⟩] 326, .cells #[.string ⟨#[105, 110, 118, 97, 108, 105, 100, 32, 115, 121, 110, 116, 97, 120]⟩] 326], #[], []⟩
     let put (h : Array Obj) (g : Nat) (cs : Array Value) : Array Obj := h.modify g fun
       | .cells _ t frozen => .cells cs t frozen
       | o => o
     let h0 := put (put w0.heap 3 #[.iface 324 (.pointer (some ⟨N, 0, none⟩))]) 2 #[.iface 324 (.pointer (some ⟨N + 1, 0, none⟩))]
     let h1 := put (put (put h0 1 (litCells Rows.laid_internal_strconv_uint64pow10).toArray) 4 (litCells Rows.laid_math_bits_deBruijn32tab).toArray) 5 (litCells Rows.laid_math_bits_deBruijn64tab).toArray
     ({ w0 with heap := h1 } : World))

section
variable {os : Os} {w : World}

set_option maxRecDepth 1000000 in
theorem laid_met (h : LaidW os w) : laidMet Tryz.prog Rows.readsRow.laid (w.forCall (fun _ _ => 0) ⟨#[], #[.string ⟨#[]⟩], []⟩).memory := by
  unfold LaidW at h
  subst h
  exact laidMet_of_run' 10 (by kernel_rfl) (by kernel_rfl)

theorem reads (h : LaidW os w) {H : Type} (enc : TypeId × Value → H) : DataW.whole enc Tryz.prog (w.forCall (fun _ _ => 0) ⟨#[], #[.string ⟨#[]⟩], []⟩).memory Tryz.f3.params.toList Rows.readsSpec.vars false #[Value.string ⟨#[]⟩].toList 8 = some ([.lit (.string [])], [], []) := by
  unfold LaidW at h
  subst h
  kernel_rfl

theorem osW (h : LaidW os w) : w.os = os := by
  unfold LaidW at h
  subst h
  rfl

theorem varsW (h : LaidW os w) : (w.forCall (fun _ _ => 0) ⟨#[], #[.string ⟨#[]⟩], []⟩).variablesB Tryz.checked.prog = true := by
  unfold LaidW at h
  subst h
  kernel_rfl

theorem restW (h : LaidW os w) : ((w.forCall (fun _ _ => 0) ⟨#[], #[.string ⟨#[]⟩], []⟩).heap.toList.drop Tryz.checked.prog.globals.size).take ((begin Tryz.checked.prog (fun _ _ => 0) default).world.heap.size - Tryz.checked.prog.globals.size) = (begin Tryz.checked.prog (fun _ _ => 0) default).world.heap.toList.drop Tryz.checked.prog.globals.size := by
  unfold LaidW at h
  subst h
  kernel_rfl

theorem wideW (h : LaidW os w) : Input.okWideB Tryz.checked.prog (w.forCall (fun _ _ => 0) ⟨#[], #[.string ⟨#[]⟩], []⟩) 3 ⟨#[], #[.string ⟨#[]⟩], []⟩ = true := by
  unfold LaidW at h
  subst h
  kernel_rfl

theorem rowW (h : LaidW os w) {H : Type} (enc : TypeId × Value → H) : (OpenSpec.ofChange Rows.readsSpec).preRow enc Tryz.checked.prog Tryz.f3 Rows.readsRow.domain false Rows.readsRow.laid (w.forCall (fun _ _ => 0) ⟨#[], #[.string ⟨#[]⟩], []⟩).memory #[.string ⟨#[]⟩] := by
  have hx := reads h enc
  have hl := laid_met h
  unfold LaidW at h
  subst h
  exact OpenSpec.preRow_of_cond 8 hx (by kernel_rfl) (fun k hk => by cases hk) (by kernel_rfl) hl

end

set_option maxRecDepth 100000 in
theorem lifted (os : Os) (started : os.Started) (H : Type) (enc : TypeId × Value → H) (F : Stop.Interp) :
    ReturnsInHanded {} Tryz.checked os 3 .any ((OpenSpec.ofChange Rows.readsSpec).preRow enc Tryz.prog Tryz.f3 Rows.readsRow.domain false Rows.readsRow.laid) (((OpenSpec.ofChange Rows.readsSpec).at F).post enc Tryz.prog Tryz.f3 false true false false) := by
  obtain ⟨w, hw⟩ : ∃ w, LaidW os w := ⟨_, rfl⟩
  refine returnsInHanded_of_row (C := Tryz.checked) (s := OpenSpec.ofChange Rows.readsSpec) own started (by kernel_rfl) Tryz.func3
    (witness_row_at (enc := enc) (C := Tryz.checked) false w #[.string ⟨#[]⟩] (osW hw) (varsW hw) (restW hw) (wideW hw) (rowW hw enc)) ?_
  intro W base args ds gs before hval hW _ _ _ hL _ _
  exact contract H enc W base args ds gs before hval hW hL

set_option maxRecDepth 100000 in
theorem said : Rows.ReadsSaid :=
  OpenClaim.holds_of_cond 3 Tryz.f3 rfl rfl rfl rfl rfl rfl rfl ⟨rfl, rfl, rfl, rfl, rfl⟩ rfl rfl rfl rfl rfl (by kernel_rfl) Tryz.func3 (by kernel_rfl)
    (of_decide_eq_true (by kernel_rfl)) (by unfold Func.isWrapper; first | (rw [if_pos (by decide +kernel)]; kernel_rfl) | (rw [if_neg (by decide +kernel)]; exact ⟨rfl, rfl⟩))
    (fun os started H enc _ F => by rw [OpenClaim.pre_eq_preRow]; exact lifted os started H enc F)

theorem plain (f : FuncId) (fn : Func) (hf : Tryz.pinned.checked.prog.funcNamed "almanac/almanaclaw.Reads" = some f) (hfn : Tryz.pinned.checked.prog.funcs[f]? = some fn) :
    true = Tryz.pinned.checked.prog.looks [] ∧ ∀ (j : Nat) t, fn.params[j]? = some t → Tryz.pinned.checked.prog.wantsStandIn t = false := by
  obtain rfl : f = 3 := Option.some.inj ((show Tryz.prog.funcNamed "almanac/almanaclaw.Reads" = some 3 by kernel_rfl).symm.trans hf) |>.symm
  obtain rfl : fn = Tryz.f3 := (Option.some.inj (Tryz.func3.symm.trans hfn)).symm
  refine ⟨by kernel_rfl, fun j t ht => ?_⟩
  rw [Tryz.params3] at ht
  obtain rfl : t = 9 := by simpa using Array.mem_of_getElem? ht
  exact (show Tryz.prog.wantsStandIn 9 = false by kernel_rfl)

/-- The card. -/
theorem card : Rows.ReadsCardSaid :=
  Claim7.holds_tied_plain_at .later [] _ _ _ _ said (fun _ h => by cases h) (by kernel_rfl) (fun _ h => by cases h) reads_row_tie rfl ⟨rfl, rfl⟩ (by kernel_rfl) rfl plain (by kernel_rfl)

end Go.Proofs.YtfekglokoafpiaaGreatDoor
