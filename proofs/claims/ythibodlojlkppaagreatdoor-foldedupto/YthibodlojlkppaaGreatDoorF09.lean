/-
  The closed facts of Folded's row.
-/
import Derived.Test.YthibodlojlkppaaGreatDoorF08
import Derived.SevenTiedAt
set_option linter.unusedVariables false
set_option linter.unusedSectionVars false
set_option linter.unusedSimpArgs false
set_option maxRecDepth 100000
set_option maxHeartbeats 40000000

namespace Go.Proofs.YthibodlojlkppaaGreatDoor
open Go.ChangeShapes Go.WideShapes Go.ChangeAt Go.RowKit Go.Deep
variable [DecidableEq K] [LawfulBEq Lk]
theorem closed_name:Tryz.pinned.checked.prog.funcNamed Rows.foldedUptoRow.func=some 3:=by kernel_rfl
theorem closed_all:joinedFacts Tryz.pinned.checked.prog 3 Tryz.f3 (Rows.OpenSpec.upto Rows.foldedSpec).bare Rows.foldedUptoRow=true:=by kernel_rfl
theorem closed_inst:Tryz.f3.isInstance Tryz.pinned.checked.prog Rows.foldedUptoRow.origin Rows.foldedUptoRow.targs:=of_decide_eq_true (by kernel_rfl)
theorem closed_wrap:Tryz.f3.isWrapper Tryz.pinned.checked.prog Rows.foldedUptoRow.wrapper Rows.foldedUptoRow.mainSum:=by
 unfold Func.isWrapper;first | (rw [if_pos (by decide +kernel)];kernel_rfl) | (rw [if_neg (by decide +kernel)];exact ⟨rfl,rfl⟩)
end Go.Proofs.YthibodlojlkppaaGreatDoor
