/-
  The closed facts of Twice's row.
-/
import Derived.Test.YthibodlojlkppaaGreatDoorT06
import Derived.SevenTiedAt
set_option linter.unusedVariables false
set_option linter.unusedSectionVars false
set_option linter.unusedSimpArgs false
set_option maxRecDepth 100000
set_option maxHeartbeats 40000000

namespace Go.Proofs.YthibodlojlkppaaGreatDoor
open Go.ChangeShapes Go.WideShapes Go.ChangeAt Go.RowKit Go.Deep
variable [DecidableEq K] [LawfulBEq Lk]
theorem closed_name:Tryz.pinned.checked.prog.funcNamed Rows.twiceUptoRow.func=some 4:=by kernel_rfl
theorem closed_all:joinedFacts Tryz.pinned.checked.prog 4 Tryz.f4 (Rows.OpenSpec.upto Rows.twiceSpec).bare Rows.twiceUptoRow=true:=by kernel_rfl
theorem closed_inst:Tryz.f4.isInstance Tryz.pinned.checked.prog Rows.twiceUptoRow.origin Rows.twiceUptoRow.targs:=of_decide_eq_true (by kernel_rfl)
theorem closed_wrap:Tryz.f4.isWrapper Tryz.pinned.checked.prog Rows.twiceUptoRow.wrapper Rows.twiceUptoRow.mainSum:=by
 unfold Func.isWrapper;first | (rw [if_pos (by decide +kernel)];kernel_rfl) | (rw [if_neg (by decide +kernel)];exact ⟨rfl,rfl⟩)
end Go.Proofs.YthibodlojlkppaaGreatDoor
