import Derived.Test.YthibodlojlkppaaGreatDoorZ22
set_option linter.all false
set_option maxRecDepth 100000
set_option maxHeartbeats 40000000
namespace Go.Proofs.YthibodlojlkppaaGreatDoor
open Go.ChangeShapes Go.WideShapes Go.ChangeAt Go.RowKit Go.Deep
variable [DecidableEq K] [LawfulBEq Lk]
theorem B6:Tryz.pinned.checked.prog.funcNamed Rows.onceUptoRow.func=some 5:=by kernel_rfl
theorem Dq:joinedFacts Tryz.pinned.checked.prog 5 Tryz.f5 (Rows.OpenSpec.upto Rows.onceSpec).bare Rows.onceUptoRow=true:=by kernel_rfl
theorem B7:Tryz.f5.isInstance Tryz.pinned.checked.prog Rows.onceUptoRow.origin Rows.onceUptoRow.targs:=of_decide_eq_true (by kernel_rfl)
theorem B8:Tryz.f5.isWrapper Tryz.pinned.checked.prog Rows.onceUptoRow.wrapper Rows.onceUptoRow.mainSum:=by
 unfold Func.isWrapper;first|(rw[if_pos (by decide +kernel)];kernel_rfl)|(rw[if_neg (by decide +kernel)];exact⟨rfl,rfl⟩)
end Go.Proofs.YthibodlojlkppaaGreatDoor
