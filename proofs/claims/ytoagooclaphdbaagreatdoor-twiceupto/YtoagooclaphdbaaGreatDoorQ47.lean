/-
  The card of Twice.
-/
import Derived.Test.YtoagooclaphdbaaGreatDoorQ46
import Derived.SevenTiedAt
set_option linter.unusedVariables false
set_option linter.unusedSimpArgs false
set_option maxRecDepth 100000
set_option maxHeartbeats 40000000

namespace Go.Proofs.YtoagooclaphdbaaGreatDoor
open Go.ChangeShapes Go.WideShapes Go.ChangeAt Go.RowKit Go.Deep
theorem saidK:Rows.TwiceUptoSaid :=
 OpenClaim.holds_of_cond 10 Tryz.f10 rfl rfl rfl rfl rfl rfl rfl ⟨rfl,rfl,rfl,rfl,rfl⟩ rfl rfl rfl rfl rfl closed_name Tryz.func10 closed_all closed_inst closed_wrap
  (fun os started H enc _ F=>by rw [OpenClaim.pre_eq_preRow];exact liftedK os started H enc F)
theorem plainK (f:FuncId) (fn:Func) (hf : Tryz.pinned.checked.prog.funcNamed "almanac/almanackeep.Twice" = some f) (hfn:Tryz.pinned.checked.prog.funcs[f]? = some fn) :
 true=Tryz.pinned.checked.prog.looks []∧∀ (j:Nat) t,fn.params[j]? = some t→Tryz.pinned.checked.prog.wantsStandIn t=false:=by
 obtain rfl:f=10:=Option.some.inj ((show Tryz.prog.funcNamed "almanac/almanackeep.Twice" = some 10 by kernel_rfl).symm.trans hf) |>.symm
 obtain rfl:fn=Tryz.f10:=(Option.some.inj (Tryz.func10.symm.trans hfn)).symm
 refine ⟨by kernel_rfl,fun j t ht => ?_⟩
 rw [Tryz.params10] at ht
 have hm:=Array.mem_of_getElem? ht
 simp only [List.mem_toArray,List.mem_cons,List.not_mem_nil,or_false] at hm
 rcases hm with rfl | rfl
 · exact (show Tryz.prog.wantsStandIn 24=false by kernel_rfl)
 · exact (show Tryz.prog.wantsStandIn 29=false by kernel_rfl)
theorem cardTwice:Rows.TwiceUptoCardSaid :=
 Claim7.holds_tied_plain_at .later [] _ _ _ _ saidK (fun _ h=>by cases h) (by kernel_rfl) (fun _ h=>by cases h) twiceUpto_row_tie rfl ⟨rfl,rfl⟩ (by kernel_rfl) rfl plainK (by kernel_rfl)
end Go.Proofs.YtoagooclaphdbaaGreatDoor
