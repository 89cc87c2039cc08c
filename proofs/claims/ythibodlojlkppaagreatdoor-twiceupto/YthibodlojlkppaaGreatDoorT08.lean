/-
  Proved: of any texts as files, and any questions: each question asked twice, with no change between, is answered the same the second time, nothing is worked out then, and no more than forty values are kept: Twice returns true at every argument of at most 1048576 values and letters, and leaves its arguments as they were. The tables and errors that its road reads hold what the program's text lays (the tied card).
-/
import Derived.Test.YthibodlojlkppaaGreatDoorB06
import Derived.Test.YthibodlojlkppaaGreatDoorT07
import Derived.SevenTiedAt
set_option linter.unusedVariables false
set_option linter.unusedSectionVars false
set_option linter.unusedSimpArgs false
set_option maxRecDepth 100000
set_option maxHeartbeats 40000000

namespace Go.Proofs.YthibodlojlkppaaGreatDoor
abbrev decQ:DecidableEq K:=fun a b =>
 if h:a.kind=b.kind∧a.file=b.file∧a.name=b.name then .isTrue (by cases a;cases b;simp at h;simp [h]) else .isFalse (by rintro rfl;simp at h)
theorem lawQ [DecidableEq K]:LawfulBEq Lk :=
 { eq_of_beq:=fun {a b} h=>match a,b,h with
    | .inl a, .inl b,h=>congrArg Sum.inl (ByteArray.ext (eq_of_beq (show (a.data == b.data)=true from h)))
    | .inr a, .inr b,h=>congrArg Sum.inr (eq_of_beq (α:=K) h)
    | .inl _, .inr _,h=>absurd (show false=true from h) (by decide)
    | .inr _, .inl _,h=>absurd (show false=true from h) (by decide)
   rfl:=fun {a}=>match a with
    | .inl a=>show (a.data == a.data)=true from beq_self_eq_true a.data
    | .inr a=>beq_self_eq_true (α:=K) a }
end Go.Proofs.YthibodlojlkppaaGreatDoor
namespace Go.Proofs.YthibodlojlkppaaGreatDoor
open Go.ChangeShapes Go.WideShapes Go.ChangeAt Go.RowKit Go.Deep
variable [DecidableEq K] [LawfulBEq Lk]
theorem saidK:Rows.TwiceUptoSaid :=
 OpenClaim.holds_of_cond 4 Tryz.f4 rfl rfl rfl rfl rfl rfl rfl ⟨rfl,rfl,rfl,rfl,rfl⟩ rfl rfl rfl rfl rfl closed_name Tryz.func4 closed_all closed_inst closed_wrap
  (fun os started H enc _ F=>by rw [OpenClaim.pre_eq_preRow];exact liftedK os started H enc F)
theorem plainK (f:FuncId) (fn:Func) (hf : Tryz.pinned.checked.prog.funcNamed "almanac/almanackeep.Twice" = some f) (hfn:Tryz.pinned.checked.prog.funcs[f]? = some fn) :
 true=Tryz.pinned.checked.prog.looks []∧∀ (j:Nat) t,fn.params[j]? = some t→Tryz.pinned.checked.prog.wantsStandIn t=false:=by
 obtain rfl:f=4:=Option.some.inj ((show Tryz.prog.funcNamed "almanac/almanackeep.Twice" = some 4 by kernel_rfl).symm.trans hf) |>.symm
 obtain rfl:fn=Tryz.f4:=(Option.some.inj (Tryz.func4.symm.trans hfn)).symm
 refine ⟨by kernel_rfl,fun j t ht => ?_⟩
 rw [Tryz.params4] at ht
 have hm:=Array.mem_of_getElem? ht
 simp only [List.mem_toArray,List.mem_cons,List.not_mem_nil,or_false] at hm
 rcases hm with rfl | rfl
 · exact (show Tryz.prog.wantsStandIn 25=false by kernel_rfl)
 · exact (show Tryz.prog.wantsStandIn 37=false by kernel_rfl)
theorem cardTwice0:Rows.TwiceUptoCardSaid :=
 Claim7.holds_tied_plain_at .later [] _ _ _ _ saidK (fun _ h=>by cases h) (by kernel_rfl) (fun _ h=>by cases h) twiceUpto_row_tie rfl ⟨rfl,rfl⟩ (by kernel_rfl) rfl plainK (by kernel_rfl)
end Go.Proofs.YthibodlojlkppaaGreatDoor
namespace Go.Proofs.YthibodlojlkppaaGreatDoor
theorem cardTwice:Rows.TwiceUptoCardSaid:=@cardTwice0 decQ (@lawQ decQ)
end Go.Proofs.YthibodlojlkppaaGreatDoor
