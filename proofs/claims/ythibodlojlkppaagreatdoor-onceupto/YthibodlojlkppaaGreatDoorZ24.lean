/-
  Proved: of files that a plan makes, whatever is asked: in one question no slot is worked out twice, and in one revision none, as long as no value was dropped; no question is refused, and no more than forty values are kept: Once returns true at every argument of at most 1048576 values and letters, and leaves its arguments as they were. The tables and errors that its road reads hold what the program's text lays (the tied card).
-/
import Derived.Test.YthibodlojlkppaaGreatDoorZ23
set_option linter.all false
set_option maxRecDepth 100000
set_option maxHeartbeats 40000000
namespace Go.Proofs.YthibodlojlkppaaGreatDoor
abbrev NW:DecidableEq K:=fun a b=>
 if h:a.kind=b.kind/\a.file=b.file/\a.name=b.name then .isTrue (by cases a;cases b;simp at h;simp[h]) else .isFalse (by rintro rfl;simp at h)
theorem ON[DecidableEq K]:LawfulBEq Lk:=
 { eq_of_beq:=fun {a b} h=>match a,b,h with
    | .inl a,.inl b,h=>congrArg Sum.inl (ByteArray.ext (eq_of_beq (show (a.data==b.data)=true from h)))
    | .inr a,.inr b,h=>congrArg Sum.inr (eq_of_beq (α:=K) h)
    | .inl _,.inr _,h=>absurd (show false=true from h) (by decide)
    | .inr _,.inl _,h=>absurd (show false=true from h) (by decide)
   rfl:=fun {a}=>match a with
    | .inl a=>show (a.data==a.data)=true from beq_self_eq_true a.data
    | .inr a=>beq_self_eq_true (α:=K) a}
end Go.Proofs.YthibodlojlkppaaGreatDoor
namespace Go.Proofs.YthibodlojlkppaaGreatDoor
open Go.ChangeShapes Go.WideShapes Go.ChangeAt Go.RowKit Go.Deep
variable [DecidableEq K] [LawfulBEq Lk]
theorem NY:Rows.OnceUptoSaid:=
 OpenClaim.holds_of_cond 5 Tryz.f5 rfl rfl rfl rfl rfl rfl rfl ⟨rfl,rfl,rfl,rfl,rfl⟩ rfl rfl rfl rfl rfl B6 Tryz.func5 Dq B7 B8
  (fun os started H enc _ F=>by rw[OpenClaim.pre_eq_preRow];exact KG os started H enc F)
theorem Mk(f:FuncId)(fn:Func)(hf : Tryz.pinned.checked.prog.funcNamed "almanac/almanackeep.Once" = some f)(hfn:Tryz.pinned.checked.prog.funcs[f]? = some fn) :
 true=Tryz.pinned.checked.prog.looks []/\∀(j:Nat) t,fn.params[j]? = some t->Tryz.pinned.checked.prog.wantsStandIn t=false:=by
 obtain rfl:f=5:=Option.some.inj ((show Tryz.prog.funcNamed "almanac/almanackeep.Once" = some 5 by kernel_rfl).symm.trans hf) |>.symm
 obtain rfl:fn=Tryz.f5:=(Option.some.inj (Tryz.func5.symm.trans hfn)).symm;refine⟨by kernel_rfl,fun j t ht=>?_⟩;rw[Tryz.params5] at ht;have hm:=Array.mem_of_getElem? ht;simp only[List.mem_toArray,List.mem_cons,List.not_mem_nil,or_false] at hm;rcases hm with rfl|rfl
 . exact (show Tryz.prog.wantsStandIn 24=false by kernel_rfl)
 . exact (show Tryz.prog.wantsStandIn 22=false by kernel_rfl)
theorem FJ:Rows.OnceUptoCardSaid:=
 Claim7.holds_tied_plain_at .later [] _ _ _ _ NY (fun _ h=>by cases h) (by kernel_rfl) (fun _ h=>by cases h) onceUpto_row_tie rfl ⟨rfl,rfl⟩ (by kernel_rfl) rfl Mk (by kernel_rfl)
end Go.Proofs.YthibodlojlkppaaGreatDoor
namespace Go.Proofs.YthibodlojlkppaaGreatDoor
theorem cardOnce:Rows.OnceUptoCardSaid:=@FJ NW (@ON NW)
end Go.Proofs.YthibodlojlkppaaGreatDoor
