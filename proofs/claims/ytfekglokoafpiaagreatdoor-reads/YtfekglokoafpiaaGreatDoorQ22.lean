/-
  The slots' methods behind the interface.
  settle.
  The heap of kept values: what is used last is at its end, and stays there.
  A new slot is pushed on the heap.
  The kept slots; use of a new slot.
  The heap's Push, and use of a slot: a new one, the last one.
-/
import Derived.Test.YtfekglokoafpiaaGreatDoorQ21
import Derived.Defers
import Derived.Recover
import Derived.Deep.QuietTactic
import Derived.BigQuiet
import Derived.Deep.RegionHeld3
import Derived.Deep.AppendLies
import Derived.Maps.AppendAt

set_option linter.unusedVariables false
set_option linter.unusedSimpArgs false

namespace Go.Proofs.YtfekglokoafpiaaGreatDoor
open Go.RowKit

theorem methS_common (p : Nat) (w : World) : (method 453 157 (.pointer (some ⟨p, 0, none⟩)) "almanac/slots.common").run Tryz.prog w = .ok (265, .pointer (some ⟨p, 0, none⟩)) w := by kernel_rfl
theorem nilS_common (p : Nat) (w : World) : (nilAhead 453 157 (.pointer (some ⟨p, 0, none⟩)) "almanac/slots.common").run Tryz.prog w = .ok (some false) w := by kernel_rfl
theorem methS_enter (p : Nat) (w : World) : (method 453 157 (.pointer (some ⟨p, 0, none⟩)) "almanac/slots.enter").run Tryz.prog w = .ok (267, .pointer (some ⟨p, 0, none⟩)) w := by kernel_rfl
theorem nilS_enter (p : Nat) (w : World) : (nilAhead 453 157 (.pointer (some ⟨p, 0, none⟩)) "almanac/slots.enter").run Tryz.prog w = .ok (some false) w := by kernel_rfl
theorem methS_leave (p : Nat) (w : World) : (method 453 157 (.pointer (some ⟨p, 0, none⟩)) "almanac/slots.leave").run Tryz.prog w = .ok (270, .pointer (some ⟨p, 0, none⟩)) w := by kernel_rfl
theorem nilS_leave (p : Nat) (w : World) : (nilAhead 453 157 (.pointer (some ⟨p, 0, none⟩)) "almanac/slots.leave").run Tryz.prog w = .ok (some false) w := by kernel_rfl
theorem methS_isLooped (p : Nat) (w : World) : (method 453 157 (.pointer (some ⟨p, 0, none⟩)) "almanac/slots.isLooped").run Tryz.prog w = .ok (269, .pointer (some ⟨p, 0, none⟩)) w := by kernel_rfl
theorem nilS_isLooped (p : Nat) (w : World) : (nilAhead 453 157 (.pointer (some ⟨p, 0, none⟩)) "almanac/slots.isLooped").run Tryz.prog w = .ok (some false) w := by kernel_rfl
theorem methS_isDropped (p : Nat) (w : World) : (method 453 157 (.pointer (some ⟨p, 0, none⟩)) "almanac/slots.isDropped").run Tryz.prog w = .ok (268, .pointer (some ⟨p, 0, none⟩)) w := by kernel_rfl
theorem nilS_isDropped (p : Nat) (w : World) : (nilAhead 453 157 (.pointer (some ⟨p, 0, none⟩)) "almanac/slots.isDropped").run Tryz.prog w = .ok (some false) w := by kernel_rfl
theorem methS_verify (p : Nat) (w : World) : (method 453 157 (.pointer (some ⟨p, 0, none⟩)) "almanac/slots.verify").run Tryz.prog w = .ok (272, .pointer (some ⟨p, 0, none⟩)) w := by kernel_rfl
theorem nilS_verify (p : Nat) (w : World) : (nilAhead 453 157 (.pointer (some ⟨p, 0, none⟩)) "almanac/slots.verify").run Tryz.prog w = .ok (some false) w := by kernel_rfl
theorem methS_workOut (p : Nat) (w : World) : (method 453 157 (.pointer (some ⟨p, 0, none⟩)) "almanac/slots.workOut").run Tryz.prog w = .ok (273, .pointer (some ⟨p, 0, none⟩)) w := by kernel_rfl
theorem nilS_workOut (p : Nat) (w : World) : (nilAhead 453 157 (.pointer (some ⟨p, 0, none⟩)) "almanac/slots.workOut").run Tryz.prog w = .ok (some false) w := by kernel_rfl

theorem methT_common (p : Nat) (w : World) : (method 453 170 (.pointer (some ⟨p, 0, none⟩)) "almanac/slots.common").run Tryz.prog w = .ok (265, .pointer (some ⟨p, 0, none⟩)) w := by kernel_rfl
theorem nilT_common (p : Nat) (w : World) : (nilAhead 453 170 (.pointer (some ⟨p, 0, none⟩)) "almanac/slots.common").run Tryz.prog w = .ok (some false) w := by kernel_rfl
theorem methT_enter (p : Nat) (w : World) : (method 453 170 (.pointer (some ⟨p, 0, none⟩)) "almanac/slots.enter").run Tryz.prog w = .ok (267, .pointer (some ⟨p, 0, none⟩)) w := by kernel_rfl
theorem nilT_enter (p : Nat) (w : World) : (nilAhead 453 170 (.pointer (some ⟨p, 0, none⟩)) "almanac/slots.enter").run Tryz.prog w = .ok (some false) w := by kernel_rfl
theorem methT_leave (p : Nat) (w : World) : (method 453 170 (.pointer (some ⟨p, 0, none⟩)) "almanac/slots.leave").run Tryz.prog w = .ok (270, .pointer (some ⟨p, 0, none⟩)) w := by kernel_rfl
theorem nilT_leave (p : Nat) (w : World) : (nilAhead 453 170 (.pointer (some ⟨p, 0, none⟩)) "almanac/slots.leave").run Tryz.prog w = .ok (some false) w := by kernel_rfl
theorem methT_isLooped (p : Nat) (w : World) : (method 453 170 (.pointer (some ⟨p, 0, none⟩)) "almanac/slots.isLooped").run Tryz.prog w = .ok (269, .pointer (some ⟨p, 0, none⟩)) w := by kernel_rfl
theorem nilT_isLooped (p : Nat) (w : World) : (nilAhead 453 170 (.pointer (some ⟨p, 0, none⟩)) "almanac/slots.isLooped").run Tryz.prog w = .ok (some false) w := by kernel_rfl
theorem methT_isDropped (p : Nat) (w : World) : (method 453 170 (.pointer (some ⟨p, 0, none⟩)) "almanac/slots.isDropped").run Tryz.prog w = .ok (268, .pointer (some ⟨p, 0, none⟩)) w := by kernel_rfl
theorem nilT_isDropped (p : Nat) (w : World) : (nilAhead 453 170 (.pointer (some ⟨p, 0, none⟩)) "almanac/slots.isDropped").run Tryz.prog w = .ok (some false) w := by kernel_rfl
theorem methT_verify (p : Nat) (w : World) : (method 453 170 (.pointer (some ⟨p, 0, none⟩)) "almanac/slots.verify").run Tryz.prog w = .ok (272, .pointer (some ⟨p, 0, none⟩)) w := by kernel_rfl
theorem nilT_verify (p : Nat) (w : World) : (nilAhead 453 170 (.pointer (some ⟨p, 0, none⟩)) "almanac/slots.verify").run Tryz.prog w = .ok (some false) w := by kernel_rfl
theorem methT_workOut (p : Nat) (w : World) : (method 453 170 (.pointer (some ⟨p, 0, none⟩)) "almanac/slots.workOut").run Tryz.prog w = .ok (279, .pointer (some ⟨p, 0, none⟩)) w := by kernel_rfl
theorem nilT_workOut (p : Nat) (w : World) : (nilAhead 453 170 (.pointer (some ⟨p, 0, none⟩)) "almanac/slots.workOut").run Tryz.prog w = .ok (some false) w := by kernel_rfl

theorem methR_common (p : Nat) (w : World) : (method 453 176 (.pointer (some ⟨p, 0, none⟩)) "almanac/slots.common").run Tryz.prog w = .ok (265, .pointer (some ⟨p, 0, none⟩)) w := by kernel_rfl
theorem nilR_common (p : Nat) (w : World) : (nilAhead 453 176 (.pointer (some ⟨p, 0, none⟩)) "almanac/slots.common").run Tryz.prog w = .ok (some false) w := by kernel_rfl
theorem methR_enter (p : Nat) (w : World) : (method 453 176 (.pointer (some ⟨p, 0, none⟩)) "almanac/slots.enter").run Tryz.prog w = .ok (267, .pointer (some ⟨p, 0, none⟩)) w := by kernel_rfl
theorem nilR_enter (p : Nat) (w : World) : (nilAhead 453 176 (.pointer (some ⟨p, 0, none⟩)) "almanac/slots.enter").run Tryz.prog w = .ok (some false) w := by kernel_rfl
theorem methR_leave (p : Nat) (w : World) : (method 453 176 (.pointer (some ⟨p, 0, none⟩)) "almanac/slots.leave").run Tryz.prog w = .ok (270, .pointer (some ⟨p, 0, none⟩)) w := by kernel_rfl
theorem nilR_leave (p : Nat) (w : World) : (nilAhead 453 176 (.pointer (some ⟨p, 0, none⟩)) "almanac/slots.leave").run Tryz.prog w = .ok (some false) w := by kernel_rfl
theorem methR_isLooped (p : Nat) (w : World) : (method 453 176 (.pointer (some ⟨p, 0, none⟩)) "almanac/slots.isLooped").run Tryz.prog w = .ok (269, .pointer (some ⟨p, 0, none⟩)) w := by kernel_rfl
theorem nilR_isLooped (p : Nat) (w : World) : (nilAhead 453 176 (.pointer (some ⟨p, 0, none⟩)) "almanac/slots.isLooped").run Tryz.prog w = .ok (some false) w := by kernel_rfl
theorem methR_isDropped (p : Nat) (w : World) : (method 453 176 (.pointer (some ⟨p, 0, none⟩)) "almanac/slots.isDropped").run Tryz.prog w = .ok (268, .pointer (some ⟨p, 0, none⟩)) w := by kernel_rfl
theorem nilR_isDropped (p : Nat) (w : World) : (nilAhead 453 176 (.pointer (some ⟨p, 0, none⟩)) "almanac/slots.isDropped").run Tryz.prog w = .ok (some false) w := by kernel_rfl
theorem methR_verify (p : Nat) (w : World) : (method 453 176 (.pointer (some ⟨p, 0, none⟩)) "almanac/slots.verify").run Tryz.prog w = .ok (272, .pointer (some ⟨p, 0, none⟩)) w := by kernel_rfl
theorem nilR_verify (p : Nat) (w : World) : (nilAhead 453 176 (.pointer (some ⟨p, 0, none⟩)) "almanac/slots.verify").run Tryz.prog w = .ok (some false) w := by kernel_rfl
theorem methR_workOut (p : Nat) (w : World) : (method 453 176 (.pointer (some ⟨p, 0, none⟩)) "almanac/slots.workOut").run Tryz.prog w = .ok (284, .pointer (some ⟨p, 0, none⟩)) w := by kernel_rfl
theorem nilR_workOut (p : Nat) (w : World) : (nilAhead 453 176 (.pointer (some ⟨p, 0, none⟩)) "almanac/slots.workOut").run Tryz.prog w = .ok (some false) w := by kernel_rfl

theorem methX_common (p : Nat) (w : World) : (method 453 181 (.pointer (some ⟨p, 0, none⟩)) "almanac/slots.common").run Tryz.prog w = .ok (265, .pointer (some ⟨p, 0, none⟩)) w := by kernel_rfl
theorem nilX_common (p : Nat) (w : World) : (nilAhead 453 181 (.pointer (some ⟨p, 0, none⟩)) "almanac/slots.common").run Tryz.prog w = .ok (some false) w := by kernel_rfl
theorem methX_enter (p : Nat) (w : World) : (method 453 181 (.pointer (some ⟨p, 0, none⟩)) "almanac/slots.enter").run Tryz.prog w = .ok (267, .pointer (some ⟨p, 0, none⟩)) w := by kernel_rfl
theorem nilX_enter (p : Nat) (w : World) : (nilAhead 453 181 (.pointer (some ⟨p, 0, none⟩)) "almanac/slots.enter").run Tryz.prog w = .ok (some false) w := by kernel_rfl
theorem methX_leave (p : Nat) (w : World) : (method 453 181 (.pointer (some ⟨p, 0, none⟩)) "almanac/slots.leave").run Tryz.prog w = .ok (270, .pointer (some ⟨p, 0, none⟩)) w := by kernel_rfl
theorem nilX_leave (p : Nat) (w : World) : (nilAhead 453 181 (.pointer (some ⟨p, 0, none⟩)) "almanac/slots.leave").run Tryz.prog w = .ok (some false) w := by kernel_rfl
theorem methX_isLooped (p : Nat) (w : World) : (method 453 181 (.pointer (some ⟨p, 0, none⟩)) "almanac/slots.isLooped").run Tryz.prog w = .ok (269, .pointer (some ⟨p, 0, none⟩)) w := by kernel_rfl
theorem nilX_isLooped (p : Nat) (w : World) : (nilAhead 453 181 (.pointer (some ⟨p, 0, none⟩)) "almanac/slots.isLooped").run Tryz.prog w = .ok (some false) w := by kernel_rfl
theorem methX_isDropped (p : Nat) (w : World) : (method 453 181 (.pointer (some ⟨p, 0, none⟩)) "almanac/slots.isDropped").run Tryz.prog w = .ok (268, .pointer (some ⟨p, 0, none⟩)) w := by kernel_rfl
theorem nilX_isDropped (p : Nat) (w : World) : (nilAhead 453 181 (.pointer (some ⟨p, 0, none⟩)) "almanac/slots.isDropped").run Tryz.prog w = .ok (some false) w := by kernel_rfl
theorem methX_verify (p : Nat) (w : World) : (method 453 181 (.pointer (some ⟨p, 0, none⟩)) "almanac/slots.verify").run Tryz.prog w = .ok (272, .pointer (some ⟨p, 0, none⟩)) w := by kernel_rfl
theorem nilX_verify (p : Nat) (w : World) : (nilAhead 453 181 (.pointer (some ⟨p, 0, none⟩)) "almanac/slots.verify").run Tryz.prog w = .ok (some false) w := by kernel_rfl
theorem methX_workOut (p : Nat) (w : World) : (method 453 181 (.pointer (some ⟨p, 0, none⟩)) "almanac/slots.workOut").run Tryz.prog w = .ok (289, .pointer (some ⟨p, 0, none⟩)) w := by kernel_rfl
theorem nilX_workOut (p : Nat) (w : World) : (nilAhead 453 181 (.pointer (some ⟨p, 0, none⟩)) "almanac/slots.workOut").run Tryz.prog w = .ok (some false) w := by kernel_rfl

set_option maxHeartbeats 400000 in
theorem common_any (p : Nat) (w : World) : Calls Tryz.prog 265 #[.pointer (some ⟨p, 0, none⟩)] w fun e w' => e = .returned (.pointer (some ⟨p, 0, none⟩)) ∧ w' = w := by
  go_enter Tryz.func265, Tryz.ntmps265
  go_wp2
  go_ret
  exact ⟨rfl, rfl⟩

set_option maxHeartbeats 400000 in
theorem dropped_any (p : Nat) (pl : Int) (w : World) (h : w.cell? ⟨p, 10, none⟩ = some (.int .i64 pl)) : Calls Tryz.prog 268 #[.pointer (some ⟨p, 0, none⟩)] w fun e w' => e = .returned (.bool (pl == -1)) ∧ w' = w := by
  go_enter Tryz.func268, Tryz.ntmps268
  go_wp2
  go_ret
  exact ⟨rfl, rfl⟩

set_option maxHeartbeats 400000 in
theorem looped_any (p : Nat) (b : Bool) (w : World) (h : w.cell? ⟨p, 5, none⟩ = some (.bool b)) : Calls Tryz.prog 269 #[.pointer (some ⟨p, 0, none⟩)] w fun e w' => e = .returned (.bool b) ∧ w' = w := by
  go_enter Tryz.func269, Tryz.ntmps269
  go_wp2
  go_ret
  exact ⟨rfl, rfl⟩

set_option maxHeartbeats 400000 in
theorem enter_any (p : Nat) (w : World) (h : w.cell? ⟨p, 4, none⟩ = some (.bool false)) (hf : w.frozen? ⟨p, 4, none⟩ = false) : Calls Tryz.prog 267 #[.pointer (some ⟨p, 0, none⟩)] w fun e w' => e = .returned (.tuple #[]) ∧ w' = w.setCell ⟨p, 4, none⟩ (.bool true) := by
  go_enter Tryz.func267, Tryz.ntmps267
  go_wp2
  go_end0
  exact ⟨rfl, rfl⟩

set_option maxHeartbeats 400000 in
theorem verify_done (p bs : Nat) (rv : Int) (w : World) (h0 : w.cell? ⟨p, 0, none⟩ = some (.pointer (some ⟨bs, 1, none⟩))) (h7 : w.cell? ⟨p, 7, none⟩ = some (.int .i64 rv)) (hr : w.cell? ⟨bs, 1, none⟩ = some (.int .i64 rv)) : Calls Tryz.prog 272 #[.pointer (some ⟨p, 0, none⟩)] w fun e w' => e = .returned (.bool true) ∧ w' = w := by
  go_enter Tryz.func272, Tryz.ntmps272
  go_wp2
  go_ret
  exact ⟨rfl, rfl⟩

set_option maxHeartbeats 400000 in
theorem verify_new (p bs : Nat) (rv : Int) (hr0 : 0 ≤ rv) (w : World) (h0 : w.cell? ⟨p, 0, none⟩ = some (.pointer (some ⟨bs, 1, none⟩))) (h7 : w.cell? ⟨p, 7, none⟩ = some (.int .i64 (-1))) (hr : w.cell? ⟨bs, 1, none⟩ = some (.int .i64 rv)) : Calls Tryz.prog 272 #[.pointer (some ⟨p, 0, none⟩)] w fun e w' => e = .returned (.bool false) ∧ w' = w := by
  have hne : ((-1 : Int) == rv) = false := by rw [beq_eq_false_iff_ne]; omega
  go_enter Tryz.func272, Tryz.ntmps272
  go_wp2
  go_ret
  exact ⟨rfl, rfl⟩

set_option maxHeartbeats 400000 in
theorem leave_deferred (p : Nat) (u : FrameMode) (w : World) (b4 b5 : Bool) (h4 : w.cell? ⟨p, 4, none⟩ = some (.bool b4)) (h5 : w.cell? ⟨p, 5, none⟩ = some (.bool b5)) (f4 : w.frozen? ⟨p, 4, none⟩ = false) (f5 : w.frozen? ⟨p, 5, none⟩ = false) :
    CallsD Tryz.prog 270 #[.pointer (some ⟨p, 0, none⟩)] u w fun e u' w' => u' = u ∧ (e = .returned (.tuple #[]) ∧ w' = (w.setCell ⟨p, 4, none⟩ (.bool false)).setCell ⟨p, 5, none⟩ (.bool false)) := by
  go_enter_d Tryz.func270, Tryz.ntmps270
  go_wp2
  go_end0
  exact ⟨rfl, rfl⟩

/-- The methods of a slot's type T; its work is function F. -/
structure MT (T : TypeId) (F : FuncId) : Prop where
  common : ∀ (p : Nat) (w : World), (method 453 T (.pointer (some ⟨p, 0, none⟩)) "almanac/slots.common").run Tryz.prog w = .ok (265, .pointer (some ⟨p, 0, none⟩)) w
  ncommon : ∀ (p : Nat) (w : World), (nilAhead 453 T (.pointer (some ⟨p, 0, none⟩)) "almanac/slots.common").run Tryz.prog w = .ok (some false) w
  enter : ∀ (p : Nat) (w : World), (method 453 T (.pointer (some ⟨p, 0, none⟩)) "almanac/slots.enter").run Tryz.prog w = .ok (267, .pointer (some ⟨p, 0, none⟩)) w
  nenter : ∀ (p : Nat) (w : World), (nilAhead 453 T (.pointer (some ⟨p, 0, none⟩)) "almanac/slots.enter").run Tryz.prog w = .ok (some false) w
  leave : ∀ (p : Nat) (w : World), (method 453 T (.pointer (some ⟨p, 0, none⟩)) "almanac/slots.leave").run Tryz.prog w = .ok (270, .pointer (some ⟨p, 0, none⟩)) w
  nleave : ∀ (p : Nat) (w : World), (nilAhead 453 T (.pointer (some ⟨p, 0, none⟩)) "almanac/slots.leave").run Tryz.prog w = .ok (some false) w
  isLooped : ∀ (p : Nat) (w : World), (method 453 T (.pointer (some ⟨p, 0, none⟩)) "almanac/slots.isLooped").run Tryz.prog w = .ok (269, .pointer (some ⟨p, 0, none⟩)) w
  nisLooped : ∀ (p : Nat) (w : World), (nilAhead 453 T (.pointer (some ⟨p, 0, none⟩)) "almanac/slots.isLooped").run Tryz.prog w = .ok (some false) w
  isDropped : ∀ (p : Nat) (w : World), (method 453 T (.pointer (some ⟨p, 0, none⟩)) "almanac/slots.isDropped").run Tryz.prog w = .ok (268, .pointer (some ⟨p, 0, none⟩)) w
  nisDropped : ∀ (p : Nat) (w : World), (nilAhead 453 T (.pointer (some ⟨p, 0, none⟩)) "almanac/slots.isDropped").run Tryz.prog w = .ok (some false) w
  verify : ∀ (p : Nat) (w : World), (method 453 T (.pointer (some ⟨p, 0, none⟩)) "almanac/slots.verify").run Tryz.prog w = .ok (272, .pointer (some ⟨p, 0, none⟩)) w
  nverify : ∀ (p : Nat) (w : World), (nilAhead 453 T (.pointer (some ⟨p, 0, none⟩)) "almanac/slots.verify").run Tryz.prog w = .ok (some false) w
  workOut : ∀ (p : Nat) (w : World), (method 453 T (.pointer (some ⟨p, 0, none⟩)) "almanac/slots.workOut").run Tryz.prog w = .ok (F, .pointer (some ⟨p, 0, none⟩)) w
  nworkOut : ∀ (p : Nat) (w : World), (nilAhead 453 T (.pointer (some ⟨p, 0, none⟩)) "almanac/slots.workOut").run Tryz.prog w = .ok (some false) w
  ent : ∀ (args : Array Value) (w : World), (callFunc F args).run Tryz.prog w = .ok (.enter F args) w
  isSlot : ∀ (v : Value) (xT : TypeId) (w : World), (Instr.typeAssert (.iface T v) xT 92 false).run Tryz.prog w = .ok (.iface T v) w

theorem mtS : MT 157 273 :=
  ⟨methS_common, nilS_common, methS_enter, nilS_enter, methS_leave, nilS_leave, methS_isLooped, nilS_isLooped, methS_isDropped, nilS_isDropped, methS_verify, nilS_verify, methS_workOut, nilS_workOut, fun args w => by kernel_rfl, fun v xT w => by kernel_rfl⟩
theorem mtT : MT 170 279 :=
  ⟨methT_common, nilT_common, methT_enter, nilT_enter, methT_leave, nilT_leave, methT_isLooped, nilT_isLooped, methT_isDropped, nilT_isDropped, methT_verify, nilT_verify, methT_workOut, nilT_workOut, fun args w => by kernel_rfl, fun v xT w => by kernel_rfl⟩
theorem mtR : MT 176 284 :=
  ⟨methR_common, nilR_common, methR_enter, nilR_enter, methR_leave, nilR_leave, methR_isLooped, nilR_isLooped, methR_isDropped, nilR_isDropped, methR_verify, nilR_verify, methR_workOut, nilR_workOut, fun args w => by kernel_rfl, fun v xT w => by kernel_rfl⟩
theorem mtX : MT 181 289 :=
  ⟨methX_common, nilX_common, methX_enter, nilX_enter, methX_leave, nilX_leave, methX_isLooped, nilX_isLooped, methX_isDropped, nilX_isDropped, methX_verify, nilX_verify, methX_workOut, nilX_workOut, fun args w => by kernel_rfl, fun v xT w => by kernel_rfl⟩

end Go.Proofs.YtfekglokoafpiaaGreatDoor

namespace Go.Proofs.YtfekglokoafpiaaGreatDoor
open Go.RowKit

theorem below_newE (w : World) (o : Obj) : Below w.heap.size w (w.alloc o) := (Below.refl _ _).alloc (Nat.le_refl _) _

/-- What stands of a slot's block ahead of settle. -/
structure Sl (w : World) (p bs : Nat) (vf : Int) : Prop where
  c0 : w.cell? ⟨p, 0, none⟩ = some (.pointer (some ⟨bs, 1, none⟩))
  c4 : w.cell? ⟨p, 4, none⟩ = some (.bool false)
  c5 : w.cell? ⟨p, 5, none⟩ = some (.bool false)
  c7 : w.cell? ⟨p, 7, none⟩ = some (.int .i64 vf)
  f : ∀ i, w.frozen? ⟨p, i, none⟩ = false

set_option maxRecDepth 100000 in
set_option maxHeartbeats 400000 in
theorem closure_deferred (T : TypeId) (F : FuncId) (hM : MT T F) (p sb : Nat) (u : FrameMode) (w : World) (hs : w.cell? ⟨sb, 0, none⟩ = some (.iface T (.pointer (some ⟨p, 0, none⟩)))) (h5 : w.cell? ⟨p, 5, none⟩ = some (.bool false)) :
    CallsD Tryz.prog 114 #[.pointer (some ⟨sb, 0, none⟩)] u w fun e u' w' => u' = u ∧ (e = .returned (.tuple #[]) ∧ w' = w) := by
  have m1 := hM.isLooped
  have m2 := hM.nisLooped
  go_enter_d Tryz.func114, Tryz.ntmps114
  go_wp2_with fail
  refine (looped_any p false _ h5).mono ?_
  rintro e w1 ⟨rfl, rfl⟩
  go_wp2
  go_end0
  exact ⟨rfl, rfl⟩

set_option maxRecDepth 100000 in
set_option maxHeartbeats 1000000 in
theorem settle_new (T : TypeId) (F : FuncId) (hM : MT T F) (p bs : Nat) (rv : Int) (hr0 : 0 ≤ rv) (w : World) (hs : Sl w p bs (-1)) (hr : w.cell? ⟨bs, 1, none⟩ = some (.int .i64 rv)) (hne : bs ≠ p) (hp : p < w.heap.size) (hb : bs < w.heap.size) (Q : World → Prop)
    (hQ : ∀ w', Q w' → w'.cell? ⟨p, 4, none⟩ = some (.bool true) ∧ w'.cell? ⟨p, 5, none⟩ = some (.bool false) ∧ w'.frozen? ⟨p, 4, none⟩ = false ∧ w'.frozen? ⟨p, 5, none⟩ = false ∧ w'.cell? ⟨w.heap.size, 0, none⟩ = some (.iface T (.pointer (some ⟨p, 0, none⟩))))
    (HW : Calls Tryz.prog F #[.pointer (some ⟨p, 0, none⟩)] ((w.setCell ⟨p, 4, none⟩ (.bool true)).alloc (.cells #[.iface T (.pointer (some ⟨p, 0, none⟩))] 92)) fun e w' => e = .returned (.tuple #[]) ∧ Q w') :
    Calls Tryz.prog 85 #[.iface T (.pointer (some ⟨p, 0, none⟩)), .bool true] w fun e w' => e = .returned (.tuple #[]) ∧ ∃ w1, Q w1 ∧ w' = (w1.setCell ⟨p, 4, none⟩ (.bool false)).setCell ⟨p, 5, none⟩ (.bool false) := by
  obtain ⟨c0, c4, c5, c7, hf⟩ := hs
  have f4 := hf 4
  have m1 := hM.enter
  have m2 := hM.nenter
  have hmf : ∀ (fn : Fn) (first cap : Array Value) (w : World), (Instr.makeFunc fn first cap).run Tryz.prog w = .ok (.func fn first cap) w := fun _ _ _ _ => rfl
  go_enter_defers Tryz.func85, Tryz.ntmps85
  go_wp2_with fail
  have hN := new_heap w (.cells #[.iface T (.pointer (some ⟨p, 0, none⟩))] 92)
  have hbl := below_newE w (.cells #[.iface T (.pointer (some ⟨p, 0, none⟩))] 92)
  have e4 : (w.alloc (.cells #[.iface T (.pointer (some ⟨p, 0, none⟩))] 92)).cell? ⟨p, 4, none⟩ = some (.bool false) := (World.cell?_of_block (w := w) (hbl.block p hp)).trans c4
  have ef4 : (w.alloc (.cells #[.iface T (.pointer (some ⟨p, 0, none⟩))] 92)).frozen? ⟨p, 4, none⟩ = false := (World.frozen?_of_block (w := w) (hbl.block p hp)).trans f4
  refine (enter_any p _ e4 ef4).mono ?_
  rintro e w1 ⟨rfl, rfl⟩
  have m3 := hM.verify
  have m4 := hM.nverify
  have m5 := hM.workOut
  have m6 := hM.nworkOut
  have m7 := hM.ent
  have hz : (w.setCell ⟨p, 4, none⟩ (.bool true)).heap.size = w.heap.size := by simp
  have d0 : ((w.setCell ⟨p, 4, none⟩ (.bool true)).alloc (.cells #[.iface T (.pointer (some ⟨p, 0, none⟩))] 92)).cell? ⟨p, 0, none⟩ = some (.pointer (some ⟨bs, 1, none⟩)) := (World.cell?_alloc_past _ _ _ (by simpa using hp)).trans ((World.cell?_setCell_other _ _ _ _ (by simp)).trans c0)
  have d7 : ((w.setCell ⟨p, 4, none⟩ (.bool true)).alloc (.cells #[.iface T (.pointer (some ⟨p, 0, none⟩))] 92)).cell? ⟨p, 7, none⟩ = some (.int .i64 (-1)) := (World.cell?_alloc_past _ _ _ (by simpa using hp)).trans ((World.cell?_setCell_other _ _ _ _ (by simp)).trans c7)
  have dr : ((w.setCell ⟨p, 4, none⟩ (.bool true)).alloc (.cells #[.iface T (.pointer (some ⟨p, 0, none⟩))] 92)).cell? ⟨bs, 1, none⟩ = some (.int .i64 rv) := (World.cell?_alloc_past _ _ _ (by simpa using hb)).trans ((World.cell?_setCell_other _ _ _ _ (by simp [hne.symm])).trans hr)
  clear c0 c4 c5 c7 hf f4 e4 ef4 hN hbl m1 m2 hz hr
  go_wp2_with fail
  refine (verify_new p bs rv hr0 _ d0 d7 dr).mono ?_
  rintro e w3 ⟨rfl, rfl⟩
  clear d0 d7 dr
  go_wp2_with fail
  refine HW.mono ?_
  rintro e w4 ⟨rfl, hq⟩
  have HQ4 := hid hq
  obtain ⟨q4, q5, g4, g5, qs⟩ := hQ _ hq
  clear hq
  go_wp2_with fail
  have m8 := hM.leave
  have m9 := hM.nleave
  refine leaves_cons (f := 114) (args := #[.pointer (some ⟨w.heap.size, 0, none⟩)]) (by simp) (by simp [go_sem]) ?_
  refine (closure_deferred T F hM p w.heap.size _ w4 qs q5).mono ?_
  rintro e u' w5 ⟨rfl, rfl, rfl⟩
  refine leaves_cons (f := 270) (args := #[.pointer (some ⟨p, 0, none⟩)]) (by simp [settle]) (by simp [go_sem, m8, m9]) ?_
  refine (leave_deferred p _ _ true false q4 q5 g4 g5).mono ?_
  rintro e u' w6 ⟨rfl, rfl, rfl⟩
  refine ⟨_, results_none rfl _ _ _, rfl, _, HQ4.out, rfl⟩

set_option maxRecDepth 100000 in
set_option maxHeartbeats 1000000 in
theorem settle_old (T : TypeId) (F : FuncId) (hM : MT T F) (p bs : Nat) (rv : Int) (pl : Int) (hpl : (pl == -1) = false) (w : World) (hs : Sl w p bs rv) (h10 : w.cell? ⟨p, 10, none⟩ = some (.int .i64 pl)) (hr : w.cell? ⟨bs, 1, none⟩ = some (.int .i64 rv)) (hne : bs ≠ p) (hp : p < w.heap.size) (hb : bs < w.heap.size) (Q : World → Prop)
    (hQ : ∀ w', Q w' → w'.cell? ⟨p, 4, none⟩ = some (.bool true) ∧ w'.cell? ⟨p, 5, none⟩ = some (.bool false) ∧ w'.frozen? ⟨p, 4, none⟩ = false ∧ w'.frozen? ⟨p, 5, none⟩ = false ∧ w'.cell? ⟨w.heap.size, 0, none⟩ = some (.iface T (.pointer (some ⟨p, 0, none⟩))))
    (HW : Calls Tryz.prog 115 #[.iface T (.pointer (some ⟨p, 0, none⟩))] ((w.setCell ⟨p, 4, none⟩ (.bool true)).alloc (.cells #[.iface T (.pointer (some ⟨p, 0, none⟩))] 92)) fun e w' => e = .returned (.tuple #[]) ∧ Q w') :
    Calls Tryz.prog 85 #[.iface T (.pointer (some ⟨p, 0, none⟩)), .bool true] w fun e w' => e = .returned (.tuple #[]) ∧ ∃ w1, Q w1 ∧ w' = (w1.setCell ⟨p, 4, none⟩ (.bool false)).setCell ⟨p, 5, none⟩ (.bool false) := by
  obtain ⟨c0, c4, c5, c7, hf⟩ := hs
  have f4 := hf 4
  have m1 := hM.enter
  have m2 := hM.nenter
  have hmf : ∀ (fn : Fn) (first cap : Array Value) (w : World), (Instr.makeFunc fn first cap).run Tryz.prog w = .ok (.func fn first cap) w := fun _ _ _ _ => rfl
  go_enter_defers Tryz.func85, Tryz.ntmps85
  go_wp2_with fail
  have hN := new_heap w (.cells #[.iface T (.pointer (some ⟨p, 0, none⟩))] 92)
  have hbl := below_newE w (.cells #[.iface T (.pointer (some ⟨p, 0, none⟩))] 92)
  have e4 : (w.alloc (.cells #[.iface T (.pointer (some ⟨p, 0, none⟩))] 92)).cell? ⟨p, 4, none⟩ = some (.bool false) := (World.cell?_of_block (w := w) (hbl.block p hp)).trans c4
  have ef4 : (w.alloc (.cells #[.iface T (.pointer (some ⟨p, 0, none⟩))] 92)).frozen? ⟨p, 4, none⟩ = false := (World.frozen?_of_block (w := w) (hbl.block p hp)).trans f4
  refine (enter_any p _ e4 ef4).mono ?_
  rintro e w1 ⟨rfl, rfl⟩
  have m3 := hM.verify
  have m4 := hM.nverify
  have m5 := hM.isDropped
  have m6 := hM.nisDropped
  have hz : (w.setCell ⟨p, 4, none⟩ (.bool true)).heap.size = w.heap.size := by simp
  have d0 : ((w.setCell ⟨p, 4, none⟩ (.bool true)).alloc (.cells #[.iface T (.pointer (some ⟨p, 0, none⟩))] 92)).cell? ⟨p, 0, none⟩ = some (.pointer (some ⟨bs, 1, none⟩)) := (World.cell?_alloc_past _ _ _ (by simpa using hp)).trans ((World.cell?_setCell_other _ _ _ _ (by simp)).trans c0)
  have d7 : ((w.setCell ⟨p, 4, none⟩ (.bool true)).alloc (.cells #[.iface T (.pointer (some ⟨p, 0, none⟩))] 92)).cell? ⟨p, 7, none⟩ = some (.int .i64 rv) := (World.cell?_alloc_past _ _ _ (by simpa using hp)).trans ((World.cell?_setCell_other _ _ _ _ (by simp)).trans c7)
  have d10 : ((w.setCell ⟨p, 4, none⟩ (.bool true)).alloc (.cells #[.iface T (.pointer (some ⟨p, 0, none⟩))] 92)).cell? ⟨p, 10, none⟩ = some (.int .i64 pl) := (World.cell?_alloc_past _ _ _ (by simpa using hp)).trans ((World.cell?_setCell_other _ _ _ _ (by simp)).trans h10)
  have dr : ((w.setCell ⟨p, 4, none⟩ (.bool true)).alloc (.cells #[.iface T (.pointer (some ⟨p, 0, none⟩))] 92)).cell? ⟨bs, 1, none⟩ = some (.int .i64 rv) := (World.cell?_alloc_past _ _ _ (by simpa using hb)).trans ((World.cell?_setCell_other _ _ _ _ (by simp [hne.symm])).trans hr)
  clear c0 c4 c5 c7 hf f4 h10 e4 ef4 hN hbl m1 m2 hz hr
  go_wp2_with fail
  refine (verify_done p bs rv _ d0 d7 dr).mono ?_
  rintro e w3 ⟨rfl, rfl⟩
  clear d0 d7 dr
  go_wp2_with fail
  refine (dropped_any p pl _ d10).mono ?_
  rintro e w3 ⟨rfl, rfl⟩
  rw [hpl]
  clear d10
  go_wp2_with fail
  refine HW.mono ?_
  rintro e w4 ⟨rfl, hq⟩
  have HQ4 := hid hq
  obtain ⟨q4, q5, g4, g5, qs⟩ := hQ _ hq
  clear hq
  go_wp2_with fail
  have m8 := hM.leave
  have m9 := hM.nleave
  refine leaves_cons (f := 114) (args := #[.pointer (some ⟨w.heap.size, 0, none⟩)]) (by simp) (by simp [go_sem]) ?_
  refine (closure_deferred T F hM p w.heap.size _ w4 qs q5).mono ?_
  rintro e u' w5 ⟨rfl, rfl, rfl⟩
  refine leaves_cons (f := 270) (args := #[.pointer (some ⟨p, 0, none⟩)]) (by simp [settle]) (by simp [go_sem, m8, m9]) ?_
  refine (leave_deferred p _ _ true false q4 q5 g4 g5).mono ?_
  rintro e u' w6 ⟨rfl, rfl, rfl⟩
  refine ⟨_, results_none rfl _ _ _, rfl, _, HQ4.out, rfl⟩

end Go.Proofs.YtfekglokoafpiaaGreatDoor

namespace Go.Proofs.YtfekglokoafpiaaGreatDoor
open Go.RowKit

/-- One of the four types of slots. -/
def IsT (T : TypeId) : Prop := ∃ F, MT T F

theorem lenNil (bs : Nat) (w : World) : (nilAhead 453 94 (.pointer (some ⟨bs, 5, none⟩)) "Len").run Tryz.prog w = .ok (some false) w := by kernel_rfl
theorem lessNil (bs : Nat) (w : World) : (nilAhead 453 94 (.pointer (some ⟨bs, 5, none⟩)) "Less").run Tryz.prog w = .ok (some false) w := by kernel_rfl
theorem pushNil (bs : Nat) (w : World) : (nilAhead 453 94 (.pointer (some ⟨bs, 5, none⟩)) "Push").run Tryz.prog w = .ok (some false) w := by kernel_rfl
theorem pushMeth (bs : Nat) (w : World) : (method 453 94 (.pointer (some ⟨bs, 5, none⟩)) "Push").run Tryz.prog w = .ok (260, .pointer (some ⟨bs, 5, none⟩)) w := by kernel_rfl

theorem underUse : Tryz.prog.underlying 94 = some (.pointer 46) := by kernel_rfl

theorem infoLen : (Tryz.prog.info? 94).bind (fun i => (i.methods.find? (·.name == "Len")).map (fun m => (m.path, m.func))) = some (#[], some (256, false)) := by kernel_rfl

set_option maxRecDepth 100000 in
theorem lenMeth (bs : Nat) (v : Value) (w : World) (h : w.cell? ⟨bs, 5, none⟩ = some v) : (method 453 94 (.pointer (some ⟨bs, 5, none⟩)) "Len").run Tryz.prog w = .ok (256, v) w := by
  obtain ⟨i, hi, hm⟩ := Option.bind_eq_some_iff.1 infoLen
  obtain ⟨m, hm1, hm2⟩ := Option.map_eq_some_iff.1 hm
  simp only [Prod.mk.injEq] at hm2
  obtain ⟨p1, p2⟩ := hm2
  obtain ⟨d, hd⟩ : ∃ d, (453 : Nat) = d + 1 := ⟨453 - 1, rfl⟩
  rw [hd]
  have hw : ∀ (s t : ByteArray) (w : World), (Builtin.ssaWrapNilChk_ #[94] 94 #[.pointer (some ⟨bs, 5, none⟩), .string s, .string t]).run Tryz.prog w = .ok (.pointer (some ⟨bs, 5, none⟩)) w := fun s t w => by kernel_rfl
  simp [method, go_sem, strVal, hw, typeInfo, hi, hm1, p1, p2, follow, receiverAt, Place.get, run_underlying underUse, h, Result.andThen]

theorem infoLess : (Tryz.prog.info? 94).bind (fun i => (i.methods.find? (·.name == "Less")).map (fun m => (m.path, m.func))) = some (#[], some (257, false)) := by kernel_rfl

set_option maxRecDepth 100000 in
theorem lessMeth (bs : Nat) (v : Value) (w : World) (h : w.cell? ⟨bs, 5, none⟩ = some v) : (method 453 94 (.pointer (some ⟨bs, 5, none⟩)) "Less").run Tryz.prog w = .ok (257, v) w := by
  obtain ⟨i, hi, hm⟩ := Option.bind_eq_some_iff.1 infoLess
  obtain ⟨m, hm1, hm2⟩ := Option.map_eq_some_iff.1 hm
  simp only [Prod.mk.injEq] at hm2
  obtain ⟨p1, p2⟩ := hm2
  obtain ⟨d, hd⟩ : ∃ d, (453 : Nat) = d + 1 := ⟨453 - 1, rfl⟩
  rw [hd]
  have hw : ∀ (s t : ByteArray) (w : World), (Builtin.ssaWrapNilChk_ #[94] 94 #[.pointer (some ⟨bs, 5, none⟩), .string s, .string t]).run Tryz.prog w = .ok (.pointer (some ⟨bs, 5, none⟩)) w := fun s t w => by kernel_rfl
  simp [method, go_sem, strVal, hw, typeInfo, hi, hm1, p1, p2, follow, receiverAt, Place.get, run_underlying underUse, h, Result.andThen]

/-- The kept values: at place i the slot of the type and block l[i], used at u[i]. -/
structure KR (w : World) (bs kb m c : Nat) (l : List (TypeId × Nat)) (us : List Int) : Prop where
  v : w.cell? ⟨bs, 5, none⟩ = some (.slice (some ⟨kb, 0, none⟩) m c)
  len : l.length = m
  ulen : us.length = m
  cell : ∀ (i : Nat) T p, l[i]? = some (T, p) → w.cell? ⟨kb, i, none⟩ = some (.iface T (.pointer (some ⟨p, 0, none⟩)))
  ty : ∀ (i : Nat) T p, l[i]? = some (T, p) → IsT T
  used : ∀ (i : Nat) T p u, l[i]? = some (T, p) → us[i]? = some u → w.cell? ⟨p, 11, none⟩ = some (.int .u64 u)

set_option maxRecDepth 100000 in
set_option maxHeartbeats 1000000 in
theorem less_any {w : World} {bs kb m c : Nat} {l : List (TypeId × Nat)} {us : List Int} (h : KR w bs kb m c l us) (i j : Nat) (hi : i < m) (hj : j < m) (hm : m ≤ 4) (Ti Tj : TypeId) (pi pj : Nat) (ui uj : Int) (h1 : l[i]? = some (Ti, pi)) (h2 : l[j]? = some (Tj, pj)) (u1 : us[i]? = some ui) (u2 : us[j]? = some uj) :
    Calls Tryz.prog 257 #[.slice (some ⟨kb, 0, none⟩) m c, .int .i64 (i : Nat), .int .i64 (j : Nat)] w fun e w' => e = .returned (.bool (decide (ui < uj))) ∧ Below w.heap.size w w' := by
  obtain ⟨F1, hM1⟩ := h.ty i Ti pi h1
  obtain ⟨F2, hM2⟩ := h.ty j Tj pj h2
  have m1 := hM1.common
  have m2 := hM1.ncommon
  have m3 := hM2.common
  have m4 := hM2.ncommon
  have c1 := h.cell i Ti pi h1
  have c2 := h.cell j Tj pj h2
  have d1 := h.used i Ti pi ui h1 u1
  have d2 := h.used j Tj pj uj h2 u2
  have hi0 : (0 : Int) ≤ (i : Int) := by omega
  have hj0 : (0 : Int) ≤ (j : Int) := by omega
  have him : (i : Int) < (m : Int) := by omega
  have hjm : (j : Int) < (m : Int) := by omega
  clear h h1 h2 u1 u2
  go_enter Tryz.func257, Tryz.ntmps257
  go_wp2
  go_quiet (first
    | (go_at_call_of 265 (Value.pointer (some ⟨pi, 0, none⟩)); refine Calls.quiet_of_same (common_any pi _))
    | (go_at_call_of 265 (Value.pointer (some ⟨pj, 0, none⟩)); refine Calls.quiet_of_same (common_any pj _)))
  go_wp2
  go_ret
  exact ⟨by simp, below_drewN _ _⟩

/-- The type of the heap as container/heap sees it. -/
def heapV (bs : Nat) : Value := .iface 94 (.pointer (some ⟨bs, 5, none⟩))

theorem entLess (args : Array Value) (w : World) : (callFunc 257 args).run Tryz.prog w = .ok (.enter 257 args) w := by kernel_rfl

set_option maxRecDepth 100000 in
set_option maxHeartbeats 1000000 in
theorem up_last {w : World} {bs kb m c : Nat} {l : List (TypeId × Nat)} {us : List Int} (h : KR w bs kb m c l us) (j : Nat) (hj : j + 1 = m) (hm : m ≤ 4) (T : TypeId) (p : Nat) (u : Int) (h1 : l[j]? = some (T, p)) (u1 : us[j]? = some u) (hlast : ∀ i ui, i < j → us[i]? = some ui → ui < u) :
    Calls Tryz.prog 178 #[heapV bs, .int .i64 (j : Nat)] w fun e w' => e = .returned (.tuple #[]) ∧ Below w.heap.size w w' := by
  have hcase : j = 0 ∨ j = 1 ∨ j = 2 ∨ j = 3 := by omega
  unfold heapV
  rcases hcase with rfl | rfl | rfl | rfl
  · go_enter Tryz.func178, Tryz.ntmps178
    go_wp2
    refine wp_loop_rounds 1 ?_
    rw [rounds_succ]
    go_wp2
    go_end0
    exact ⟨rfl, Below.refl _ _⟩
  · have hm2 : m = 2 := by omega
    subst hm2
    have hl0 : 0 < us.length := by have := h.ulen; omega
    have hll : 0 < l.length := by have := h.len; omega
    have hL := less_any h 1 0 (by omega) (by omega) hm T (l[0].1) p (l[0].2) u (us[0]) h1 (List.getElem?_eq_getElem hll) u1 (List.getElem?_eq_getElem hl0)
    have hlt : us[0] < u := hlast 0 _ (by omega) (List.getElem?_eq_getElem hl0)
    rw [show decide (u < us[0]) = false from by simp; omega] at hL
    have HL := hid hL
    have m1 := lessMeth bs _ w h.v
    have m2 := lessNil bs w
    have m3 := entLess
    clear h hL hlast
    go_enter Tryz.func178, Tryz.ntmps178
    go_wp2_with fail
    refine wp_loop_rounds 1 ?_
    rw [rounds_succ]
    go_wp2_with fail
    refine HL.out.mono ?_
    rintro e w1 ⟨rfl, hb⟩
    go_wp2
    go_end0
    exact ⟨rfl, hb⟩
  · have hm2 : m = 3 := by omega
    subst hm2
    have hl0 : 0 < us.length := by have := h.ulen; omega
    have hll : 0 < l.length := by have := h.len; omega
    have hL := less_any h 2 0 (by omega) (by omega) hm T (l[0].1) p (l[0].2) u (us[0]) h1 (List.getElem?_eq_getElem hll) u1 (List.getElem?_eq_getElem hl0)
    have hlt : us[0] < u := hlast 0 _ (by omega) (List.getElem?_eq_getElem hl0)
    rw [show decide (u < us[0]) = false from by simp; omega] at hL
    have HL := hid hL
    have m1 := lessMeth bs _ w h.v
    have m2 := lessNil bs w
    have m3 := entLess
    clear h hL hlast
    go_enter Tryz.func178, Tryz.ntmps178
    go_wp2_with fail
    refine wp_loop_rounds 1 ?_
    rw [rounds_succ]
    go_wp2_with fail
    refine HL.out.mono ?_
    rintro e w1 ⟨rfl, hb⟩
    go_wp2
    go_end0
    exact ⟨rfl, hb⟩
  · have hm2 : m = 4 := by omega
    subst hm2
    have hl0 : 1 < us.length := by have := h.ulen; omega
    have hll : 1 < l.length := by have := h.len; omega
    have hL := less_any h 3 1 (by omega) (by omega) hm T (l[1].1) p (l[1].2) u (us[1]) h1 (List.getElem?_eq_getElem hll) u1 (List.getElem?_eq_getElem hl0)
    have hlt : us[1] < u := hlast 1 _ (by omega) (List.getElem?_eq_getElem hl0)
    rw [show decide (u < us[1]) = false from by simp; omega] at hL
    have HL := hid hL
    have m1 := lessMeth bs _ w h.v
    have m2 := lessNil bs w
    have m3 := entLess
    clear h hL hlast
    go_enter Tryz.func178, Tryz.ntmps178
    go_wp2_with fail
    refine wp_loop_rounds 1 ?_
    rw [rounds_succ]
    go_wp2_with fail
    refine HL.out.mono ?_
    rintro e w1 ⟨rfl, hb⟩
    go_wp2
    go_end0
    exact ⟨rfl, hb⟩

theorem entLen (args : Array Value) (w : World) : (callFunc 256 args).run Tryz.prog w = .ok (.enter 256 args) w := by kernel_rfl

set_option maxHeartbeats 400000 in
theorem len_any (a : Option Addr) (m c : Nat) (w : World) : Calls Tryz.prog 256 #[.slice a m c] w fun e w' => e = .returned (.int .i64 (m : Nat)) ∧ w' = w := by
  go_enter Tryz.func256, Tryz.ntmps256
  go_wp2
  go_ret
  exact ⟨rfl, rfl⟩

set_option maxRecDepth 100000 in
set_option maxHeartbeats 1000000 in
theorem down_last (bs m : Nat) (j : Nat) (hj : j + 1 = m) (hm : m ≤ 4) (w : World) :
    Calls Tryz.prog 79 #[heapV bs, .int .i64 (j : Nat), .int .i64 (m : Nat)] w fun e w' => e = .returned (.bool false) ∧ w' = w := by
  unfold heapV
  have hcase : j = 0 ∨ j = 1 ∨ j = 2 ∨ j = 3 := by omega
  rcases hcase with rfl | rfl | rfl | rfl
  all_goals
    subst hj
    go_enter Tryz.func79, Tryz.ntmps79
    go_wp2
    refine wp_loop_rounds 1 ?_
    rw [rounds_succ]
    go_wp2
    go_ret
    exact ⟨rfl, rfl⟩

set_option maxRecDepth 100000 in
set_option maxHeartbeats 1000000 in
theorem fix_last {w : World} {bs kb m c : Nat} {l : List (TypeId × Nat)} {us : List Int} (h : KR w bs kb m c l us) (j : Nat) (hj : j + 1 = m) (hm : m ≤ 4) (T : TypeId) (p : Nat) (u : Int) (h1 : l[j]? = some (T, p)) (u1 : us[j]? = some u) (hlast : ∀ i ui, i < j → us[i]? = some ui → ui < u) :
    Calls Tryz.prog 152 #[heapV bs, .int .i64 (j : Nat)] w fun e w' => e = .returned (.tuple #[]) ∧ Below w.heap.size w w' := by
  have HU := hid (up_last h j hj hm T p u h1 u1 hlast)
  have HDN := hid (down_last bs m j hj hm w)
  have HLN := hid (len_any (some ⟨kb, 0, none⟩) m c w)
  have m1 := lenMeth bs _ w h.v
  have m2 := lenNil bs w
  have m3 := entLen
  clear h hlast h1 u1
  unfold heapV at *
  go_enter Tryz.func152, Tryz.ntmps152
  go_wp2_with fail
  refine HLN.out.mono ?_
  rintro e w1 ⟨rfl, rfl⟩
  go_wp2_with fail
  refine HDN.out.mono ?_
  rintro e w1 ⟨rfl, rfl⟩
  go_wp2_with fail
  refine HU.out.mono ?_
  rintro e w1 ⟨rfl, hb⟩
  go_wp2
  go_end0
  exact ⟨rfl, hb⟩

end Go.Proofs.YtfekglokoafpiaaGreatDoor

namespace Go.Proofs.YtfekglokoafpiaaGreatDoor
open Go.RowKit

theorem own_far {w w' : World} {B : Nat} {e : TypeId} {size : Nat} {v : Value} {n : Nat} {xs : List Value} (h : w.ownsRow B e size v n xs) (hk : ∀ g, v.ownBlock = some g → w'.heap[g]? = w.heap[g]?) : w'.ownsRow B e size v n xs := by
  obtain ⟨hl, h | ⟨g, cap, cur, hv, hb, hg, h1, h2, h3, h4⟩⟩ := h
  · exact ⟨hl, .inl h⟩
  · exact ⟨hl, .inr ⟨g, cap, cur, hv, hb, (hk g (by rw [hv]; rfl)).trans hg, h1, h2, h3, h4⟩⟩

theorem infoSlotE : (Tryz.prog.info? 92).map (fun i => (i.zero, i.size, i.bytes)) = some (some .nilIface, 1, 16) := by kernel_rfl

/-- What Push does: the place of the slot at p is m; the row of kept slots has one more. -/
structure Pushed (w w' : World) (bs B p m : Nat) (c0 c1 c2 c3 c4 c6 v : Value) (xs : List Value) (x : Value) : Prop where
  sess : ∃ v', w'.heap[bs]? = some (.cells #[c0, c1, c2, c3, c4, v', c6] 51) ∧ w'.ownsRow B 92 1 v' (m + 1) (xs ++ [x]) ∧ (∀ q, v'.ownBlock = some q → v.ownBlock = some q ∨ w.heap.size ≤ q)
  slot : w'.heap[p]? = (w.setCell ⟨p, 10, none⟩ (.int .i64 (m : Nat))).heap[p]?
  size : w.heap.size ≤ w'.heap.size
  far : ∀ q, q < w.heap.size → q ≠ bs → q ≠ p → v.ownBlock ≠ some q → w'.heap[q]? = w.heap[q]?
  env : w'.os = w.os ∧ w'.tape = w.tape ∧ w'.output = w.output

set_option maxRecDepth 100000 in
set_option maxHeartbeats 2000000 in
theorem push_any {w : World} {bs B m : Nat} {c0 c1 c2 c3 c4 c6 : Value} {ao : Option Addr} {cp : Nat} {xs : List Value} (T : TypeId) (F : FuncId) (hM : MT T F) (p : Nat) (pl : Int) (h : w.heap[bs]? = some (.cells #[c0, c1, c2, c3, c4, .slice ao m cp, c6] 51)) (hown : w.ownsRow B 92 1 (.slice ao m cp) m xs) (hm : m ≤ 3) (hB : B ≤ w.heap.size) (hbs : bs < B) (hp : w.cell? ⟨p, 10, none⟩ = some (.int .i64 pl)) (hpf : w.frozen? ⟨p, 10, none⟩ = false) (hne : p ≠ bs) (hpg : (Value.slice ao m cp).ownBlock ≠ some p) (hpl : p < w.heap.size) :
    Calls Tryz.prog 260 #[.pointer (some ⟨bs, 5, none⟩), .iface T (.pointer (some ⟨p, 0, none⟩))] w fun e w' => e = .returned (.tuple #[]) ∧ Pushed w w' bs B p m c0 c1 c2 c3 c4 c6 (.slice ao m cp) xs (.iface T (.pointer (some ⟨p, 0, none⟩))) := by
  have s5 : w.cell? ⟨bs, 5, none⟩ = some (.slice ao m cp) := heap_cell (i := 5) h
  have f5 : w.frozen? ⟨bs, 5, none⟩ = false := heap_frozen h
  have m1 := hM.common
  have m0 := hM.isSlot
  have m2 := hM.ncommon
  obtain ⟨i0, hi0, hz0, hz1, hz2⟩ := info_parts infoSlotE
  -- the world ahead of the append
  have hW : ∀ o, ((w.setCell ⟨p, 10, none⟩ (.int .i64 (m : Nat))).alloc o).drew.ownsRow B 92 1 (.slice ao m cp) m xs := fun o => by
    refine own_far hown fun g hg => ?_
    have hl := (hown.lt g hg).2
    have h1 : g ≠ p := fun e => hpg (by rw [← e]; exact hg)
    exact (Below.heap_alloc _ _ _ (by simpa using hl)).trans (heap_setCell_ne h1 _)
  have hS : ∀ o, ((w.setCell ⟨p, 10, none⟩ (.int .i64 (m : Nat))).alloc o).drew.heap[bs]? = some (.cells #[c0, c1, c2, c3, c4, .slice ao m cp, c6] 51) := fun o =>
    (Below.heap_alloc _ _ _ (by have := heap_lt h; simpa using this)).trans ((heap_setCell_ne hne.symm _).trans h)
  have HW := hid hW
  have HS := hid hS
  have HN := hid hne
  have HG := hid hpg
  have HPL := hid hpl
  have HOWN := hid hown
  have HH := hid h
  clear h hown hpg hW hS
  go_enter Tryz.func260, Tryz.ntmps260
  go_wp2_with fail
  go_region_with (go_at_call 265; go_must (refine (common_any p _).mono ?_; rintro e w1 ⟨rfl, rfl⟩))
  all_goals go_wp2_with (at_builtin; refine wpList_append_own_at _ rfl _ _ 46 rfl B 92 i0 .nilIface 1 16 Tryz.underlying46 hi0 hz0 hz1 hz2 rfl (by decide) (.slice ao m cp) m xs (by rfl) (HW.out _) ⟨w.heap.size, 0, none⟩ 1 1 [.iface T (.pointer (some ⟨p, 0, none⟩))] rfl rfl ?c1 ?c2 ?c3 ?c4 ?c5 ?_)
  all_goals first
    | (intro j u hj
       match j, hj with
       | 0, hj => simp at hj; subst hj; exact World.cell?_alloc_at _ _ _ _ (by simp)
       | (n + 1), hj => simp at hj)
    | (intro u hu; simp at hu; subst hu; rfl)
    | (unfold maxLen; omega)
    | omega
    | (simp; omega)
    | skip
  all_goals
    intro v' w5 hown' hgrow hnil hloc
    have hbl : bs < w.heap.size := heap_lt HH.out
    have h5 := (hgrow.block bs (by simp; omega) (fun e => by have := (HOWN.out.lt bs e.symm).1; omega)).trans (HS.out _)
    have g5 : w5.cell? ⟨bs, 5, none⟩ = some (.slice ao m cp) := heap_cell (i := 5) h5
    have k5 : w5.frozen? ⟨bs, 5, none⟩ = false := heap_frozen h5
    have hsh : ∃ a n c, v' = .slice a n c := by
      obtain ⟨_, ⟨h, _⟩ | ⟨g, c, _, h, _⟩⟩ := hown'
      · exact ⟨none, 0, 0, h⟩
      · exact ⟨_, _, _, h⟩
    obtain ⟨a', n', c', rfl⟩ := hsh
    have hvb : ∀ q, (Value.slice a' n' c').ownBlock = some q → (Value.slice ao m cp).ownBlock = some q ∨ w.heap.size ≤ q := fun q hq => by
      rcases hloc with h1 | h1
      · exact .inl (h1.symm.trans hq)
      · refine .inr ?_
        have h3 := Option.some.inj (h1.symm.trans hq)
        rw [← h3]
        omega
    have HR : Hid (Pushed w (w5.setCell ⟨bs, 5, none⟩ (.slice a' n' c')) bs B p m c0 c1 c2 c3 c4 c6 (.slice ao m cp) xs (.iface T (.pointer (some ⟨p, 0, none⟩)))) := by
      have hz := hgrow.size
      simp at hz
      refine ⟨⟨_, heap_setCell_lit h5 _, own_far hown' (fun g hg => heap_setCell_ne (fun e => ?_) _), hvb⟩, ?_, by simp; omega, fun q hq q1 q2 q3 => ?_, ?_⟩
      · rcases hvb g hg with h1 | h1
        · have := (HOWN.out.lt g h1).1; omega
        · omega
      · refine (heap_setCell_ne HN.out _).trans ((hgrow.block p (by simp; omega) (fun e => HG.out e.symm)).trans ?_)
        exact Below.heap_alloc _ _ _ (by have := HPL.out; simpa using this)
      · refine (heap_setCell_ne q1 _).trans ((hgrow.block q (by simp; omega) (fun e => q3 e.symm)).trans ?_)
        exact (Below.heap_alloc _ _ _ (by simpa using hq)).trans (heap_setCell_ne q2 _)
      · exact ⟨hgrow.os, hgrow.tape, hgrow.output⟩
    clear h5 hown' hgrow hnil hloc hvb
    go_wp2
    go_end0
    exact ⟨rfl, HR.out⟩

end Go.Proofs.YtfekglokoafpiaaGreatDoor

namespace Go.Proofs.YtfekglokoafpiaaGreatDoor
open Go.RowKit

def ifc (d : TypeId × Nat) : Value := .iface d.1 (.pointer (some ⟨d.2, 0, none⟩))

/-- The session's block, and the kept slots: those of the list l, used at ul, which rises. -/
structure ES (w : World) (bs B : Nat) (f q sm : Value) (rv us : Int) (bg kv : Value) (l : List (TypeId × Nat)) (ul : List Int) : Prop where
  s : w.heap[bs]? = some (.cells #[f, .int .i64 rv, q, sm, bg, kv, .int .u64 us] 51)
  lt : bs < B
  own : w.ownsRow B 92 1 kv l.length (l.map ifc)
  ulen : ul.length = l.length
  ty : ∀ (i : Nat) T p, l[i]? = some (T, p) → IsT T
  blk : ∀ (i : Nat) T p, l[i]? = some (T, p) → B ≤ p ∧ kv.ownBlock ≠ some p ∧ p < w.heap.size
  used : ∀ (i : Nat) T p u, l[i]? = some (T, p) → ul[i]? = some u → w.cell? ⟨p, 11, none⟩ = some (.int .u64 u)
  le : ∀ (i : Nat) u, ul[i]? = some u → u ≤ us
  up : ∀ (i j : Nat) ui uj, i < j → ul[i]? = some ui → ul[j]? = some uj → ui < uj

theorem ES.shape {w : World} {bs B : Nat} {f q sm : Value} {rv us : Int} {bg kv : Value} {l : List (TypeId × Nat)} {ul : List Int} (h : ES w bs B f q sm rv us bg kv l ul) : ∃ a c, kv = .slice a l.length c := by
  obtain ⟨_, ⟨h, h0⟩ | ⟨g, c, _, h, _⟩⟩ := h.own
  · exact ⟨none, 0, by rw [h, h0]⟩
  · exact ⟨_, _, h⟩

/-- The row that the heap works on. -/
theorem ES.kr {w : World} {bs B : Nat} {f q sm : Value} {rv us : Int} {bg kv : Value} {l : List (TypeId × Nat)} {ul : List Int} (h : ES w bs B f q sm rv us bg kv l ul) (hp : 0 < l.length) : ∃ kb c, kv = .slice (some ⟨kb, 0, none⟩) l.length c ∧ KR w bs kb l.length c l ul := by
  have hown := h.own
  obtain ⟨hl, ⟨h1, h0⟩ | ⟨g, c, cur, hv, hb, hg, r⟩⟩ := hown
  · omega
  · refine ⟨g, c, hv, ⟨by rw [← hv]; exact heap_cell (i := 5) h.s, rfl, h.ulen, fun i T p hi => ?_, h.ty, h.used⟩⟩
    have h2 : w.ownsRow B 92 1 (.slice (some ⟨g, 0, none⟩) l.length c) l.length (l.map ifc) := by rw [← hv]; exact h.own
    have hil : i < l.length := (List.getElem?_eq_some_iff.1 hi).1
    have h3 := h2.cellAt i (by omega)
    rw [h3, List.getElem?_map, hi]
    rfl

/-- Behind a push the new slot is the last. -/
theorem ES.pushed {w w' : World} {bs B : Nat} {f q sm : Value} {rv us : Int} {bg kv : Value} {l : List (TypeId × Nat)} {ul : List Int} (h : ES w bs B f q sm rv us bg kv l ul) {T : TypeId} (hT : IsT T) {p : Nat} (hpB : B ≤ p) (hpl : p < w.heap.size) (hpg : kv.ownBlock ≠ some p) (hpn : ∀ (i : Nat) T' p', l[i]? = some (T', p') → p' ≠ p)
    (hu : w.cell? ⟨p, 11, none⟩ = some (.int .u64 us)) (hlt : ∀ (i : Nat) u, ul[i]? = some u → u < us) (hP : Pushed w w' bs B p l.length f (.int .i64 rv) q sm bg (.int .u64 us) kv (l.map ifc) (ifc (T, p))) :
    ∃ kv', ES w' bs B f q sm rv us bg kv' (l ++ [(T, p)]) (ul ++ [us]) ∧ (∀ q, kv'.ownBlock = some q → kv.ownBlock = some q ∨ w.heap.size ≤ q) := by
  obtain ⟨v', hs, hown, hv⟩ := hP.sess
  have hul := h.ulen
  have hget : ∀ (i : Nat) T' p', (l ++ [(T, p)])[i]? = some (T', p') → (i < l.length ∧ l[i]? = some (T', p')) ∨ (i = l.length ∧ T' = T ∧ p' = p) := by
    intro i T' p' hi
    by_cases hil : i < l.length
    · rw [List.getElem?_append_left hil] at hi
      exact .inl ⟨hil, hi⟩
    · rw [List.getElem?_append_right (by omega)] at hi
      have : i - l.length = 0 := by
        have := (List.getElem?_eq_some_iff.1 hi).1
        simp at this
        omega
      rw [this] at hi
      simp at hi
      exact .inr ⟨by omega, hi.1.symm, hi.2.symm⟩
  have hgu : ∀ (i : Nat) u, (ul ++ [us])[i]? = some u → (i < l.length ∧ ul[i]? = some u) ∨ (i = l.length ∧ u = us) := by
    intro i u hi
    by_cases hil : i < l.length
    · rw [List.getElem?_append_left (by omega)] at hi
      exact .inl ⟨hil, hi⟩
    · rw [List.getElem?_append_right (by omega)] at hi
      have : i - ul.length = 0 := by
        have := (List.getElem?_eq_some_iff.1 hi).1
        simp at this
        omega
      rw [this] at hi
      simp at hi
      exact .inr ⟨by omega, hi.symm⟩
  refine ⟨v', ⟨hs, h.lt, by simpa using hown, by simp [hul], fun i T' p' hi => ?_, fun i T' p' hi => ?_, fun i T' p' u hi hui => ?_, fun i u hi => ?_, fun i j ui uj hij h1 h2 => ?_⟩, hv⟩
  · rcases hget i T' p' hi with ⟨_, h1⟩ | ⟨_, rfl, rfl⟩
    · exact h.ty i T' p' h1
    · exact hT
  · rcases hget i T' p' hi with ⟨_, h1⟩ | ⟨_, rfl, rfl⟩
    · obtain ⟨b1, b2, b3⟩ := h.blk i T' p' h1
      refine ⟨b1, fun e => ?_, by have := hP.size; omega⟩
      rcases hv p' e with h2 | h2
      · exact b2 h2
      · omega
    · refine ⟨hpB, fun e => ?_, by have := hP.size; omega⟩
      rcases hv p' e with h2 | h2
      · exact hpg h2
      · omega
  · rcases hget i T' p' hi with ⟨hil, h1⟩ | ⟨hie, rfl, rfl⟩
    · rcases hgu i u hui with ⟨_, h2⟩ | ⟨h2, _⟩
      · obtain ⟨b1, b2, b3⟩ := h.blk i T' p' h1
        have hlt' := h.lt
        rw [← h.used i T' p' u h1 h2]
        exact World.cell?_of_block (w := w) (hP.far p' b3 (by omega) (hpn i T' p' h1) b2)
      · omega
    · rcases hgu i u hui with ⟨h2, _⟩ | ⟨_, rfl⟩
      · omega
      · have e1 : w'.cell? ⟨p', 11, none⟩ = (w.setCell ⟨p', 10, none⟩ (.int .i64 (l.length : Nat))).cell? ⟨p', 11, none⟩ := World.cell?_of_block (w := w.setCell ⟨p', 10, none⟩ (.int .i64 (l.length : Nat))) hP.slot
        rw [e1, World.cell?_setCell_other _ _ _ _ (by simp)]
        exact hu
  · rcases hgu i u hi with ⟨_, h2⟩ | ⟨_, rfl⟩
    · exact h.le i u h2
    · exact Int.le_refl _
  · rcases hgu j uj h2 with ⟨hj, h3⟩ | ⟨hj, rfl⟩
    · rcases hgu i ui h1 with ⟨_, h4⟩ | ⟨hi, _⟩
      · exact h.up i j ui uj hij h4 h3
      · omega
    · rcases hgu i ui h1 with ⟨_, h4⟩ | ⟨hi, _⟩
      · exact hlt i ui h4
      · omega

end Go.Proofs.YtfekglokoafpiaaGreatDoor

namespace Go.Proofs.YtfekglokoafpiaaGreatDoor
open Go.RowKit

theorem entPush (args : Array Value) (w : World) : (callFunc 260 args).run Tryz.prog w = .ok (.enter 260 args) w := by kernel_rfl

theorem list_last {α : Type} (l : List α) (x : α) : (l ++ [x])[l.length]? = some x := by simp

set_option maxRecDepth 100000 in
set_option maxHeartbeats 1000000 in
theorem hpush {w : World} {bs B : Nat} {f q sm : Value} {rv us : Int} {bg kv : Value} {l : List (TypeId × Nat)} {ul : List Int} (h : ES w bs B f q sm rv us bg kv l ul) (hB : B ≤ w.heap.size) (hm : l.length ≤ 3) {T : TypeId} {F : FuncId} (hM : MT T F) {p : Nat} {pl : Int} (hpB : B ≤ p) (hpl : p < w.heap.size) (hpg : kv.ownBlock ≠ some p) (hpn : ∀ (i : Nat) T' p', l[i]? = some (T', p') → p' ≠ p)
    (h10 : w.cell? ⟨p, 10, none⟩ = some (.int .i64 pl)) (f10 : w.frozen? ⟨p, 10, none⟩ = false) (hu : w.cell? ⟨p, 11, none⟩ = some (.int .u64 us)) (hlt : ∀ (i : Nat) u, ul[i]? = some u → u < us) :
    Calls Tryz.prog 151 #[heapV bs, .iface T (.pointer (some ⟨p, 0, none⟩))] w fun e w' => e = .returned (.tuple #[]) ∧ ∃ w1 kv', Pushed w w1 bs B p l.length f (.int .i64 rv) q sm bg (.int .u64 us) kv (l.map ifc) (ifc (T, p)) ∧ ES w1 bs B f q sm rv us bg kv' (l ++ [(T, p)]) (ul ++ [us]) ∧ (∀ q, kv'.ownBlock = some q → kv.ownBlock = some q ∨ w.heap.size ≤ q) ∧ Below w1.heap.size w1 w' := by
  obtain ⟨a, c, rfl⟩ := h.shape
  have hbs : bs < B := h.lt
  have HP := hid (push_any T F hM p pl h.s h.own hm hB hbs h10 f10 (by omega) hpg hpl)
  have HX := hid (fun w' (hP : Pushed w w' bs B p l.length f (.int .i64 rv) q sm bg (.int .u64 us) (.slice a l.length c) (l.map ifc) (ifc (T, p))) => h.pushed ⟨F, hM⟩ hpB hpl hpg hpn hu hlt hP)
  have HM := hid hm
  have HUL := hid h.ulen
  have HLT := hid hlt
  have m1 := pushMeth bs
  have m2 := pushNil bs
  have m3 := entPush
  clear h hB hm hM hpB hpl hpg hpn h10 f10 hu hlt hbs
  unfold heapV
  go_enter Tryz.func151, Tryz.ntmps151
  go_wp2_with fail
  refine HP.out.mono ?_
  rintro e w1 ⟨rfl, hp⟩
  obtain ⟨kv', hes, hkv⟩ := HX.out w1 hp
  have HPU := hid hp
  have HES := hid hes
  have HKV := hid hkv
  obtain ⟨kb, c', hkve, hkr⟩ := hes.kr (by simp)
  have hll : (l ++ [(T, p)]).length = l.length + 1 := by simp
  rw [hll] at hkr
  have HU := hid (up_last hkr l.length rfl (by have := HM.out; omega) T p us (list_last _ _) (by rw [← HUL.out]; exact list_last _ _) (fun i ui hi h1 => HLT.out i ui (by rwa [List.getElem?_append_left (by have := HUL.out; omega)] at h1)))
  have m4 := lenMeth bs _ w1 hkr.v
  have m5 := lenNil bs w1
  have m6 := entLen
  have HLN := hid (len_any (some ⟨kb, 0, none⟩) (l.length + 1) c' w1)
  have HLE := hid hkr.len
  have hl2 : l.length ≤ 3 := HM.out
  clear hp hes hkv hkr hkve hll m1 m2 m3 HP HX
  unfold heapV at HU
  go_wp2_with fail
  refine HLN.out.mono ?_
  rintro e w2 ⟨rfl, rfl⟩
  go_wp2_with fail
  refine HU.out.mono ?_
  rintro e w3 ⟨rfl, hb⟩
  go_wp2
  go_end0
  exact ⟨rfl, w2, kv', HPU.out, HES.out, HKV.out, hb⟩

end Go.Proofs.YtfekglokoafpiaaGreatDoor
