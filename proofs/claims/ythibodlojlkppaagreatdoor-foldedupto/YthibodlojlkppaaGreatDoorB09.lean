/-
  The slots' methods behind the interface. The heap of kept slots: Less, Swap. The heap of kept slots: Swap.
-/
import Derived.Test.YthibodlojlkppaaGreatDoorB01
import Derived.Test.YthibodlojlkppaaGreatDoorB07
import Derived.Test.YthibodlojlkppaaGreatDoorB08
import Derived.Defers
import Derived.Recover
import Derived.Deep.QuietTactic
import Derived.BigQuiet
import Derived.Deep.RegionHeld3
import Derived.Deep.RegionWith
set_option linter.unusedVariables false
set_option linter.unusedSectionVars false
set_option linter.unusedSimpArgs false
set_option maxRecDepth 100000
set_option maxHeartbeats 40000000

namespace Go.Proofs.YthibodlojlkppaaGreatDoor
open Go.RowKit
theorem methS_common (p:Nat) (w:World):(method 414 165 (.pointer (some ⟨p,0, none⟩)) "almanac/slots.common").run Tryz.prog w = .ok (219, .pointer (some ⟨p,0,none⟩)) w:=by kernel_rfl
theorem nilS_common (p:Nat) (w:World):(nilAhead 414 165 (.pointer (some ⟨p,0, none⟩)) "almanac/slots.common").run Tryz.prog w = .ok (some false) w:=by kernel_rfl
theorem methS_enter (p:Nat) (w:World):(method 414 165 (.pointer (some ⟨p,0, none⟩)) "almanac/slots.enter").run Tryz.prog w = .ok (221, .pointer (some ⟨p,0,none⟩)) w:=by kernel_rfl
theorem nilS_enter (p:Nat) (w:World):(nilAhead 414 165 (.pointer (some ⟨p,0, none⟩)) "almanac/slots.enter").run Tryz.prog w = .ok (some false) w:=by kernel_rfl
theorem methS_leave (p:Nat) (w:World):(method 414 165 (.pointer (some ⟨p,0, none⟩)) "almanac/slots.leave").run Tryz.prog w = .ok (224, .pointer (some ⟨p,0,none⟩)) w:=by kernel_rfl
theorem nilS_leave (p:Nat) (w:World):(nilAhead 414 165 (.pointer (some ⟨p,0, none⟩)) "almanac/slots.leave").run Tryz.prog w = .ok (some false) w:=by kernel_rfl
theorem methS_isLooped (p:Nat) (w:World):(method 414 165 (.pointer (some ⟨p,0, none⟩)) "almanac/slots.isLooped").run Tryz.prog w = .ok (223, .pointer (some ⟨p,0,none⟩)) w:=by kernel_rfl
theorem nilS_isLooped (p:Nat) (w:World):(nilAhead 414 165 (.pointer (some ⟨p,0, none⟩)) "almanac/slots.isLooped").run Tryz.prog w = .ok (some false) w:=by kernel_rfl
theorem methS_isDropped (p:Nat) (w:World):(method 414 165 (.pointer (some ⟨p,0, none⟩)) "almanac/slots.isDropped").run Tryz.prog w = .ok (222, .pointer (some ⟨p,0,none⟩)) w:=by kernel_rfl
theorem nilS_isDropped (p:Nat) (w:World):(nilAhead 414 165 (.pointer (some ⟨p,0, none⟩)) "almanac/slots.isDropped").run Tryz.prog w = .ok (some false) w:=by kernel_rfl
theorem methS_verify (p:Nat) (w:World):(method 414 165 (.pointer (some ⟨p,0, none⟩)) "almanac/slots.verify").run Tryz.prog w = .ok (226, .pointer (some ⟨p,0,none⟩)) w:=by kernel_rfl
theorem nilS_verify (p:Nat) (w:World):(nilAhead 414 165 (.pointer (some ⟨p,0, none⟩)) "almanac/slots.verify").run Tryz.prog w = .ok (some false) w:=by kernel_rfl
theorem methS_workOut (p:Nat) (w:World):(method 414 165 (.pointer (some ⟨p,0, none⟩)) "almanac/slots.workOut").run Tryz.prog w = .ok (227, .pointer (some ⟨p,0,none⟩)) w:=by kernel_rfl
theorem nilS_workOut (p:Nat) (w:World):(nilAhead 414 165 (.pointer (some ⟨p,0, none⟩)) "almanac/slots.workOut").run Tryz.prog w = .ok (some false) w:=by kernel_rfl
theorem methT_common (p:Nat) (w:World):(method 414 178 (.pointer (some ⟨p,0, none⟩)) "almanac/slots.common").run Tryz.prog w = .ok (219, .pointer (some ⟨p,0,none⟩)) w:=by kernel_rfl
theorem nilT_common (p:Nat) (w:World):(nilAhead 414 178 (.pointer (some ⟨p,0, none⟩)) "almanac/slots.common").run Tryz.prog w = .ok (some false) w:=by kernel_rfl
theorem methT_enter (p:Nat) (w:World):(method 414 178 (.pointer (some ⟨p,0, none⟩)) "almanac/slots.enter").run Tryz.prog w = .ok (221, .pointer (some ⟨p,0,none⟩)) w:=by kernel_rfl
theorem nilT_enter (p:Nat) (w:World):(nilAhead 414 178 (.pointer (some ⟨p,0, none⟩)) "almanac/slots.enter").run Tryz.prog w = .ok (some false) w:=by kernel_rfl
theorem methT_leave (p:Nat) (w:World):(method 414 178 (.pointer (some ⟨p,0, none⟩)) "almanac/slots.leave").run Tryz.prog w = .ok (224, .pointer (some ⟨p,0,none⟩)) w:=by kernel_rfl
theorem nilT_leave (p:Nat) (w:World):(nilAhead 414 178 (.pointer (some ⟨p,0, none⟩)) "almanac/slots.leave").run Tryz.prog w = .ok (some false) w:=by kernel_rfl
theorem methT_isLooped (p:Nat) (w:World):(method 414 178 (.pointer (some ⟨p,0, none⟩)) "almanac/slots.isLooped").run Tryz.prog w = .ok (223, .pointer (some ⟨p,0,none⟩)) w:=by kernel_rfl
theorem nilT_isLooped (p:Nat) (w:World):(nilAhead 414 178 (.pointer (some ⟨p,0, none⟩)) "almanac/slots.isLooped").run Tryz.prog w = .ok (some false) w:=by kernel_rfl
theorem methT_isDropped (p:Nat) (w:World):(method 414 178 (.pointer (some ⟨p,0, none⟩)) "almanac/slots.isDropped").run Tryz.prog w = .ok (222, .pointer (some ⟨p,0,none⟩)) w:=by kernel_rfl
theorem nilT_isDropped (p:Nat) (w:World):(nilAhead 414 178 (.pointer (some ⟨p,0, none⟩)) "almanac/slots.isDropped").run Tryz.prog w = .ok (some false) w:=by kernel_rfl
theorem methT_verify (p:Nat) (w:World):(method 414 178 (.pointer (some ⟨p,0, none⟩)) "almanac/slots.verify").run Tryz.prog w = .ok (226, .pointer (some ⟨p,0,none⟩)) w:=by kernel_rfl
theorem nilT_verify (p:Nat) (w:World):(nilAhead 414 178 (.pointer (some ⟨p,0, none⟩)) "almanac/slots.verify").run Tryz.prog w = .ok (some false) w:=by kernel_rfl
theorem methT_workOut (p:Nat) (w:World):(method 414 178 (.pointer (some ⟨p,0, none⟩)) "almanac/slots.workOut").run Tryz.prog w = .ok (233, .pointer (some ⟨p,0,none⟩)) w:=by kernel_rfl
theorem nilT_workOut (p:Nat) (w:World):(nilAhead 414 178 (.pointer (some ⟨p,0, none⟩)) "almanac/slots.workOut").run Tryz.prog w = .ok (some false) w:=by kernel_rfl
theorem methR_common (p:Nat) (w:World):(method 414 184 (.pointer (some ⟨p,0, none⟩)) "almanac/slots.common").run Tryz.prog w = .ok (219, .pointer (some ⟨p,0,none⟩)) w:=by kernel_rfl
theorem nilR_common (p:Nat) (w:World):(nilAhead 414 184 (.pointer (some ⟨p,0, none⟩)) "almanac/slots.common").run Tryz.prog w = .ok (some false) w:=by kernel_rfl
theorem methR_enter (p:Nat) (w:World):(method 414 184 (.pointer (some ⟨p,0, none⟩)) "almanac/slots.enter").run Tryz.prog w = .ok (221, .pointer (some ⟨p,0,none⟩)) w:=by kernel_rfl
theorem nilR_enter (p:Nat) (w:World):(nilAhead 414 184 (.pointer (some ⟨p,0, none⟩)) "almanac/slots.enter").run Tryz.prog w = .ok (some false) w:=by kernel_rfl
theorem methR_leave (p:Nat) (w:World):(method 414 184 (.pointer (some ⟨p,0, none⟩)) "almanac/slots.leave").run Tryz.prog w = .ok (224, .pointer (some ⟨p,0,none⟩)) w:=by kernel_rfl
theorem nilR_leave (p:Nat) (w:World):(nilAhead 414 184 (.pointer (some ⟨p,0, none⟩)) "almanac/slots.leave").run Tryz.prog w = .ok (some false) w:=by kernel_rfl
theorem methR_isLooped (p:Nat) (w:World):(method 414 184 (.pointer (some ⟨p,0, none⟩)) "almanac/slots.isLooped").run Tryz.prog w = .ok (223, .pointer (some ⟨p,0,none⟩)) w:=by kernel_rfl
theorem nilR_isLooped (p:Nat) (w:World):(nilAhead 414 184 (.pointer (some ⟨p,0, none⟩)) "almanac/slots.isLooped").run Tryz.prog w = .ok (some false) w:=by kernel_rfl
theorem methR_isDropped (p:Nat) (w:World):(method 414 184 (.pointer (some ⟨p,0, none⟩)) "almanac/slots.isDropped").run Tryz.prog w = .ok (222, .pointer (some ⟨p,0,none⟩)) w:=by kernel_rfl
theorem nilR_isDropped (p:Nat) (w:World):(nilAhead 414 184 (.pointer (some ⟨p,0, none⟩)) "almanac/slots.isDropped").run Tryz.prog w = .ok (some false) w:=by kernel_rfl
theorem methR_verify (p:Nat) (w:World):(method 414 184 (.pointer (some ⟨p,0, none⟩)) "almanac/slots.verify").run Tryz.prog w = .ok (226, .pointer (some ⟨p,0,none⟩)) w:=by kernel_rfl
theorem nilR_verify (p:Nat) (w:World):(nilAhead 414 184 (.pointer (some ⟨p,0, none⟩)) "almanac/slots.verify").run Tryz.prog w = .ok (some false) w:=by kernel_rfl
theorem methR_workOut (p:Nat) (w:World):(method 414 184 (.pointer (some ⟨p,0, none⟩)) "almanac/slots.workOut").run Tryz.prog w = .ok (238, .pointer (some ⟨p,0,none⟩)) w:=by kernel_rfl
theorem nilR_workOut (p:Nat) (w:World):(nilAhead 414 184 (.pointer (some ⟨p,0, none⟩)) "almanac/slots.workOut").run Tryz.prog w = .ok (some false) w:=by kernel_rfl
theorem methX_common (p:Nat) (w:World):(method 414 189 (.pointer (some ⟨p,0, none⟩)) "almanac/slots.common").run Tryz.prog w = .ok (219, .pointer (some ⟨p,0,none⟩)) w:=by kernel_rfl
theorem nilX_common (p:Nat) (w:World):(nilAhead 414 189 (.pointer (some ⟨p,0, none⟩)) "almanac/slots.common").run Tryz.prog w = .ok (some false) w:=by kernel_rfl
theorem methX_enter (p:Nat) (w:World):(method 414 189 (.pointer (some ⟨p,0, none⟩)) "almanac/slots.enter").run Tryz.prog w = .ok (221, .pointer (some ⟨p,0,none⟩)) w:=by kernel_rfl
theorem nilX_enter (p:Nat) (w:World):(nilAhead 414 189 (.pointer (some ⟨p,0, none⟩)) "almanac/slots.enter").run Tryz.prog w = .ok (some false) w:=by kernel_rfl
theorem methX_leave (p:Nat) (w:World):(method 414 189 (.pointer (some ⟨p,0, none⟩)) "almanac/slots.leave").run Tryz.prog w = .ok (224, .pointer (some ⟨p,0,none⟩)) w:=by kernel_rfl
theorem nilX_leave (p:Nat) (w:World):(nilAhead 414 189 (.pointer (some ⟨p,0, none⟩)) "almanac/slots.leave").run Tryz.prog w = .ok (some false) w:=by kernel_rfl
theorem methX_isLooped (p:Nat) (w:World):(method 414 189 (.pointer (some ⟨p,0, none⟩)) "almanac/slots.isLooped").run Tryz.prog w = .ok (223, .pointer (some ⟨p,0,none⟩)) w:=by kernel_rfl
theorem nilX_isLooped (p:Nat) (w:World):(nilAhead 414 189 (.pointer (some ⟨p,0, none⟩)) "almanac/slots.isLooped").run Tryz.prog w = .ok (some false) w:=by kernel_rfl
theorem methX_isDropped (p:Nat) (w:World):(method 414 189 (.pointer (some ⟨p,0, none⟩)) "almanac/slots.isDropped").run Tryz.prog w = .ok (222, .pointer (some ⟨p,0,none⟩)) w:=by kernel_rfl
theorem nilX_isDropped (p:Nat) (w:World):(nilAhead 414 189 (.pointer (some ⟨p,0, none⟩)) "almanac/slots.isDropped").run Tryz.prog w = .ok (some false) w:=by kernel_rfl
theorem methX_verify (p:Nat) (w:World):(method 414 189 (.pointer (some ⟨p,0, none⟩)) "almanac/slots.verify").run Tryz.prog w = .ok (226, .pointer (some ⟨p,0,none⟩)) w:=by kernel_rfl
theorem nilX_verify (p:Nat) (w:World):(nilAhead 414 189 (.pointer (some ⟨p,0, none⟩)) "almanac/slots.verify").run Tryz.prog w = .ok (some false) w:=by kernel_rfl
theorem methX_workOut (p:Nat) (w:World):(method 414 189 (.pointer (some ⟨p,0, none⟩)) "almanac/slots.workOut").run Tryz.prog w = .ok (243, .pointer (some ⟨p,0,none⟩)) w:=by kernel_rfl
theorem nilX_workOut (p:Nat) (w:World):(nilAhead 414 189 (.pointer (some ⟨p,0, none⟩)) "almanac/slots.workOut").run Tryz.prog w = .ok (some false) w:=by kernel_rfl
theorem common_any (p:Nat) (w:World):Calls Tryz.prog 219 #[.pointer (some ⟨p,0,none⟩)] w fun e w'=>e = .returned (.pointer (some ⟨p,0,none⟩))∧w'=w:=by
 go_enter Tryz.func219,Tryz.ntmps219
 go_wp2
 go_ret
 exact ⟨rfl,rfl⟩
theorem dropped_any (p:Nat) (pl:Int) (w:World) (h:w.cell? ⟨p,10,none⟩=some (.int .i64 pl)):Calls Tryz.prog 222 #[.pointer (some ⟨p,0,none⟩)] w fun e w'=>e = .returned (.bool (pl == -1))∧w'=w:=by
 go_enter Tryz.func222,Tryz.ntmps222
 go_wp2
 go_ret
 exact ⟨rfl,rfl⟩
theorem looped_any (p:Nat) (b:Bool) (w:World) (h:w.cell? ⟨p,5,none⟩=some (.bool b)):Calls Tryz.prog 223 #[.pointer (some ⟨p,0,none⟩)] w fun e w'=>e = .returned (.bool b)∧w'=w:=by
 go_enter Tryz.func223,Tryz.ntmps223
 go_wp2
 go_ret
 exact ⟨rfl,rfl⟩
theorem enter_any (p:Nat) (w:World) (h:w.cell? ⟨p,4,none⟩=some (.bool false)) (hf:w.frozen? ⟨p,4,none⟩=false):Calls Tryz.prog 221 #[.pointer (some ⟨p,0,none⟩)] w fun e w'=>e = .returned (.tuple #[])∧w'=w.setCell ⟨p,4,none⟩ (.bool true):=by
 go_enter Tryz.func221,Tryz.ntmps221
 go_wp2
 go_end0
 exact ⟨rfl,rfl⟩
theorem verify_done (p bs:Nat) (rv:Int) (w:World) (h0:w.cell? ⟨p,0,none⟩=some (.pointer (some ⟨bs,1,none⟩))) (h7:w.cell? ⟨p,7,none⟩=some (.int .i64 rv)) (hr:w.cell? ⟨bs,1,none⟩=some (.int .i64 rv)):Calls Tryz.prog 226 #[.pointer (some ⟨p,0,none⟩)] w fun e w'=>e = .returned (.bool true)∧w'=w:=by
 go_enter Tryz.func226,Tryz.ntmps226
 go_wp2
 go_ret
 exact ⟨rfl,rfl⟩
theorem verify_new (p bs:Nat) (rv:Int) (hr0:0≤rv) (w:World) (h0:w.cell? ⟨p,0,none⟩=some (.pointer (some ⟨bs,1,none⟩))) (h7:w.cell? ⟨p,7,none⟩=some (.int .i64 (-1))) (hr:w.cell? ⟨bs,1,none⟩=some (.int .i64 rv)):Calls Tryz.prog 226 #[.pointer (some ⟨p,0,none⟩)] w fun e w'=>e = .returned (.bool false)∧w'=w:=by
 have hne:((-1:Int) == rv)=false:=by rw [beq_eq_false_iff_ne];omega
 go_enter Tryz.func226,Tryz.ntmps226
 go_wp2
 go_ret
 exact ⟨rfl,rfl⟩
theorem leave_deferred (p:Nat) (u:FrameMode) (w:World) (b4 b5:Bool) (h4:w.cell? ⟨p,4,none⟩=some (.bool b4)) (h5:w.cell? ⟨p,5,none⟩=some (.bool b5)) (f4:w.frozen? ⟨p,4,none⟩=false) (f5:w.frozen? ⟨p,5,none⟩=false) :
 CallsD Tryz.prog 224 #[.pointer (some ⟨p,0,none⟩)] u w fun e u' w'=>u'=u∧(e = .returned (.tuple #[])∧w'=(w.setCell ⟨p,4,none⟩ (.bool false)).setCell ⟨p,5,none⟩ (.bool false)):=by
 go_enter_d Tryz.func224,Tryz.ntmps224
 go_wp2
 go_end0
 exact ⟨rfl,rfl⟩
structure MT (T:TypeId) (F:FuncId):Prop where
 common:∀ (p:Nat) (w:World),(method 414 T (.pointer (some ⟨p,0, none⟩)) "almanac/slots.common").run Tryz.prog w = .ok (219, .pointer (some ⟨p,0,none⟩)) w
 ncommon:∀ (p:Nat) (w:World),(nilAhead 414 T (.pointer (some ⟨p,0, none⟩)) "almanac/slots.common").run Tryz.prog w = .ok (some false) w
 enter:∀ (p:Nat) (w:World),(method 414 T (.pointer (some ⟨p,0, none⟩)) "almanac/slots.enter").run Tryz.prog w = .ok (221, .pointer (some ⟨p,0,none⟩)) w
 nenter:∀ (p:Nat) (w:World),(nilAhead 414 T (.pointer (some ⟨p,0, none⟩)) "almanac/slots.enter").run Tryz.prog w = .ok (some false) w
 leave:∀ (p:Nat) (w:World),(method 414 T (.pointer (some ⟨p,0, none⟩)) "almanac/slots.leave").run Tryz.prog w = .ok (224, .pointer (some ⟨p,0,none⟩)) w
 nleave:∀ (p:Nat) (w:World),(nilAhead 414 T (.pointer (some ⟨p,0, none⟩)) "almanac/slots.leave").run Tryz.prog w = .ok (some false) w
 isLooped:∀ (p:Nat) (w:World),(method 414 T (.pointer (some ⟨p,0, none⟩)) "almanac/slots.isLooped").run Tryz.prog w = .ok (223, .pointer (some ⟨p,0,none⟩)) w
 nisLooped:∀ (p:Nat) (w:World),(nilAhead 414 T (.pointer (some ⟨p,0, none⟩)) "almanac/slots.isLooped").run Tryz.prog w = .ok (some false) w
 isDropped:∀ (p:Nat) (w:World),(method 414 T (.pointer (some ⟨p,0, none⟩)) "almanac/slots.isDropped").run Tryz.prog w = .ok (222, .pointer (some ⟨p,0,none⟩)) w
 nisDropped:∀ (p:Nat) (w:World),(nilAhead 414 T (.pointer (some ⟨p,0, none⟩)) "almanac/slots.isDropped").run Tryz.prog w = .ok (some false) w
 verify:∀ (p:Nat) (w:World),(method 414 T (.pointer (some ⟨p,0, none⟩)) "almanac/slots.verify").run Tryz.prog w = .ok (226, .pointer (some ⟨p,0,none⟩)) w
 nverify:∀ (p:Nat) (w:World),(nilAhead 414 T (.pointer (some ⟨p,0, none⟩)) "almanac/slots.verify").run Tryz.prog w = .ok (some false) w
 workOut:∀ (p:Nat) (w:World),(method 414 T (.pointer (some ⟨p,0, none⟩)) "almanac/slots.workOut").run Tryz.prog w = .ok (F, .pointer (some ⟨p,0,none⟩)) w
 nworkOut:∀ (p:Nat) (w:World),(nilAhead 414 T (.pointer (some ⟨p,0, none⟩)) "almanac/slots.workOut").run Tryz.prog w = .ok (some false) w
 ent:∀ (args:Array Value) (w:World),(callFunc F args).run Tryz.prog w = .ok (.enter F args) w
 isSlot:∀ (v:Value) (xT:TypeId) (w:World),(Instr.typeAssert (.iface T v) xT 94 false).run Tryz.prog w = .ok (.iface T v) w
theorem mtS:MT 165 227 :=
 ⟨methS_common,nilS_common,methS_enter,nilS_enter,methS_leave,nilS_leave,methS_isLooped,nilS_isLooped,methS_isDropped,nilS_isDropped,methS_verify,nilS_verify,methS_workOut,nilS_workOut,fun args w=>by kernel_rfl,fun v xT w=>by kernel_rfl⟩
theorem mtT:MT 178 233 :=
 ⟨methT_common,nilT_common,methT_enter,nilT_enter,methT_leave,nilT_leave,methT_isLooped,nilT_isLooped,methT_isDropped,nilT_isDropped,methT_verify,nilT_verify,methT_workOut,nilT_workOut,fun args w=>by kernel_rfl,fun v xT w=>by kernel_rfl⟩
theorem mtR:MT 184 238 :=
 ⟨methR_common,nilR_common,methR_enter,nilR_enter,methR_leave,nilR_leave,methR_isLooped,nilR_isLooped,methR_isDropped,nilR_isDropped,methR_verify,nilR_verify,methR_workOut,nilR_workOut,fun args w=>by kernel_rfl,fun v xT w=>by kernel_rfl⟩
theorem mtX:MT 189 243 :=
 ⟨methX_common,nilX_common,methX_enter,nilX_enter,methX_leave,nilX_leave,methX_isLooped,nilX_isLooped,methX_isDropped,nilX_isDropped,methX_verify,nilX_verify,methX_workOut,nilX_workOut,fun args w=>by kernel_rfl,fun v xT w=>by kernel_rfl⟩
end Go.Proofs.YthibodlojlkppaaGreatDoor
namespace Go.Proofs.YthibodlojlkppaaGreatDoor
open Go.RowKit
variable [DecidableEq K] [LawfulBEq Lk]
def IsT (T:TypeId):Prop:=∃ F,MT T F
theorem isT_TI (k:K):IsT (TI k):=by
 unfold TI
 repeat' split
 · exact ⟨_,mtT⟩
 · exact ⟨_,mtR⟩
 · exact ⟨_,mtX⟩
 · exact ⟨_,mtS⟩
structure HPx (bs kb c:Nat) (L:Lay) (u:K→Nat) (arr:List K) (w:World):Prop where
 v:w.cell? ⟨bs,5,none⟩=some (.slice (some ⟨kb,0,none⟩) arr.length c)
 own:w.ownsRow 0 94 1 (.slice (some ⟨kb,0,none⟩) arr.length c) arr.length (arr.map (slotV L))
 pl:∀ (i:Nat) (k:K),arr[i]? = some k→∃ T xs,SB w (L.bk k) T xs∧xs[10]? = some (.int .i64 i)∧xs[11]? = some (.int .u64 (u k))
 nd:arr.Nodup
 inj:∀ j∈arr,∀ k∈arr,L.bk j=L.bk k→j=k
 ne:∀ k∈arr,L.bk k≠kb∧L.bk k≠bs
 kbs:kb≠bs
 len:arr.length≤BIG
theorem HPx.cell {bs kb c:Nat} {L:Lay} {u:K→Nat} {arr:List K} {w:World} (h:HPx bs kb c L u arr w) {i:Nat} {k:K} (hi:arr[i]? = some k):w.cell? ⟨kb,i,none⟩=some (.iface (TI k) (.pointer (some ⟨L.bk k,0,none⟩))):=by
 have hil:=(List.getElem?_eq_some_iff.1 hi).1
 rw [h.own.cellAt i (by omega),List.getElem?_map,hi]
 rfl
theorem HPx.fr {bs kb c:Nat} {L:Lay} {u:K→Nat} {arr:List K} {w:World} (h:HPx bs kb c L u arr w) (i:Nat):w.frozen? ⟨kb,i,none⟩=false:=h.own.frozenAt i
theorem HPx.below {bs kb c:Nat} {L:Lay} {u:K→Nat} {arr:List K} {w w':World} (h:HPx bs kb c L u arr w) (hb:Below w.heap.size w w'):HPx bs kb c L u arr w':=by
 refine ⟨cell_kept hb h.v,?_,fun i k hi => ?_,h.nd,h.inj,h.ne,h.kbs,h.len⟩
 · obtain ⟨hl,h1 | ⟨g,cap,cur,h1,h2,h3,h4⟩⟩:=h.own
   · exact ⟨hl, .inl h1⟩
   · exact ⟨hl, .inr ⟨g,cap,cur,h1,h2,below_heap hb (heap_lt h3) h3,h4⟩⟩
 · obtain ⟨T,xs,a,b⟩:=h.pl i k hi
   exact ⟨T,xs,below_heap hb (heap_lt a) a,b⟩
theorem SB.cell {w:World} {p:Nat} {TT:TypeId} {xs:List Value} (h:SB w p TT xs) {i:Nat} {v:Value} (hi:xs[i]? = some v):w.cell? ⟨p,i,none⟩=some v:=by
 rw [heap_cell h];simpa using hi
theorem SB.fr {w:World} {p:Nat} {TT:TypeId} {xs:List Value} (h:SB w p TT xs) (i:Nat):w.frozen? ⟨p,i,none⟩=false:=heap_frozen h
theorem SB.set {w:World} {p:Nat} {TT:TypeId} {xs:List Value} (h:SB w p TT xs) (i:Nat) (v:Value):SB (w.setCell ⟨p,i,none⟩ v) p TT (xs.set i v):=by
 have:=heap_setCell_lit (i:=i) h v
 simpa [SB] using this
theorem SB.other {w:World} {p:Nat} {TT:TypeId} {xs:List Value} (h:SB w p TT xs) {b:Nat} (hb:p≠b) (i:Nat) (v:Value):SB (w.setCell ⟨b,i,none⟩ v) p TT xs:=(heap_setCell_ne hb v).trans h
theorem hless {bs kb c:Nat} {L:Lay} {u:K→Nat} {arr:List K} {w:World} (h:HPx bs kb c L u arr w) (i j:Nat) (hi:i < arr.length) (hj:j < arr.length) :
 Calls Tryz.prog 211 #[.slice (some ⟨kb,0,none⟩) arr.length c, .int .i64 (i:Nat), .int .i64 (j:Nat)] w fun e w'=>e = .returned (.bool (decide (uat u arr i < uat u arr j)))∧Below w.heap.size w w':=by
 have h1:=List.getElem?_eq_getElem hi
 have h2:=List.getElem?_eq_getElem hj
 generalize arr[i]=ki at h1
 generalize arr[j]=kj at h2
 obtain ⟨F1,hM1⟩:=isT_TI ki
 obtain ⟨F2,hM2⟩:=isT_TI kj
 have m1:=hM1.common
 have m2:=hM1.ncommon
 have m3:=hM2.common
 have m4:=hM2.ncommon
 have c1:=h.cell h1
 have c2:=h.cell h2
 obtain ⟨_,_,s1,_,s3⟩:=h.pl i ki h1
 obtain ⟨_,_,s2,_,s4⟩:=h.pl j kj h2
 have d1:=s1.cell s3
 have d2:=s2.cell s4
 clear s1 s2 s3 s4
 have HU:=hid (show decide (uat u arr i < uat u arr j)=decide (((u ki:Nat):Int) < ((u kj:Nat):Int)) by simp [uat,h1,h2])
 generalize TI ki=Ti at m1 m2 c1
 generalize TI kj=Tj at m3 m4 c2
 generalize L.bk ki=pi at c1 d1
 generalize L.bk kj=pj at c2 d2
 generalize u ki=ui at d1 HU
 generalize u kj=uj at d2 HU
 have hi0:(0:Int)≤(i:Int):=by omega
 have hj0:(0:Int)≤(j:Int):=by omega
 have him:(i:Int) < (arr.length:Int):=by omega
 have hjm:(j:Int) < (arr.length:Int):=by omega
 rw [HU.out]
 generalize arr.length=m at *
 clear h h1 h2 hM1 hM2 HU
 go_enter Tryz.func211,Tryz.ntmps211
 go_wp2
 go_quiet (first
  | (go_at_call_of 219 (Value.pointer (some ⟨pi,0,none⟩));refine Calls.quiet_of_same (common_any pi _))
  | (go_at_call_of 219 (Value.pointer (some ⟨pj,0,none⟩));refine Calls.quiet_of_same (common_any pj _)))
 go_wp2
 go_ret
 exact ⟨by simp,below_drewN _ _⟩
structure PF (L:Lay) (kb:Nat) (arr:List K) (w w':World):Prop where
 os:w'.os=w.os
 tape:w'.tape=w.tape
 output:w'.output=w.output
 size:w.heap.size≤w'.heap.size
 far:∀ b,b < w.heap.size→b≠kb→(∀ k∈arr,b≠L.bk k)→w'.heap[b]? = w.heap[b]?
 slot:∀ k∈arr,∀ T xs,SB w (L.bk k) T xs→∃ x,SB w' (L.bk k) T (xs.set 10 x)
theorem PF.of_below {L:Lay} {kb:Nat} {arr:List K} {w w':World} (h:Below w.heap.size w w'):PF L kb arr w w' :=
 ⟨h.os,h.tape,h.output,h.size,fun b hb _ _=>h.block b hb,fun k _ T xs hs=>by
  have hs':SB w' (L.bk k) T xs:=below_heap h (heap_lt hs) hs
  cases hx:xs[10]? with
  | none=>exact ⟨.nilIface,by rw [List.set_eq_of_length_le (by simpa using hx)];exact hs'⟩
  | some x=>exact ⟨x,by
   obtain ⟨hl,he⟩:=List.getElem?_eq_some_iff.1 hx
   rw [←he,List.set_getElem_self]
   exact hs'⟩⟩
theorem PF.trans {L:Lay} {kb:Nat} {arr arr':List K} {w w1 w2:World} (h:PF L kb arr w w1) (g:PF L kb arr' w1 w2) (hp:∀ k,k∈arr'↔k∈arr):PF L kb arr w w2 :=
 ⟨g.os.trans h.os,g.tape.trans h.tape,g.output.trans h.output,Nat.le_trans h.size g.size,fun b hb h1 h2 =>
  (g.far b (Nat.lt_of_lt_of_le hb h.size) h1 fun k hk=>h2 k ((hp k).1 hk)).trans (h.far b hb h1 h2),fun k hk T xs hs=>by
  obtain ⟨x,hx⟩:=h.slot k hk T xs hs
  obtain ⟨y,hy⟩:=g.slot k ((hp k).2 hk) T _ hx
  exact ⟨y,by rw [List.set_set] at hy;exact hy⟩⟩
theorem own_set {w:World} {B g c n:Nat} {T:TypeId} {xs:List Value} (h:w.ownsRow B T 1 (.slice (some ⟨g,0,none⟩) n c) n xs) (i:Nat) (v:Value):(w.setCell ⟨g,i,none⟩ v).ownsRow B T 1 (.slice (some ⟨g,0,none⟩) n c) n (xs.set i v):=by
 obtain ⟨hl,h1 | ⟨g',cap,cur,h1,h2,h3,h4,h5,h6,h7⟩⟩:=h
 · simp at h1
 · simp only [Value.slice.injEq,Option.some.injEq,Addr.mk.injEq,true_and,and_true] at h1
   obtain ⟨rfl,rfl⟩:=h1
   refine ⟨by simp [hl], .inr ⟨g,c,cur.setIfInBounds i v,rfl,h2,heap_setCell_lit h3 v,h4,h5,by simp [h6],?_⟩⟩
   rw [←h7]
   simp [List.take_set]
theorem cell_swap {w:World} {b i j:Nat} {v:Value} (h:w.cell? ⟨b,j,none⟩=some v):(w.setCell ⟨b,i,none⟩ v).cell? ⟨b,j,none⟩=some v:=by
 by_cases hij:i=j
 · subst hij
   exact World.cell?_setCell_same _ _ _ h
 · rw [World.cell?_setCell_other _ _ _ _ (by intro e;injection e with _ e2;exact hij e2)]
   exact h
structure One (b:Nat) (w w':World):Prop where
 os:w'.os=w.os
 tape:w'.tape=w.tape
 output:w'.output=w.output
 size:w'.heap.size=w.heap.size
 block:∀ k:Nat,k≠b→w'.heap[k]? = w.heap[k]?
theorem One.setCell (w:World) (b i:Nat) (v:Value):One b w (w.setCell ⟨b,i,none⟩ v):=⟨rfl,rfl,rfl,by simp,fun k hk=>heap_setCell_ne hk v⟩
theorem One.drew {b:Nat} {w w':World} (h:One b w w'):One b w w'.drew:=⟨h.os,h.tape,h.output,h.size,h.block⟩
theorem One.trans {b:Nat} {w w1 w2:World} (h:One b w w1) (g:One b w1 w2):One b w w2:=⟨g.os.trans h.os,g.tape.trans h.tape,g.output.trans h.output,g.size.trans h.size,fun k hk=>(g.block k hk).trans (h.block k hk)⟩
theorem own_one {w w':World} {B g:Nat} {T:TypeId} {size n b:Nat} {v:Value} {xs:List Value} (h:w.ownsRow B T size v n xs) (ho:One b w w') (hb:v.ownBlock≠some b):w'.ownsRow B T size v n xs:=by
 obtain ⟨hl,h1 | ⟨g,cap,cur,h1,h2,h3,h4⟩⟩:=h
 · exact ⟨hl, .inl h1⟩
 · exact ⟨hl, .inr ⟨g,cap,cur,h1,h2,by rw [ho.block g fun e=>hb (by rw [h1,←e];rfl)];exact h3,h4⟩⟩
theorem swap_done {bs kb c:Nat} {L:Lay} {u:K→Nat} {arr:List K} {w W1 W2 W3:World} (h:HPx bs kb c L u arr w) {i j:Nat} {ki kj:K} (h1:arr[i]? = some ki) (h2:arr[j]? = some kj)
 (g1:One kb w W1) (o1:W1.ownsRow 0 94 1 (.slice (some ⟨kb,0,none⟩) arr.length c) arr.length (((arr.map (slotV L)).set i (slotV L kj)).set j (slotV L ki)))
 (g2:One (L.bk kj) W1 W2) (s2:∀ T xs,SB W1 (L.bk kj) T xs→SB W2 (L.bk kj) T (xs.set 10 (.int .i64 i)))
 (g3:One (L.bk ki) W2 W3) (s3:∀ T xs,SB W2 (L.bk ki) T xs→SB W3 (L.bk ki) T (xs.set 10 (.int .i64 j))) :
 HPx bs kb c L u (swapL arr i j) W3∧PF L kb arr w W3:=by
 obtain ⟨hil,hie⟩:=List.getElem?_eq_some_iff.1 h1
 obtain ⟨hjl,hje⟩:=List.getElem?_eq_some_iff.1 h2
 have hmi:=List.mem_of_getElem? h1
 have hmj:=List.mem_of_getElem? h2
 have n1:=h.ne ki hmi
 have n2:=h.ne kj hmj
 have hkb:=h.kbs
 have hperm:=swapL_perm arr i j
 have hget:=swapL_get hil hjl
 have hidx:∀ (t:Nat) (k:K),arr[t]? = some k→∀ (t':Nat),arr[t']? = some k→t'=t:=fun t k ht t' ht'=>by
  obtain ⟨a,b⟩:=List.getElem?_eq_some_iff.1 ht
  obtain ⟨a',b'⟩:=List.getElem?_eq_some_iff.1 ht'
  exact (List.getElem_inj h.nd).1 (b'.trans b.symm)
 have hfar:∀ b:Nat,b≠kb→b≠L.bk kj→b≠L.bk ki→W3.heap[b]? = w.heap[b]?:=fun b a1 a2 a3=>(g3.block b a3).trans ((g2.block b a2).trans (g1.block b a1))
 have hslot:∀ k∈arr,∀ T xs,SB w (L.bk k) T xs→SB W3 (L.bk k) T (if k=ki then xs.set 10 (.int .i64 j) else if k=kj then xs.set 10 (.int .i64 i) else xs):=fun k hk T xs hs=>by
  have q1:SB W1 (L.bk k) T xs:=(g1.block _ (h.ne k hk).1).trans hs
  by_cases e1:k=ki
  · subst e1
    rw [if_pos rfl]
    by_cases e2:k=kj
    · subst e2
      have:=s3 _ _ (s2 _ _ q1)
      rw [List.set_set] at this
      exact this
    · exact s3 _ _ ((g2.block _ fun e=>e2 (h.inj k hk kj hmj e)).trans q1)
  · rw [if_neg e1]
    by_cases e2:k=kj
    · subst e2
      rw [if_pos rfl]
      exact (g3.block _ fun e=>e1 (h.inj k hk ki hmi e)).trans (s2 _ _ q1)
    · rw [if_neg e2]
      exact (g3.block _ fun e=>e1 (h.inj k hk ki hmi e)).trans ((g2.block _ fun e=>e2 (h.inj k hk kj hmj e)).trans q1)
 refine ⟨⟨?_,?_,fun t k ht => ?_,hperm.nodup_iff.2 h.nd,fun a ha b hb=>h.inj a (hperm.mem_iff.1 ha) b (hperm.mem_iff.1 hb),fun k hk=>h.ne k (hperm.mem_iff.1 hk),h.kbs,by rw [swapL_len];exact h.len⟩,⟨g3.os.trans (g2.os.trans g1.os),g3.tape.trans (g2.tape.trans g1.tape),g3.output.trans (g2.output.trans g1.output),by rw [g3.size,g2.size,g1.size];exact Nat.le_refl _,fun b hb hbk' hbs=>hfar b hbk' (hbs kj hmj) (hbs ki hmi),fun k hk T xs hs => ?_⟩⟩
 · rw [swapL_len]
   exact (World.cell?_of_block (w:=w) (a:=⟨bs,5,none⟩) (hfar bs (Ne.symm hkb) (Ne.symm n2.2) (Ne.symm n1.2))).trans h.v
 · rw [swapL_len]
   have e:((arr.map (slotV L)).set i (slotV L kj)).set j (slotV L ki)=(swapL arr i j).map (slotV L):=by
    apply List.ext_getElem?
    intro t
    rw [List.getElem?_map,hget,List.getElem?_set,List.getElem?_set]
    by_cases hj:j=t
    · subst hj;simp [hjl,h1]
    · rw [if_neg hj,if_neg (Ne.symm hj)]
      by_cases hi:i=t
      · subst hi;simp [hil,h2]
      · rw [if_neg hi,if_neg (Ne.symm hi),List.getElem?_map]
   rw [←e]
   exact own_one (g:=0) (own_one (g:=0) o1 g2 (by simp [Value.ownBlock];exact fun e=>n2.1 e.symm)) g3 (by simp [Value.ownBlock];exact fun e=>n1.1 e.symm)
 · have hkm:k∈arr:=hperm.mem_iff.1 (List.mem_of_getElem? ht)
   obtain ⟨t0,ht0⟩:=List.getElem?_of_mem hkm
   obtain ⟨T,xs,a0,b0,c0⟩:=h.pl t0 k ht0
   have hl:10 < xs.length:=(List.getElem?_eq_some_iff.1 b0).1
   refine ⟨T,_,hslot k hkm T xs a0,?_⟩
   rw [hget] at ht
   by_cases hj:t=j
   · subst hj
     rw [if_pos rfl,h1] at ht
     cases ht
     rw [if_pos rfl]
     exact ⟨by simp [hl],by rw [List.getElem?_set_ne (by decide)];exact c0⟩
   · rw [if_neg hj] at ht
     by_cases hi:t=i
     · subst hi
       rw [if_pos rfl,h2] at ht
       cases ht
       have hne:¬ kj=ki:=fun e=>hj (hidx j kj h2 t (by rw [h1,e]))
       rw [if_neg hne,if_pos rfl]
       exact ⟨by simp [hl],by rw [List.getElem?_set_ne (by decide)];exact c0⟩
     · rw [if_neg hi] at ht
       have e1:¬ k=ki:=fun e=>hi (hidx t k ht i (by rw [h1,e])).symm
       have e2:¬ k=kj:=fun e=>hj (hidx t k ht j (by rw [h2,e])).symm
       rw [if_neg e1,if_neg e2]
       have:=hidx t0 k ht0 t ht
       subst this
       exact ⟨b0,c0⟩
 · have:=hslot k hk T xs hs
   by_cases e1:k=ki
   · rw [if_pos e1] at this;exact ⟨_,this⟩
   · rw [if_neg e1] at this
     by_cases e2:k=kj
     · rw [if_pos e2] at this;exact ⟨_,this⟩
     · rw [if_neg e2] at this
       obtain ⟨t0,ht0⟩:=List.getElem?_of_mem hk
       obtain ⟨T0,xs0,a0,b0,_⟩:=h.pl t0 k ht0
       have e:=hs.symm.trans a0
       injection e with e
       injection e with e3 e4 _
       injection e3 with e3
       subst e3
       obtain ⟨hl,he⟩:=List.getElem?_eq_some_iff.1 b0
       refine ⟨.int .i64 t0,?_⟩
       rw [←he,List.set_getElem_self]
       exact this
theorem hswap {bs kb c:Nat} {L:Lay} {u:K→Nat} {arr:List K} {w:World} (h:HPx bs kb c L u arr w) (i j:Nat) (hi:i < arr.length) (hj:j < arr.length) :
 Calls Tryz.prog 212 #[.slice (some ⟨kb,0,none⟩) arr.length c, .int .i64 (i:Nat), .int .i64 (j:Nat)] w fun e w'=>e = .returned (.tuple #[])∧HPx bs kb c L u (swapL arr i j) w'∧PF L kb arr w w':=by
 have h1:=List.getElem?_eq_getElem hi
 have h2:=List.getElem?_eq_getElem hj
 obtain ⟨ki,hki⟩:∃ k,k=arr[i]:=⟨_,rfl⟩
 obtain ⟨kj,hkj⟩:∃ k,k=arr[j]:=⟨_,rfl⟩
 rw [←hki] at h1
 rw [←hkj] at h2
 clear hki hkj
 obtain ⟨F1,hM1⟩:=isT_TI ki
 obtain ⟨F2,hM2⟩:=isT_TI kj
 have m1:=hM1.common
 have m2:=hM1.ncommon
 have m3:=hM2.common
 have m4:=hM2.ncommon
 have c1:=h.cell h1
 have c2:=h.cell h2
 have x1:(w.setCell ⟨kb,i,none⟩ (.iface (TI kj) (.pointer (some ⟨L.bk kj,0,none⟩)))).drew.cell? ⟨kb,j,none⟩=some (.iface (TI kj) (.pointer (some ⟨L.bk kj,0,none⟩))):=cell_swap c2
 have x2:(w.setCell ⟨kb,j,none⟩ (.iface (TI ki) (.pointer (some ⟨L.bk ki,0,none⟩)))).drew.cell? ⟨kb,i,none⟩=some (.iface (TI ki) (.pointer (some ⟨L.bk ki,0,none⟩))):=cell_swap c1
 have f1:=h.fr i
 have f2:=h.fr j
 have hi0:(0:Int)≤(i:Int):=by omega
 have hj0:(0:Int)≤(j:Int):=by omega
 have him:(i:Int) < (arr.length:Int):=by omega
 have hjm:(j:Int) < (arr.length:Int):=by omega
 have HH:=hid h
 have H1:=hid h1
 have H2:=hid h2
 have HI:=hid hi
 have HJ:=hid hj
 obtain ⟨m,hm⟩:∃ m,m=arr.length:=⟨_,rfl⟩
 rw [←hm] at him hjm ⊢
 have HM:=hid hm
 clear h h1 h2 hM1 hM2 hm hi hj
 go_enter Tryz.func212,Tryz.ntmps212
 go_wp2
 go_region
 go_wp2_with fail
 have d1:(((w.setCell ⟨kb,i,none⟩ (.iface (TI kj) (.pointer (some ⟨L.bk kj,0,none⟩)))).setCell ⟨kb,j,none⟩ (.iface (TI ki) (.pointer (some ⟨L.bk ki,0,none⟩)))).drew).cell? ⟨kb,i,none⟩=some (.iface (TI kj) (.pointer (some ⟨L.bk kj,0,none⟩))):=by
  by_cases hij:i=j
  · subst hij
    have e:ki=kj:=Option.some.inj (H1.out.symm.trans H2.out)
    subst e
    exact cell_swap (cell_swap c1)
  · refine (World.cell?_setCell_other _ _ _ _ (by intro e;injection e with _ e2;exact hij e2.symm)).trans ?_
    exact World.cell?_setCell_same _ _ _ c1
 have d2:(((w.setCell ⟨kb,i,none⟩ (.iface (TI kj) (.pointer (some ⟨L.bk kj,0,none⟩)))).setCell ⟨kb,j,none⟩ (.iface (TI ki) (.pointer (some ⟨L.bk ki,0,none⟩)))).drew).cell? ⟨kb,j,none⟩=some (.iface (TI ki) (.pointer (some ⟨L.bk ki,0,none⟩))):=World.cell?_setCell_same _ _ _ x1
 have hmi:=List.mem_of_getElem? H1.out
 have hmj:=List.mem_of_getElem? H2.out
 have n1:=HH.out.ne ki hmi
 have n2:=HH.out.ne kj hmj
 obtain ⟨_,_,t1,t3,_⟩:=HH.out.pl i ki H1.out
 obtain ⟨_,_,t2,t4,_⟩:=HH.out.pl j kj H2.out
 have p1:=t1.cell t3
 have p2:=t2.cell t4
 have q1:=t1.fr 10
 have q2:=t2.fr 10
 clear t1 t2 t3 t4
 have e1:(((w.setCell ⟨kb,i,none⟩ (.iface (TI kj) (.pointer (some ⟨L.bk kj,0,none⟩)))).setCell ⟨kb,j,none⟩ (.iface (TI ki) (.pointer (some ⟨L.bk ki,0,none⟩)))).drew).cell? ⟨L.bk ki,10,none⟩=some (.int .i64 i):=((World.cell?_setCell_other _ _ _ _ (by intro e;injection e with e2;exact n1.1 e2.symm)).trans (World.cell?_setCell_other _ _ _ _ (by intro e;injection e with e2;exact n1.1 e2.symm))).trans p1
 have e2:(((w.setCell ⟨kb,i,none⟩ (.iface (TI kj) (.pointer (some ⟨L.bk kj,0,none⟩)))).setCell ⟨kb,j,none⟩ (.iface (TI ki) (.pointer (some ⟨L.bk ki,0,none⟩)))).drew).cell? ⟨L.bk kj,10,none⟩=some (.int .i64 j):=((World.cell?_setCell_other _ _ _ _ (by intro e;injection e with e2;exact n2.1 e2.symm)).trans (World.cell?_setCell_other _ _ _ _ (by intro e;injection e with e2;exact n2.1 e2.symm))).trans p2
 have r1:(((w.setCell ⟨kb,i,none⟩ (.iface (TI kj) (.pointer (some ⟨L.bk kj,0,none⟩)))).setCell ⟨kb,j,none⟩ (.iface (TI ki) (.pointer (some ⟨L.bk ki,0,none⟩)))).drew).frozen? ⟨L.bk ki,10,none⟩=false:=by simpa using q1
 have r2:(((w.setCell ⟨kb,i,none⟩ (.iface (TI kj) (.pointer (some ⟨L.bk kj,0,none⟩)))).setCell ⟨kb,j,none⟩ (.iface (TI ki) (.pointer (some ⟨L.bk ki,0,none⟩)))).drew).frozen? ⟨L.bk kj,10,none⟩=false:=by simpa using q2
 have HG:=hid (((One.setCell w kb i (.iface (TI kj) (.pointer (some ⟨L.bk kj,0,none⟩)))).trans (One.setCell _ kb j (.iface (TI ki) (.pointer (some ⟨L.bk ki,0,none⟩))))).drew)
 have HO:Hid (World.ownsRow (((w.setCell ⟨kb,i,none⟩ (.iface (TI kj) (.pointer (some ⟨L.bk kj,0,none⟩)))).setCell ⟨kb,j,none⟩ (.iface (TI ki) (.pointer (some ⟨L.bk ki,0,none⟩)))).drew) 0 94 1 (.slice (some ⟨kb,0,none⟩) arr.length c) arr.length (((arr.map (slotV L)).set i (slotV L kj)).set j (slotV L ki))):=own_set (own_set HH.out.own i (slotV L kj)) j (slotV L ki)
 generalize hW:((w.setCell ⟨kb,i,none⟩ (.iface (TI kj) (.pointer (some ⟨L.bk kj,0,none⟩)))).setCell ⟨kb,j,none⟩ (.iface (TI ki) (.pointer (some ⟨L.bk ki,0,none⟩)))).drew=W at d1 d2 e1 e2 r1 r2 HG HO ⊢
 clear hW x1 x2 c1 c2 f1 f2 p1 p2 q1 q2
 have y1:(W.setCell ⟨L.bk kj,10,none⟩ (.int .i64 i)).drew.cell? ⟨kb,j,none⟩=some (.iface (TI ki) (.pointer (some ⟨L.bk ki,0,none⟩))):=(World.cell?_setCell_other _ _ _ _ (by intro e;injection e with e2;exact n2.1 e2)).trans d2
 obtain ⟨z,y2⟩:∃ z:Int,(W.setCell ⟨L.bk kj,10,none⟩ (.int .i64 i)).drew.cell? ⟨L.bk ki,10,none⟩=some (.int .i64 z):=by
  by_cases hp:L.bk kj=L.bk ki
  · exact ⟨i,by rw [←hp];exact World.cell?_setCell_same _ _ _ e2⟩
  · exact ⟨i,(World.cell?_setCell_other _ _ _ _ (by intro e;injection e with e2;exact hp e2)).trans e1⟩
 have HN:=hid (And.intro n1 n2)
 have HE:=hid (And.intro hmi hmj)
 clear n1 n2 hmi hmj
 go_region_with (first
  | (go_at_call_of 219 (Value.pointer (some ⟨L.bk ki,0,none⟩));refine (common_any (L.bk ki) _).mono ?_;rintro e w1 ⟨rfl,rfl⟩)
  | (go_at_call_of 219 (Value.pointer (some ⟨L.bk kj,0,none⟩));refine (common_any (L.bk kj) _).mono ?_;rintro e w1 ⟨rfl,rfl⟩))
 all_goals
  go_wp2
  go_end0
  exact ⟨rfl,swap_done (W2:=W.setCell ⟨L.bk kj,10,none⟩ (.int .i64 i)) HH.out H1.out H2.out HG.out HO.out (One.setCell _ _ _ _) (fun T xs hs=>hs.set 10 _) (One.setCell _ _ _ _).drew (fun T xs hs=>hs.set 10 _)⟩
end Go.Proofs.YthibodlojlkppaaGreatDoor
