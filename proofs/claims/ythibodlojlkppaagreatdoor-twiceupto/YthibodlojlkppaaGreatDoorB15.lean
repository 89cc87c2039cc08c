/-
  settle. answer, of a text. loopOut. The engine's model: what works look at; lists; counts. The engine's model: what is active stays so; what is there stays there.
-/
import Derived.Test.YthibodlojlkppaaGreatDoorB06
import Derived.Test.YthibodlojlkppaaGreatDoorB11
import Derived.Test.YthibodlojlkppaaGreatDoorB14
set_option linter.unusedVariables false
set_option linter.unusedSectionVars false
set_option linter.unusedSimpArgs false
set_option maxRecDepth 100000
set_option maxHeartbeats 40000000

namespace Go.Proofs.YthibodlojlkppaaGreatDoor
open Go.RowKit
variable [DecidableEq K] [LawfulBEq Lk]
def LV (p sb:Nat) (T:TypeId) (b:Bool) (w:World):Prop:=w.cell? ⟨p,4,none⟩=some (.bool true)∧w.cell? ⟨p,5,none⟩=some (.bool b)∧w.frozen? ⟨p,4,none⟩=false∧w.frozen? ⟨p,5,none⟩=false∧w.cell? ⟨sb,0,none⟩=some (.iface T (.pointer (some ⟨p,0,none⟩)))
def SetPost (p:Nat) (R:Ending→World→Prop) (S:World→Prop):Ending→World→Prop:=fun e w' =>
 (∃ w1,R (.returned (.tuple #[])) w1∧e = .returned (.tuple #[])∧w'=(w1.setCell ⟨p,4,none⟩ (.bool false)).setCell ⟨p,5,none⟩ (.bool false)) ∨
 (∃ w1 T' pv,R (.panicked [{ v := .iface T' pv,recovered:=false }]) w1∧w1.cell? ⟨p,5,none⟩=some (.bool false)∧e = .panicked [{ v := .iface T' pv,recovered:=false }]∧w'=(w1.setCell ⟨p,4,none⟩ (.bool false)).setCell ⟨p,5,none⟩ (.bool false)) ∨
 (∃ w1,S w1∧e = .returned (.tuple #[])∧w'=(w1.setCell ⟨p,4,none⟩ (.bool false)).setCell ⟨p,5,none⟩ (.bool false))
theorem settleN (T:TypeId) (F FL:FuncId) (hM:MT T F) (hL:LT T FL) (p bs:Nat) (rv:Int) (hr0:0≤rv) (w:World) (c0:w.cell? ⟨p,0,none⟩=some (.pointer (some ⟨bs,1,none⟩))) (c4:w.cell? ⟨p,4,none⟩=some (.bool false)) (c7:w.cell? ⟨p,7,none⟩=some (.int .i64 (-1))) (hf:w.frozen? ⟨p,4,none⟩=false) (hr:w.cell? ⟨bs,1,none⟩=some (.int .i64 rv)) (hne:bs≠p) (hp:p < w.heap.size) (hb:bs < w.heap.size) (R:Ending→World→Prop) (S:World→Prop)
 (hQ:∀ e w1,R e w1→(e = .returned (.tuple #[])∧LV p w.heap.size T false w1)∨∃ T' pv,e = .panicked [{ v := .iface T' pv,recovered:=false }]∧(LV p w.heap.size T false w1∨LV p w.heap.size T true w1))
 (HL:∀ w1 T' pv,R (.panicked [{ v := .iface T' pv,recovered:=false }]) w1→w1.cell? ⟨p,5,none⟩=some (.bool true)→Calls Tryz.prog FL #[.pointer (some ⟨p,0,none⟩)] w1 fun e w2=>e = .returned (.tuple #[])∧S w2)
 (hS:∀ w1,S w1→w1.cell? ⟨p,4,none⟩=some (.bool true)∧w1.cell? ⟨p,5,none⟩=some (.bool true)∧w1.frozen? ⟨p,4,none⟩=false∧w1.frozen? ⟨p,5,none⟩=false)
 (HW:Calls Tryz.prog F #[.pointer (some ⟨p,0,none⟩)] ((w.setCell ⟨p,4,none⟩ (.bool true)).alloc (.cells #[.iface T (.pointer (some ⟨p,0,none⟩))] 94)) R) :
 Calls Tryz.prog 87 #[.iface T (.pointer (some ⟨p,0,none⟩)), .bool true] w (SetPost p R S):=by
 have f4:=hf
 have m1:=hM.enter
 have m2:=hM.nenter
 have hmf:∀ (fn:Fn) (first cap:Array Value) (w:World),(Instr.makeFunc fn first cap).run Tryz.prog w = .ok (.func fn first cap) w:=fun _ _ _ _=>rfl
 go_enter_defers Tryz.func87,Tryz.ntmps87
 go_wp2_with fail
 have hbl:=below_newK w (.cells #[.iface T (.pointer (some ⟨p,0,none⟩))] 94)
 have e4:(w.alloc (.cells #[.iface T (.pointer (some ⟨p,0,none⟩))] 94)).cell? ⟨p,4,none⟩=some (.bool false):=(World.cell?_of_block (w:=w) (hbl.block p hp)).trans c4
 have ef4:(w.alloc (.cells #[.iface T (.pointer (some ⟨p,0,none⟩))] 94)).frozen? ⟨p,4,none⟩=false:=(World.frozen?_of_block (w:=w) (hbl.block p hp)).trans f4
 refine (enter_any p _ e4 ef4).mono ?_
 rintro e w1 ⟨rfl,rfl⟩
 have m3:=hM.verify
 have m4:=hM.nverify
 have m5:=hM.workOut
 have m6:=hM.nworkOut
 have m7:=hM.ent
 have d0:((w.setCell ⟨p,4,none⟩ (.bool true)).alloc (.cells #[.iface T (.pointer (some ⟨p,0,none⟩))] 94)).cell? ⟨p,0,none⟩=some (.pointer (some ⟨bs,1,none⟩)):=(World.cell?_alloc_past _ _ _ (by simpa using hp)).trans ((World.cell?_setCell_other _ _ _ _ (by simp)).trans c0)
 have d7:((w.setCell ⟨p,4,none⟩ (.bool true)).alloc (.cells #[.iface T (.pointer (some ⟨p,0,none⟩))] 94)).cell? ⟨p,7,none⟩=some (.int .i64 (-1)):=(World.cell?_alloc_past _ _ _ (by simpa using hp)).trans ((World.cell?_setCell_other _ _ _ _ (by simp)).trans c7)
 have dr:((w.setCell ⟨p,4,none⟩ (.bool true)).alloc (.cells #[.iface T (.pointer (some ⟨p,0,none⟩))] 94)).cell? ⟨bs,1,none⟩=some (.int .i64 rv):=(World.cell?_alloc_past _ _ _ (by simpa using hb)).trans ((World.cell?_setCell_other _ _ _ _ (by simp [hne.symm])).trans hr)
 clear c0 c4 c7 hf f4 e4 ef4 hbl m1 m2 hr
 go_wp2_with fail
 refine (verify_new p bs rv hr0 _ d0 d7 dr).mono ?_
 rintro e w3 ⟨rfl,rfl⟩
 clear d0 d7 dr
 go_wp2_with fail
 have m8:=hM.leave
 have m9:=hM.nleave
 refine HW.mono ?_
 rintro e w4 hq
 have HQ4:=hid hq
 rcases hQ _ _ hq with ⟨rfl,l4,l5,g4,g5,lb⟩ | ⟨T',pv,rfl,⟨l4,l5,g4,g5,lb⟩ | ⟨l4,l5,g4,g5,lb⟩⟩
 · clear hq
   go_wp2_with fail
   refine leaves_cons (f:=117) (args:=#[.pointer (some ⟨w.heap.size,0,none⟩)]) (by simp) (by simp [go_sem]) ?_
   refine (closureIdle T F hM p w.heap.size _ w4 lb l5).mono ?_
   rintro e u' w5 ⟨rfl,rfl,rfl⟩
   refine leaves_cons (f:=224) (args:=#[.pointer (some ⟨p,0,none⟩)]) (by simp [settle]) (by simp [go_sem,m8,m9]) ?_
   refine (leave_deferred p _ _ true false l4 l5 g4 g5).mono ?_
   rintro e u' w6 ⟨rfl,rfl,rfl⟩
   exact ⟨_,results_none rfl _ _ _, .inl ⟨_,HQ4.out,rfl,rfl⟩⟩
 · clear hq
   go_wp2_with fail
   refine leaves_cons (f:=117) (args:=#[.pointer (some ⟨w.heap.size,0,none⟩)]) (by simp) (by simp [go_sem]) ?_
   refine (closureIdle T F hM p w.heap.size _ w4 lb l5).mono ?_
   rintro e u' w5 ⟨rfl,rfl,rfl⟩
   refine leaves_cons (f:=224) (args:=#[.pointer (some ⟨p,0,none⟩)]) (by simp [settle]) (by simp [go_sem,m8,m9]) ?_
   refine (leave_deferred p _ _ true false l4 l5 g4 g5).mono ?_
   rintro e u' w6 ⟨rfl,rfl,rfl⟩
   exact .inr (.inl ⟨_,_,_,HQ4.out,l5,rfl,rfl⟩)
 · have hlo:=HL _ _ _ hq l5
   clear hq
   go_wp2_with fail
   refine leaves_cons (f:=117) (args:=#[.pointer (some ⟨w.heap.size,0,none⟩)]) (by simp) (by simp [go_sem]) ?_
   refine (closureRecovers T F FL hM hL p w.heap.size T' pv [] w4 _ lb l5 hlo).mono ?_
   rintro e u' w5 ⟨rfl,rfl,hs⟩
   have HS5:=hid hs
   obtain ⟨l4,l5,g4,g5⟩:=hS _ hs
   clear hs
   refine leaves_cons (f:=224) (args:=#[.pointer (some ⟨p,0,none⟩)]) (by simp [settle]) (by simp [go_sem,m8,m9]) ?_
   refine (leave_deferred p _ _ true true l4 l5 g4 g5).mono ?_
   rintro e u' w6 ⟨rfl,rfl,rfl⟩
   exact ⟨_,results_none rfl _ _ _, .inr (.inr ⟨_,HS5.out,rfl,rfl⟩)⟩
theorem settleD (T:TypeId) (F FL:FuncId) (hM:MT T F) (hL:LT T FL) (p bs:Nat) (rv:Int) (pl:Int) (hpl:(pl == -1)=true) (w:World) (c0:w.cell? ⟨p,0,none⟩=some (.pointer (some ⟨bs,1,none⟩))) (c4:w.cell? ⟨p,4,none⟩=some (.bool false)) (c7:w.cell? ⟨p,7,none⟩=some (.int .i64 rv)) (hf:w.frozen? ⟨p,4,none⟩=false) (h10:w.cell? ⟨p,10,none⟩=some (.int .i64 pl)) (hr:w.cell? ⟨bs,1,none⟩=some (.int .i64 rv)) (hne:bs≠p) (hp:p < w.heap.size) (hb:bs < w.heap.size) (R:Ending→World→Prop) (S:World→Prop)
 (hQ:∀ e w1,R e w1→(e = .returned (.tuple #[])∧LV p w.heap.size T false w1)∨∃ T' pv,e = .panicked [{ v := .iface T' pv,recovered:=false }]∧(LV p w.heap.size T false w1∨LV p w.heap.size T true w1))
 (HL:∀ w1 T' pv,R (.panicked [{ v := .iface T' pv,recovered:=false }]) w1→w1.cell? ⟨p,5,none⟩=some (.bool true)→Calls Tryz.prog FL #[.pointer (some ⟨p,0,none⟩)] w1 fun e w2=>e = .returned (.tuple #[])∧S w2)
 (hS:∀ w1,S w1→w1.cell? ⟨p,4,none⟩=some (.bool true)∧w1.cell? ⟨p,5,none⟩=some (.bool true)∧w1.frozen? ⟨p,4,none⟩=false∧w1.frozen? ⟨p,5,none⟩=false)
 (HW:Calls Tryz.prog F #[.pointer (some ⟨p,0,none⟩)] ((w.setCell ⟨p,4,none⟩ (.bool true)).alloc (.cells #[.iface T (.pointer (some ⟨p,0,none⟩))] 94)) R) :
 Calls Tryz.prog 87 #[.iface T (.pointer (some ⟨p,0,none⟩)), .bool true] w (SetPost p R S):=by
 have f4:=hf
 have m1:=hM.enter
 have m2:=hM.nenter
 have hmf:∀ (fn:Fn) (first cap:Array Value) (w:World),(Instr.makeFunc fn first cap).run Tryz.prog w = .ok (.func fn first cap) w:=fun _ _ _ _=>rfl
 go_enter_defers Tryz.func87,Tryz.ntmps87
 go_wp2_with fail
 have hbl:=below_newK w (.cells #[.iface T (.pointer (some ⟨p,0,none⟩))] 94)
 have e4:(w.alloc (.cells #[.iface T (.pointer (some ⟨p,0,none⟩))] 94)).cell? ⟨p,4,none⟩=some (.bool false):=(World.cell?_of_block (w:=w) (hbl.block p hp)).trans c4
 have ef4:(w.alloc (.cells #[.iface T (.pointer (some ⟨p,0,none⟩))] 94)).frozen? ⟨p,4,none⟩=false:=(World.frozen?_of_block (w:=w) (hbl.block p hp)).trans f4
 refine (enter_any p _ e4 ef4).mono ?_
 rintro e w1 ⟨rfl,rfl⟩
 have m3:=hM.verify
 have m4:=hM.nverify
 have m5:=hM.isDropped
 have m6:=hM.nisDropped
 have m10:=hM.workOut
 have m11:=hM.nworkOut
 have m7:=hM.ent
 have d0:((w.setCell ⟨p,4,none⟩ (.bool true)).alloc (.cells #[.iface T (.pointer (some ⟨p,0,none⟩))] 94)).cell? ⟨p,0,none⟩=some (.pointer (some ⟨bs,1,none⟩)):=(World.cell?_alloc_past _ _ _ (by simpa using hp)).trans ((World.cell?_setCell_other _ _ _ _ (by simp)).trans c0)
 have d7:((w.setCell ⟨p,4,none⟩ (.bool true)).alloc (.cells #[.iface T (.pointer (some ⟨p,0,none⟩))] 94)).cell? ⟨p,7,none⟩=some (.int .i64 rv):=(World.cell?_alloc_past _ _ _ (by simpa using hp)).trans ((World.cell?_setCell_other _ _ _ _ (by simp)).trans c7)
 have dr:((w.setCell ⟨p,4,none⟩ (.bool true)).alloc (.cells #[.iface T (.pointer (some ⟨p,0,none⟩))] 94)).cell? ⟨bs,1,none⟩=some (.int .i64 rv):=(World.cell?_alloc_past _ _ _ (by simpa using hb)).trans ((World.cell?_setCell_other _ _ _ _ (by simp [hne.symm])).trans hr)
 have d10:((w.setCell ⟨p,4,none⟩ (.bool true)).alloc (.cells #[.iface T (.pointer (some ⟨p,0,none⟩))] 94)).cell? ⟨p,10,none⟩=some (.int .i64 pl):=(World.cell?_alloc_past _ _ _ (by simpa using hp)).trans ((World.cell?_setCell_other _ _ _ _ (by simp)).trans h10)
 clear h10
 clear c0 c4 c7 hf f4 e4 ef4 hbl m1 m2 hr
 go_wp2_with fail
 refine (verify_done p bs rv _ d0 d7 dr).mono ?_
 rintro e w3 ⟨rfl,rfl⟩
 clear d0 d7 dr
 go_wp2_with fail
 refine (dropped_any p pl _ d10).mono ?_
 rintro e w3 ⟨rfl,rfl⟩
 rw [hpl]
 clear d10
 go_wp2_with fail
 have m8:=hM.leave
 have m9:=hM.nleave
 refine HW.mono ?_
 rintro e w4 hq
 have HQ4:=hid hq
 rcases hQ _ _ hq with ⟨rfl,l4,l5,g4,g5,lb⟩ | ⟨T',pv,rfl,⟨l4,l5,g4,g5,lb⟩ | ⟨l4,l5,g4,g5,lb⟩⟩
 · clear hq
   go_wp2_with fail
   refine leaves_cons (f:=117) (args:=#[.pointer (some ⟨w.heap.size,0,none⟩)]) (by simp) (by simp [go_sem]) ?_
   refine (closureIdle T F hM p w.heap.size _ w4 lb l5).mono ?_
   rintro e u' w5 ⟨rfl,rfl,rfl⟩
   refine leaves_cons (f:=224) (args:=#[.pointer (some ⟨p,0,none⟩)]) (by simp [settle]) (by simp [go_sem,m8,m9]) ?_
   refine (leave_deferred p _ _ true false l4 l5 g4 g5).mono ?_
   rintro e u' w6 ⟨rfl,rfl,rfl⟩
   exact ⟨_,results_none rfl _ _ _, .inl ⟨_,HQ4.out,rfl,rfl⟩⟩
 · clear hq
   go_wp2_with fail
   refine leaves_cons (f:=117) (args:=#[.pointer (some ⟨w.heap.size,0,none⟩)]) (by simp) (by simp [go_sem]) ?_
   refine (closureIdle T F hM p w.heap.size _ w4 lb l5).mono ?_
   rintro e u' w5 ⟨rfl,rfl,rfl⟩
   refine leaves_cons (f:=224) (args:=#[.pointer (some ⟨p,0,none⟩)]) (by simp [settle]) (by simp [go_sem,m8,m9]) ?_
   refine (leave_deferred p _ _ true false l4 l5 g4 g5).mono ?_
   rintro e u' w6 ⟨rfl,rfl,rfl⟩
   exact .inr (.inl ⟨_,_,_,HQ4.out,l5,rfl,rfl⟩)
 · have hlo:=HL _ _ _ hq l5
   clear hq
   go_wp2_with fail
   refine leaves_cons (f:=117) (args:=#[.pointer (some ⟨w.heap.size,0,none⟩)]) (by simp) (by simp [go_sem]) ?_
   refine (closureRecovers T F FL hM hL p w.heap.size T' pv [] w4 _ lb l5 hlo).mono ?_
   rintro e u' w5 ⟨rfl,rfl,hs⟩
   have HS5:=hid hs
   obtain ⟨l4,l5,g4,g5⟩:=hS _ hs
   clear hs
   refine leaves_cons (f:=224) (args:=#[.pointer (some ⟨p,0,none⟩)]) (by simp [settle]) (by simp [go_sem,m8,m9]) ?_
   refine (leave_deferred p _ _ true true l4 l5 g4 g5).mono ?_
   rintro e u' w6 ⟨rfl,rfl,rfl⟩
   exact ⟨_,results_none rfl _ _ _, .inr (.inr ⟨_,HS5.out,rfl,rfl⟩)⟩
theorem settleU (T:TypeId) (F:FuncId) (hM:MT T F) (p bs:Nat) (rv:Int) (pl:Int) (hpl:(pl == -1)=false) (w:World) (c0:w.cell? ⟨p,0,none⟩=some (.pointer (some ⟨bs,1,none⟩))) (c4:w.cell? ⟨p,4,none⟩=some (.bool false)) (c7:w.cell? ⟨p,7,none⟩=some (.int .i64 rv)) (hf:w.frozen? ⟨p,4,none⟩=false) (h10:w.cell? ⟨p,10,none⟩=some (.int .i64 pl)) (hr:w.cell? ⟨bs,1,none⟩=some (.int .i64 rv)) (hne:bs≠p) (hp:p < w.heap.size) (hb:bs < w.heap.size) (Q:World→Prop)
 (hQ:∀ w1,Q w1→LV p w.heap.size T false w1)
 (HW:Calls Tryz.prog 118 #[.iface T (.pointer (some ⟨p,0,none⟩))] ((w.setCell ⟨p,4,none⟩ (.bool true)).alloc (.cells #[.iface T (.pointer (some ⟨p,0,none⟩))] 94)) fun e w1=>e = .returned (.tuple #[])∧Q w1) :
 Calls Tryz.prog 87 #[.iface T (.pointer (some ⟨p,0,none⟩)), .bool true] w fun e w'=>e = .returned (.tuple #[])∧∃ w1,Q w1∧w'=(w1.setCell ⟨p,4,none⟩ (.bool false)).setCell ⟨p,5,none⟩ (.bool false):=by
 have f4:=hf
 have m1:=hM.enter
 have m2:=hM.nenter
 have hmf:∀ (fn:Fn) (first cap:Array Value) (w:World),(Instr.makeFunc fn first cap).run Tryz.prog w = .ok (.func fn first cap) w:=fun _ _ _ _=>rfl
 go_enter_defers Tryz.func87,Tryz.ntmps87
 go_wp2_with fail
 have hbl:=below_newK w (.cells #[.iface T (.pointer (some ⟨p,0,none⟩))] 94)
 have e4:(w.alloc (.cells #[.iface T (.pointer (some ⟨p,0,none⟩))] 94)).cell? ⟨p,4,none⟩=some (.bool false):=(World.cell?_of_block (w:=w) (hbl.block p hp)).trans c4
 have ef4:(w.alloc (.cells #[.iface T (.pointer (some ⟨p,0,none⟩))] 94)).frozen? ⟨p,4,none⟩=false:=(World.frozen?_of_block (w:=w) (hbl.block p hp)).trans f4
 refine (enter_any p _ e4 ef4).mono ?_
 rintro e w1 ⟨rfl,rfl⟩
 have m3:=hM.verify
 have m4:=hM.nverify
 have m5:=hM.isDropped
 have m6:=hM.nisDropped
 have m7:=hM.ent
 have d0:((w.setCell ⟨p,4,none⟩ (.bool true)).alloc (.cells #[.iface T (.pointer (some ⟨p,0,none⟩))] 94)).cell? ⟨p,0,none⟩=some (.pointer (some ⟨bs,1,none⟩)):=(World.cell?_alloc_past _ _ _ (by simpa using hp)).trans ((World.cell?_setCell_other _ _ _ _ (by simp)).trans c0)
 have d7:((w.setCell ⟨p,4,none⟩ (.bool true)).alloc (.cells #[.iface T (.pointer (some ⟨p,0,none⟩))] 94)).cell? ⟨p,7,none⟩=some (.int .i64 rv):=(World.cell?_alloc_past _ _ _ (by simpa using hp)).trans ((World.cell?_setCell_other _ _ _ _ (by simp)).trans c7)
 have dr:((w.setCell ⟨p,4,none⟩ (.bool true)).alloc (.cells #[.iface T (.pointer (some ⟨p,0,none⟩))] 94)).cell? ⟨bs,1,none⟩=some (.int .i64 rv):=(World.cell?_alloc_past _ _ _ (by simpa using hb)).trans ((World.cell?_setCell_other _ _ _ _ (by simp [hne.symm])).trans hr)
 have d10:((w.setCell ⟨p,4,none⟩ (.bool true)).alloc (.cells #[.iface T (.pointer (some ⟨p,0,none⟩))] 94)).cell? ⟨p,10,none⟩=some (.int .i64 pl):=(World.cell?_alloc_past _ _ _ (by simpa using hp)).trans ((World.cell?_setCell_other _ _ _ _ (by simp)).trans h10)
 clear h10
 clear c0 c4 c7 hf f4 e4 ef4 hbl m1 m2 hr
 go_wp2_with fail
 refine (verify_done p bs rv _ d0 d7 dr).mono ?_
 rintro e w3 ⟨rfl,rfl⟩
 clear d0 d7 dr
 go_wp2_with fail
 refine (dropped_any p pl _ d10).mono ?_
 rintro e w3 ⟨rfl,rfl⟩
 rw [hpl]
 clear d10
 go_wp2_with fail
 have m8:=hM.leave
 have m9:=hM.nleave
 refine HW.mono ?_
 rintro e w4 ⟨rfl,hq⟩
 have HQ4:=hid hq
 obtain ⟨l4,l5,g4,g5,lb⟩:=hQ _ hq
 clear hq
 go_wp2_with fail
 refine leaves_cons (f:=117) (args:=#[.pointer (some ⟨w.heap.size,0,none⟩)]) (by simp) (by simp [go_sem]) ?_
 refine (closureIdle T F hM p w.heap.size _ w4 lb l5).mono ?_
 rintro e u' w5 ⟨rfl,rfl,rfl⟩
 refine leaves_cons (f:=224) (args:=#[.pointer (some ⟨p,0,none⟩)]) (by simp [settle]) (by simp [go_sem,m8,m9]) ?_
 refine (leave_deferred p _ _ true false l4 l5 g4 g5).mono ?_
 rintro e u' w6 ⟨rfl,rfl,rfl⟩
 exact ⟨_,results_none rfl _ _ _,rfl,_,HQ4.out,rfl⟩
theorem settleA (T:TypeId) (F:FuncId) (hM:MT T F) (p:Nat) (z:Int) (fl nm:ByteArray) (b:Bool) (w:World) (c1:w.cell? ⟨p,1,none⟩=some (.int .i64 z)) (c2:w.cell? ⟨p,2,none⟩=some (.string fl)) (c3:w.cell? ⟨p,3,none⟩=some (.string nm)) (c4:w.cell? ⟨p,4,none⟩=some (.bool true)) (c5:w.cell? ⟨p,5,none⟩=some (.bool b)) (g5:w.frozen? ⟨p,5,none⟩=false) (hp:p < w.heap.size) :
 Calls Tryz.prog 87 #[.iface T (.pointer (some ⟨p,0,none⟩)), .bool true] w fun e w'=>e = .panicked [{ v := .iface 307 (.agg #[.int .i64 z, .string fl, .string nm]),recovered:=false }]∧w'=(w.setCell ⟨p,5,none⟩ (.bool true)).alloc (.cells #[.iface T (.pointer (some ⟨p,0,none⟩))] 94):=by
 have m1:=hM.enter
 have m2:=hM.nenter
 have hbl:=below_newK w (.cells #[.iface T (.pointer (some ⟨p,0,none⟩))] 94)
 have e1:=cell_kept hbl c1
 have e2:=cell_kept hbl c2
 have e3:=cell_kept hbl c3
 have e4:=cell_kept hbl c4
 have e5:=cell_kept hbl c5
 have ef5:(w.alloc (.cells #[.iface T (.pointer (some ⟨p,0,none⟩))] 94)).frozen? ⟨p,5,none⟩=false:=(World.frozen?_of_block (w:=w) (hbl.block p hp)).trans g5
 clear c1 c2 c3 c4 c5 g5 hbl
 go_enter_defers Tryz.func87,Tryz.ntmps87
 go_wp2_with fail
 refine (enterPanics p z fl nm b _ e1 e2 e3 e4 e5 ef5).mono ?_
 rintro e w1 ⟨rfl,rfl⟩
 go_wp2_with fail
 exact ⟨rfl,rfl⟩
theorem answerS {st:St V} {L:Lay} {lp:Option K} {bs:Nat} {fm:Value} {w:World} (h:ENG st L lp bs fm w) {k:K} {m:Memo V} (hk:st.sl k=some m) (h2:k.kind≠2) (h3:k.kind≠3) (h4:k.kind≠4) (hlen:st.kept.length < BIG) (hnk:k ∉ st.kept) (v:V) (x:ByteArray) (la:Option Addr) (ln lc:Nat)
 (hval:ValC L.own w k.kind (some v) [.string x]) :
 Calls Tryz.prog 228 #[ptr (L.bk k), .string x, .slice la ln lc] w (AnsPost st L lp bs fm k v w):=by
 obtain ⟨q,sm,bg,kv,arr,h⟩:=h
 have hc:=h.cell k m hk
 obtain ⟨x0,vs,sb,hval0⟩:=hc.ex
 have hsh:=valC_shape hval0
 obtain ⟨y,hvs⟩:∃ y,vs = [.string y]:=by simpa [ValC,h2,h3,h4] using hsh
 have hTB:TB k=175:=by simp [TB,h2,h3,h4]
 have hTI:TI k=165:=by simp [TI,h2,h3,h4]
 obtain ⟨rs,hrs⟩:∃ rs,rs=workF k.kind:=⟨_,rfl⟩
 have hru:ruleC bs k.kind = [.func (.func rs) #[ptr bs] #[], .func (.func 89) #[] #[], .string (if k.kind=7 then cyc_ else nob)]:=by simp [ruleC,h2,h3,h4,hrs]
 subst hvs
 have hform:∀ (m':Memo V) (x:Aux) (vs:List Value),slotC bs k m' (decide (lp=some k)) x (plc arr k) vs = .pointer (some ⟨bs,1,none⟩) :: .int .i64 k.kind :: .string k.file :: .string k.name :: .bool m'.act :: .bool (decide (lp=some k)) :: .slice x.la x.ln x.lc :: verV m'.ver :: .int .i64 x.ch :: .bool x.fk :: .int .i64 (plc arr k) :: .int .u64 m'.used :: .func (.func rs) #[ptr bs] #[] :: .func (.func 89) #[] #[] :: .string (if k.kind=7 then cyc_ else nob) :: vs:=fun m' x vs=>by simp [slotC,hru]
 rw [hform,hTB] at sb
 have c1:w.cell? ⟨bs,1,none⟩=some (.int .i64 st.rev):=heap_cell (i:=1) h.s
 have d0:=sb.cell (i:=0) rfl
 have d6:=sb.cell (i:=6) rfl
 have d7:=sb.cell (i:=7) rfl
 have d8:=sb.cell (i:=8) rfl
 have d9:=sb.cell (i:=9) rfl
 have d10:=sb.cell (i:=10) rfl
 have d15:=sb.cell (i:=15) rfl
 have g6:=sb.fr 6
 have g7:=sb.fr 7
 have g8:=sb.fr 8
 have g9:=sb.fr 9
 have g15:=sb.fr 15
 have FIN:∀ (w0 W:World),Below w.heap.size w w0→One (L.bk k) w0 W→SB W (L.bk k) 175 [.pointer (some ⟨bs,1,none⟩), .int .i64 k.kind, .string k.file, .string k.name, .bool m.act, .bool (decide (lp=some k)), .slice la ln lc, .int .i64 st.rev, .int .i64 st.rev, .bool false, .int .i64 (plc arr k), .int .u64 m.used, .func (.func rs) #[ptr bs] #[], .func (.func 89) #[] #[], .string (if k.kind=7 then cyc_ else nob), .string x]→Calls Tryz.prog 118 #[.iface 165 (ptr (L.bk k))] W (AnsPost st L lp bs fm k v w):=fun w0 W hb ho hsb=>by
  have:=h.ansUse hk hlen hnk (v:=v) (x:=⟨la,ln,lc,st.rev,false⟩) (vs:=[.string x]) hb ho (by
   rw [hTB,hform]
   simpa [ansM,verV] using hsb) hval
  rwa [slotV,hTI] at this
 have FIN:=hid FIN
 have hin:k ∉ arr:=fun e=>hnk (h.perm.mem_iff.1 e)
 have hpl:plc arr k = -1:=by simp [plc,hin]
 have hlt:=heap_lt sb
 have hlb:=heap_lt h.s
 have hbp:bs≠L.bk k:=fun e=>by
  have:=h.s;rw [e,sb] at this;injection this with this;injection this with _ this;exact absurd this (by decide)
 generalize L.bk k=p at *
 have HS:=hid sb
 rw [hpl] at d10 HS FIN
 clear h hc hval hval0 hsh hform hpl hin sb hk hTB hTI hru hrs hnk hlen
 go_enter Tryz.func228,Tryz.ntmps228
 go_wp2_with fail
 go_quiet ((go_at_call 222;refine Calls.quiet_of_same (dropT p _ d10)))
 go_wp2_with fail
 refine (FIN.out _ _ (below_drewN w nq) ((((((One.setCell _ p 8 _).trans (One.setCell _ p 15 _)).trans (One.setCell _ p 6 _)).trans (One.setCell _ p 7 _)).trans (One.setCell _ p 9 _))) ((((((show SB (w.drewN nq) p _ _ from HS.out).set 8 _).set 15 _).set 6 _).set 7 _).set 9 _)).mono ?_
 rintro e w1 ⟨rfl,hp⟩
 have HP:=hid hp
 clear hp
 go_wp2
 go_end0
 exact ⟨rfl,HP.out⟩
theorem put_self {st:St V} {k:K} {m:Memo V} (hk:st.sl k=some m):st.put k m=st:=by
 have:(fun j=>if j=k then some m else st.sl j)=st.sl:=by
  funext j
  by_cases hj:j=k
  · subst hj;simp [hk]
  · simp [hj]
 unfold St.put
 rw [this]
theorem ENGx.aux {st:St V} {L:Lay} {lp lp':Option K} {bs:Nat} {fm q sm bg kv:Value} {arr:List K} {w:World} (h:ENGx st L lp bs fm q sm bg kv arr w) {k:K} {m m':Memo V} (hk:st.sl k=some m) (i:Nat) (v:Value)
 (hc:∀ x pl vs,∃ x',(slotC bs k m (decide (lp=some k)) x pl vs).set i v=slotC bs k m' (decide (lp'=some k)) x' pl vs) (hv:m'.val=m.val) (hu:m'.used=m.used) (hlp:∀ j,j≠k→(decide (lp'=some j)=decide (lp=some j))):ENGx (st.put k m') L lp' bs fm q sm bg kv arr (w.setCell ⟨L.bk k,i,none⟩ v):=by
 have hc0:=h.cell k m hk
 obtain ⟨x,vs,a,c⟩:=hc0.ex
 obtain ⟨x',hx⟩:=hc x (plc arr k) vs
 refine ⟨h.slot hk (fun b hb=>heap_setCell_ne hb v) (by simp) ⟨x',vs,?_,by rw [hv];exact c⟩ hlp,by rw [used_put hk hu];exact h.heap⟩
 rw [←hx]
 have:=heap_setCell_lit (i:=i) a v
 simpa [SB] using this
theorem ENG.fick {st:St V} {L:Lay} {lp:Option K} {bs:Nat} {fm:Value} {w:World} (h:ENG st L lp bs fm w) {k:K} (hk:st.sl k≠none):ENG st L lp bs fm (w.setCell ⟨L.bk k,9,none⟩ (.bool true))∧FR L.own w (w.setCell ⟨L.bk k,9,none⟩ (.bool true)):=by
 obtain ⟨q,sm,bg,kv,arr,h⟩:=h
 obtain ⟨m,hm⟩:=Option.ne_none_iff_exists'.1 hk
 have:=h.aux (m':=m) (lp':=lp) hm 9 (.bool true) (fun x pl vs=>⟨{ x with fk:=true },rfl⟩) rfl rfl fun _ _=>rfl
 rw [put_self hm] at this
 exact ⟨⟨q,sm,bg,kv,arr,this⟩,(FR.refl _ _).setCell _ (.inl (h.cell k m hm).own) _⟩
theorem ENG.sl {st:St V} {L:Lay} {lp:Option K} {bs:Nat} {fm:Value} {w:World} (h:ENG st L lp bs fm w) {k:K} {m:Memo V} (hk:st.sl k=some m):∃ x pl vs,SB w (L.bk k) (TB k) (slotC bs k m (decide (lp=some k)) x pl vs)∧ValC L.own w k.kind m.val vs∧L.own (L.bk k)∧(k ∉ st.kept→pl = -1)∧(k∈st.kept→(pl == -1)=false):=by
 obtain ⟨q,sm,bg,kv,arr,h⟩:=h
 have hc:=h.cell k m hk
 obtain ⟨x,vs,a,b⟩:=hc.ex
 refine ⟨x,_,vs,a,b,hc.own,fun e => ?_,fun e => ?_⟩
 · have:k ∉ arr:=fun e'=>e (h.perm.mem_iff.1 e')
   simp [plc,this]
 · have:k∈arr:=h.perm.mem_iff.2 e
   rw [plc_mem this,beq_eq_false_iff_ne]
   omega
theorem sl_answer {st st':St V} {k:K} {v:V} (h:answer st k v=some st'):st'.sl k≠none:=by
 unfold answer at h
 split at h
 · cases h
 · split at h
   · cases h
     simp [St.use,St.put]
   · cases h
theorem Next.lift {st st':St V} {L L':Lay} {w wx w':World} (hb:Below w.heap.size w wx) (h:Next st st' L L' wx w'):Next st st' L L' w w' :=
 ⟨h.bk,h.sb,fun b hb2=>(h.own b hb2).imp id fun x=>Nat.le_trans hb.size x,(FR.of_below hb).trans h.fr fun i hi => .inl hi⟩
theorem Next.then {st st':St V} {L L':Lay} {w w1 w2:World} (h:Next st st' L L' w w1) (hf:FR L'.own w1 w2):Next st st' L L' w w2 :=
 ⟨h.bk,h.sb,h.own,h.fr.trans hf fun i hi=>h.own i hi⟩
theorem ENG.below {st:St V} {L:Lay} {lp:Option K} {bs:Nat} {fm:Value} {w w':World} (h:ENG st L lp bs fm w) (hb:Below w.heap.size w w'):ENG st L lp bs fm w':=by
 obtain ⟨q,sm,bg,kv,arr,h⟩:=h
 exact ⟨q,sm,bg,kv,arr,h.below hb⟩
theorem loopOutS {st st':St V} {L:Lay} {lp:Option K} {bs:Nat} {fm:Value} {w:World} (h:ENG st L lp bs fm w) {k:K} (h7:k.kind=7) (ha:answer st k (.s cyc_)=some st') :
 Calls Tryz.prog 225 #[ptr (L.bk k)] w fun e w'=>e = .returned (.tuple #[])∧∃ L',ENG st' L' lp bs fm w'∧Next st st' L L' w w':=by
 obtain ⟨m,hk,hl,hnk⟩:∃ m,st.sl k=some m∧st.kept.length < BIG∧k ∉ st.kept:=by
  unfold answer at ha
  split at ha
  · cases ha
  · split at ha
    · rename_i m hm hc
      exact ⟨m,hm,hc.1,hc.2⟩
    · cases ha
 obtain ⟨x,pl,vs,sb,_⟩:=h.sl hk
 have d14:w.cell? ⟨L.bk k,14,none⟩=some (.string cyc_):=sb.cell (i:=14) (by simp [slotC,ruleC,h7])
 have HAN:Hid (∀ wx,Below w.heap.size w wx→Calls Tryz.prog 228 #[ptr (L.bk k), .string cyc_, .slice none 0 0] wx fun e w'=>e = .returned (.tuple #[])∧(w'.frozen? ⟨L.bk k,9,none⟩=false∧∃ y,w'.cell? ⟨L.bk k,9,none⟩=some (.bool y))∧∃ L',ENG st' L' lp bs fm (w'.setCell ⟨L.bk k,9,none⟩ (.bool true))∧Next st st' L L' w (w'.setCell ⟨L.bk k,9,none⟩ (.bool true))):=hid fun wx hb=>by
  have hx:=h.below hb
  refine (answerS hx hk (by omega) (by omega) (by omega) hl hnk (.s cyc_) cyc_ none 0 0 ⟨by omega,by omega,by omega,rfl⟩).mono ?_
  rintro e w' ⟨he,st2,L',ha2,hE,hN⟩
  rw [ha] at ha2
  cases ha2
  have hbk:=(hN.bk k (by rw [hk];simp)).2
  have hne:=sl_answer ha
  obtain ⟨m2,hm2⟩:=Option.ne_none_iff_exists'.1 hne
  obtain ⟨x2,pl2,vs2,sb2,_⟩:=hE.sl hm2
  rw [hbk] at sb2
  have hf:=hE.fick hne
  rw [hbk] at hf
  exact ⟨he,⟨sb2.fr 9,_,sb2.cell (i:=9) rfl⟩,L',hf.1,(hN.then hf.2).lift hb⟩
 clear h ha hk hl hnk sb
 go_enter Tryz.func225,Tryz.ntmps225
 go_wp2_with fail
 refine (HAN.out w (Below.refl _ _)).mono ?_
 rintro e w1 ⟨rfl,⟨g9,y,d9⟩,hR⟩
 have HR:=hid hR
 clear hR HAN
 go_wp2
 go_end0
 exact ⟨rfl,HR.out⟩
end Go.Proofs.YthibodlojlkppaaGreatDoor
namespace Go.Proofs.YthibodlojlkppaaGreatDoor
variable [DecidableEq K] [LawfulBEq Lk]
section
variable {V:Type}
theorem ded_len (acc l:List Lk):acc.length≤(ded acc l).length∧(ded acc l).length≤acc.length+l.length:=by
 induction l generalizing acc with
 | nil=>simp [ded]
 | cons y l ih =>
  cases y with
  | inl f =>
   have:=ih (acc ++ [.src f])
   simp [ded] at this ⊢;omega
  | inr k =>
   rw [ded]
   split
   · have:=ih acc;simp at this ⊢;omega
   · have:=ih (acc ++ [.slot k]);simp at this ⊢;omega
theorem countP_le {α:Type} {p q:α→Bool}:∀ (l:List α),(∀ x∈l,p x=true→q x=true)→l.countP p≤l.countP q
 | [],_=>by simp
 | x :: l,h=>by
  have ih:=countP_le l fun y hy=>h y (List.mem_cons_of_mem _ hy)
  have hx:=h x (by simp)
  rw [List.countP_cons,List.countP_cons]
  cases hp:p x with
  | false=>simp;split <;> omega
  | true=>simp [hx hp];exact ih
theorem countP_lt {α:Type} {p q:α→Bool}:∀ (l:List α),(∀ x∈l,p x=true→q x=true)→∀ k∈l,p k=false→q k=true→l.countP p < l.countP q
 | [],_,k,hk,_,_=>by simp at hk
 | x :: l,h,k,hk,h1,h2=>by
  rw [List.countP_cons,List.countP_cons]
  rcases List.mem_cons.1 hk with rfl | hk
  · have ih:=countP_le l fun y hy=>h y (List.mem_cons_of_mem _ hy)
    simp [h1,h2];omega
  · have ih:=countP_lt l (fun y hy=>h y (List.mem_cons_of_mem _ hy)) k hk h1 h2
    have hx:=h x (by simp)
    cases hp:p x with
    | false=>simp;split <;> omega
    | true=>simp [hx hp];exact ih
def rk (k:K):Nat:=if k.kind=1 then 0 else if k.kind=2 then 0 else if k.kind=3 then 1 else if k.kind=4 then 2 else if k.kind=5 then 3 else if k.kind=6 then 4 else if k.kind=7 then 5 else 6
theorem rk7 {k:K}:rk k=5↔k.kind=7:=by
 unfold rk
 repeat' split
 all_goals omega
theorem Reach.snoc {F:ByteArray→Option ByteArray} {a:K→V} {wp:K→Prog V} {k j:K} (h:Reach F a wp k j) {c:K} (hj:Lk.slot c∈qs F a (wp j)):Reach F a wp k c :=
 Reach.ind (P:=fun k j=>Lk.slot c∈qs F a (wp j)→Reach F a wp k c) (fun k hj => .step hj (.here _)) (fun k j c h1 _ ih hj => .step h1 (ih hj)) h hj
end
section
variable {V:Type}
def actK (st:St V) (k:K):Prop:=∃ m,st.sl k=some m∧m.act=true
theorem act_put {st:St V} {j k:K} {m:Memo V} (h:actK st k) (hm:k=j→m.act=true):actK (st.put j m) k:=by
 obtain ⟨n,h1,h2⟩:=h
 by_cases hj:k=j
 · exact ⟨m,by simp [St.put,hj],hm hj⟩
 · exact ⟨n,by simp [St.put,hj,h1],h2⟩
theorem act_find {st:St V} {j k:K} (h:actK st k):actK (st.find j) k:=by
 unfold St.find
 split
 · exact h
 · rename_i hn
   refine act_put h fun e => ?_
   obtain ⟨n,h1,_⟩:=h
   rw [e,hn] at h1;cases h1
theorem act_source {st:St V} {f:ByteArray} {k:K} (h:actK st k):actK (st.source f) k:=by
 unfold St.source
 split
 · exact h
 · exact h
theorem act_use {st:St V} {j k:K} (h:actK st k):actK (st.use j) k:=by
 unfold St.use
 split
 · exact h
 · rename_i m hm
   have:actK (st.put j { m with used:=(st.uses+1) % W64 }) k:=act_put h fun e=>by
    obtain ⟨n,h1,h2⟩:=h
    rw [e,hm] at h1;cases h1;exact h2
   exact this
theorem act_answer {st st':St V} {j k:K} {v:V} (ha:answer st j v=some st') (h:actK st k):actK st' k:=by
 unfold answer at ha
 split at ha
 · cases ha
 · rename_i m hm
   split at ha
   · cases ha
     refine act_use (act_put h fun e => ?_)
     obtain ⟨n,h1,h2⟩:=h
     rw [e,hm] at h1;cases h1;exact h2
   · cases ha
structure KeepsAct (E:Eng V):Prop where
 act:∀ j st out st',E j st=some (out,st')→∀ k,actK st k→actK st' k
 cyc:∀ j st c st',E j st=some (.cyc c,st')→c.kind=7∧j.kind=7
 fil:∀ j st out st',E j st=some (out,st')→st'.files=st.files
theorem fil_find (st:St V) (k:K):(st.find k).files=st.files:=by unfold St.find;split <;> rfl
theorem fil_source (st:St V) (f:ByteArray):(st.source f).files=st.files:=by unfold St.source;split <;> rfl
theorem fil_use (st:St V) (k:K):(st.use k).files=st.files:=by unfold St.use;split <;> rfl
theorem fil_leave (st:St V) (k:K):(st.leave k).files=st.files:=by unfold St.leave;split <;> rfl
theorem fil_answer {st st':St V} {k:K} {v:V} (h:answer st k v=some st'):st'.files=st.files:=by
 unfold answer at h
 split at h
 · cases h
 · split at h
   · cases h;rw [fil_use];rfl
   · cases h
theorem fetC_sz {E:Eng V} {nc:Bool} {j:K} {lk:List Lk} {st:St V} {r:Out (V × List Lk) × St V} (h:fetC E nc j lk st=some r):j.file.size≤BIG∧j.name.size≤BIG:=by
 unfold fetC at h
 split at h
 · cases h
 · omega
theorem fetC_fil {E:Eng V} (hE:∀ j st out st',E j st=some (out,st')→st'.files=st.files) {nc:Bool} {j:K} {lk:List Lk} {st:St V} {out:Out (V × List Lk)} {st':St V} (h:fetC E nc j lk st=some (out,st')):st'.files=st.files:=by
 unfold fetC at h
 split at h
 · cases h
 split at h
 · obtain ⟨v,_,e⟩:=Option.map_eq_some_iff.1 h
   cases e
   exact fil_find _ _
 · split at h
   · rename_i st2 he
     split at h
     · obtain ⟨v,_,e⟩:=Option.map_eq_some_iff.1 h
       cases e
       exact (hE _ _ _ _ he).trans (fil_find _ _)
     · cases h
   · rename_i c st2 he
     split at h
     · cases h
     · cases h
       exact (hE _ _ _ _ he).trans (fil_find _ _)
   · cases h
theorem run_fil {E:Eng V} (hE:∀ j st out st',E j st=some (out,st')→st'.files=st.files) {nc:Bool}:∀ (p:Prog V) (lk:List Lk) (st:St V) (out:Out (V × List Lk)) (st':St V),run E nc p lk st=some (out,st')→st'.files=st.files
 | ⟨.inl v,_⟩,lk,st,out,st',h=>by cases h;rfl
 | ⟨.inr (.inl _),_⟩,lk,st,out,st',h=>by cases h
 | ⟨.inr (.inr (.inl f)),c⟩,lk,st,out,st',h=>by
  simp only [run] at h
  split at h
  · exact (run_fil hE _ _ _ _ _ h).trans (fil_source _ _)
  · cases h
 | ⟨.inr (.inr (.inr j)),c⟩,lk,st,out,st',h=>by
  simp only [run] at h
  split at h
  · rename_i v lk' st2 he
    exact (run_fil hE _ _ _ _ _ h).trans (fetC_fil hE he)
  · rename_i c' st2 he
    cases h
    exact fetC_fil hE he
  · cases h
theorem workOut_fil {wp:K→Prog V} {E:Eng V} (hE:∀ j st out st',E j st=some (out,st')→st'.files=st.files) {j:K} {st st':St V} {out:Out Unit} (h:workOut wp E j st=some (out,st')):st'.files=st.files:=by
 unfold workOut at h
 split at h
 · split at h
   · rename_i v lk st2 he
     obtain ⟨s,hs,e⟩:=Option.map_eq_some_iff.1 h
     cases e
     exact (fil_answer hs).trans ((run_fil hE _ _ _ _ _ he).trans rfl)
   · rename_i c st2 he
     cases h
     exact (run_fil hE _ _ _ _ _ he).trans rfl
   · cases h
 · cases h
theorem inner_fil {wp:K→Prog V} {E:Eng V} (hE:∀ j st out st',E j st=some (out,st')→st'.files=st.files) {j:K} {st st':St V} {out:Out Unit} (h:inner wp E j st=some (out,st')):st'.files=st.files:=by
 unfold inner at h
 split at h
 · cases h
 · split at h
   · split at h
     · cases h
       exact fil_use _ _
     · exact workOut_fil hE h
   · split at h
     · exact workOut_fil hE h
     · cases h
theorem settleM_fil {wp:K→Prog V} {lp:V} {E:Eng V} (hE:∀ j st out st',E j st=some (out,st')→st'.files=st.files):∀ j st out st',settleM wp lp E j st=some (out,st')→st'.files=st.files:=by
 intro j st out st' h
 unfold settleM at h
 split at h
 · cases h
 · rename_i m hm
   split at h
   · split at h
     · cases h
     · cases h;rfl
   · split at h
     · cases h
     · rename_i st2 he
       cases h
       exact (fil_leave _ _).trans ((inner_fil hE he).trans rfl)
     · rename_i c st2 he
       split at h
       · obtain ⟨s,hs,e⟩:=Option.map_eq_some_iff.1 h
         cases e
         exact (fil_leave _ _).trans ((fil_answer hs).trans ((inner_fil hE he).trans rfl))
       · split at h
         · cases h
         · cases h
           exact (fil_leave _ _).trans ((inner_fil hE he).trans rfl)
theorem fetC_act {E:Eng V} (hE:KeepsAct E) {nc:Bool} {j:K} {lk:List Lk} {st:St V} {out:Out (V × List Lk)} {st':St V} (h:fetC E nc j lk st=some (out,st')) {k:K} (hk:actK st k):actK st' k∧∀ c,out = .cyc c→c.kind=7∧nc=false:=by
 unfold fetC at h
 split at h
 · cases h
 split at h
 · obtain ⟨v,_,e⟩:=Option.map_eq_some_iff.1 h
   cases e
   exact ⟨act_find hk,fun c e=>by cases e⟩
 · split at h
   · rename_i st2 he
     split at h
     · obtain ⟨v,_,e⟩:=Option.map_eq_some_iff.1 h
       cases e
       exact ⟨hE.act _ _ _ _ he k (act_find hk),fun c e=>by cases e⟩
     · cases h
   · rename_i c st2 he
     split at h
     · cases h
     · rename_i hh
       cases h
       refine ⟨hE.act _ _ _ _ he k (act_find hk),fun c' e => ?_⟩
       cases e
       exact ⟨(hE.cyc _ _ _ _ he).1,by cases nc <;> simp_all⟩
   · cases h
theorem run_act {E:Eng V} (hE:KeepsAct E) {nc:Bool} {k:K}:∀ (p:Prog V) (lk:List Lk) (st:St V) (out:Out (V × List Lk)) (st':St V),run E nc p lk st=some (out,st')→actK st k→actK st' k∧∀ c,out = .cyc c→c.kind=7∧nc=false
 | ⟨.inl v,_⟩,lk,st,out,st',h,hk=>by
  cases h;exact ⟨hk,fun c e=>by cases e⟩
 | ⟨.inr (.inl _),_⟩,lk,st,out,st',h,hk=>by cases h
 | ⟨.inr (.inr (.inl f)),c⟩,lk,st,out,st',h,hk=>by
  simp only [run] at h
  split at h
  · exact run_act hE _ _ _ _ _ h (act_source hk)
  · cases h
 | ⟨.inr (.inr (.inr j)),c⟩,lk,st,out,st',h,hk=>by
  simp only [run] at h
  split at h
  · rename_i v lk' st2 he
    exact run_act hE _ _ _ _ _ h (fetC_act hE he hk).1
  · rename_i c' st2 he
    cases h
    have:=fetC_act hE he hk
    exact ⟨this.1,fun c e=>by cases e;exact this.2 _ rfl⟩
  · cases h
theorem workOut_act {wp:K→Prog V} {E:Eng V} (hE:KeepsAct E) {j k:K} {st st':St V} {out:Out Unit} (h:workOut wp E j st=some (out,st')) (hk:actK st k):actK st' k∧∀ c,out = .cyc c→c.kind=7∧j.kind=7:=by
 unfold workOut at h
 split at h
 · split at h
   · rename_i v lk st2 he
     obtain ⟨s,hs,e⟩:=Option.map_eq_some_iff.1 h
     cases e
     exact ⟨act_answer hs (run_act hE _ _ _ _ _ he hk).1,fun c e=>by cases e⟩
   · rename_i c st2 he
     cases h
     have:=run_act (k:=k) hE _ _ _ _ _ he hk
     refine ⟨this.1,fun c e => ?_⟩
     cases e
     obtain ⟨h1,h2⟩:=this.2 _ rfl
     exact ⟨h1,by simpa using h2⟩
   · cases h
 · cases h
theorem inner_act {wp:K→Prog V} {E:Eng V} (hE:KeepsAct E) {j k:K} {st st':St V} {out:Out Unit} (h:inner wp E j st=some (out,st')) (hk:actK st k):actK st' k∧∀ c,out = .cyc c→c.kind=7∧j.kind=7:=by
 unfold inner at h
 split at h
 · cases h
 · split at h
   · split at h
     · cases h
       exact ⟨act_use hk,fun c e=>by cases e⟩
     · exact workOut_act hE h hk
   · split at h
     · exact workOut_act hE h hk
     · cases h
theorem act_leave {st:St V} {j k:K} (h:actK st k) (hjk:k≠j):actK (st.leave j) k:=by
 unfold St.leave
 split
 · exact h
 · exact act_put h fun e=>absurd e hjk
theorem settleM_act {wp:K→Prog V} {lp:V} {E:Eng V} (hE:KeepsAct E):KeepsAct (settleM wp lp E):=by
 have key:∀ j st out st',settleM wp lp E j st=some (out,st')→(∀ k,actK st k→actK st' k)∧∀ c,out = .cyc c→c.kind=7∧j.kind=7:=by
  intro j st out st' h
  unfold settleM at h
  split at h
  · cases h
  · rename_i m hm
    split at h
    · split at h
      · cases h
      · rename_i h7
        cases h
        simp at h7
        exact ⟨fun k hk=>hk,fun c e=>by cases e;exact ⟨h7,h7⟩⟩
    · rename_i ha
      have hne:∀ k,actK st k→k≠j:=fun k hk e=>by
       obtain ⟨n,h1,h2⟩:=hk
       rw [e,hm] at h1;cases h1;exact ha h2
      have hjj:actK (st.put j { m with act:=true }) j:=⟨_,by simp [St.put];rfl,rfl⟩
      split at h
      · cases h
      · rename_i st2 he
        cases h
        exact ⟨fun k hk=>act_leave (inner_act hE he (act_put hk fun e=>rfl)).1 (hne k hk),fun c e=>by cases e⟩
      · rename_i c st2 he
        have hc:=(inner_act hE he hjj).2 c rfl
        split at h
        · obtain ⟨s,hs,e⟩:=Option.map_eq_some_iff.1 h
          cases e
          exact ⟨fun k hk=>act_leave (act_answer hs (inner_act hE he (act_put hk fun e=>rfl)).1) (hne k hk),fun c e=>by cases e⟩
        · split at h
          · cases h
          · cases h
            exact ⟨fun k hk=>act_leave (inner_act hE he (act_put hk fun e=>rfl)).1 (hne k hk),fun c e=>by cases e;exact hc⟩
 exact ⟨fun j st out st' h=>(key j st out st' h).1,fun j st c st' h=>(key j st _ st' h).2 c rfl,settleM_fil hE.fil⟩
theorem engM_act {wp:K→Prog V} {lp:V}:∀ n,KeepsAct (engM wp lp n)
 | 0=>⟨fun _ _ _ _ h=>(by cases h),fun _ _ _ _ h=>(by cases h),fun _ _ _ _ h=>(by cases h)⟩
 | n+1=>settleM_act (engM_act n)
end
end Go.Proofs.YthibodlojlkppaaGreatDoor
