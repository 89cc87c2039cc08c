/-
  find: a new slot, the first of all. find: a new slot. find: a slot that is there. find, of four types. enter and leave; a slot that is come back to.
-/
import Derived.Test.YthibodlojlkppaaGreatDoorB11
import Derived.Test.YthibodlojlkppaaGreatDoorB12
import Derived.Test.YthibodlojlkppaaGreatDoorB13
import Derived.WalkLawsBesides
import Derived.Recover
set_option linter.unusedVariables false
set_option linter.unusedSectionVars false
set_option linter.unusedSimpArgs false
set_option maxRecDepth 100000
set_option maxHeartbeats 40000000

namespace Go.Proofs.YthibodlojlkppaaGreatDoor
open Go.RowKit
variable [DecidableEq K] [LawfulBEq Lk]
theorem findNilR {f q bg kv:Value} {rv us:Int} (bs F G:Nat) (z:Int) (fl nm:ByteArray)  (w:World) (hfl:Hid (fl.size≤BIG)) (hnm:Hid (nm.size≤BIG)) (hlk:∀ w,(Instr.lookup 58 (.map none) (.agg #[.int .i64 z, .string fl, .string nm]) false).run Tryz.prog w = .ok .nilIface w) (hpt:∀ (ms:Nat) (v:Value) (w:World),w.heap[ms]? = some (.map #[] 0)→(Instr.mapUpdate 58 (.map (some ms)) (.agg #[.int .i64 z, .string fl, .string nm]) v).run Tryz.prog w = .ok () (Ses.setO w ms (.map (#[].push { key := .agg #[.int .i64 z, .string fl, .string nm],val:=v,born:=0 }) (0+1)))) (h3:w.heap[bs]? = some (.cells #[f, .int .i64 rv,q, .map none,bg,kv, .int .u64 us] 66)) :
 Calls Tryz.prog 96 #[.pointer (some ⟨bs,1,none⟩), .agg #[.int .i64 z, .string fl, .string nm], .agg #[.func (.func F) #[.pointer (some ⟨bs,0,none⟩)] #[], .func (.func G) #[] #[], .slice none 0 0, .int .i64 0]] w fun e w' => ∃ p ms,e = .returned (.pointer (some ⟨p,0,none⟩))∧w.heap.size≤ms∧FN w w' bs p ms 0 #[] 187 184 f rv q bg kv us [.pointer (some ⟨bs,1,none⟩), .int .i64 z, .string fl, .string nm, .bool false, .bool false, .slice none 0 0, .int .i64 (-1), .int .i64 0, .bool false, .int .i64 (-1), .int .u64 0, .func (.func F) #[.pointer (some ⟨bs,0,none⟩)] #[], .func (.func G) #[] #[], .slice none 0 0, .int .i64 0, .slice none 0 0, .int .i64 0] (.agg #[.int .i64 z, .string fl, .string nm]):=by
 have m1:=hlk
 have m2:=fun (w:World) (xT:TypeId)=>(by kernel_rfl:(Instr.typeAssert .nilIface xT 184 true).run Tryz.prog w = .ok (.tuple #[.pointer none, .bool false]) w)
 have hA:=new_heap w (.cells #[.int .i64 z, .string fl, .string nm] 99)
 have hA2:=old_heap (.cells #[.func (.func F) #[.pointer (some ⟨bs,0,none⟩)] #[], .func (.func G) #[] #[], .slice none 0 0, .int .i64 0] 142) hA
 have hR:=new_heap (w.alloc (.cells #[.int .i64 z, .string fl, .string nm] 99)) (.cells #[.func (.func F) #[.pointer (some ⟨bs,0,none⟩)] #[], .func (.func G) #[] #[], .slice none 0 0, .int .i64 0] 142)
 rw [show (w.alloc (.cells #[.int .i64 z, .string fl, .string nm] 99)).heap.size=w.heap.size+1 from by simp] at hR
 have hS:=old_heap (.cells #[.func (.func F) #[.pointer (some ⟨bs,0,none⟩)] #[], .func (.func G) #[] #[], .slice none 0 0, .int .i64 0] 142) (old_heap (.cells #[.int .i64 z, .string fl, .string nm] 99) h3)
 have HBL:=hid (((Below.refl w.heap.size w).alloc (Nat.le_refl _) (.cells #[.int .i64 z, .string fl, .string nm] 99)).alloc (by simp) (.cells #[.func (.func F) #[.pointer (some ⟨bs,0,none⟩)] #[], .func (.func G) #[] #[], .slice none 0 0, .int .i64 0] 142))
 clear hA
 go_enter Tryz.func96,Tryz.ntmps96
 go_wp2_with fail
 generalize (w.alloc (.cells #[.int .i64 z, .string fl, .string nm] 99)).alloc (.cells #[.func (.func F) #[.pointer (some ⟨bs,0,none⟩)] #[], .func (.func G) #[] #[], .slice none 0 0, .int .i64 0] 142)=W at hA2 hR hS HBL ⊢
 generalize hkb:w.heap.size=kb at hA2 hR ⊢
 have k0:W.cell? ⟨kb,0,none⟩=some (.int .i64 z):=heap_cell (i:=0) hA2
 have k1:W.cell? ⟨kb,1,none⟩=some (.string fl):=heap_cell (i:=1) hA2
 have k2:W.cell? ⟨kb,2,none⟩=some (.string nm):=heap_cell (i:=2) hA2
 have s3:W.cell? ⟨bs,3,none⟩=some (.map none):=heap_cell (i:=3) hS
 have HS:=hid hS
 have HA:=hid hA2
 have HR:=hid hR
 have HKB:=hid hkb
 have hbk:bs < kb:=by have:=heap_lt h3;omega
 clear hA2 hR hS h3 hkb
 have hS:Below W.heap.size W W∧W.cell? ⟨kb,0,none⟩=some (.int .i64 z)∧W.cell? ⟨kb,1,none⟩=some (.string fl)∧W.cell? ⟨kb,2,none⟩=some (.string nm)∧W.cell? ⟨bs,3,none⟩=some (.map none):=⟨Below.refl _ _,k0,k1,k2,s3⟩
 clear k0 k1 k2 s3
 go_region_held3 (fun wx=>Below W.heap.size W wx∧wx.cell? ⟨kb,0,none⟩=some (.int .i64 z)∧wx.cell? ⟨kb,1,none⟩=some (.string fl)∧wx.cell? ⟨kb,2,none⟩=some (.string nm)∧wx.cell? ⟨bs,3,none⟩=some (.map none))
  (first
    | exact keepX4 (by assumption) (below_drew _)
    | exact keepX4 (by assumption) (Below.refl _ _)
    | exact keepX4 hS (below_drew _))
  (first | fail)
 have hHeld:=(by assumption:Below W.heap.size W _∧_)
 generalize W.drew=W1 at hHeld ⊢
 obtain ⟨hb1,k0,k1,k2,s3⟩:=hHeld
 have HS1:=hid (Ses.below_heap hb1 HS.out)
 have HA1:=hid (Ses.below_heap hb1 HA.out)
 have HR1:=hid (Ses.below_heap hb1 HR.out)
 have HB1:=hid hb1
 have g1:W1.frozen? ⟨kb,1,none⟩=false:=heap_frozen HA1.out
 have g2:W1.frozen? ⟨kb,2,none⟩=false:=heap_frozen HA1.out
 have hT:Inv5 W1 W1 kb bs fl nm (.int .i64 z) (.map none):=⟨Below.refl _ _,k0,k1,k2,s3,g1,g2⟩
 clear hb1 hS m1 m2 k0 k1 k2 s3 g1 g2
 go_wp2
 go_region_held3 (fun wx=>Below W1.heap.size W1 wx∧wx.cell? ⟨kb,0,none⟩=some (.int .i64 z)∧wx.cell? ⟨kb,1,none⟩=some (.string fl)∧wx.cell? ⟨kb,2,none⟩=some (.string nm)∧wx.cell? ⟨bs,3,none⟩=some (.map none)∧wx.frozen? ⟨kb,1,none⟩=false∧wx.frozen? ⟨kb,2,none⟩=false)
  (first
    | exact keepX5 (by assumption) (below_drew _)
    | exact keepX5 (by assumption) (by assumption)
    | exact keepX5s1 (by assumption)
    | exact keepX5s2 (by assumption)
    | exact keepX5 (by assumption) (Below.refl _ _)
    | exact keepX5 hT (below_drew _))
  (first
    | (go_at_call_of 23 fl;refine (cloneB _ _ hfl.out).mono ?_;rintro e w8 ⟨rfl,hb8⟩)
    | (go_at_call_of 23 nm;refine (cloneB _ _ hnm.out).mono ?_;rintro e w8 ⟨rfl,hb8⟩))
 have hHeld:=(by assumption:Below W1.heap.size W1 _∧_)
 generalize (w8.setCell ⟨kb,1,none⟩ (.string fl)).setCell ⟨kb,2,none⟩ (.string nm)=W2 at hHeld ⊢
 obtain ⟨hb2,k0,k1,k2,s3,g1,g2⟩:=hHeld
 have HS2:=hid (Ses.below_heap hb2 HS1.out)
 have HA2:=hid (Ses.below_heap hb2 HA1.out)
 have hr2:=Ses.below_heap hb2 HR1.out
 have HB2:=hid hb2
 have r0:W2.cell? ⟨kb+1,0,none⟩=some _:=heap_cell (i:=0) hr2
 have r1:W2.cell? ⟨kb+1,1,none⟩=some _:=heap_cell (i:=1) hr2
 have r2:W2.cell? ⟨kb+1,2,none⟩=some _:=heap_cell (i:=2) hr2
 have r3:W2.cell? ⟨kb+1,3,none⟩=some _:=heap_cell (i:=3) hr2
 have hs2:=HS2.out
 have ha2:=HA2.out
 have e3:∀ o,(W2.alloc o).cell? ⟨bs,3,none⟩=some (.map none):=fun o=>heap_cell (i:=3) (old_heap o hs2)
 have f3:∀ o,(W2.alloc o).frozen? ⟨bs,3,none⟩=false:=fun o=>heap_frozen (old_heap o hs2)
 have e0:∀ o,(W2.alloc o).cell? ⟨kb,0,none⟩=some (.int .i64 z):=fun o=>heap_cell (i:=0) (old_heap o ha2)
 have e1:∀ o,(W2.alloc o).cell? ⟨kb,1,none⟩=some (.string fl):=fun o=>heap_cell (i:=1) (old_heap o ha2)
 have e2:∀ o,(W2.alloc o).cell? ⟨kb,2,none⟩=some (.string nm):=fun o=>heap_cell (i:=2) (old_heap o ha2)
 have e33:∀ o o',((W2.alloc o).alloc o').cell? ⟨bs,3,none⟩=some (.map none):=fun o o'=>heap_cell (i:=3) (old_heap o' (old_heap o hs2))
 have f33:∀ o o',((W2.alloc o).alloc o').frozen? ⟨bs,3,none⟩=false:=fun o o'=>heap_frozen (old_heap o' (old_heap o hs2))
 have hmn:∀ W:World,(binOp .eql 58 (.map none) (.map none)).run Tryz.prog W = .ok (.bool true) W:=fun W=>run_eql_map_nil W 58 99 94 none Tryz.underlying58
 have hmk:∀ W:World,(Instr.makeMap 58 none).run Tryz.prog W = .ok (.map (some W.heap.size)) (W.alloc (.map #[] 0)):=fun W=>@run_makeMap Tryz.prog 58 W
 clear hb2 hT hr2 g1 g2
 go_wp2
 have hsL:=heap_lt hs2
 have haL:=heap_lt ha2
 have hN:=new_heap W2 (.cells #[.pointer (some ⟨bs,1,none⟩), .int .i64 z, .string fl, .string nm, .bool false, .bool false, .slice none 0 0, .int .i64 (-1), .int .i64 0, .bool false, .int .i64 (-1), .int .u64 0, .func (.func F) #[.pointer (some ⟨bs,0,none⟩)] #[], .func (.func G) #[] #[], .slice none 0 0, .int .i64 0, .slice none 0 0, .int .i64 0] 187)
 have hP:=hid (pre_of (f:=f) (rv:=rv) (q:=q) (bg:=bg) (kv:=kv) (us:=us) hs2 ha2 hN (by omega) rfl)
 generalize ((W2.alloc (.cells #[.pointer (some ⟨bs,1,none⟩), .int .i64 z, .string fl, .string nm, .bool false, .bool false, .slice none 0 0, .int .i64 (-1), .int .i64 0, .bool false, .int .i64 (-1), .int .u64 0, .func (.func F) #[.pointer (some ⟨bs,0,none⟩)] #[], .func (.func G) #[] #[], .slice none 0 0, .int .i64 0, .slice none 0 0, .int .i64 0] 187)).alloc (.map #[] 0)).setCell ⟨bs,3,none⟩ (.map (some (W2.heap.size+1)))=W3 at hP ⊢
 clear hN e3 f3 e0 e1 e2 e33 f33 hmn hmk k0 k1 k2 s3 r0 r1 r2 hs2 ha2
 have q3:W3.cell? ⟨bs,3,none⟩=some (.map (some (W2.heap.size+1))):=heap_cell (i:=3) hP.out.s
 have k0:W3.cell? ⟨kb,0,none⟩=some (.int .i64 z):=heap_cell (i:=0) hP.out.k
 have k1:W3.cell? ⟨kb,1,none⟩=some (.string fl):=heap_cell (i:=1) hP.out.k
 have k2:W3.cell? ⟨kb,2,none⟩=some (.string nm):=heap_cell (i:=2) hP.out.k
 have hm3:=hP.out.m
 have hst:=fun W=>hpt (W2.heap.size+1) (.iface 184 (.pointer (some ⟨W2.heap.size,0,none⟩))) W
 clear hpt
 have hst0:=hst W3 hm3
 have hst1:=hst W3.drew hm3
 have hst2:=hst W3.drew.drew hm3
 clear hst
 go_region_with fail
 all_goals
  go_wp2
  go_ret
  refine ⟨_,_,rfl,(by have:=HBL.out.size;have:=HB1.out.size;have:=HB2.out.size;omega),hP.out.fn ?_ (Nat.le_refl _) _⟩
  have hw:Below w.heap.size w W:=HBL.out
  exact (Ses.Fr.of_below hw).trans ((Ses.Fr.of_below HB1.out).trans (Ses.Fr.of_below HB2.out))
theorem findNewR {f q bg kv:Value} {rv us:Int} (bs F G ms n:Nat) (es:Array MapEntry) (z:Int) (fl nm:ByteArray)  (w:World) (hfl:Hid (fl.size≤BIG)) (hnm:Hid (nm.size≤BIG)) (hlk:∀ w,w.heap[ms]? = some (.map es n)→(Instr.lookup 58 (.map (some ms)) (.agg #[.int .i64 z, .string fl, .string nm]) false).run Tryz.prog w = .ok .nilIface w) (hpt:∀ (v:Value) (w:World),w.heap[ms]? = some (.map es n)→(Instr.mapUpdate 58 (.map (some ms)) (.agg #[.int .i64 z, .string fl, .string nm]) v).run Tryz.prog w = .ok () (Ses.setO w ms (.map (es.push { key := .agg #[.int .i64 z, .string fl, .string nm],val:=v,born:=n }) (n+1)))) (hM:w.heap[ms]? = some (.map es n)) (h3:w.heap[bs]? = some (.cells #[f, .int .i64 rv,q, .map (some ms),bg,kv, .int .u64 us] 66)) :
 Calls Tryz.prog 96 #[.pointer (some ⟨bs,1,none⟩), .agg #[.int .i64 z, .string fl, .string nm], .agg #[.func (.func F) #[.pointer (some ⟨bs,0,none⟩)] #[], .func (.func G) #[] #[], .slice none 0 0, .int .i64 0]] w fun e w' => ∃ p,e = .returned (.pointer (some ⟨p,0,none⟩))∧FN w w' bs p ms n es 187 184 f rv q bg kv us [.pointer (some ⟨bs,1,none⟩), .int .i64 z, .string fl, .string nm, .bool false, .bool false, .slice none 0 0, .int .i64 (-1), .int .i64 0, .bool false, .int .i64 (-1), .int .u64 0, .func (.func F) #[.pointer (some ⟨bs,0,none⟩)] #[], .func (.func G) #[] #[], .slice none 0 0, .int .i64 0, .slice none 0 0, .int .i64 0] (.agg #[.int .i64 z, .string fl, .string nm]):=by
 have HLK:=hid hlk
 have HPT:=hid hpt
 clear hlk hpt
 have m2:=fun (w:World) (xT:TypeId)=>(by kernel_rfl:(Instr.typeAssert .nilIface xT 184 true).run Tryz.prog w = .ok (.tuple #[.pointer none, .bool false]) w)
 have hA:=new_heap w (.cells #[.int .i64 z, .string fl, .string nm] 99)
 have hA2:=old_heap (.cells #[.func (.func F) #[.pointer (some ⟨bs,0,none⟩)] #[], .func (.func G) #[] #[], .slice none 0 0, .int .i64 0] 142) hA
 have hR:=new_heap (w.alloc (.cells #[.int .i64 z, .string fl, .string nm] 99)) (.cells #[.func (.func F) #[.pointer (some ⟨bs,0,none⟩)] #[], .func (.func G) #[] #[], .slice none 0 0, .int .i64 0] 142)
 rw [show (w.alloc (.cells #[.int .i64 z, .string fl, .string nm] 99)).heap.size=w.heap.size+1 from by simp] at hR
 have hS:=old_heap (.cells #[.func (.func F) #[.pointer (some ⟨bs,0,none⟩)] #[], .func (.func G) #[] #[], .slice none 0 0, .int .i64 0] 142) (old_heap (.cells #[.int .i64 z, .string fl, .string nm] 99) h3)
 have HBL:=hid (((Below.refl w.heap.size w).alloc (Nat.le_refl _) (.cells #[.int .i64 z, .string fl, .string nm] 99)).alloc (by simp) (.cells #[.func (.func F) #[.pointer (some ⟨bs,0,none⟩)] #[], .func (.func G) #[] #[], .slice none 0 0, .int .i64 0] 142))
 have HM1:=hid (old_heap (.cells #[.func (.func F) #[.pointer (some ⟨bs,0,none⟩)] #[], .func (.func G) #[] #[], .slice none 0 0, .int .i64 0] 142) (old_heap (.cells #[.int .i64 z, .string fl, .string nm] 99) hM))
 clear hM
 clear hA
 go_enter Tryz.func96,Tryz.ntmps96
 go_wp2_with fail
 generalize (w.alloc (.cells #[.int .i64 z, .string fl, .string nm] 99)).alloc (.cells #[.func (.func F) #[.pointer (some ⟨bs,0,none⟩)] #[], .func (.func G) #[] #[], .slice none 0 0, .int .i64 0] 142)=W at hA2 hR hS HBL HM1 ⊢
 generalize hkb:w.heap.size=kb at hA2 hR ⊢
 have k0:W.cell? ⟨kb,0,none⟩=some (.int .i64 z):=heap_cell (i:=0) hA2
 have k1:W.cell? ⟨kb,1,none⟩=some (.string fl):=heap_cell (i:=1) hA2
 have k2:W.cell? ⟨kb,2,none⟩=some (.string nm):=heap_cell (i:=2) hA2
 have s3:W.cell? ⟨bs,3,none⟩=some (.map (some ms)):=heap_cell (i:=3) hS
 have HS:=hid hS
 have HA:=hid hA2
 have HR:=hid hR
 have HKB:=hid hkb
 have hbk:bs < kb:=by have:=heap_lt h3;omega
 clear hA2 hR hS h3 hkb
 have hS:Below W.heap.size W W∧W.cell? ⟨kb,0,none⟩=some (.int .i64 z)∧W.cell? ⟨kb,1,none⟩=some (.string fl)∧W.cell? ⟨kb,2,none⟩=some (.string nm)∧W.cell? ⟨bs,3,none⟩=some (.map (some ms)):=⟨Below.refl _ _,k0,k1,k2,s3⟩
 clear k0 k1 k2 s3
 have m10:=HLK.out W HM1.out
 have m11:=HLK.out W.drew HM1.out
 have m12:=HLK.out W.drew.drew HM1.out
 have m13:=HLK.out W.drew.drew.drew HM1.out
 go_region_held3 (fun wx=>Below W.heap.size W wx∧wx.cell? ⟨kb,0,none⟩=some (.int .i64 z)∧wx.cell? ⟨kb,1,none⟩=some (.string fl)∧wx.cell? ⟨kb,2,none⟩=some (.string nm)∧wx.cell? ⟨bs,3,none⟩=some (.map (some ms)))
  (first
    | exact keepX4 (by assumption) (below_drew _)
    | exact keepX4 (by assumption) (Below.refl _ _)
    | exact keepX4 hS (below_drew _))
  (first | fail)
 have hHeld:=(by assumption:Below W.heap.size W _∧_)
 generalize W.drew=W1 at hHeld ⊢
 obtain ⟨hb1,k0,k1,k2,s3⟩:=hHeld
 have HS1:=hid (Ses.below_heap hb1 HS.out)
 have HA1:=hid (Ses.below_heap hb1 HA.out)
 have HR1:=hid (Ses.below_heap hb1 HR.out)
 have HB1:=hid hb1
 have HM2:=hid (Ses.below_heap hb1 HM1.out)
 have g1:W1.frozen? ⟨kb,1,none⟩=false:=heap_frozen HA1.out
 have g2:W1.frozen? ⟨kb,2,none⟩=false:=heap_frozen HA1.out
 have hT:Inv5 W1 W1 kb bs fl nm (.int .i64 z) (.map (some ms)):=⟨Below.refl _ _,k0,k1,k2,s3,g1,g2⟩
 clear hb1 hS m10 m11 m12 m13 m2 k0 k1 k2 s3 g1 g2
 go_wp2
 go_region_held3 (fun wx=>Below W1.heap.size W1 wx∧wx.cell? ⟨kb,0,none⟩=some (.int .i64 z)∧wx.cell? ⟨kb,1,none⟩=some (.string fl)∧wx.cell? ⟨kb,2,none⟩=some (.string nm)∧wx.cell? ⟨bs,3,none⟩=some (.map (some ms))∧wx.frozen? ⟨kb,1,none⟩=false∧wx.frozen? ⟨kb,2,none⟩=false)
  (first
    | exact keepX5 (by assumption) (below_drew _)
    | exact keepX5 (by assumption) (by assumption)
    | exact keepX5s1 (by assumption)
    | exact keepX5s2 (by assumption)
    | exact keepX5 (by assumption) (Below.refl _ _)
    | exact keepX5 hT (below_drew _))
  (first
    | (go_at_call_of 23 fl;refine (cloneB _ _ hfl.out).mono ?_;rintro e w8 ⟨rfl,hb8⟩)
    | (go_at_call_of 23 nm;refine (cloneB _ _ hnm.out).mono ?_;rintro e w8 ⟨rfl,hb8⟩))
 have hHeld:=(by assumption:Below W1.heap.size W1 _∧_)
 generalize (w8.setCell ⟨kb,1,none⟩ (.string fl)).setCell ⟨kb,2,none⟩ (.string nm)=W2 at hHeld ⊢
 obtain ⟨hb2,k0,k1,k2,s3,g1,g2⟩:=hHeld
 have HS2:=hid (Ses.below_heap hb2 HS1.out)
 have HA2:=hid (Ses.below_heap hb2 HA1.out)
 have hr2:=Ses.below_heap hb2 HR1.out
 have HB2:=hid hb2
 have HM3:=hid (Ses.below_heap hb2 HM2.out)
 have r0:W2.cell? ⟨kb+1,0,none⟩=some _:=heap_cell (i:=0) hr2
 have r1:W2.cell? ⟨kb+1,1,none⟩=some _:=heap_cell (i:=1) hr2
 have r2:W2.cell? ⟨kb+1,2,none⟩=some _:=heap_cell (i:=2) hr2
 have r3:W2.cell? ⟨kb+1,3,none⟩=some _:=heap_cell (i:=3) hr2
 have hs2:=HS2.out
 have ha2:=HA2.out
 have e3:∀ o,(W2.alloc o).cell? ⟨bs,3,none⟩=some (.map (some ms)):=fun o=>heap_cell (i:=3) (old_heap o hs2)
 have f3:∀ o,(W2.alloc o).frozen? ⟨bs,3,none⟩=false:=fun o=>heap_frozen (old_heap o hs2)
 have e0:∀ o,(W2.alloc o).cell? ⟨kb,0,none⟩=some (.int .i64 z):=fun o=>heap_cell (i:=0) (old_heap o ha2)
 have e1:∀ o,(W2.alloc o).cell? ⟨kb,1,none⟩=some (.string fl):=fun o=>heap_cell (i:=1) (old_heap o ha2)
 have e2:∀ o,(W2.alloc o).cell? ⟨kb,2,none⟩=some (.string nm):=fun o=>heap_cell (i:=2) (old_heap o ha2)
 have e33:∀ o o',((W2.alloc o).alloc o').cell? ⟨bs,3,none⟩=some (.map (some ms)):=fun o o'=>heap_cell (i:=3) (old_heap o' (old_heap o hs2))
 have f33:∀ o o',((W2.alloc o).alloc o').frozen? ⟨bs,3,none⟩=false:=fun o o'=>heap_frozen (old_heap o' (old_heap o hs2))
 have hmn:∀ W:World,(binOp .eql 58 (.map (some ms)) (.map none)).run Tryz.prog W = .ok (.bool false) W:=fun W=>run_eql_map_nil W 58 99 94 (some ms) Tryz.underlying58
 clear hb2 hT hr2 g1 g2
 go_wp2
 have hsL:=heap_lt hs2
 have haL:=heap_lt ha2
 have hN:=new_heap W2 (.cells #[.pointer (some ⟨bs,1,none⟩), .int .i64 z, .string fl, .string nm, .bool false, .bool false, .slice none 0 0, .int .i64 (-1), .int .i64 0, .bool false, .int .i64 (-1), .int .u64 0, .func (.func F) #[.pointer (some ⟨bs,0,none⟩)] #[], .func (.func G) #[] #[], .slice none 0 0, .int .i64 0, .slice none 0 0, .int .i64 0] 187)
 have hP:=hid (pre_old (f:=f) (rv:=rv) (q:=q) (bg:=bg) (kv:=kv) (us:=us) hs2 ha2 HM3.out hN)
 generalize hW3:W2.alloc (.cells #[.pointer (some ⟨bs,1,none⟩), .int .i64 z, .string fl, .string nm, .bool false, .bool false, .slice none 0 0, .int .i64 (-1), .int .i64 0, .bool false, .int .i64 (-1), .int .u64 0, .func (.func F) #[.pointer (some ⟨bs,0,none⟩)] #[], .func (.func G) #[] #[], .slice none 0 0, .int .i64 0, .slice none 0 0, .int .i64 0] 187)=W3 at hP ⊢
 clear hN hW3 e3 f3 e0 e1 e2 e33 f33 hmn k0 k1 k2 s3 r0 r1 r2 hs2 ha2
 have q3:W3.cell? ⟨bs,3,none⟩=some (.map (some ms)):=heap_cell (i:=3) hP.out.s
 have k0:W3.cell? ⟨kb,0,none⟩=some (.int .i64 z):=heap_cell (i:=0) hP.out.k
 have k1:W3.cell? ⟨kb,1,none⟩=some (.string fl):=heap_cell (i:=1) hP.out.k
 have k2:W3.cell? ⟨kb,2,none⟩=some (.string nm):=heap_cell (i:=2) hP.out.k
 have hm3:=hP.out.m
 have hst:=fun W=>HPT.out (.iface 184 (.pointer (some ⟨W2.heap.size,0,none⟩))) W
 have hst0:=hst W3 hm3
 have hst1:=hst W3.drew hm3
 have hst2:=hst W3.drew.drew hm3
 clear hst
 go_region_with fail
 all_goals
  go_wp2
  go_ret
  refine ⟨_,rfl,hP.out.fn ?_ (Nat.le_refl _) _⟩
  have hw:Below w.heap.size w W:=HBL.out
  exact (Ses.Fr.of_below hw).trans ((Ses.Fr.of_below HB1.out).trans (Ses.Fr.of_below HB2.out))
theorem findOldR {f q bg kv:Value} {rv us:Int} (bs F G p:Nat) (sm:Value) (z:Int) (fl nm:ByteArray)  (w:World) (hlk:∀ w',Below w.heap.size w w'→(Instr.lookup 58 sm (.agg #[.int .i64 z, .string fl, .string nm]) false).run Tryz.prog w' = .ok (.iface 184 (.pointer (some ⟨p,0,none⟩))) w') (h3:w.heap[bs]? = some (.cells #[f, .int .i64 rv,q,sm,bg,kv, .int .u64 us] 66)) :
 Calls Tryz.prog 96 #[.pointer (some ⟨bs,1,none⟩), .agg #[.int .i64 z, .string fl, .string nm], .agg #[.func (.func F) #[.pointer (some ⟨bs,0,none⟩)] #[], .func (.func G) #[] #[], .slice none 0 0, .int .i64 0]] w fun e w'=>e = .returned (.pointer (some ⟨p,0,none⟩))∧Below w.heap.size w w':=by
 have HLK:=hid hlk
 clear hlk
 have m2:=fun (w:World) (xT:TypeId)=>(by kernel_rfl:(Instr.typeAssert (.iface 184 (.pointer (some ⟨p,0,none⟩))) xT 184 true).run Tryz.prog w = .ok (.tuple #[.pointer (some ⟨p,0,none⟩), .bool true]) w)
 have hA:=new_heap w (.cells #[.int .i64 z, .string fl, .string nm] 99)
 have hA2:=old_heap (.cells #[.func (.func F) #[.pointer (some ⟨bs,0,none⟩)] #[], .func (.func G) #[] #[], .slice none 0 0, .int .i64 0] 142) hA
 have hR:=new_heap (w.alloc (.cells #[.int .i64 z, .string fl, .string nm] 99)) (.cells #[.func (.func F) #[.pointer (some ⟨bs,0,none⟩)] #[], .func (.func G) #[] #[], .slice none 0 0, .int .i64 0] 142)
 rw [show (w.alloc (.cells #[.int .i64 z, .string fl, .string nm] 99)).heap.size=w.heap.size+1 from by simp] at hR
 have hS:=old_heap (.cells #[.func (.func F) #[.pointer (some ⟨bs,0,none⟩)] #[], .func (.func G) #[] #[], .slice none 0 0, .int .i64 0] 142) (old_heap (.cells #[.int .i64 z, .string fl, .string nm] 99) h3)
 have HBL:=hid (((Below.refl w.heap.size w).alloc (Nat.le_refl _) (.cells #[.int .i64 z, .string fl, .string nm] 99)).alloc (by simp) (.cells #[.func (.func F) #[.pointer (some ⟨bs,0,none⟩)] #[], .func (.func G) #[] #[], .slice none 0 0, .int .i64 0] 142))
 clear hA
 go_enter Tryz.func96,Tryz.ntmps96
 go_wp2_with fail
 generalize (w.alloc (.cells #[.int .i64 z, .string fl, .string nm] 99)).alloc (.cells #[.func (.func F) #[.pointer (some ⟨bs,0,none⟩)] #[], .func (.func G) #[] #[], .slice none 0 0, .int .i64 0] 142)=W at hA2 hR hS HBL ⊢
 generalize hkb:w.heap.size=kb at hA2 hR ⊢
 have k0:W.cell? ⟨kb,0,none⟩=some (.int .i64 z):=heap_cell (i:=0) hA2
 have k1:W.cell? ⟨kb,1,none⟩=some (.string fl):=heap_cell (i:=1) hA2
 have k2:W.cell? ⟨kb,2,none⟩=some (.string nm):=heap_cell (i:=2) hA2
 have s3:W.cell? ⟨bs,3,none⟩=some sm:=heap_cell (i:=3) hS
 have HS:=hid hS
 have HA:=hid hA2
 have HR:=hid hR
 have HKB:=hid hkb
 have hbk:bs < kb:=by have:=heap_lt h3;omega
 clear hA2 hR hS h3 hkb
 have hS:Below W.heap.size W W∧W.cell? ⟨kb,0,none⟩=some (.int .i64 z)∧W.cell? ⟨kb,1,none⟩=some (.string fl)∧W.cell? ⟨kb,2,none⟩=some (.string nm)∧W.cell? ⟨bs,3,none⟩=some sm:=⟨Below.refl _ _,k0,k1,k2,s3⟩
 clear k0 k1 k2 s3
 have hbw:Below w.heap.size w W:=HBL.out
 have m10:=HLK.out W hbw
 have m11:=HLK.out W.drew (below_seq hbw (below_drewN _ 1))
 have m12:=HLK.out W.drew.drew (below_seq hbw (below_drewN _ 2))
 have m13:=HLK.out W.drew.drew.drew (below_seq hbw (below_drewN _ 3))
 clear hbw
 go_region_held3 (fun wx=>Below W.heap.size W wx∧wx.cell? ⟨kb,0,none⟩=some (.int .i64 z)∧wx.cell? ⟨kb,1,none⟩=some (.string fl)∧wx.cell? ⟨kb,2,none⟩=some (.string nm)∧wx.cell? ⟨bs,3,none⟩=some sm)
  (first
    | exact keepX4 (by assumption) (below_drew _)
    | exact keepX4 (by assumption) (Below.refl _ _)
    | exact keepX4 hS (below_drew _))
  (first | fail)
 have hHeld:=(by assumption:Below W.heap.size W _∧_)
 have hb1:=hHeld.1
 clear hHeld hS m10 m11 m12 m13 m2
 go_wp2
 go_ret
 have h9:=HKB.out
 subst h9
 exact ⟨rfl,below_seq HBL.out hb1⟩
theorem findS {st:St V} {L:Lay} {bs:Nat} {fm:Value} {w:World} (h:ENG st L none bs fm w) (k:K) (h2:k.kind≠2) (h3:k.kind≠3) (h4:k.kind≠4) (hf:k.file.size≤BIG) (hn:k.name.size≤BIG) :
 Calls Tryz.prog 85 #[.pointer (some ⟨bs,1,none⟩),keyA k, .agg ⟨ruleC bs k.kind⟩] w (FindPost st L bs fm k w):=by
 have hTB:TB k=175:=by simp [TB,h2,h3,h4]
 have hTI:TI k=165:=by simp [TI,h2,h3,h4]
 have hru:ruleC bs k.kind = [.func (.func (workF k.kind)) #[ptr bs] #[], .func (.func 89) #[] #[], .string (if k.kind=7 then cyc_ else nob)]:=by simp [ruleC,h2,h3,h4]
 refine find_any h k (zv:=[.string ⟨#[]⟩]) (by simp [ValC,h2,h3,h4]) (fun q bg kv a b c => ?_) (fun q bg kv ms es n a b c d => ?_) (fun q sm bg kv p a b => ?_)
 · have:=findNilS (F:=workF k.kind) (G:=89) (lo:=if k.kind=7 then cyc_ else nob) bs k.kind k.file k.name w (hid hf) (hid hn) a b c
   rw [hTB,hTI,hru,slotC,hru];exact this
 · have:=findNewS (F:=workF k.kind) (G:=89) (lo:=if k.kind=7 then cyc_ else nob) bs ms n es k.kind k.file k.name w (hid hf) (hid hn) a b c d
   rw [hTB,hTI,hru,slotC,hru];exact this
 · rw [hTI] at a
   have:=findOldS (F:=workF k.kind) (G:=89) (lo:=if k.kind=7 then cyc_ else nob) bs p sm k.kind k.file k.name w a b
   rw [hru];exact this
theorem findT {st:St V} {L:Lay} {bs:Nat} {fm:Value} {w:World} (h:ENG st L none bs fm w) (k:K) (h2:k.kind=2) (hf:k.file.size≤BIG) (hn:k.name.size≤BIG) :
 Calls Tryz.prog 93 #[.pointer (some ⟨bs,1,none⟩),keyA k, .agg ⟨ruleC bs k.kind⟩] w (FindPost st L bs fm k w):=by
 have hTB:TB k=181:=by simp [TB,h2]
 have hTI:TI k=178:=by simp [TI,h2]
 have hru:ruleC bs k.kind = [.func (.func (workF k.kind)) #[ptr bs] #[], .func (.func 64) #[] #[], .slice none 0 0]:=by simp [ruleC,h2]
 refine find_any h k (zv:=[.slice none 0 0]) (by simp [ValC,h2]) (fun q bg kv a b c => ?_) (fun q bg kv ms es n a b c d => ?_) (fun q sm bg kv p a b => ?_)
 · have:=findNilT (F:=workF k.kind) (G:=64) bs k.kind k.file k.name w (hid hf) (hid hn) a b c
   rw [hTB,hTI,hru,slotC,hru];exact this
 · have:=findNewT (F:=workF k.kind) (G:=64) bs ms n es k.kind k.file k.name w (hid hf) (hid hn) a b c d
   rw [hTB,hTI,hru,slotC,hru];exact this
 · rw [hTI] at a
   have:=findOldT (F:=workF k.kind) (G:=64) bs p sm k.kind k.file k.name w a b
   rw [hru];exact this
theorem findX {st:St V} {L:Lay} {bs:Nat} {fm:Value} {w:World} (h:ENG st L none bs fm w) (k:K) (h2:k.kind=4) (hf:k.file.size≤BIG) (hn:k.name.size≤BIG) :
 Calls Tryz.prog 99 #[.pointer (some ⟨bs,1,none⟩),keyA k, .agg ⟨ruleC bs k.kind⟩] w (FindPost st L bs fm k w):=by
 have hTB:TB k=192:=by simp [TB,h2]
 have hTI:TI k=189:=by simp [TI,h2]
 have hru:ruleC bs k.kind = [.func (.func (workF k.kind)) #[ptr bs] #[], .func (.func 72) #[] #[], .slice none 0 0]:=by simp [ruleC,h2]
 refine find_any h k (zv:=[.slice none 0 0]) (by simp [ValC,h2]) (fun q bg kv a b c => ?_) (fun q bg kv ms es n a b c d => ?_) (fun q sm bg kv p a b => ?_)
 · have:=findNilX (F:=workF k.kind) (G:=72) bs k.kind k.file k.name w (hid hf) (hid hn) a b c
   rw [hTB,hTI,hru,slotC,hru];exact this
 · have:=findNewX (F:=workF k.kind) (G:=72) bs ms n es k.kind k.file k.name w (hid hf) (hid hn) a b c d
   rw [hTB,hTI,hru,slotC,hru];exact this
 · rw [hTI] at a
   have:=findOldX (F:=workF k.kind) (G:=72) bs p sm k.kind k.file k.name w a b
   rw [hru];exact this
theorem findR {st:St V} {L:Lay} {bs:Nat} {fm:Value} {w:World} (h:ENG st L none bs fm w) (k:K) (h2:k.kind=3) (hf:k.file.size≤BIG) (hn:k.name.size≤BIG) :
 Calls Tryz.prog 96 #[.pointer (some ⟨bs,1,none⟩),keyA k, .agg ⟨ruleC bs k.kind⟩] w (FindPost st L bs fm k w):=by
 have hTB:TB k=187:=by simp [TB,h2]
 have hTI:TI k=184:=by simp [TI,h2]
 have hru:ruleC bs k.kind = [.func (.func (workF k.kind)) #[ptr bs] #[], .func (.func 68) #[] #[], .slice none 0 0, .int .i64 0]:=by simp [ruleC,h2]
 refine find_any h k (zv:=[.slice none 0 0, .int .i64 0]) (by simp [ValC,h2]) (fun q bg kv a b c => ?_) (fun q bg kv ms es n a b c d => ?_) (fun q sm bg kv p a b => ?_)
 · have:=findNilR (F:=workF k.kind) (G:=68) bs k.kind k.file k.name w (hid hf) (hid hn) a b c
   rw [hTB,hTI,hru,slotC,hru];exact this
 · have:=findNewR (F:=workF k.kind) (G:=68) bs ms n es k.kind k.file k.name w (hid hf) (hid hn) a b c d
   rw [hTB,hTI,hru,slotC,hru];exact this
 · rw [hTI] at a
   have:=findOldR (F:=workF k.kind) (G:=68) bs p sm k.kind k.file k.name w a b
   rw [hru];exact this
def cycP (k:K):List PanicEntry:=[{ v := .iface 307 (keyA k),recovered:=false }]
theorem enterPanics (p:Nat) (z:Int) (fl nm:ByteArray) (b:Bool) (w:World) (c1:w.cell? ⟨p,1,none⟩=some (.int .i64 z)) (c2:w.cell? ⟨p,2,none⟩=some (.string fl)) (c3:w.cell? ⟨p,3,none⟩=some (.string nm)) (c4:w.cell? ⟨p,4,none⟩=some (.bool true)) (c5:w.cell? ⟨p,5,none⟩=some (.bool b)) (g5:w.frozen? ⟨p,5,none⟩=false) :
 Calls Tryz.prog 221 #[.pointer (some ⟨p,0,none⟩)] w fun e w'=>e = .panicked [{ v := .iface 307 (.agg #[.int .i64 z, .string fl, .string nm]),recovered:=false }]∧w'=w.setCell ⟨p,5,none⟩ (.bool true):=by
 go_enter Tryz.func221,Tryz.ntmps221
 go_wp2_with fail
 exact ⟨rfl,rfl,rfl⟩
structure LT (T:TypeId) (FL:FuncId):Prop where
 m:∀ (p:Nat) (w:World),(method 414 T (.pointer (some ⟨p,0, none⟩)) "almanac/slots.loopOut").run Tryz.prog w = .ok (FL, .pointer (some ⟨p,0,none⟩)) w
 n:∀ (p:Nat) (w:World),(nilAhead 414 T (.pointer (some ⟨p,0, none⟩)) "almanac/slots.loopOut").run Tryz.prog w = .ok (some false) w
 e:∀ (args:Array Value) (w:World),(callFunc FL args).run Tryz.prog w = .ok (.enter FL args) w
theorem closureIdle (T:TypeId) (F:FuncId) (hM:MT T F) (p sb:Nat) (u:FrameMode) (w:World) (hs:w.cell? ⟨sb,0,none⟩=some (.iface T (.pointer (some ⟨p,0,none⟩)))) (h5:w.cell? ⟨p,5,none⟩=some (.bool false)) :
 CallsD Tryz.prog 117 #[.pointer (some ⟨sb,0,none⟩)] u w fun e u' w'=>u'=u∧(e = .returned (.tuple #[])∧w'=w):=by
 have m1:=hM.isLooped
 have m2:=hM.nisLooped
 go_enter_d Tryz.func117,Tryz.ntmps117
 go_wp2_with fail
 refine (looped_any p false _ h5).mono ?_
 rintro e w1 ⟨rfl,rfl⟩
 go_wp2
 go_end0
 exact ⟨rfl,rfl⟩
theorem closureRecovers (T:TypeId) (F FL:FuncId) (hM:MT T F) (hL:LT T FL) (p sb:Nat) (T':TypeId) (pv:Value) (older:List PanicEntry) (w:World) (S:World→Prop) (hs:w.cell? ⟨sb,0,none⟩=some (.iface T (.pointer (some ⟨p,0,none⟩)))) (h5:w.cell? ⟨p,5,none⟩=some (.bool true)) (HL:Calls Tryz.prog FL #[.pointer (some ⟨p,0,none⟩)] w fun e w'=>e = .returned (.tuple #[])∧S w') :
 CallsD Tryz.prog 117 #[.pointer (some ⟨sb,0,none⟩)] (.panicking ({ v := .iface T' pv,recovered:=false } :: older)) w fun e u' w'=>e = .returned (.tuple #[])∧u' = .panicking ({ v := .iface T' pv,recovered:=true } :: older)∧S w':=by
 have m1:=hM.isLooped
 have m2:=hM.nisLooped
 have m3:=hL.m
 have m4:=hL.n
 have m5:=hL.e
 have HLH:=hid HL
 clear HL
 refine callsD_of_wpS Tryz.func117 rfl fun c₀ cs hu => ?_
 have HU:=hid hu
 clear hu
 apply wpS_seq
 apply wpS_of_wp
 go_wp2_with fail
 refine (looped_any p true _ h5).mono ?_
 rintro e w1 ⟨rfl,rfl⟩
 go_wp2_with fail
 simp only [Exit.thenS]
 refine wpS_cond (t:=true) (by simp [Act.eval,Array.replicate]) ?_
 simp only [if_true]
 apply wpS_seq
 apply wpS_region
 have hu:=HU.out
 simp [wpOpsS,go_sem,recoverD,hu,Exit.thenS]
 clear hu
 apply wpS_of_wp
 go_wp2_with fail
 refine HLH.out.mono ?_
 rintro e w2 ⟨rfl,hS⟩
 go_wp2_with fail
 exact ⟨rfl,_,rfl,_,results_none rfl _ _ _,rfl,rfl,hS⟩
end Go.Proofs.YthibodlojlkppaaGreatDoor
