/-
  The program's write of an item, the document's line of an item. The program's WriteTree. The program's WriteTokens.
-/
import Derived.Test.YthibodlojlkppaaGreatDoorB25
import Derived.Test.YthibodlojlkppaaGreatDoorT01
set_option linter.unusedVariables false
set_option linter.unusedSectionVars false
set_option linter.unusedSimpArgs false
set_option maxRecDepth 100000
set_option maxHeartbeats 40000000

namespace Go.Proofs.YthibodlojlkppaaGreatDoor
open Go.RowKit Go.Sort
theorem wItem_use (num:Nat) (hnum:num≤1000) (nm ty:ByteArray)  (B b:Nat) (bs:List Value) (w:World) (hb:IsB B b bs w) (hl:bs.length+(itemU (decT num) ⟨#[58,117,115,101,32]⟩ nm).size≤LIM) (hB:B≤w.heap.size) (hp:PT B w) :
 Calls Tryz.prog 66 #[.agg #[.int .i64 0, .int .i64 (num:Nat), .string nm, .string ty, .nilIface], .pointer (some ⟨b,0,none⟩)] w fun e w'=>(∃ r,e = .returned r)∧Adds B b bs (itemU (decT num) ⟨#[58,117,115,101,32]⟩ nm) w w':=by
 have hbl:=below_new w (.cells #[.int .i64 0, .int .i64 (num:Nat), .string nm, .string ty, .nilIface] 137)
 have HB:=hid (hb.below hbl)
 have HBL:=hid hbl
 have HP:=hid (hp.on (below_mono hB hbl))
 have HN:=hid (new_heap w (.cells #[.int .i64 0, .int .i64 (num:Nat), .string nm, .string ty, .nilIface] 137))
 have hne:w.heap.size≠b:=Nat.ne_of_gt hb.lt
 have hB1:B≤(w.alloc (.cells #[.int .i64 0, .int .i64 (num:Nat), .string nm, .string ty, .nilIface] 137)).heap.size:=by simp;omega
 have HB1:=hid hB1
 have HLN:=hid hl
 clear hb hp hbl hB1 hl
 go_enter Tryz.func66,Tryz.ntmps66
 go_wp2_with fail
 refine (Tryz.strconv_Itoa (num:Int) (by omega) (by omega) _ (Lib.TabBelow.here HP.out)).mono ?_
 rintro e w0 ⟨rfl,kk,os,hw0⟩
 rw [itoa_nat]
 have hg:Below (w.alloc (.cells #[.int .i64 0, .int .i64 (num:Nat), .string nm, .string ty, .nilIface] 137)).heap.size (w.alloc (.cells #[.int .i64 0, .int .i64 (num:Nat), .string nm, .string ty, .nilIface] 137)) w0:=by rw [hw0];exact below_growN _ _ _
 have HG:=hid hg
 have HB0:=hid (HB.out.below hg)
 have HP0:=hid (HP.out.on (below_mono HB1.out hg))
 have HN0:=hid (below_heap hg (heap_lt HN.out) HN.out)
 have HS0:=hid (Nat.le_trans HB1.out hg.size)
 clear hw0 hg
 go_wp2_with fail
 refine (bWriteString B b bs (decT num) _ HB0.out (by have:=HLN.out;simp only [itemU,itemL,List.length_append,Lib.strCells_length,ByteArray.size_append,bsz1,sz1,LIM,List.length_cons,List.length_nil] at *;omega) HS0.out).mono ?_
 rintro e w1 ⟨rfl,hadd1,hadd2,hadd3⟩
 have hadd:=Adds.mk hadd1 hadd2 hadd3
 clear hadd1 hadd2 hadd3
 have HA1:=hid hadd
 have hk:=HA1.out.kt.get HN0.out hne (by decide)
 have k1_0:World.cell? _ ⟨w.heap.size,0,none⟩=some (.int .i64 0):=heap_cell (i:=0) hk
 have k1_1:World.cell? _ ⟨w.heap.size,1,none⟩=some (.int .i64 (num:Nat)):=heap_cell (i:=1) hk
 have k1_2:World.cell? _ ⟨w.heap.size,2,none⟩=some (.string nm):=heap_cell (i:=2) hk
 have k1_3:World.cell? _ ⟨w.heap.size,3,none⟩=some (.string ty):=heap_cell (i:=3) hk
 have k1_4:World.cell? _ ⟨w.heap.size,4,none⟩=some (.nilIface):=heap_cell (i:=4) hk
 clear hk hadd
 go_wp2_with fail
 refine (bWriteString B b (bs ++ Lib.strCells ((decT num))) ⟨#[58,117,115,101,32]⟩ _ HA1.out.bd (by have:=HLN.out;simp only [itemU,itemL,List.length_append,Lib.strCells_length,ByteArray.size_append,bsz1,sz1,LIM,List.length_cons,List.length_nil] at *;omega) (Nat.le_trans HS0.out HA1.out.bl.size)).mono ?_
 rintro e w2 ⟨rfl,hadd1,hadd2,hadd3⟩
 have hadd:=Adds.mk hadd1 hadd2 hadd3
 clear hadd1 hadd2 hadd3
 have HA2:=hid (HA1.out.trans hadd)
 have hk:=HA2.out.kt.get HN0.out hne (by decide)
 have k2_0:World.cell? _ ⟨w.heap.size,0,none⟩=some (.int .i64 0):=heap_cell (i:=0) hk
 have k2_1:World.cell? _ ⟨w.heap.size,1,none⟩=some (.int .i64 (num:Nat)):=heap_cell (i:=1) hk
 have k2_2:World.cell? _ ⟨w.heap.size,2,none⟩=some (.string nm):=heap_cell (i:=2) hk
 have k2_3:World.cell? _ ⟨w.heap.size,3,none⟩=some (.string ty):=heap_cell (i:=3) hk
 have k2_4:World.cell? _ ⟨w.heap.size,4,none⟩=some (.nilIface):=heap_cell (i:=4) hk
 clear hk hadd
 go_wp2_with fail
 refine (bWriteString B b (bs ++ Lib.strCells ((decT num) ++ ⟨#[58,117,115,101,32]⟩)) nm _ HA2.out.bd (by have:=HLN.out;simp only [itemU,itemL,List.length_append,Lib.strCells_length,ByteArray.size_append,bsz1,sz1,LIM,List.length_cons,List.length_nil] at *;omega) (Nat.le_trans HS0.out HA2.out.bl.size)).mono ?_
 rintro e w3 ⟨rfl,hadd1,hadd2,hadd3⟩
 have hadd:=Adds.mk hadd1 hadd2 hadd3
 clear hadd1 hadd2 hadd3
 have HA3:=hid (HA2.out.trans hadd)
 have hk:=HA3.out.kt.get HN0.out hne (by decide)
 have k3_0:World.cell? _ ⟨w.heap.size,0,none⟩=some (.int .i64 0):=heap_cell (i:=0) hk
 have k3_1:World.cell? _ ⟨w.heap.size,1,none⟩=some (.int .i64 (num:Nat)):=heap_cell (i:=1) hk
 have k3_2:World.cell? _ ⟨w.heap.size,2,none⟩=some (.string nm):=heap_cell (i:=2) hk
 have k3_3:World.cell? _ ⟨w.heap.size,3,none⟩=some (.string ty):=heap_cell (i:=3) hk
 have k3_4:World.cell? _ ⟨w.heap.size,4,none⟩=some (.nilIface):=heap_cell (i:=4) hk
 clear hk hadd
 go_wp2_with fail
 refine (bWriteByte B b (bs ++ Lib.strCells ((decT num) ++ ⟨#[58,117,115,101,32]⟩ ++ nm)) 10 _ HA3.out.bd (by have:=HLN.out;simp only [itemU,itemL,List.length_append,Lib.strCells_length,ByteArray.size_append,bsz1,sz1,LIM,List.length_cons,List.length_nil] at *;omega) (Nat.le_trans HS0.out HA3.out.bl.size)).mono ?_
 rintro e w4 ⟨rfl,hadd⟩
 have hadd:=Adds.byte (c:=10) hadd
 have HA4:=hid (HA3.out.trans hadd)
 have hk:=HA4.out.kt.get HN0.out hne (by decide)
 have k4_0:World.cell? _ ⟨w.heap.size,0,none⟩=some (.int .i64 0):=heap_cell (i:=0) hk
 have k4_1:World.cell? _ ⟨w.heap.size,1,none⟩=some (.int .i64 (num:Nat)):=heap_cell (i:=1) hk
 have k4_2:World.cell? _ ⟨w.heap.size,2,none⟩=some (.string nm):=heap_cell (i:=2) hk
 have k4_3:World.cell? _ ⟨w.heap.size,3,none⟩=some (.string ty):=heap_cell (i:=3) hk
 have k4_4:World.cell? _ ⟨w.heap.size,4,none⟩=some (.nilIface):=heap_cell (i:=4) hk
 clear hk hadd
 go_wp2
 go_end0
 exact ⟨⟨_,rfl⟩,(HA4.out.from HG.out HB1.out).from HBL.out hB⟩
theorem wItem_let (num:Nat) (hnum:num≤1000) (nm ty:ByteArray) (T1:TypeId) (v1 u1:Value) (F1:FuncId) (sx:ByteArray) (m1:∀ w,(method 414 T1 v1 "almanac/lang.write").run Tryz.prog w = .ok (F1,u1) w) (e1:∀ args w,(callFunc F1 args).run Tryz.prog w = .ok (.enter F1 args) w) (c1:∀ (B b:Nat) (bs:List Value) (w:World),IsB B b bs w→bs.length+sx.size≤LIM→B≤w.heap.size→PT B w→Calls Tryz.prog F1 #[u1, .pointer (some ⟨b,0,none⟩)] w fun e w'=>(∃ r,e = .returned r)∧Adds B b bs sx w w') (B b:Nat) (bs:List Value) (w:World) (hb:IsB B b bs w) (hl:bs.length+(itemL (decT num) ⟨#[58,108,101,116,32]⟩ nm ty sx).size≤LIM) (hB:B≤w.heap.size) (hp:PT B w) :
 Calls Tryz.prog 66 #[.agg #[.int .i64 1, .int .i64 (num:Nat), .string nm, .string ty, .iface T1 v1], .pointer (some ⟨b,0,none⟩)] w fun e w'=>(∃ r,e = .returned r)∧Adds B b bs (itemL (decT num) ⟨#[58,108,101,116,32]⟩ nm ty sx) w w':=by
 have HC1:=hid c1
 clear c1
 have hbl:=below_new w (.cells #[.int .i64 1, .int .i64 (num:Nat), .string nm, .string ty, .iface T1 v1] 137)
 have HB:=hid (hb.below hbl)
 have HBL:=hid hbl
 have HP:=hid (hp.on (below_mono hB hbl))
 have HN:=hid (new_heap w (.cells #[.int .i64 1, .int .i64 (num:Nat), .string nm, .string ty, .iface T1 v1] 137))
 have hne:w.heap.size≠b:=Nat.ne_of_gt hb.lt
 have hB1:B≤(w.alloc (.cells #[.int .i64 1, .int .i64 (num:Nat), .string nm, .string ty, .iface T1 v1] 137)).heap.size:=by simp;omega
 have HB1:=hid hB1
 have HLN:=hid hl
 clear hb hp hbl hB1 hl
 go_enter Tryz.func66,Tryz.ntmps66
 go_wp2_with fail
 refine (Tryz.strconv_Itoa (num:Int) (by omega) (by omega) _ (Lib.TabBelow.here HP.out)).mono ?_
 rintro e w0 ⟨rfl,kk,os,hw0⟩
 rw [itoa_nat]
 have hg:Below (w.alloc (.cells #[.int .i64 1, .int .i64 (num:Nat), .string nm, .string ty, .iface T1 v1] 137)).heap.size (w.alloc (.cells #[.int .i64 1, .int .i64 (num:Nat), .string nm, .string ty, .iface T1 v1] 137)) w0:=by rw [hw0];exact below_growN _ _ _
 have HG:=hid hg
 have HB0:=hid (HB.out.below hg)
 have HP0:=hid (HP.out.on (below_mono HB1.out hg))
 have HN0:=hid (below_heap hg (heap_lt HN.out) HN.out)
 have HS0:=hid (Nat.le_trans HB1.out hg.size)
 clear hw0 hg
 go_wp2_with fail
 refine (bWriteString B b bs (decT num) _ HB0.out (by have:=HLN.out;simp only [itemU,itemL,List.length_append,Lib.strCells_length,ByteArray.size_append,bsz1,sz1,LIM,List.length_cons,List.length_nil] at *;omega) HS0.out).mono ?_
 rintro e w1 ⟨rfl,hadd1,hadd2,hadd3⟩
 have hadd:=Adds.mk hadd1 hadd2 hadd3
 clear hadd1 hadd2 hadd3
 have HA1:=hid hadd
 have hk:=HA1.out.kt.get HN0.out hne (by decide)
 have k1_0:World.cell? _ ⟨w.heap.size,0,none⟩=some (.int .i64 1):=heap_cell (i:=0) hk
 have k1_1:World.cell? _ ⟨w.heap.size,1,none⟩=some (.int .i64 (num:Nat)):=heap_cell (i:=1) hk
 have k1_2:World.cell? _ ⟨w.heap.size,2,none⟩=some (.string nm):=heap_cell (i:=2) hk
 have k1_3:World.cell? _ ⟨w.heap.size,3,none⟩=some (.string ty):=heap_cell (i:=3) hk
 have k1_4:World.cell? _ ⟨w.heap.size,4,none⟩=some (.iface T1 v1):=heap_cell (i:=4) hk
 clear hk hadd
 go_wp2_with fail
 refine (bWriteString B b (bs ++ Lib.strCells ((decT num))) ⟨#[58,108,101,116,32]⟩ _ HA1.out.bd (by have:=HLN.out;simp only [itemU,itemL,List.length_append,Lib.strCells_length,ByteArray.size_append,bsz1,sz1,LIM,List.length_cons,List.length_nil] at *;omega) (Nat.le_trans HS0.out HA1.out.bl.size)).mono ?_
 rintro e w2 ⟨rfl,hadd1,hadd2,hadd3⟩
 have hadd:=Adds.mk hadd1 hadd2 hadd3
 clear hadd1 hadd2 hadd3
 have HA2:=hid (HA1.out.trans hadd)
 have hk:=HA2.out.kt.get HN0.out hne (by decide)
 have k2_0:World.cell? _ ⟨w.heap.size,0,none⟩=some (.int .i64 1):=heap_cell (i:=0) hk
 have k2_1:World.cell? _ ⟨w.heap.size,1,none⟩=some (.int .i64 (num:Nat)):=heap_cell (i:=1) hk
 have k2_2:World.cell? _ ⟨w.heap.size,2,none⟩=some (.string nm):=heap_cell (i:=2) hk
 have k2_3:World.cell? _ ⟨w.heap.size,3,none⟩=some (.string ty):=heap_cell (i:=3) hk
 have k2_4:World.cell? _ ⟨w.heap.size,4,none⟩=some (.iface T1 v1):=heap_cell (i:=4) hk
 clear hk hadd
 go_wp2_with fail
 refine (bWriteString B b (bs ++ Lib.strCells ((decT num) ++ ⟨#[58,108,101,116,32]⟩)) nm _ HA2.out.bd (by have:=HLN.out;simp only [itemU,itemL,List.length_append,Lib.strCells_length,ByteArray.size_append,bsz1,sz1,LIM,List.length_cons,List.length_nil] at *;omega) (Nat.le_trans HS0.out HA2.out.bl.size)).mono ?_
 rintro e w3 ⟨rfl,hadd1,hadd2,hadd3⟩
 have hadd:=Adds.mk hadd1 hadd2 hadd3
 clear hadd1 hadd2 hadd3
 have HA3:=hid (HA2.out.trans hadd)
 have hk:=HA3.out.kt.get HN0.out hne (by decide)
 have k3_0:World.cell? _ ⟨w.heap.size,0,none⟩=some (.int .i64 1):=heap_cell (i:=0) hk
 have k3_1:World.cell? _ ⟨w.heap.size,1,none⟩=some (.int .i64 (num:Nat)):=heap_cell (i:=1) hk
 have k3_2:World.cell? _ ⟨w.heap.size,2,none⟩=some (.string nm):=heap_cell (i:=2) hk
 have k3_3:World.cell? _ ⟨w.heap.size,3,none⟩=some (.string ty):=heap_cell (i:=3) hk
 have k3_4:World.cell? _ ⟨w.heap.size,4,none⟩=some (.iface T1 v1):=heap_cell (i:=4) hk
 clear hk hadd
 go_wp2_with fail
 refine (bWriteByte B b (bs ++ Lib.strCells ((decT num) ++ ⟨#[58,108,101,116,32]⟩ ++ nm)) 58 _ HA3.out.bd (by have:=HLN.out;simp only [itemU,itemL,List.length_append,Lib.strCells_length,ByteArray.size_append,bsz1,sz1,LIM,List.length_cons,List.length_nil] at *;omega) (Nat.le_trans HS0.out HA3.out.bl.size)).mono ?_
 rintro e w4 ⟨rfl,hadd⟩
 have hadd:=Adds.byte (c:=58) hadd
 have HA4:=hid (HA3.out.trans hadd)
 have hk:=HA4.out.kt.get HN0.out hne (by decide)
 have k4_0:World.cell? _ ⟨w.heap.size,0,none⟩=some (.int .i64 1):=heap_cell (i:=0) hk
 have k4_1:World.cell? _ ⟨w.heap.size,1,none⟩=some (.int .i64 (num:Nat)):=heap_cell (i:=1) hk
 have k4_2:World.cell? _ ⟨w.heap.size,2,none⟩=some (.string nm):=heap_cell (i:=2) hk
 have k4_3:World.cell? _ ⟨w.heap.size,3,none⟩=some (.string ty):=heap_cell (i:=3) hk
 have k4_4:World.cell? _ ⟨w.heap.size,4,none⟩=some (.iface T1 v1):=heap_cell (i:=4) hk
 clear hk hadd
 go_wp2_with fail
 refine (bWriteString B b (bs ++ Lib.strCells ((decT num) ++ ⟨#[58,108,101,116,32]⟩ ++ nm ++ ⟨#[58]⟩)) ty _ HA4.out.bd (by have:=HLN.out;simp only [itemU,itemL,List.length_append,Lib.strCells_length,ByteArray.size_append,bsz1,sz1,LIM,List.length_cons,List.length_nil] at *;omega) (Nat.le_trans HS0.out HA4.out.bl.size)).mono ?_
 rintro e w5 ⟨rfl,hadd1,hadd2,hadd3⟩
 have hadd:=Adds.mk hadd1 hadd2 hadd3
 clear hadd1 hadd2 hadd3
 have HA5:=hid (HA4.out.trans hadd)
 have hk:=HA5.out.kt.get HN0.out hne (by decide)
 have k5_0:World.cell? _ ⟨w.heap.size,0,none⟩=some (.int .i64 1):=heap_cell (i:=0) hk
 have k5_1:World.cell? _ ⟨w.heap.size,1,none⟩=some (.int .i64 (num:Nat)):=heap_cell (i:=1) hk
 have k5_2:World.cell? _ ⟨w.heap.size,2,none⟩=some (.string nm):=heap_cell (i:=2) hk
 have k5_3:World.cell? _ ⟨w.heap.size,3,none⟩=some (.string ty):=heap_cell (i:=3) hk
 have k5_4:World.cell? _ ⟨w.heap.size,4,none⟩=some (.iface T1 v1):=heap_cell (i:=4) hk
 clear hk hadd
 go_wp2_with fail
 refine (bWriteByte B b (bs ++ Lib.strCells ((decT num) ++ ⟨#[58,108,101,116,32]⟩ ++ nm ++ ⟨#[58]⟩ ++ ty)) 61 _ HA5.out.bd (by have:=HLN.out;simp only [itemU,itemL,List.length_append,Lib.strCells_length,ByteArray.size_append,bsz1,sz1,LIM,List.length_cons,List.length_nil] at *;omega) (Nat.le_trans HS0.out HA5.out.bl.size)).mono ?_
 rintro e w6 ⟨rfl,hadd⟩
 have hadd:=Adds.byte (c:=61) hadd
 have HA6:=hid (HA5.out.trans hadd)
 have hk:=HA6.out.kt.get HN0.out hne (by decide)
 have k6_0:World.cell? _ ⟨w.heap.size,0,none⟩=some (.int .i64 1):=heap_cell (i:=0) hk
 have k6_1:World.cell? _ ⟨w.heap.size,1,none⟩=some (.int .i64 (num:Nat)):=heap_cell (i:=1) hk
 have k6_2:World.cell? _ ⟨w.heap.size,2,none⟩=some (.string nm):=heap_cell (i:=2) hk
 have k6_3:World.cell? _ ⟨w.heap.size,3,none⟩=some (.string ty):=heap_cell (i:=3) hk
 have k6_4:World.cell? _ ⟨w.heap.size,4,none⟩=some (.iface T1 v1):=heap_cell (i:=4) hk
 clear hk hadd
 go_wp2_with fail
 refine (HC1.out B b (bs ++ Lib.strCells ((decT num) ++ ⟨#[58,108,101,116,32]⟩ ++ nm ++ ⟨#[58]⟩ ++ ty ++ ⟨#[61]⟩)) _ HA6.out.bd (by have:=HLN.out;simp only [itemU,itemL,List.length_append,Lib.strCells_length,ByteArray.size_append,bsz1,sz1,LIM,List.length_cons,List.length_nil] at *;omega) (Nat.le_trans HS0.out HA6.out.bl.size) (HP0.out.on HA6.out.bl)).mono ?_
 rintro e w7 ⟨⟨rv7,rfl⟩,hadd⟩
 have HA7:=hid (HA6.out.trans hadd)
 have hk:=HA7.out.kt.get HN0.out hne (by decide)
 have k7_0:World.cell? _ ⟨w.heap.size,0,none⟩=some (.int .i64 1):=heap_cell (i:=0) hk
 have k7_1:World.cell? _ ⟨w.heap.size,1,none⟩=some (.int .i64 (num:Nat)):=heap_cell (i:=1) hk
 have k7_2:World.cell? _ ⟨w.heap.size,2,none⟩=some (.string nm):=heap_cell (i:=2) hk
 have k7_3:World.cell? _ ⟨w.heap.size,3,none⟩=some (.string ty):=heap_cell (i:=3) hk
 have k7_4:World.cell? _ ⟨w.heap.size,4,none⟩=some (.iface T1 v1):=heap_cell (i:=4) hk
 clear hk hadd
 go_wp2_with fail
 refine (bWriteByte B b (bs ++ Lib.strCells ((decT num) ++ ⟨#[58,108,101,116,32]⟩ ++ nm ++ ⟨#[58]⟩ ++ ty ++ ⟨#[61]⟩ ++ sx)) 10 _ HA7.out.bd (by have:=HLN.out;simp only [itemU,itemL,List.length_append,Lib.strCells_length,ByteArray.size_append,bsz1,sz1,LIM,List.length_cons,List.length_nil] at *;omega) (Nat.le_trans HS0.out HA7.out.bl.size)).mono ?_
 rintro e w8 ⟨rfl,hadd⟩
 have hadd:=Adds.byte (c:=10) hadd
 have HA8:=hid (HA7.out.trans hadd)
 have hk:=HA8.out.kt.get HN0.out hne (by decide)
 have k8_0:World.cell? _ ⟨w.heap.size,0,none⟩=some (.int .i64 1):=heap_cell (i:=0) hk
 have k8_1:World.cell? _ ⟨w.heap.size,1,none⟩=some (.int .i64 (num:Nat)):=heap_cell (i:=1) hk
 have k8_2:World.cell? _ ⟨w.heap.size,2,none⟩=some (.string nm):=heap_cell (i:=2) hk
 have k8_3:World.cell? _ ⟨w.heap.size,3,none⟩=some (.string ty):=heap_cell (i:=3) hk
 have k8_4:World.cell? _ ⟨w.heap.size,4,none⟩=some (.iface T1 v1):=heap_cell (i:=4) hk
 clear hk hadd
 go_wp2
 go_end0
 exact ⟨⟨_,rfl⟩,(HA8.out.from HG.out HB1.out).from HBL.out hB⟩
theorem wItem_pub (num:Nat) (hnum:num≤1000) (nm ty:ByteArray) (T1:TypeId) (v1 u1:Value) (F1:FuncId) (sx:ByteArray) (m1:∀ w,(method 414 T1 v1 "almanac/lang.write").run Tryz.prog w = .ok (F1,u1) w) (e1:∀ args w,(callFunc F1 args).run Tryz.prog w = .ok (.enter F1 args) w) (c1:∀ (B b:Nat) (bs:List Value) (w:World),IsB B b bs w→bs.length+sx.size≤LIM→B≤w.heap.size→PT B w→Calls Tryz.prog F1 #[u1, .pointer (some ⟨b,0,none⟩)] w fun e w'=>(∃ r,e = .returned r)∧Adds B b bs sx w w') (B b:Nat) (bs:List Value) (w:World) (hb:IsB B b bs w) (hl:bs.length+(itemL (decT num) ⟨#[58,112,117,98,32]⟩ nm ty sx).size≤LIM) (hB:B≤w.heap.size) (hp:PT B w) :
 Calls Tryz.prog 66 #[.agg #[.int .i64 2, .int .i64 (num:Nat), .string nm, .string ty, .iface T1 v1], .pointer (some ⟨b,0,none⟩)] w fun e w'=>(∃ r,e = .returned r)∧Adds B b bs (itemL (decT num) ⟨#[58,112,117,98,32]⟩ nm ty sx) w w':=by
 have HC1:=hid c1
 clear c1
 have hbl:=below_new w (.cells #[.int .i64 2, .int .i64 (num:Nat), .string nm, .string ty, .iface T1 v1] 137)
 have HB:=hid (hb.below hbl)
 have HBL:=hid hbl
 have HP:=hid (hp.on (below_mono hB hbl))
 have HN:=hid (new_heap w (.cells #[.int .i64 2, .int .i64 (num:Nat), .string nm, .string ty, .iface T1 v1] 137))
 have hne:w.heap.size≠b:=Nat.ne_of_gt hb.lt
 have hB1:B≤(w.alloc (.cells #[.int .i64 2, .int .i64 (num:Nat), .string nm, .string ty, .iface T1 v1] 137)).heap.size:=by simp;omega
 have HB1:=hid hB1
 have HLN:=hid hl
 clear hb hp hbl hB1 hl
 go_enter Tryz.func66,Tryz.ntmps66
 go_wp2_with fail
 refine (Tryz.strconv_Itoa (num:Int) (by omega) (by omega) _ (Lib.TabBelow.here HP.out)).mono ?_
 rintro e w0 ⟨rfl,kk,os,hw0⟩
 rw [itoa_nat]
 have hg:Below (w.alloc (.cells #[.int .i64 2, .int .i64 (num:Nat), .string nm, .string ty, .iface T1 v1] 137)).heap.size (w.alloc (.cells #[.int .i64 2, .int .i64 (num:Nat), .string nm, .string ty, .iface T1 v1] 137)) w0:=by rw [hw0];exact below_growN _ _ _
 have HG:=hid hg
 have HB0:=hid (HB.out.below hg)
 have HP0:=hid (HP.out.on (below_mono HB1.out hg))
 have HN0:=hid (below_heap hg (heap_lt HN.out) HN.out)
 have HS0:=hid (Nat.le_trans HB1.out hg.size)
 clear hw0 hg
 go_wp2_with fail
 refine (bWriteString B b bs (decT num) _ HB0.out (by have:=HLN.out;simp only [itemU,itemL,List.length_append,Lib.strCells_length,ByteArray.size_append,bsz1,sz1,LIM,List.length_cons,List.length_nil] at *;omega) HS0.out).mono ?_
 rintro e w1 ⟨rfl,hadd1,hadd2,hadd3⟩
 have hadd:=Adds.mk hadd1 hadd2 hadd3
 clear hadd1 hadd2 hadd3
 have HA1:=hid hadd
 have hk:=HA1.out.kt.get HN0.out hne (by decide)
 have k1_0:World.cell? _ ⟨w.heap.size,0,none⟩=some (.int .i64 2):=heap_cell (i:=0) hk
 have k1_1:World.cell? _ ⟨w.heap.size,1,none⟩=some (.int .i64 (num:Nat)):=heap_cell (i:=1) hk
 have k1_2:World.cell? _ ⟨w.heap.size,2,none⟩=some (.string nm):=heap_cell (i:=2) hk
 have k1_3:World.cell? _ ⟨w.heap.size,3,none⟩=some (.string ty):=heap_cell (i:=3) hk
 have k1_4:World.cell? _ ⟨w.heap.size,4,none⟩=some (.iface T1 v1):=heap_cell (i:=4) hk
 clear hk hadd
 go_wp2_with fail
 refine (bWriteString B b (bs ++ Lib.strCells ((decT num))) ⟨#[58,112,117,98,32]⟩ _ HA1.out.bd (by have:=HLN.out;simp only [itemU,itemL,List.length_append,Lib.strCells_length,ByteArray.size_append,bsz1,sz1,LIM,List.length_cons,List.length_nil] at *;omega) (Nat.le_trans HS0.out HA1.out.bl.size)).mono ?_
 rintro e w2 ⟨rfl,hadd1,hadd2,hadd3⟩
 have hadd:=Adds.mk hadd1 hadd2 hadd3
 clear hadd1 hadd2 hadd3
 have HA2:=hid (HA1.out.trans hadd)
 have hk:=HA2.out.kt.get HN0.out hne (by decide)
 have k2_0:World.cell? _ ⟨w.heap.size,0,none⟩=some (.int .i64 2):=heap_cell (i:=0) hk
 have k2_1:World.cell? _ ⟨w.heap.size,1,none⟩=some (.int .i64 (num:Nat)):=heap_cell (i:=1) hk
 have k2_2:World.cell? _ ⟨w.heap.size,2,none⟩=some (.string nm):=heap_cell (i:=2) hk
 have k2_3:World.cell? _ ⟨w.heap.size,3,none⟩=some (.string ty):=heap_cell (i:=3) hk
 have k2_4:World.cell? _ ⟨w.heap.size,4,none⟩=some (.iface T1 v1):=heap_cell (i:=4) hk
 clear hk hadd
 go_wp2_with fail
 refine (bWriteString B b (bs ++ Lib.strCells ((decT num) ++ ⟨#[58,112,117,98,32]⟩)) nm _ HA2.out.bd (by have:=HLN.out;simp only [itemU,itemL,List.length_append,Lib.strCells_length,ByteArray.size_append,bsz1,sz1,LIM,List.length_cons,List.length_nil] at *;omega) (Nat.le_trans HS0.out HA2.out.bl.size)).mono ?_
 rintro e w3 ⟨rfl,hadd1,hadd2,hadd3⟩
 have hadd:=Adds.mk hadd1 hadd2 hadd3
 clear hadd1 hadd2 hadd3
 have HA3:=hid (HA2.out.trans hadd)
 have hk:=HA3.out.kt.get HN0.out hne (by decide)
 have k3_0:World.cell? _ ⟨w.heap.size,0,none⟩=some (.int .i64 2):=heap_cell (i:=0) hk
 have k3_1:World.cell? _ ⟨w.heap.size,1,none⟩=some (.int .i64 (num:Nat)):=heap_cell (i:=1) hk
 have k3_2:World.cell? _ ⟨w.heap.size,2,none⟩=some (.string nm):=heap_cell (i:=2) hk
 have k3_3:World.cell? _ ⟨w.heap.size,3,none⟩=some (.string ty):=heap_cell (i:=3) hk
 have k3_4:World.cell? _ ⟨w.heap.size,4,none⟩=some (.iface T1 v1):=heap_cell (i:=4) hk
 clear hk hadd
 go_wp2_with fail
 refine (bWriteByte B b (bs ++ Lib.strCells ((decT num) ++ ⟨#[58,112,117,98,32]⟩ ++ nm)) 58 _ HA3.out.bd (by have:=HLN.out;simp only [itemU,itemL,List.length_append,Lib.strCells_length,ByteArray.size_append,bsz1,sz1,LIM,List.length_cons,List.length_nil] at *;omega) (Nat.le_trans HS0.out HA3.out.bl.size)).mono ?_
 rintro e w4 ⟨rfl,hadd⟩
 have hadd:=Adds.byte (c:=58) hadd
 have HA4:=hid (HA3.out.trans hadd)
 have hk:=HA4.out.kt.get HN0.out hne (by decide)
 have k4_0:World.cell? _ ⟨w.heap.size,0,none⟩=some (.int .i64 2):=heap_cell (i:=0) hk
 have k4_1:World.cell? _ ⟨w.heap.size,1,none⟩=some (.int .i64 (num:Nat)):=heap_cell (i:=1) hk
 have k4_2:World.cell? _ ⟨w.heap.size,2,none⟩=some (.string nm):=heap_cell (i:=2) hk
 have k4_3:World.cell? _ ⟨w.heap.size,3,none⟩=some (.string ty):=heap_cell (i:=3) hk
 have k4_4:World.cell? _ ⟨w.heap.size,4,none⟩=some (.iface T1 v1):=heap_cell (i:=4) hk
 clear hk hadd
 go_wp2_with fail
 refine (bWriteString B b (bs ++ Lib.strCells ((decT num) ++ ⟨#[58,112,117,98,32]⟩ ++ nm ++ ⟨#[58]⟩)) ty _ HA4.out.bd (by have:=HLN.out;simp only [itemU,itemL,List.length_append,Lib.strCells_length,ByteArray.size_append,bsz1,sz1,LIM,List.length_cons,List.length_nil] at *;omega) (Nat.le_trans HS0.out HA4.out.bl.size)).mono ?_
 rintro e w5 ⟨rfl,hadd1,hadd2,hadd3⟩
 have hadd:=Adds.mk hadd1 hadd2 hadd3
 clear hadd1 hadd2 hadd3
 have HA5:=hid (HA4.out.trans hadd)
 have hk:=HA5.out.kt.get HN0.out hne (by decide)
 have k5_0:World.cell? _ ⟨w.heap.size,0,none⟩=some (.int .i64 2):=heap_cell (i:=0) hk
 have k5_1:World.cell? _ ⟨w.heap.size,1,none⟩=some (.int .i64 (num:Nat)):=heap_cell (i:=1) hk
 have k5_2:World.cell? _ ⟨w.heap.size,2,none⟩=some (.string nm):=heap_cell (i:=2) hk
 have k5_3:World.cell? _ ⟨w.heap.size,3,none⟩=some (.string ty):=heap_cell (i:=3) hk
 have k5_4:World.cell? _ ⟨w.heap.size,4,none⟩=some (.iface T1 v1):=heap_cell (i:=4) hk
 clear hk hadd
 go_wp2_with fail
 refine (bWriteByte B b (bs ++ Lib.strCells ((decT num) ++ ⟨#[58,112,117,98,32]⟩ ++ nm ++ ⟨#[58]⟩ ++ ty)) 61 _ HA5.out.bd (by have:=HLN.out;simp only [itemU,itemL,List.length_append,Lib.strCells_length,ByteArray.size_append,bsz1,sz1,LIM,List.length_cons,List.length_nil] at *;omega) (Nat.le_trans HS0.out HA5.out.bl.size)).mono ?_
 rintro e w6 ⟨rfl,hadd⟩
 have hadd:=Adds.byte (c:=61) hadd
 have HA6:=hid (HA5.out.trans hadd)
 have hk:=HA6.out.kt.get HN0.out hne (by decide)
 have k6_0:World.cell? _ ⟨w.heap.size,0,none⟩=some (.int .i64 2):=heap_cell (i:=0) hk
 have k6_1:World.cell? _ ⟨w.heap.size,1,none⟩=some (.int .i64 (num:Nat)):=heap_cell (i:=1) hk
 have k6_2:World.cell? _ ⟨w.heap.size,2,none⟩=some (.string nm):=heap_cell (i:=2) hk
 have k6_3:World.cell? _ ⟨w.heap.size,3,none⟩=some (.string ty):=heap_cell (i:=3) hk
 have k6_4:World.cell? _ ⟨w.heap.size,4,none⟩=some (.iface T1 v1):=heap_cell (i:=4) hk
 clear hk hadd
 go_wp2_with fail
 refine (HC1.out B b (bs ++ Lib.strCells ((decT num) ++ ⟨#[58,112,117,98,32]⟩ ++ nm ++ ⟨#[58]⟩ ++ ty ++ ⟨#[61]⟩)) _ HA6.out.bd (by have:=HLN.out;simp only [itemU,itemL,List.length_append,Lib.strCells_length,ByteArray.size_append,bsz1,sz1,LIM,List.length_cons,List.length_nil] at *;omega) (Nat.le_trans HS0.out HA6.out.bl.size) (HP0.out.on HA6.out.bl)).mono ?_
 rintro e w7 ⟨⟨rv7,rfl⟩,hadd⟩
 have HA7:=hid (HA6.out.trans hadd)
 have hk:=HA7.out.kt.get HN0.out hne (by decide)
 have k7_0:World.cell? _ ⟨w.heap.size,0,none⟩=some (.int .i64 2):=heap_cell (i:=0) hk
 have k7_1:World.cell? _ ⟨w.heap.size,1,none⟩=some (.int .i64 (num:Nat)):=heap_cell (i:=1) hk
 have k7_2:World.cell? _ ⟨w.heap.size,2,none⟩=some (.string nm):=heap_cell (i:=2) hk
 have k7_3:World.cell? _ ⟨w.heap.size,3,none⟩=some (.string ty):=heap_cell (i:=3) hk
 have k7_4:World.cell? _ ⟨w.heap.size,4,none⟩=some (.iface T1 v1):=heap_cell (i:=4) hk
 clear hk hadd
 go_wp2_with fail
 refine (bWriteByte B b (bs ++ Lib.strCells ((decT num) ++ ⟨#[58,112,117,98,32]⟩ ++ nm ++ ⟨#[58]⟩ ++ ty ++ ⟨#[61]⟩ ++ sx)) 10 _ HA7.out.bd (by have:=HLN.out;simp only [itemU,itemL,List.length_append,Lib.strCells_length,ByteArray.size_append,bsz1,sz1,LIM,List.length_cons,List.length_nil] at *;omega) (Nat.le_trans HS0.out HA7.out.bl.size)).mono ?_
 rintro e w8 ⟨rfl,hadd⟩
 have hadd:=Adds.byte (c:=10) hadd
 have HA8:=hid (HA7.out.trans hadd)
 have hk:=HA8.out.kt.get HN0.out hne (by decide)
 have k8_0:World.cell? _ ⟨w.heap.size,0,none⟩=some (.int .i64 2):=heap_cell (i:=0) hk
 have k8_1:World.cell? _ ⟨w.heap.size,1,none⟩=some (.int .i64 (num:Nat)):=heap_cell (i:=1) hk
 have k8_2:World.cell? _ ⟨w.heap.size,2,none⟩=some (.string nm):=heap_cell (i:=2) hk
 have k8_3:World.cell? _ ⟨w.heap.size,3,none⟩=some (.string ty):=heap_cell (i:=3) hk
 have k8_4:World.cell? _ ⟨w.heap.size,4,none⟩=some (.iface T1 v1):=heap_cell (i:=4) hk
 clear hk hadd
 go_wp2
 go_end0
 exact ⟨⟨_,rfl⟩,(HA8.out.from HG.out HB1.out).from HBL.out hB⟩
theorem take_succ_get {α:Type} (l:List α) (k:Nat) (hk:k < l.length):l.take (k+1)=l.take k ++ [l[k]]:=by
 rw [List.take_add_one,List.getElem?_eq_getElem hk];rfl
theorem wItem (i:It) (s:ByteArray) (h:ITx i s) (B b:Nat) (bs:List Value) (w:World) (hb:IsB B b bs w) (hl:bs.length+s.size≤LIM) (hB:B≤w.heap.size) (hp:PT B w) :
 Calls Tryz.prog 66 #[itV i, .pointer (some ⟨b,0,none⟩)] w fun e w'=>(∃ r,e = .returned r)∧Adds B b bs s w w':=by
 obtain ⟨hn,_,h⟩:=h
 obtain ⟨k,num,nm,ty,ex⟩:=i
 simp only at hn h
 rcases h with ⟨rfl,rfl,rfl⟩ | ⟨sx,⟨T,v,u,F,rfl,m,e,_,c⟩,⟨rfl,rfl⟩ | ⟨rfl,rfl⟩⟩
 · exact wItem_use num hn nm ty B b bs w hb hl hB hp
 · exact wItem_let num hn nm ty T v u F sx m e c B b bs w hb hl hB hp
 · exact wItem_pub num hn nm ty T v u F sx m e c B b bs w hb hl hB hp
def treeT (ss:List ByteArray):Option Nat→ByteArray
 | none=>cat ss
 | some b=>(cat ss ++ ⟨#[33]⟩) ++ decT b
theorem cat_from:∀ (ss:List ByteArray) (M:Nat) (acc:ByteArray),(∀ s∈ss,s.size≤M)→(ss.foldl (· ++ ·) acc).size≤acc.size+ss.length * M
 | [],_,acc,_=>by simp
 | a :: r,M,acc,h=>by
  have h1:=cat_from r M (acc ++ a) fun s hs=>h s (by simp [hs])
  have h2:=h a (by simp)
  rw [ByteArray.size_append] at h1
  simp only [List.foldl_cons,List.length_cons,Nat.add_mul]
  omega
theorem cat_size (ss:List ByteArray) (M:Nat) (h:∀ s∈ss,s.size≤M):(cat ss).size≤ss.length * M:=by
 have:=cat_from ss M ⟨#[]⟩ h
 rw [show (⟨#[]⟩:ByteArray).size=0 from rfl,Nat.zero_add] at this
 exact this
theorem bytes_back (s:ByteArray):(⟨s.data.toList.toArray⟩:ByteArray)=s:=by simp
theorem append_ass (a b c:ByteArray):a ++ (b ++ c)=(a ++ b) ++ c:=by
 apply ByteArray.ext
 simp [ByteArray.data_append,Array.append_assoc]
theorem builder_text {B b:Nat} {s:ByteArray} {w:World} (h:IsB B b (Lib.strCells s) w) (hB:B≤w.heap.size) :
 Calls Tryz.prog 62 #[.pointer (some ⟨b,0,none⟩)] w fun e w'=>e = .returned (.string s)∧Below B w w':=by
 have:=Tryz.Builder_String_any B b s.data.toList w h hB
 rw [bytes_back] at this
 exact this
theorem writeTree_ao (items:List It) (ss:List ByteArray) (hlen:ss.length=items.length) (hit:∀ (k:Nat) (i:It) (s:ByteArray),items[k]? = some i→ss[k]? = some s→ITx i s) (hn:items.length≤401) (fl:Option Nat) (hfl:∀ b,fl=some b→b≤1000) (ao:Option Addr) (c:Nat) (w:World)
 (hao:0 < items.length→∃ g cur,ao=some ⟨g,0,none⟩∧w.heap[g]? = some (.cells cur 137 (0,0))∧cur.toList.take (items.length * 5)=items.flatMap itCells) (hp:PT w.heap.size w) :
 Calls Tryz.prog 40 #[.agg #[.slice ao items.length c,faultV fl]] w fun e w'=>e = .returned (.string (treeT ss fl))∧Below w.heap.size w w':=by
 have k0:(w.alloc (.cells #[.slice ao items.length c,faultV fl] 87)).cell? ⟨w.heap.size,0,none⟩=some (.slice ao items.length c):=heap_cell (i:=0) (new_heap w _)
 have hsz:∀ s∈ss,s.size≤200000:=fun s hs=>by
  obtain ⟨k,hk,rfl⟩:=List.getElem_of_mem hs
  exact (hit k (items[k]'(by omega)) _ (List.getElem?_eq_getElem _) (List.getElem?_eq_getElem hk)).2.1
 have HSZ:=hid hsz
 have HIT:=hid hit
 have HAO:=hid hao
 have HP:=hid hp
 have HFL:=hid hfl
 have hw2:((w.alloc (.cells #[.slice ao items.length c,faultV fl] 87)).alloc (.cells #[.pointer none, .slice none 0 0] 119)).heap[w.heap.size+1]? = some (.cells #[.pointer none, .slice none 0 0] 119):=by
  have:=new_heap (w.alloc (.cells #[.slice ao items.length c,faultV fl] 87)) (.cells #[.pointer none, .slice none 0 0] 119)
  simpa using this
 have HW0:Hid (WT items ss ao c (faultV fl) w ((w.alloc (.cells #[.slice ao items.length c,faultV fl] 87)).alloc (.cells #[.pointer none, .slice none 0 0] 119)) 0):=hid
  ⟨.inl ⟨by omega, .slice none 0 0,hw2,World.ownsRow_nil _ _ _ _,by simp [Value.ownBlock]⟩,((Below.refl _ _).alloc (Nat.le_refl _) _).alloc (by simp) _,old_heap _ (new_heap _ _),by simp⟩
 clear hao hp hfl hsz hit hw2
 go_enter Tryz.func40,Tryz.ntmps40
 go_wp2
 go_loopg [9] items.length (fun f v9 wr => ∃ k,k+f=items.length∧v9 = .int .i64 (k:Nat)∧WT items ss ao c (faultV fl) w wr k)
 case atStart=>exact ⟨0,by omega,rfl,HW0.out⟩
 case round =>
  clear HW0 k0
  obtain ⟨k,hk,rfl,hwt⟩:=hrel
  have HWT:=hid hwt
  clear hwt
  by_cases hlt:k < items.length
  · obtain ⟨g,cur,rfl,hg,hc⟩:=HAO.out (by omega)
    have HG:=hid hg
    have HC:=hid hc
    clear hg hc
    have hi:=List.getElem?_eq_getElem hlt
    have hs:=List.getElem?_eq_getElem (l:=ss) (i:=k) (by omega)
    have HI:=hid (HIT.out k _ _ hi hs)
    generalize hii:items[k]=i at hi HI
    generalize hss:ss[k]'(by omega)=sk at hs HI
    have HTK:=hid (take_succ_get ss k (by omega))
    have HSK:=hid hss
    obtain ⟨ik,inum,inm,ity,iex⟩:=i
    have z0:=HWT.out.cell HG.out HC.out hi (j:=0) rfl
    have z1:=HWT.out.cell HG.out HC.out hi (j:=1) rfl
    have z2:=HWT.out.cell HG.out HC.out hi (j:=2) rfl
    have z3:=HWT.out.cell HG.out HC.out hi (j:=3) rfl
    have z4:=HWT.out.cell HG.out HC.out hi (j:=4) rfl
    rw [Nat.add_zero] at z0
    have hlt2:(k:Int) < (items.length:Int):=by omega
    have hkc:(0:Int)≤(k:Int):=by omega
    clear hii hss hs hi
    have hex:=HI.out.ex
    simp only at hex
    have HLN:Hid ((Lib.strCells (cat (ss.take k))).length+sk.size≤LIM):=hid (by
     have h1:=cat_size (ss.take k) 200000 (fun s hs=>HSZ.out s (List.mem_of_mem_take hs))
     have h2:=HI.out.2.1
     simp only [List.length_take] at h1
     simp only [Lib.strCells_length,LIM]
     omega)
    rcases hex with rfl | ⟨T,v,rfl⟩
    all_goals
     go_wp2_with fail
     refine (wItem _ sk HI.out w.heap.size (w.heap.size+1) (Lib.strCells (cat (ss.take k))) _ (HWT.out.bd.below (below_new _ _)) HLN.out (by have:=HWT.out.lt;simp;omega) (HP.out.on (HWT.out.bl.alloc (by have:=HWT.out.lt;omega) _))).mono ?_
     rintro e w2 ⟨⟨rv,rfl⟩,hadd⟩
     have HW2:=hid (HWT.out.next (by omega) HTK.out HSK.out hadd)
     clear hadd
     go_wp2
     go_roundg (items.length - (k+1))
     case rel=>exact ⟨k+1,by omega,by go_num,HW2.out⟩
     case measure=>omega
  · have hke:k=items.length:=by omega
    subst hke
    have HC2:=hid (show ss.take items.length=ss by rw [←hlen,List.take_length])
    have q0:wr.cell? ⟨w.heap.size,0,none⟩=some (.slice ao items.length c):=heap_cell (i:=0) HWT.out.pr
    have q1:wr.cell? ⟨w.heap.size,1,none⟩=some (faultV fl):=heap_cell (i:=1) HWT.out.pr
    have hb0:=HWT.out.bd
    rw [HC2.out] at hb0
    have HB0:=hid hb0
    have HLN:Hid ((cat ss).size≤100000000):=hid (by
     have h1:=cat_size ss 200000 HSZ.out
     omega)
    clear hb0
    cases fl with
    | none =>
     simp only [faultV] at q1
     go_wp2_with fail
     refine (builder_text HB0.out (by have:=HWT.out.lt;omega)).mono ?_
     rintro e w2 ⟨rfl,hb2⟩
     have HB2:=hid (HWT.out.bl.trans hb2)
     clear hb2
     go_wp2
     go_ret
     exact ⟨rfl,HB2.out⟩
    | some b =>
     have hbb:=HFL.out b rfl
     simp only [faultV] at q1
     have hne1:((b:Int) == -1)=false:=by rw [beq_eq_false_iff_ne];omega
     go_wp2_with fail
     refine (bWriteByte w.heap.size (w.heap.size+1) _ 33 _ HB0.out (by have:=HLN.out;simp only [Lib.strCells_length];omega) (by have:=HWT.out.lt;omega)).mono ?_
     rintro e w2 ⟨rfl,hadd⟩
     have hadd:=Adds.byte (c:=33) hadd
     have HA1:=hid hadd
     have hk:=hadd.kt.get HWT.out.pr (by omega) (by decide)
     have r0:w2.cell? ⟨w.heap.size,0,none⟩=some (.slice ao items.length c):=heap_cell (i:=0) hk
     have r1:w2.cell? ⟨w.heap.size,1,none⟩=some (.int .i64 b):=heap_cell (i:=1) hk
     clear hk hadd
     go_wp2_with fail
     refine (Tryz.strconv_Itoa (b:Int) (by omega) (by omega) _ (Lib.TabBelow.here (HP.out.on (HWT.out.bl.trans HA1.out.bl)))).mono ?_
     rintro e w3 ⟨rfl,kk,os,hw3⟩
     rw [itoa_nat]
     have hg3:Below w2.heap.size w2 w3:=by rw [hw3];exact below_growN _ _ _
     have HG3:=hid hg3
     have HB3:=hid (HA1.out.bd.below hg3)
     clear hw3 hg3
     have HDS:=hid (decT_size b)
     go_wp2_with fail
     refine (bWriteString w.heap.size (w.heap.size+1) _ (decT b) _ HB3.out (by have:=HLN.out;have:=HDS.out;simp only [List.length_append,Lib.strCells_length,sz1];omega) (by have:=HWT.out.lt;have:=HA1.out.bl.size;have:=HG3.out.size;omega)).mono ?_
     rintro e w4 ⟨rfl,h1,h2,h3⟩
     have HA4:=hid (HA1.out.trans ((Adds.mk h1 h2 h3).from HG3.out (by have:=HWT.out.lt;have:=HA1.out.bl.size;omega)))
     clear h1 h2 h3
     go_wp2_with fail
     have hfin:=HA4.out.bd
     rw [←strCells_append] at hfin
     have HFIN:=hid hfin
     clear hfin
     refine (builder_text HFIN.out (by have:=HWT.out.lt;have:=HA4.out.bl.size;omega)).mono ?_
     rintro e w5 ⟨rfl,hb5⟩
     have HB5:=hid ((HWT.out.bl.trans HA4.out.bl).trans hb5)
     clear hb5
     go_wp2
     go_ret
     exact ⟨ret_str (by simp only [treeT];rw [append_ass]),HB5.out⟩
def tokT (t:Tok):ByteArray:=(t.text ++ ⟨#[64]⟩) ++ ((decT t.line ++ ⟨#[58]⟩) ++ decT t.col)
def joinT:List ByteArray→ByteArray
 | []=>⟨#[]⟩
 | a :: r=>r.foldl (fun s x=>(s ++ ⟨#[32]⟩) ++ x) a
theorem joinT_snoc (l:List ByteArray) (x:ByteArray) (h:l ≠ []):joinT (l ++ [x])=(joinT l ++ ⟨#[32]⟩) ++ x:=by
 cases l with
 | nil=>exact absurd rfl h
 | cons a r=>simp [joinT]
theorem joinT_one (x:ByteArray):joinT [x]=x:=rfl
theorem joinT_from:∀ (r:List ByteArray) (M:Nat) (a:ByteArray),(∀ s∈r,s.size≤M)→(r.foldl (fun s x=>(s ++ ⟨#[32]⟩) ++ x) a).size≤a.size+r.length * (M+1)
 | [],_,a,_=>by simp
 | b :: r,M,a,h=>by
  have h1:=joinT_from r M ((a ++ ⟨#[32]⟩) ++ b) fun s hs=>h s (by simp [hs])
  have h2:=h b (by simp)
  rw [ByteArray.size_append,ByteArray.size_append,sz1] at h1
  simp only [List.foldl_cons,List.length_cons,Nat.add_mul] at *
  omega
theorem joinT_size (l:List ByteArray) (M:Nat) (h:∀ s∈l,s.size≤M):(joinT l).size≤l.length * (M+1):=by
 cases l with
 | nil=>simp [joinT];rfl
 | cons a r =>
  have:=joinT_from r M a fun s hs=>h s (by simp [hs])
  have h2:=h a (by simp)
  simp only [joinT,List.length_cons,Nat.add_mul] at *
  omega
theorem Adds.after {B b:Nat} {bs:List Value} {s:ByteArray} {w w1 w2:World} (h:Adds B b bs s w w1) (hb:Below w1.heap.size w1 w2) (hB:B≤w.heap.size):Adds B b bs s w w2 :=
 ⟨h.bd.below hb,h.bl.trans (below_mono (by have:=h.bl.size;omega) hb),h.kt.trans h.bl.size (KT.of_below hb)⟩
structure KT2 (ss:List ByteArray) (w wr:World) (k:Nat):Prop where
 bd:IsB w.heap.size w.heap.size (Lib.strCells (joinT (ss.take k))) wr
 bl:Below w.heap.size w wr
 lt:w.heap.size < wr.heap.size
theorem tok_a (tt:ByteArray) (tl tc:Nat):(tt ++ ⟨#[64]⟩ ++ (decT tl) ++ ⟨#[58]⟩ ++ (decT tc))=tokT ⟨tt,tl,tc⟩:=by
 apply ByteArray.ext
 simp [tokT,ByteArray.data_append,Array.append_assoc]
theorem tok_b (j tt:ByteArray) (tl tc:Nat):j ++ (⟨#[32]⟩ ++ tt ++ ⟨#[64]⟩ ++ (decT tl) ++ ⟨#[58]⟩ ++ (decT tc))=(j ++ ⟨#[32]⟩) ++ tokT ⟨tt,tl,tc⟩:=by
 apply ByteArray.ext
 simp [tokT,ByteArray.data_append,Array.append_assoc]
theorem joinT_take0 (ss:List ByteArray) (k:Nat) (hk:k < ss.length) (h0:k=0):joinT (ss.take (k+1))=joinT (ss.take k) ++ ss[k]:=by
 subst h0
 rw [take_succ_get ss 0 hk,List.take_zero,List.nil_append,joinT_one]
 apply ByteArray.ext
 simp [joinT,ByteArray.data_append]
theorem joinT_takeS (ss:List ByteArray) (k:Nat) (hk:k < ss.length) (h0:k≠0):joinT (ss.take (k+1))=(joinT (ss.take k) ++ ⟨#[32]⟩) ++ ss[k]:=by
 rw [take_succ_get ss k hk,joinT_snoc]
 intro e
 have:=congrArg List.length e
 rw [List.length_take,List.length_nil] at this
 omega
theorem writeTokens_any (toks:List Tok) (hn:toks.length≤401) (hsz:∀ (i:Nat) (t:Tok),toks[i]? = some t→t.text.size≤400∧t.line≤1000∧t.col≤1000) (tb c:Nat) (w:World)
 (ht:∃ cur,w.heap[tb]? = some (.cells cur 121)∧cur.toList.take (3 * toks.length)=tokCells toks) (hp:PT w.heap.size w) :
 Calls Tryz.prog 38 #[.slice (some ⟨tb,0,none⟩) toks.length c] w fun e w'=>e = .returned (.string (joinT (toks.map tokT)))∧Below w.heap.size w w':=by
 obtain ⟨cur,htb,hcur⟩:=ht
 have HTB:=hid htb
 have HCUR:=hid hcur
 have HSZ:=hid hsz
 have HP:=hid hp
 obtain ⟨ss,hss⟩:∃ ss,ss=toks.map tokT:=⟨_,rfl⟩
 have hlen:ss.length=toks.length:=by rw [hss];simp
 have HGET:Hid (∀ k (h:k < toks.length),ss[k]'(by omega)=tokT toks[k]):=hid (fun k h=>by subst hss;simp)
 have HS1:Hid (∀ s∈ss,s.size≤3000):=hid (fun s hs=>by
  subst hss
  obtain ⟨t,ht,rfl⟩:=List.mem_map.1 hs
  obtain ⟨k,hk,rfl⟩:=List.getElem_of_mem ht
  obtain ⟨h1,h2,h3⟩:=hsz k _ (List.getElem?_eq_getElem hk)
  have d1:=decT_size toks[k].line
  have d2:=decT_size toks[k].col
  simp only [tokT,ByteArray.size_append,sz1];omega)
 have HW0:Hid (KT2 ss w (w.alloc (.cells #[.pointer none, .slice none 0 0] 119)) 0):=hid
  ⟨.inl ⟨by omega, .slice none 0 0,new_heap _ _,World.ownsRow_nil _ _ _ _,by simp [Value.ownBlock]⟩,(Below.refl _ _).alloc (Nat.le_refl _) _,by simp⟩
 rw [←hss]
 clear htb hcur hsz hp hss
 go_enter Tryz.func38,Tryz.ntmps38
 go_wp2
 go_loopg [8] toks.length (fun f v9 wr => ∃ k,k+f=toks.length∧v9 = .int .i64 (k:Nat)∧KT2 ss w wr k)
 case atStart=>exact ⟨0,by omega,rfl,HW0.out⟩
 case round =>
  clear HW0
  obtain ⟨k,hk,rfl,hwt⟩:=hrel
  have HWT:=hid hwt
  clear hwt
  by_cases hlt:k < toks.length
  · have hi:=List.getElem?_eq_getElem hlt
    have HG:=hid (HGET.out k hlt)
    have HJ0:=hid (joinT_take0 ss k (by omega))
    have HJS:=hid (joinT_takeS ss k (by omega))
    generalize htt:toks[k]=tk at hi HG
    obtain ⟨tt,tl,tc⟩:=tk
    obtain ⟨hz1,hz2,hz3⟩:=HSZ.out k _ hi
    simp only at hz1 hz2 hz3
    have z:=tokCells_get toks k _ hi
    have h1:=below_heap HWT.out.bl (heap_lt HTB.out) HTB.out
    have z0:wr.cell? ⟨tb,k * 3,none⟩=some (.string tt):=by
     rw [heap_cell h1,←Array.getElem?_toList,Nat.mul_comm];exact take_get HCUR.out z.1
    have z1:wr.cell? ⟨tb,k * 3+1,none⟩=some (.int .i64 tl):=by
     rw [heap_cell h1,←Array.getElem?_toList,Nat.mul_comm];exact take_get HCUR.out z.2.1
    have z2:wr.cell? ⟨tb,k * 3+2,none⟩=some (.int .i64 tc):=by
     rw [heap_cell h1,←Array.getElem?_toList,Nat.mul_comm];exact take_get HCUR.out z.2.2
    have hlt2:(k:Int) < (toks.length:Int):=by omega
    have hkc:(0:Int)≤(k:Int):=by omega
    have HB:=hid (HWT.out.bd.below (below_new wr (.cells #[.string tt, .int .i64 (tl:Nat), .int .i64 (tc:Nat)] 121)))
    have HB1:Hid (w.heap.size≤(wr.alloc (.cells #[.string tt, .int .i64 (tl:Nat), .int .i64 (tc:Nat)] 121)).heap.size):=hid (by have:=HWT.out.lt;simp;omega)
    have HP:=hid (HP.out.on (HWT.out.bl.alloc (by have:=HWT.out.lt;omega) (.cells #[.string tt, .int .i64 (tl:Nat), .int .i64 (tc:Nat)] 121)))
    have HN:=hid (new_heap wr (.cells #[.string tt, .int .i64 (tl:Nat), .int .i64 (tc:Nat)] 121))
    have hne:wr.heap.size≠w.heap.size:=Nat.ne_of_gt HWT.out.lt
    have HD1:=decT_size tl
    have HD2:=decT_size tc
    have HLN:Hid ((Lib.strCells (joinT (ss.take k))).length≤2000000):=hid (by
     have h1:=joinT_size (ss.take k) 3000 (fun s hs=>HS1.out s (List.mem_of_mem_take hs))
     simp only [List.length_take] at h1
     simp only [Lib.strCells_length]
     omega)
    clear htt z h1 hi
    by_cases hk0:k=0
    · subst hk0
      simp only [Nat.zero_mul,Nat.zero_add] at z0 z1 z2
      have HJ1:=hid (HJ0.out rfl)
      clear HJ0
      go_wp2_with fail
      refine (bWriteString w.heap.size w.heap.size (Lib.strCells (joinT (ss.take 0))) tt _ HB.out (by have:=HLN.out;simp only [List.length_append,Lib.strCells_length,ByteArray.size_append,sz1,LIM] at *;omega) HB1.out).mono ?_
      rintro e w1 ⟨rfl,h1,h2,h3⟩
      have hadd:=Adds.mk h1 h2 h3
      clear h1 h2 h3
      have HA:=hid hadd
      clear hadd
      have hk:=HA.out.kt.get HN.out hne (by decide)
      have k1_0:World.cell? _ ⟨wr.heap.size,0,none⟩=some (.string tt):=heap_cell (i:=0) hk
      have k1_1:World.cell? _ ⟨wr.heap.size,1,none⟩=some (.int .i64 (tl:Nat)):=heap_cell (i:=1) hk
      have k1_2:World.cell? _ ⟨wr.heap.size,2,none⟩=some (.int .i64 (tc:Nat)):=heap_cell (i:=2) hk
      clear hk
      go_wp2_with fail
      refine (bWriteByte w.heap.size w.heap.size (Lib.strCells (joinT (ss.take 0)) ++ Lib.strCells (tt)) 64 _ HA.out.bd (by have:=HLN.out;simp only [List.length_append,Lib.strCells_length,ByteArray.size_append,sz1,LIM] at *;omega) (Nat.le_trans HB1.out HA.out.bl.size)).mono ?_
      rintro e w2 ⟨rfl,hadd⟩
      have hadd:=Adds.byte (c:=64) hadd
      have HA:=hid (HA.out.trans hadd)
      clear hadd
      have hk:=HA.out.kt.get HN.out hne (by decide)
      have k2_0:World.cell? _ ⟨wr.heap.size,0,none⟩=some (.string tt):=heap_cell (i:=0) hk
      have k2_1:World.cell? _ ⟨wr.heap.size,1,none⟩=some (.int .i64 (tl:Nat)):=heap_cell (i:=1) hk
      have k2_2:World.cell? _ ⟨wr.heap.size,2,none⟩=some (.int .i64 (tc:Nat)):=heap_cell (i:=2) hk
      clear hk
      go_wp2_with fail
      refine (Tryz.strconv_Itoa (tl:Int) (by omega) (by omega) _ (Lib.TabBelow.here (HP.out.on HA.out.bl))).mono ?_
      rintro e w3 ⟨rfl,kk,os,hw⟩
      rw [itoa_nat]
      have hg:Below w2.heap.size w2 w3:=by rw [hw];exact below_growN _ _ _
      have HA:=hid (HA.out.after hg HB1.out)
      clear hw hg
      have hk:=HA.out.kt.get HN.out hne (by decide)
      have k3_0:World.cell? _ ⟨wr.heap.size,0,none⟩=some (.string tt):=heap_cell (i:=0) hk
      have k3_1:World.cell? _ ⟨wr.heap.size,1,none⟩=some (.int .i64 (tl:Nat)):=heap_cell (i:=1) hk
      have k3_2:World.cell? _ ⟨wr.heap.size,2,none⟩=some (.int .i64 (tc:Nat)):=heap_cell (i:=2) hk
      clear hk
      go_wp2_with fail
      refine (bWriteString w.heap.size w.heap.size (Lib.strCells (joinT (ss.take 0)) ++ Lib.strCells (tt ++ ⟨#[64]⟩)) (decT tl) _ HA.out.bd (by have:=HLN.out;simp only [List.length_append,Lib.strCells_length,ByteArray.size_append,sz1,LIM] at *;omega) (Nat.le_trans HB1.out HA.out.bl.size)).mono ?_
      rintro e w4 ⟨rfl,h1,h2,h3⟩
      have hadd:=Adds.mk h1 h2 h3
      clear h1 h2 h3
      have HA:=hid (HA.out.trans hadd)
      clear hadd
      have hk:=HA.out.kt.get HN.out hne (by decide)
      have k4_0:World.cell? _ ⟨wr.heap.size,0,none⟩=some (.string tt):=heap_cell (i:=0) hk
      have k4_1:World.cell? _ ⟨wr.heap.size,1,none⟩=some (.int .i64 (tl:Nat)):=heap_cell (i:=1) hk
      have k4_2:World.cell? _ ⟨wr.heap.size,2,none⟩=some (.int .i64 (tc:Nat)):=heap_cell (i:=2) hk
      clear hk
      go_wp2_with fail
      refine (bWriteByte w.heap.size w.heap.size (Lib.strCells (joinT (ss.take 0)) ++ Lib.strCells (tt ++ ⟨#[64]⟩ ++ (decT tl))) 58 _ HA.out.bd (by have:=HLN.out;simp only [List.length_append,Lib.strCells_length,ByteArray.size_append,sz1,LIM] at *;omega) (Nat.le_trans HB1.out HA.out.bl.size)).mono ?_
      rintro e w5 ⟨rfl,hadd⟩
      have hadd:=Adds.byte (c:=58) hadd
      have HA:=hid (HA.out.trans hadd)
      clear hadd
      have hk:=HA.out.kt.get HN.out hne (by decide)
      have k5_0:World.cell? _ ⟨wr.heap.size,0,none⟩=some (.string tt):=heap_cell (i:=0) hk
      have k5_1:World.cell? _ ⟨wr.heap.size,1,none⟩=some (.int .i64 (tl:Nat)):=heap_cell (i:=1) hk
      have k5_2:World.cell? _ ⟨wr.heap.size,2,none⟩=some (.int .i64 (tc:Nat)):=heap_cell (i:=2) hk
      clear hk
      go_wp2_with fail
      refine (Tryz.strconv_Itoa (tc:Int) (by omega) (by omega) _ (Lib.TabBelow.here (HP.out.on HA.out.bl))).mono ?_
      rintro e w6 ⟨rfl,kk,os,hw⟩
      rw [itoa_nat]
      have hg:Below w5.heap.size w5 w6:=by rw [hw];exact below_growN _ _ _
      have HA:=hid (HA.out.after hg HB1.out)
      clear hw hg
      have hk:=HA.out.kt.get HN.out hne (by decide)
      have k6_0:World.cell? _ ⟨wr.heap.size,0,none⟩=some (.string tt):=heap_cell (i:=0) hk
      have k6_1:World.cell? _ ⟨wr.heap.size,1,none⟩=some (.int .i64 (tl:Nat)):=heap_cell (i:=1) hk
      have k6_2:World.cell? _ ⟨wr.heap.size,2,none⟩=some (.int .i64 (tc:Nat)):=heap_cell (i:=2) hk
      clear hk
      go_wp2_with fail
      refine (bWriteString w.heap.size w.heap.size (Lib.strCells (joinT (ss.take 0)) ++ Lib.strCells (tt ++ ⟨#[64]⟩ ++ (decT tl) ++ ⟨#[58]⟩)) (decT tc) _ HA.out.bd (by have:=HLN.out;simp only [List.length_append,Lib.strCells_length,ByteArray.size_append,sz1,LIM] at *;omega) (Nat.le_trans HB1.out HA.out.bl.size)).mono ?_
      rintro e w7 ⟨rfl,h1,h2,h3⟩
      have hadd:=Adds.mk h1 h2 h3
      clear h1 h2 h3
      have HA:=hid (HA.out.trans hadd)
      clear hadd
      have hk:=HA.out.kt.get HN.out hne (by decide)
      have k7_0:World.cell? _ ⟨wr.heap.size,0,none⟩=some (.string tt):=heap_cell (i:=0) hk
      have k7_1:World.cell? _ ⟨wr.heap.size,1,none⟩=some (.int .i64 (tl:Nat)):=heap_cell (i:=1) hk
      have k7_2:World.cell? _ ⟨wr.heap.size,2,none⟩=some (.int .i64 (tc:Nat)):=heap_cell (i:=2) hk
      clear hk
      have HW2:Hid (KT2 ss w w7 (0+1)):=hid ⟨by rw [HJ1.out,HG.out,←tok_a tt tl tc,strCells_append];exact HA.out.bd,(HWT.out.bl.alloc (by have:=HWT.out.lt;omega) _).trans HA.out.bl,by have:=HA.out.bl.size;have:=HWT.out.lt;simp at *;omega⟩
      go_wp2
      go_roundg (toks.length - 1)
      case rel=>exact ⟨1,by omega,by go_num,HW2.out⟩
      case measure=>omega
    · have hk1:((0:Int) < (k:Int)):=by omega
      go_wp2_with fail
      refine (bWriteByte w.heap.size w.heap.size (Lib.strCells (joinT (ss.take k))) 32 _ HB.out (by have:=HLN.out;simp only [List.length_append,Lib.strCells_length,ByteArray.size_append,sz1,LIM] at *;omega) HB1.out).mono ?_
      rintro e w1 ⟨rfl,hadd⟩
      have hadd:=Adds.byte (c:=32) hadd
      have HA:=hid hadd
      clear hadd
      have hk:=HA.out.kt.get HN.out hne (by decide)
      have k1_0:World.cell? _ ⟨wr.heap.size,0,none⟩=some (.string tt):=heap_cell (i:=0) hk
      have k1_1:World.cell? _ ⟨wr.heap.size,1,none⟩=some (.int .i64 (tl:Nat)):=heap_cell (i:=1) hk
      have k1_2:World.cell? _ ⟨wr.heap.size,2,none⟩=some (.int .i64 (tc:Nat)):=heap_cell (i:=2) hk
      clear hk
      go_wp2_with fail
      refine (bWriteString w.heap.size w.heap.size (Lib.strCells (joinT (ss.take k)) ++ Lib.strCells (⟨#[32]⟩)) tt _ HA.out.bd (by have:=HLN.out;simp only [List.length_append,Lib.strCells_length,ByteArray.size_append,sz1,LIM] at *;omega) (Nat.le_trans HB1.out HA.out.bl.size)).mono ?_
      rintro e w2 ⟨rfl,h1,h2,h3⟩
      have hadd:=Adds.mk h1 h2 h3
      clear h1 h2 h3
      have HA:=hid (HA.out.trans hadd)
      clear hadd
      have hk:=HA.out.kt.get HN.out hne (by decide)
      have k2_0:World.cell? _ ⟨wr.heap.size,0,none⟩=some (.string tt):=heap_cell (i:=0) hk
      have k2_1:World.cell? _ ⟨wr.heap.size,1,none⟩=some (.int .i64 (tl:Nat)):=heap_cell (i:=1) hk
      have k2_2:World.cell? _ ⟨wr.heap.size,2,none⟩=some (.int .i64 (tc:Nat)):=heap_cell (i:=2) hk
      clear hk
      go_wp2_with fail
      refine (bWriteByte w.heap.size w.heap.size (Lib.strCells (joinT (ss.take k)) ++ Lib.strCells (⟨#[32]⟩ ++ tt)) 64 _ HA.out.bd (by have:=HLN.out;simp only [List.length_append,Lib.strCells_length,ByteArray.size_append,sz1,LIM] at *;omega) (Nat.le_trans HB1.out HA.out.bl.size)).mono ?_
      rintro e w3 ⟨rfl,hadd⟩
      have hadd:=Adds.byte (c:=64) hadd
      have HA:=hid (HA.out.trans hadd)
      clear hadd
      have hk:=HA.out.kt.get HN.out hne (by decide)
      have k3_0:World.cell? _ ⟨wr.heap.size,0,none⟩=some (.string tt):=heap_cell (i:=0) hk
      have k3_1:World.cell? _ ⟨wr.heap.size,1,none⟩=some (.int .i64 (tl:Nat)):=heap_cell (i:=1) hk
      have k3_2:World.cell? _ ⟨wr.heap.size,2,none⟩=some (.int .i64 (tc:Nat)):=heap_cell (i:=2) hk
      clear hk
      go_wp2_with fail
      refine (Tryz.strconv_Itoa (tl:Int) (by omega) (by omega) _ (Lib.TabBelow.here (HP.out.on HA.out.bl))).mono ?_
      rintro e w4 ⟨rfl,kk,os,hw⟩
      rw [itoa_nat]
      have hg:Below w3.heap.size w3 w4:=by rw [hw];exact below_growN _ _ _
      have HA:=hid (HA.out.after hg HB1.out)
      clear hw hg
      have hk:=HA.out.kt.get HN.out hne (by decide)
      have k4_0:World.cell? _ ⟨wr.heap.size,0,none⟩=some (.string tt):=heap_cell (i:=0) hk
      have k4_1:World.cell? _ ⟨wr.heap.size,1,none⟩=some (.int .i64 (tl:Nat)):=heap_cell (i:=1) hk
      have k4_2:World.cell? _ ⟨wr.heap.size,2,none⟩=some (.int .i64 (tc:Nat)):=heap_cell (i:=2) hk
      clear hk
      go_wp2_with fail
      refine (bWriteString w.heap.size w.heap.size (Lib.strCells (joinT (ss.take k)) ++ Lib.strCells (⟨#[32]⟩ ++ tt ++ ⟨#[64]⟩)) (decT tl) _ HA.out.bd (by have:=HLN.out;simp only [List.length_append,Lib.strCells_length,ByteArray.size_append,sz1,LIM] at *;omega) (Nat.le_trans HB1.out HA.out.bl.size)).mono ?_
      rintro e w5 ⟨rfl,h1,h2,h3⟩
      have hadd:=Adds.mk h1 h2 h3
      clear h1 h2 h3
      have HA:=hid (HA.out.trans hadd)
      clear hadd
      have hk:=HA.out.kt.get HN.out hne (by decide)
      have k5_0:World.cell? _ ⟨wr.heap.size,0,none⟩=some (.string tt):=heap_cell (i:=0) hk
      have k5_1:World.cell? _ ⟨wr.heap.size,1,none⟩=some (.int .i64 (tl:Nat)):=heap_cell (i:=1) hk
      have k5_2:World.cell? _ ⟨wr.heap.size,2,none⟩=some (.int .i64 (tc:Nat)):=heap_cell (i:=2) hk
      clear hk
      go_wp2_with fail
      refine (bWriteByte w.heap.size w.heap.size (Lib.strCells (joinT (ss.take k)) ++ Lib.strCells (⟨#[32]⟩ ++ tt ++ ⟨#[64]⟩ ++ (decT tl))) 58 _ HA.out.bd (by have:=HLN.out;simp only [List.length_append,Lib.strCells_length,ByteArray.size_append,sz1,LIM] at *;omega) (Nat.le_trans HB1.out HA.out.bl.size)).mono ?_
      rintro e w6 ⟨rfl,hadd⟩
      have hadd:=Adds.byte (c:=58) hadd
      have HA:=hid (HA.out.trans hadd)
      clear hadd
      have hk:=HA.out.kt.get HN.out hne (by decide)
      have k6_0:World.cell? _ ⟨wr.heap.size,0,none⟩=some (.string tt):=heap_cell (i:=0) hk
      have k6_1:World.cell? _ ⟨wr.heap.size,1,none⟩=some (.int .i64 (tl:Nat)):=heap_cell (i:=1) hk
      have k6_2:World.cell? _ ⟨wr.heap.size,2,none⟩=some (.int .i64 (tc:Nat)):=heap_cell (i:=2) hk
      clear hk
      go_wp2_with fail
      refine (Tryz.strconv_Itoa (tc:Int) (by omega) (by omega) _ (Lib.TabBelow.here (HP.out.on HA.out.bl))).mono ?_
      rintro e w7 ⟨rfl,kk,os,hw⟩
      rw [itoa_nat]
      have hg:Below w6.heap.size w6 w7:=by rw [hw];exact below_growN _ _ _
      have HA:=hid (HA.out.after hg HB1.out)
      clear hw hg
      have hk:=HA.out.kt.get HN.out hne (by decide)
      have k7_0:World.cell? _ ⟨wr.heap.size,0,none⟩=some (.string tt):=heap_cell (i:=0) hk
      have k7_1:World.cell? _ ⟨wr.heap.size,1,none⟩=some (.int .i64 (tl:Nat)):=heap_cell (i:=1) hk
      have k7_2:World.cell? _ ⟨wr.heap.size,2,none⟩=some (.int .i64 (tc:Nat)):=heap_cell (i:=2) hk
      clear hk
      go_wp2_with fail
      refine (bWriteString w.heap.size w.heap.size (Lib.strCells (joinT (ss.take k)) ++ Lib.strCells (⟨#[32]⟩ ++ tt ++ ⟨#[64]⟩ ++ (decT tl) ++ ⟨#[58]⟩)) (decT tc) _ HA.out.bd (by have:=HLN.out;simp only [List.length_append,Lib.strCells_length,ByteArray.size_append,sz1,LIM] at *;omega) (Nat.le_trans HB1.out HA.out.bl.size)).mono ?_
      rintro e w8 ⟨rfl,h1,h2,h3⟩
      have hadd:=Adds.mk h1 h2 h3
      clear h1 h2 h3
      have HA:=hid (HA.out.trans hadd)
      clear hadd
      have hk:=HA.out.kt.get HN.out hne (by decide)
      have k8_0:World.cell? _ ⟨wr.heap.size,0,none⟩=some (.string tt):=heap_cell (i:=0) hk
      have k8_1:World.cell? _ ⟨wr.heap.size,1,none⟩=some (.int .i64 (tl:Nat)):=heap_cell (i:=1) hk
      have k8_2:World.cell? _ ⟨wr.heap.size,2,none⟩=some (.int .i64 (tc:Nat)):=heap_cell (i:=2) hk
      clear hk
      have HW2:Hid (KT2 ss w w8 (k+1)):=hid ⟨by rw [HJS.out hk0,HG.out,←tok_b (joinT (ss.take k)) tt tl tc,strCells_append];exact HA.out.bd,(HWT.out.bl.alloc (by have:=HWT.out.lt;omega) _).trans HA.out.bl,by have:=HA.out.bl.size;have:=HWT.out.lt;simp at *;omega⟩
      go_wp2
      go_roundg (toks.length - (k+1))
      case rel=>exact ⟨k+1,by omega,by go_num,HW2.out⟩
      case measure=>omega
  · have hke:k=toks.length:=by omega
    subst hke
    have HC2:=hid (show ss.take toks.length=ss by rw [←hlen,List.take_length])
    have hb0:=HWT.out.bd
    rw [HC2.out] at hb0
    have HB0:=hid hb0
    clear hb0
    go_wp2_with fail
    refine (builder_text HB0.out (by have:=HWT.out.lt;omega)).mono ?_
    rintro e w2 ⟨rfl,hb2⟩
    have HB2:=hid (HWT.out.bl.trans hb2)
    clear hb2
    go_wp2
    go_ret
    exact ⟨rfl,HB2.out⟩
end Go.Proofs.YthibodlojlkppaaGreatDoor
