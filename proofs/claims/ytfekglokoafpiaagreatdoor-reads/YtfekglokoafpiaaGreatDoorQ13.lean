/-
  The document's parser: an item.
-/
import Derived.Test.YtfekglokoafpiaaGreatDoorQ12

set_option linter.unusedVariables false
set_option linter.unusedSimpArgs false

namespace Go.Proofs.YtfekglokoafpiaaGreatDoor
open Go.RowKit

set_option maxRecDepth 100000 in
set_option maxHeartbeats 2000000 in
theorem ritem_use {toks : List Tok} (hw : Wf toks) (rb tb cap a : Nat) (w : World) (ha : a < toks.length) (hP : RP toks rb tb cap a 0 false w.heap) (h0 : isT toks a [117, 115, 101] = true) :
    Calls Tryz.prog 173 #[.pointer (some ⟨rb, 0, none⟩)] w (IPost toks rb tb cap (itemP toks a).1 (itemP toks a).2 w) := by
  have hn := hw.next_isT ha h0
  obtain ⟨a2, n2, b, nf, h2, h3, i2, hfin⟩ := usteps hw hn
  have hpre : itemP toks a = useP toks (a + 1) := by simp [itemP, h0]
  have HS0 := hid (pass3_use h0)
  have HT0 := hid (pass3_useT h0)
  have HW := hid hw
  have HP := hid hP
  have HS2 := hid h2
  have HS3 := hid h3
  have HF := hid hfin
  have HPRE := hid hpre
  clear hw hP h0 h2 h3 hfin hpre
  have H0 := hid ((DS.refl HP.out).alloc (.cells #[.int .i64 0, .string ⟨#[]⟩, .string ⟨#[]⟩, .string ⟨#[]⟩, .int .u8 0, .string ⟨#[]⟩, .slice none 0 0] 234))
  have HR0 := hid (new_heap w (.cells #[.int .i64 0, .string ⟨#[]⟩, .string ⟨#[]⟩, .string ⟨#[]⟩, .int .u8 0, .string ⟨#[]⟩, .slice none 0 0] 234))
  go_enter Tryz.func173, Tryz.ntmps173
  go_wp2_with fail
  refine (rpass_any HW.out rb tb cap a 0 false _ [⟨#[117, 115, 101]⟩, ⟨#[112, 117, 98]⟩, ⟨#[108, 101, 116]⟩] _ (H0.out.alloc _).rp ha (Lst.lit3n (by simp)) HS0.out).mono ?_
  rintro e w1 ⟨rfl, hp, hf⟩
  rw [HT0.out]
  have H1b := hid ((H0.out.alloc _).call hp hf)
  have HR1b := hid (own_fr (old_heap _ HR0.out) hf (Nat.le_refl _) H0.out.pl)
  have H1 := hid (H1b.out.alloc (.cells #[.int .i64 0, .string ⟨#[117, 115, 101]⟩, .string ⟨#[]⟩, .string ⟨#[]⟩, .int .u8 0, .string ⟨#[]⟩, .slice none 0 0] 234))
  have HR1 := hid (old_heap (.cells #[.int .i64 0, .string ⟨#[117, 115, 101]⟩, .string ⟨#[]⟩, .string ⟨#[]⟩, .int .u8 0, .string ⟨#[]⟩, .slice none 0 0] 234) HR1b.out)
  have hi := new_heap w1 (.cells #[.int .i64 0, .string ⟨#[117, 115, 101]⟩, .string ⟨#[]⟩, .string ⟨#[]⟩, .int .u8 0, .string ⟨#[]⟩, .slice none 0 0] 234)
  have HI1 := hid hi
  have hlt : Hid (w.heap.size < w1.heap.size) := hid (heap_lt (own_fr (old_heap _ HR0.out) hf (Nat.le_refl _) H0.out.pl))
  have hrb := H0.out.pl
  clear hp hf
  have c0 : World.cell? _ ⟨w1.heap.size, 0, none⟩ = some (.int .i64 0) := heap_cell (i := 0) hi
  have fc0 : World.frozen? _ ⟨w1.heap.size, 0, none⟩ = false := heap_frozen hi
  have c1 : World.cell? _ ⟨w1.heap.size, 1, none⟩ = some (.string ⟨#[117, 115, 101]⟩) := heap_cell (i := 1) hi
  have fc1 : World.frozen? _ ⟨w1.heap.size, 1, none⟩ = false := heap_frozen hi
  have c2 : World.cell? _ ⟨w1.heap.size, 2, none⟩ = some (.string ⟨#[]⟩) := heap_cell (i := 2) hi
  have fc2 : World.frozen? _ ⟨w1.heap.size, 2, none⟩ = false := heap_frozen hi
  have c3 : World.cell? _ ⟨w1.heap.size, 3, none⟩ = some (.string ⟨#[]⟩) := heap_cell (i := 3) hi
  have fc3 : World.frozen? _ ⟨w1.heap.size, 3, none⟩ = false := heap_frozen hi
  have c4 : World.cell? _ ⟨w1.heap.size, 4, none⟩ = some (.int .u8 0) := heap_cell (i := 4) hi
  have fc4 : World.frozen? _ ⟨w1.heap.size, 4, none⟩ = false := heap_frozen hi
  have c5 : World.cell? _ ⟨w1.heap.size, 5, none⟩ = some (.string ⟨#[]⟩) := heap_cell (i := 5) hi
  have fc5 : World.frozen? _ ⟨w1.heap.size, 5, none⟩ = false := heap_frozen hi
  have c6 : World.cell? _ ⟨w1.heap.size, 6, none⟩ = some (.slice none 0 0) := heap_cell (i := 6) hi
  have fc6 : World.frozen? _ ⟨w1.heap.size, 6, none⟩ = false := heap_frozen hi
  have p1 := H1.out.rp.c1
  have HB1 := hid (H1b.out.alloc (.cells #[.int .i64 ((a : Int) + 1), .string ⟨#[117, 115, 101]⟩, .string ⟨#[]⟩, .string ⟨#[]⟩, .int .u8 0, .string ⟨#[]⟩, .slice none 0 0] 234))
  have HRB1 := hid (old_heap (.cells #[.int .i64 ((a : Int) + 1), .string ⟨#[117, 115, 101]⟩, .string ⟨#[]⟩, .string ⟨#[]⟩, .int .u8 0, .string ⟨#[]⟩, .slice none 0 0] 234) HR1b.out)
  have HIB := hid (new_heap w1 (.cells #[.int .i64 ((a : Int) + 1), .string ⟨#[117, 115, 101]⟩, .string ⟨#[]⟩, .string ⟨#[]⟩, .int .u8 0, .string ⟨#[]⟩, .slice none 0 0] 234))
  clear hi
  go_wp2_with fail
  refine (rname_any HW.out rb tb cap (a + 1) 0 false _ HB1.out.rp hn HS2.out).mono ?_
  rintro e w2 ⟨rfl, hp, hf⟩
  have H2 := hid (HB1.out.call hp hf)
  have HR2 := hid (own_fr HRB1.out hf (Nat.le_refl _) hrb)
  have hi2 := own_fr HIB.out hf (Nat.le_of_lt hlt.out) hrb
  have HI2 := hid hi2
  clear hp hf
  have d0 : World.cell? _ ⟨w1.heap.size, 0, none⟩ = some (.int .i64 ((a : Int) + 1)) := heap_cell (i := 0) hi2
  have fd0 : World.frozen? _ ⟨w1.heap.size, 0, none⟩ = false := heap_frozen hi2
  have d1 : World.cell? _ ⟨w1.heap.size, 1, none⟩ = some (.string ⟨#[117, 115, 101]⟩) := heap_cell (i := 1) hi2
  have fd1 : World.frozen? _ ⟨w1.heap.size, 1, none⟩ = false := heap_frozen hi2
  have d2 : World.cell? _ ⟨w1.heap.size, 2, none⟩ = some (.string ⟨#[]⟩) := heap_cell (i := 2) hi2
  have fd2 : World.frozen? _ ⟨w1.heap.size, 2, none⟩ = false := heap_frozen hi2
  have d3 : World.cell? _ ⟨w1.heap.size, 3, none⟩ = some (.string ⟨#[]⟩) := heap_cell (i := 3) hi2
  have fd3 : World.frozen? _ ⟨w1.heap.size, 3, none⟩ = false := heap_frozen hi2
  have d4 : World.cell? _ ⟨w1.heap.size, 4, none⟩ = some (.int .u8 0) := heap_cell (i := 4) hi2
  have fd4 : World.frozen? _ ⟨w1.heap.size, 4, none⟩ = false := heap_frozen hi2
  have d5 : World.cell? _ ⟨w1.heap.size, 5, none⟩ = some (.string ⟨#[]⟩) := heap_cell (i := 5) hi2
  have fd5 : World.frozen? _ ⟨w1.heap.size, 5, none⟩ = false := heap_frozen hi2
  have d6 : World.cell? _ ⟨w1.heap.size, 6, none⟩ = some (.slice none 0 0) := heap_cell (i := 6) hi2
  have fd6 : World.frozen? _ ⟨w1.heap.size, 6, none⟩ = false := heap_frozen hi2
  clear hi2
  go_wp2_with fail
  have hi3 : (w2.setCell ⟨w1.heap.size, 2, none⟩ (.string (nameT toks (a + 1) false))).heap[w1.heap.size]? = some (.cells #[.int .i64 ((a : Int) + 1), .string ⟨#[117, 115, 101]⟩, .string (nameT toks (a + 1) false), .string ⟨#[]⟩, .int .u8 0, .string ⟨#[]⟩, .slice none 0 0] 234) := heap_setCell_lit (i := 2) HI2.out _
  have HI3 := hid hi3
  clear hi3
  refine (rpass_any HW.out rb tb cap a2 0 n2 _ [⟨#[59]⟩] _ ((H2.out.set (Nat.le_of_lt hlt.out) 2 (.string (nameT toks (a + 1) false))).alloc _).rp i2 (Lst.lit1n (by simp)) HS3.out).mono ?_
  rintro e w3 ⟨rfl, hp, hf⟩
  have HDL := hid (((H2.out.set (Nat.le_of_lt hlt.out) 2 (.string (nameT toks (a + 1) false))).alloc _).call hp hf)
  have HRL := hid (own_fr (old_heap _ (own_set (i := 2) HR2.out (Nat.ne_of_lt hlt.out) _)) hf (Nat.le_refl _) hrb)
  have HIL := hid (own_fr (old_heap _ HI3.out) hf (Nat.le_of_lt hlt.out) hrb)
  clear hp hf
  have hr := HRL.out
  have he := HIL.out
  have r0 : World.cell? _ ⟨w.heap.size, 0, none⟩ = some (.int .i64 0) := heap_cell (i := 0) hr
  have fr0 : World.frozen? _ ⟨w.heap.size, 0, none⟩ = false := heap_frozen hr
  have r1 : World.cell? _ ⟨w.heap.size, 1, none⟩ = some (.string ⟨#[]⟩) := heap_cell (i := 1) hr
  have fr1 : World.frozen? _ ⟨w.heap.size, 1, none⟩ = false := heap_frozen hr
  have r2 : World.cell? _ ⟨w.heap.size, 2, none⟩ = some (.string ⟨#[]⟩) := heap_cell (i := 2) hr
  have fr2 : World.frozen? _ ⟨w.heap.size, 2, none⟩ = false := heap_frozen hr
  have r3 : World.cell? _ ⟨w.heap.size, 3, none⟩ = some (.string ⟨#[]⟩) := heap_cell (i := 3) hr
  have fr3 : World.frozen? _ ⟨w.heap.size, 3, none⟩ = false := heap_frozen hr
  have r4 : World.cell? _ ⟨w.heap.size, 4, none⟩ = some (.int .u8 0) := heap_cell (i := 4) hr
  have fr4 : World.frozen? _ ⟨w.heap.size, 4, none⟩ = false := heap_frozen hr
  have r5 : World.cell? _ ⟨w.heap.size, 5, none⟩ = some (.string ⟨#[]⟩) := heap_cell (i := 5) hr
  have fr5 : World.frozen? _ ⟨w.heap.size, 5, none⟩ = false := heap_frozen hr
  have r6 : World.cell? _ ⟨w.heap.size, 6, none⟩ = some (.slice none 0 0) := heap_cell (i := 6) hr
  have fr6 : World.frozen? _ ⟨w.heap.size, 6, none⟩ = false := heap_frozen hr
  have e0 : World.cell? _ ⟨w1.heap.size, 0, none⟩ = some (.int .i64 ((a : Int) + 1)) := heap_cell (i := 0) he
  have e1 : World.cell? _ ⟨w1.heap.size, 1, none⟩ = some (.string ⟨#[117, 115, 101]⟩) := heap_cell (i := 1) he
  have e2 : World.cell? _ ⟨w1.heap.size, 2, none⟩ = some (.string (nameT toks (a + 1) false)) := heap_cell (i := 2) he
  have e3 : World.cell? _ ⟨w1.heap.size, 3, none⟩ = some (.string ⟨#[]⟩) := heap_cell (i := 3) he
  have e4 : World.cell? _ ⟨w1.heap.size, 4, none⟩ = some (.int .u8 0) := heap_cell (i := 4) he
  have e5 : World.cell? _ ⟨w1.heap.size, 5, none⟩ = some (.string ⟨#[]⟩) := heap_cell (i := 5) he
  have e6 : World.cell? _ ⟨w1.heap.size, 6, none⟩ = some (.slice none 0 0) := heap_cell (i := 6) he
  have hy := put7_same hr (.int .i64 ((a : Int) + 1)) (.string ⟨#[117, 115, 101]⟩) (.string (nameT toks (a + 1) false)) (.string ⟨#[]⟩) (.int .u8 0) (.string ⟨#[]⟩) (.slice none 0 0)
  have y0 : World.cell? _ ⟨w.heap.size, 0, none⟩ = some (.int .i64 ((a : Int) + 1)) := heap_cell (i := 0) hy
  have y1 : World.cell? _ ⟨w.heap.size, 1, none⟩ = some (.string ⟨#[117, 115, 101]⟩) := heap_cell (i := 1) hy
  have y2 : World.cell? _ ⟨w.heap.size, 2, none⟩ = some (.string (nameT toks (a + 1) false)) := heap_cell (i := 2) hy
  have y3 : World.cell? _ ⟨w.heap.size, 3, none⟩ = some (.string ⟨#[]⟩) := heap_cell (i := 3) hy
  have y4 : World.cell? _ ⟨w.heap.size, 4, none⟩ = some (.int .u8 0) := heap_cell (i := 4) hy
  have y5 : World.cell? _ ⟨w.heap.size, 5, none⟩ = some (.string ⟨#[]⟩) := heap_cell (i := 5) hy
  have y6 : World.cell? _ ⟨w.heap.size, 6, none⟩ = some (.slice none 0 0) := heap_cell (i := 6) hy
  go_wp2
  refine bodyPost_ret (v := .agg #[.int .i64 ((a : Int) + 1), .string ⟨#[117, 115, 101]⟩, .string (nameT toks (a + 1) false), .string ⟨#[]⟩, .int .u8 0, .string ⟨#[]⟩, .slice none 0 0]) (by simp [results, Tryz.results173, go_sem, y0, y1, y2, y3, y4, y5, y6]; try rfl) rfl ?_
  have hd := HDL.out.put7 (Nat.le_refl _) (.int .i64 ((a : Int) + 1)) (.string ⟨#[117, 115, 101]⟩) (.string (nameT toks (a + 1) false)) (.string ⟨#[]⟩) (.int .u8 0) (.string ⟨#[]⟩) (.slice none 0 0)
  rw [HPRE.out]
  exact use_post HF.out hd

set_option maxRecDepth 100000 in
set_option maxHeartbeats 2000000 in
theorem ritem_let {toks : List Tok} (hw : Wf toks) (hs : RL toks 0 1700) (rb tb cap a : Nat) (w : World) (ha : a < toks.length) (hP : RP toks rb tb cap a 0 false w.heap) (T : ByteArray) (a1 : Nat) (n1 : Bool) (hs0 : passS toks IW a false = (a1, n1)) (ht0 : passT toks IW a false = T) (hu : (T.toList == [117, 115, 101]) = false) (hpb : (T.toList == [112, 117, 98]) = false) (hT : n1 = false → T = ⟨#[108, 101, 116]⟩) (h1 : a1 < toks.length) :
    Calls Tryz.prog 173 #[.pointer (some ⟨rb, 0, none⟩)] w (IPost toks rb tb cap (if n1 then (a1, none) else tailP toks 1 a1).1 (if n1 then (a1, none) else tailP toks 1 a1).2 w) := by
  obtain ⟨a2, n2, a3, n3, a4, n4, a5, n5, b6, r6, b, nf, hst⟩ := lsteps hw 1 a1 n1 h1
  generalize hz : (if n1 then (a1, none) else tailP toks 1 a1) = z
  have HZ := hid hz
  clear hz
  have i2 := hst.i2
  have i3 := hst.i3
  have i4 := hst.i4
  have i5 := hst.i5
  have i6 := hst.i6
  have HLE := hid hw.le
  have HST := hid hst
  have HS := hid hs
  have HW := hid hw
  have HP := hid hP
  have HS0 := hid hs0
  have HT0 := hid ht0
  have HTL := hid hT
  clear hw hP hs hst hs0 ht0 hT
  have H0 := hid ((DS.refl HP.out).alloc (.cells #[.int .i64 0, .string ⟨#[]⟩, .string ⟨#[]⟩, .string ⟨#[]⟩, .int .u8 0, .string ⟨#[]⟩, .slice none 0 0] 234))
  have HR0 := hid (new_heap w (.cells #[.int .i64 0, .string ⟨#[]⟩, .string ⟨#[]⟩, .string ⟨#[]⟩, .int .u8 0, .string ⟨#[]⟩, .slice none 0 0] 234))
  go_enter Tryz.func173, Tryz.ntmps173
  go_wp2_with fail
  refine (rpass_any HW.out rb tb cap a 0 false _ [⟨#[117, 115, 101]⟩, ⟨#[112, 117, 98]⟩, ⟨#[108, 101, 116]⟩] _ (H0.out.alloc _).rp ha (Lst.lit3n (by simp)) HS0.out).mono ?_
  rintro e w1 ⟨rfl, hp, hf⟩
  rw [HT0.out]
  have H1b := hid ((H0.out.alloc _).call hp hf)
  have HR1b := hid (own_fr (old_heap _ HR0.out) hf (Nat.le_refl _) H0.out.pl)
  have H1 := hid (H1b.out.alloc (.cells #[.int .i64 0, .string T, .string ⟨#[]⟩, .string ⟨#[]⟩, .int .u8 0, .string ⟨#[]⟩, .slice none 0 0] 234))
  have HR1 := hid (old_heap (.cells #[.int .i64 0, .string T, .string ⟨#[]⟩, .string ⟨#[]⟩, .int .u8 0, .string ⟨#[]⟩, .slice none 0 0] 234) HR1b.out)
  have hi := new_heap w1 (.cells #[.int .i64 0, .string T, .string ⟨#[]⟩, .string ⟨#[]⟩, .int .u8 0, .string ⟨#[]⟩, .slice none 0 0] 234)
  have HI1 := hid hi
  have hlt : Hid (w.heap.size < w1.heap.size) := hid (heap_lt (own_fr (old_heap _ HR0.out) hf (Nat.le_refl _) H0.out.pl))
  have hrb := H0.out.pl
  clear hp hf
  clear hi
  have hi := HI1.out
  have c0 : World.cell? _ ⟨w1.heap.size, 0, none⟩ = some (.int .i64 0) := heap_cell (i := 0) hi
  have fc0 : World.frozen? _ ⟨w1.heap.size, 0, none⟩ = false := heap_frozen hi
  have c1 : World.cell? _ ⟨w1.heap.size, 1, none⟩ = some (.string T) := heap_cell (i := 1) hi
  have fc1 : World.frozen? _ ⟨w1.heap.size, 1, none⟩ = false := heap_frozen hi
  have c2 : World.cell? _ ⟨w1.heap.size, 2, none⟩ = some (.string ⟨#[]⟩) := heap_cell (i := 2) hi
  have fc2 : World.frozen? _ ⟨w1.heap.size, 2, none⟩ = false := heap_frozen hi
  have c3 : World.cell? _ ⟨w1.heap.size, 3, none⟩ = some (.string ⟨#[]⟩) := heap_cell (i := 3) hi
  have fc3 : World.frozen? _ ⟨w1.heap.size, 3, none⟩ = false := heap_frozen hi
  have c4 : World.cell? _ ⟨w1.heap.size, 4, none⟩ = some (.int .u8 0) := heap_cell (i := 4) hi
  have fc4 : World.frozen? _ ⟨w1.heap.size, 4, none⟩ = false := heap_frozen hi
  have c5 : World.cell? _ ⟨w1.heap.size, 5, none⟩ = some (.string ⟨#[]⟩) := heap_cell (i := 5) hi
  have fc5 : World.frozen? _ ⟨w1.heap.size, 5, none⟩ = false := heap_frozen hi
  have c6 : World.cell? _ ⟨w1.heap.size, 6, none⟩ = some (.slice none 0 0) := heap_cell (i := 6) hi
  have fc6 : World.frozen? _ ⟨w1.heap.size, 6, none⟩ = false := heap_frozen hi
  have p1 := H1.out.rp.c1
  have HB1 := hid (H1b.out.alloc (.cells #[.int .i64 ((a1 : Nat) : Int), .string T, .string ⟨#[]⟩, .string ⟨#[]⟩, .int .u8 0, .string ⟨#[]⟩, .slice none 0 0] 234))
  have HRB1 := hid (old_heap (.cells #[.int .i64 ((a1 : Nat) : Int), .string T, .string ⟨#[]⟩, .string ⟨#[]⟩, .int .u8 0, .string ⟨#[]⟩, .slice none 0 0] 234) HR1b.out)
  have HIB1 := hid (new_heap w1 (.cells #[.int .i64 ((a1 : Nat) : Int), .string T, .string ⟨#[]⟩, .string ⟨#[]⟩, .int .u8 0, .string ⟨#[]⟩, .slice none 0 0] 234))
  clear hi
  go_wp2_with fail
  refine (rname_any HW.out rb tb cap a1 0 n1 _ HB1.out.rp h1 HST.out.s2).mono ?_
  rintro e w2 ⟨rfl, hp, hf⟩
  have H2 := hid (HB1.out.call hp hf)
  have HR2 := hid (own_fr HRB1.out hf (Nat.le_refl _) hrb)
  have HI2 := hid (own_fr HIB1.out hf (Nat.le_of_lt hlt.out) hrb)
  clear hp hf
  have hcf := HI2.out
  have d0 : World.cell? _ ⟨w1.heap.size, 0, none⟩ = some (.int .i64 ((a1 : Nat) : Int)) := heap_cell (i := 0) hcf
  have fd0 : World.frozen? _ ⟨w1.heap.size, 0, none⟩ = false := heap_frozen hcf
  have d1 : World.cell? _ ⟨w1.heap.size, 1, none⟩ = some (.string T) := heap_cell (i := 1) hcf
  have fd1 : World.frozen? _ ⟨w1.heap.size, 1, none⟩ = false := heap_frozen hcf
  have d2 : World.cell? _ ⟨w1.heap.size, 2, none⟩ = some (.string ⟨#[]⟩) := heap_cell (i := 2) hcf
  have fd2 : World.frozen? _ ⟨w1.heap.size, 2, none⟩ = false := heap_frozen hcf
  have d3 : World.cell? _ ⟨w1.heap.size, 3, none⟩ = some (.string ⟨#[]⟩) := heap_cell (i := 3) hcf
  have fd3 : World.frozen? _ ⟨w1.heap.size, 3, none⟩ = false := heap_frozen hcf
  have d4 : World.cell? _ ⟨w1.heap.size, 4, none⟩ = some (.int .u8 0) := heap_cell (i := 4) hcf
  have fd4 : World.frozen? _ ⟨w1.heap.size, 4, none⟩ = false := heap_frozen hcf
  have d5 : World.cell? _ ⟨w1.heap.size, 5, none⟩ = some (.string ⟨#[]⟩) := heap_cell (i := 5) hcf
  have fd5 : World.frozen? _ ⟨w1.heap.size, 5, none⟩ = false := heap_frozen hcf
  have d6 : World.cell? _ ⟨w1.heap.size, 6, none⟩ = some (.slice none 0 0) := heap_cell (i := 6) hcf
  have fd6 : World.frozen? _ ⟨w1.heap.size, 6, none⟩ = false := heap_frozen hcf
  clear hcf
  have HI2q : Hid ((w2.setCell ⟨w1.heap.size, 2, none⟩ (.string (nameT toks a1 n1))).heap[w1.heap.size]? = some (.cells #[.int .i64 ((a1 : Nat) : Int), .string T, .string (nameT toks a1 n1), .string ⟨#[]⟩, .int .u8 0, .string ⟨#[]⟩, .slice none 0 0] 234)) := hid (heap_setCell_lit (i := 2) HI2.out _)
  have H2q := hid (H2.out.set (Nat.le_of_lt hlt.out) 2 (.string (nameT toks a1 n1)))
  have HR2q := hid (own_set (i := 2) HR2.out (Nat.ne_of_lt hlt.out) (.string (nameT toks a1 n1)))
  go_wp2_with fail
  refine (rpass_any HW.out rb tb cap a2 0 n2 (.slice (some ⟨w2.heap.size, 0, none⟩) 1 1) [⟨#[58]⟩] _ (H2q.out.alloc _).rp i2 (Lst.lit1n (by simp)) HST.out.s3).mono ?_
  rintro e w3 ⟨rfl, hp, hf⟩
  have H3 := hid ((H2q.out.alloc _).call hp hf)
  have HR3 := hid (own_fr (old_heap _ HR2q.out) hf (Nat.le_refl _) hrb)
  have HI3 := hid (own_fr (old_heap _ HI2q.out) hf (Nat.le_of_lt hlt.out) hrb)
  clear hp hf
  go_wp2_with fail
  refine (rpass_any HW.out rb tb cap a3 0 n3 (.slice (some ⟨w3.heap.size, 0, none⟩) 2 2) [⟨#[105, 110, 116]⟩, ⟨#[98, 111, 111, 108]⟩] _ (H3.out.alloc _).rp i3 (Lst.lit2n (by simp)) HST.out.s4).mono ?_
  rintro e w4 ⟨rfl, hp, hf⟩
  have H4 := hid ((H3.out.alloc _).call hp hf)
  have HR4 := hid (own_fr (old_heap _ HR3.out) hf (Nat.le_refl _) hrb)
  have HI4 := hid (own_fr (old_heap _ HI3.out) hf (Nat.le_of_lt hlt.out) hrb)
  clear hp hf
  have hcf := HI4.out
  have m0 : World.cell? _ ⟨w1.heap.size, 0, none⟩ = some (.int .i64 ((a1 : Nat) : Int)) := heap_cell (i := 0) hcf
  have fm0 : World.frozen? _ ⟨w1.heap.size, 0, none⟩ = false := heap_frozen hcf
  have m1 : World.cell? _ ⟨w1.heap.size, 1, none⟩ = some (.string T) := heap_cell (i := 1) hcf
  have fm1 : World.frozen? _ ⟨w1.heap.size, 1, none⟩ = false := heap_frozen hcf
  have m2 : World.cell? _ ⟨w1.heap.size, 2, none⟩ = some (.string (nameT toks a1 n1)) := heap_cell (i := 2) hcf
  have fm2 : World.frozen? _ ⟨w1.heap.size, 2, none⟩ = false := heap_frozen hcf
  have m3 : World.cell? _ ⟨w1.heap.size, 3, none⟩ = some (.string ⟨#[]⟩) := heap_cell (i := 3) hcf
  have fm3 : World.frozen? _ ⟨w1.heap.size, 3, none⟩ = false := heap_frozen hcf
  have m4 : World.cell? _ ⟨w1.heap.size, 4, none⟩ = some (.int .u8 0) := heap_cell (i := 4) hcf
  have fm4 : World.frozen? _ ⟨w1.heap.size, 4, none⟩ = false := heap_frozen hcf
  have m5 : World.cell? _ ⟨w1.heap.size, 5, none⟩ = some (.string ⟨#[]⟩) := heap_cell (i := 5) hcf
  have fm5 : World.frozen? _ ⟨w1.heap.size, 5, none⟩ = false := heap_frozen hcf
  have m6 : World.cell? _ ⟨w1.heap.size, 6, none⟩ = some (.slice none 0 0) := heap_cell (i := 6) hcf
  have fm6 : World.frozen? _ ⟨w1.heap.size, 6, none⟩ = false := heap_frozen hcf
  clear hcf
  have HI4q : Hid ((w4.setCell ⟨w1.heap.size, 3, none⟩ (.string (passT toks [⟨#[105, 110, 116]⟩, ⟨#[98, 111, 111, 108]⟩] a3 n3))).heap[w1.heap.size]? = some (.cells #[.int .i64 ((a1 : Nat) : Int), .string T, .string (nameT toks a1 n1), .string (passT toks [⟨#[105, 110, 116]⟩, ⟨#[98, 111, 111, 108]⟩] a3 n3), .int .u8 0, .string ⟨#[]⟩, .slice none 0 0] 234)) := hid (heap_setCell_lit (i := 3) HI4.out _)
  have H4q := hid (H4.out.set (Nat.le_of_lt hlt.out) 3 (.string (passT toks [⟨#[105, 110, 116]⟩, ⟨#[98, 111, 111, 108]⟩] a3 n3)))
  have HR4q := hid (own_set (i := 3) HR4.out (Nat.ne_of_lt hlt.out) (.string (passT toks [⟨#[105, 110, 116]⟩, ⟨#[98, 111, 111, 108]⟩] a3 n3)))
  go_wp2_with fail
  refine (rpass_any HW.out rb tb cap a4 0 n4 (.slice (some ⟨w4.heap.size, 0, none⟩) 1 1) [⟨#[61]⟩] _ (H4q.out.alloc _).rp i4 (Lst.lit1n (by simp)) HST.out.s5).mono ?_
  rintro e w5 ⟨rfl, hp, hf⟩
  have H5 := hid ((H4q.out.alloc _).call hp hf)
  have HR5 := hid (own_fr (old_heap _ HR4q.out) hf (Nat.le_refl _) hrb)
  have HI5 := hid (own_fr (old_heap _ HI4q.out) hf (Nat.le_of_lt hlt.out) hrb)
  clear hp hf
  go_wp2_with fail
  refine (HS.out rb tb cap 0 a5 b6 n5 r6 _ HST.out.s6 i5 (by omega) H5.out.rp).mono ?_
  rintro e w6 ⟨op, t, ao, m, c, rfl, hp, hf, hx⟩
  have hlt5 : w.heap.size < w5.heap.size := heap_lt HR5.out
  have H6 := hid (H5.out.call hp hf)
  have HR6 := hid (own_fr HR5.out hf (Nat.le_refl _) hrb)
  have HI6 := hid (own_fr HI5.out hf (Nat.le_of_lt hlt.out) hrb)
  have HX := hid (fun x h => by obtain ⟨n, h1, h2⟩ := hx x h; exact ⟨n, h1, rep_mono h2 (fun k h4 h3 => ⟨Nat.lt_trans hlt5 h3, Nat.ne_of_gt (Nat.lt_trans (heap_lt HI5.out) h3)⟩)⟩ : ∀ x, r6 = some x → ∃ n, n + a5 ≤ b6 ∧ Rep (fun k => w.heap.size < k ∧ k ≠ w1.heap.size) w6 n (.agg #[.int .u8 op, .string t, .slice ao m c]) x)
  clear hp hf hx hlt5
  have hcf := HI6.out
  have v0 : World.cell? _ ⟨w1.heap.size, 0, none⟩ = some (.int .i64 ((a1 : Nat) : Int)) := heap_cell (i := 0) hcf
  have fv0 : World.frozen? _ ⟨w1.heap.size, 0, none⟩ = false := heap_frozen hcf
  have v1 : World.cell? _ ⟨w1.heap.size, 1, none⟩ = some (.string T) := heap_cell (i := 1) hcf
  have fv1 : World.frozen? _ ⟨w1.heap.size, 1, none⟩ = false := heap_frozen hcf
  have v2 : World.cell? _ ⟨w1.heap.size, 2, none⟩ = some (.string (nameT toks a1 n1)) := heap_cell (i := 2) hcf
  have fv2 : World.frozen? _ ⟨w1.heap.size, 2, none⟩ = false := heap_frozen hcf
  have v3 : World.cell? _ ⟨w1.heap.size, 3, none⟩ = some (.string (passT toks [⟨#[105, 110, 116]⟩, ⟨#[98, 111, 111, 108]⟩] a3 n3)) := heap_cell (i := 3) hcf
  have fv3 : World.frozen? _ ⟨w1.heap.size, 3, none⟩ = false := heap_frozen hcf
  have v4 : World.cell? _ ⟨w1.heap.size, 4, none⟩ = some (.int .u8 0) := heap_cell (i := 4) hcf
  have fv4 : World.frozen? _ ⟨w1.heap.size, 4, none⟩ = false := heap_frozen hcf
  have v5 : World.cell? _ ⟨w1.heap.size, 5, none⟩ = some (.string ⟨#[]⟩) := heap_cell (i := 5) hcf
  have fv5 : World.frozen? _ ⟨w1.heap.size, 5, none⟩ = false := heap_frozen hcf
  have v6 : World.cell? _ ⟨w1.heap.size, 6, none⟩ = some (.slice none 0 0) := heap_cell (i := 6) hcf
  have fv6 : World.frozen? _ ⟨w1.heap.size, 6, none⟩ = false := heap_frozen hcf
  clear hcf
  have HI6q4 : Hid ((w6.setCell ⟨w1.heap.size, 4, none⟩ (.int .u8 op)).heap[w1.heap.size]? = some (.cells #[.int .i64 ((a1 : Nat) : Int), .string T, .string (nameT toks a1 n1), .string (passT toks [⟨#[105, 110, 116]⟩, ⟨#[98, 111, 111, 108]⟩] a3 n3), .int .u8 op, .string ⟨#[]⟩, .slice none 0 0] 234)) := hid (heap_setCell_lit (i := 4) HI6.out _)
  have H6q4 := hid (H6.out.set (Nat.le_of_lt hlt.out) 4 (.int .u8 op))
  have HR6q4 := hid (own_set (i := 4) HR6.out (Nat.ne_of_lt hlt.out) (.int .u8 op))
  have HI6q5 : Hid (((w6.setCell ⟨w1.heap.size, 4, none⟩ (.int .u8 op)).setCell ⟨w1.heap.size, 5, none⟩ (.string t)).heap[w1.heap.size]? = some (.cells #[.int .i64 ((a1 : Nat) : Int), .string T, .string (nameT toks a1 n1), .string (passT toks [⟨#[105, 110, 116]⟩, ⟨#[98, 111, 111, 108]⟩] a3 n3), .int .u8 op, .string t, .slice none 0 0] 234)) := hid (heap_setCell_lit (i := 5) HI6q4.out _)
  have H6q5 := hid (H6q4.out.set (Nat.le_of_lt hlt.out) 5 (.string t))
  have HR6q5 := hid (own_set (i := 5) HR6q4.out (Nat.ne_of_lt hlt.out) (.string t))
  have HI6q6 : Hid ((((w6.setCell ⟨w1.heap.size, 4, none⟩ (.int .u8 op)).setCell ⟨w1.heap.size, 5, none⟩ (.string t)).setCell ⟨w1.heap.size, 6, none⟩ (.slice ao m c)).heap[w1.heap.size]? = some (.cells #[.int .i64 ((a1 : Nat) : Int), .string T, .string (nameT toks a1 n1), .string (passT toks [⟨#[105, 110, 116]⟩, ⟨#[98, 111, 111, 108]⟩] a3 n3), .int .u8 op, .string t, .slice ao m c] 234)) := hid (heap_setCell_lit (i := 6) HI6q5.out _)
  have H6q6 := hid (H6q5.out.set (Nat.le_of_lt hlt.out) 6 (.slice ao m c))
  have HR6q6 := hid (own_set (i := 6) HR6q5.out (Nat.ne_of_lt hlt.out) (.slice ao m c))
  go_wp2_with fail
  refine (rpass_any HW.out rb tb cap b6 0 r6.isNone (.slice (some ⟨w6.heap.size, 0, none⟩) 1 1) [⟨#[59]⟩] _ (H6q6.out.alloc _).rp i6 (Lst.lit1n (by simp)) HST.out.s7).mono ?_
  rintro e w7 ⟨rfl, hp, hf⟩
  have H7 := hid ((H6q6.out.alloc _).call hp hf)
  have HR7 := hid (own_fr (old_heap _ HR6q6.out) hf (Nat.le_refl _) hrb)
  have HI7 := hid (own_fr (old_heap _ HI6q6.out) hf (Nat.le_of_lt hlt.out) hrb)
  have HL7 := hid ((((((Later.refl (fun k => w.heap.size < k ∧ k ≠ w1.heap.size) w6).set (p := ⟨w1.heap.size, 4, none⟩) (fun h => h.2 rfl) (.int .u8 op)).set (p := ⟨w1.heap.size, 5, none⟩) (fun h => h.2 rfl) (.string t)).set (p := ⟨w1.heap.size, 6, none⟩) (fun h => h.2 rfl) (.slice ao m c)).alloc _).trans (later_loop (eb := w1.heap.size) hf hrb))
  clear hp hf
  have HRL := HR7
  have HIL := HI7
  have HDL := H7
  have hr := HRL.out
  have he := HIL.out
  have r0 : World.cell? _ ⟨w.heap.size, 0, none⟩ = some (.int .i64 0) := heap_cell (i := 0) hr
  have fr0 : World.frozen? _ ⟨w.heap.size, 0, none⟩ = false := heap_frozen hr
  have r1 : World.cell? _ ⟨w.heap.size, 1, none⟩ = some (.string ⟨#[]⟩) := heap_cell (i := 1) hr
  have fr1 : World.frozen? _ ⟨w.heap.size, 1, none⟩ = false := heap_frozen hr
  have r2 : World.cell? _ ⟨w.heap.size, 2, none⟩ = some (.string ⟨#[]⟩) := heap_cell (i := 2) hr
  have fr2 : World.frozen? _ ⟨w.heap.size, 2, none⟩ = false := heap_frozen hr
  have r3 : World.cell? _ ⟨w.heap.size, 3, none⟩ = some (.string ⟨#[]⟩) := heap_cell (i := 3) hr
  have fr3 : World.frozen? _ ⟨w.heap.size, 3, none⟩ = false := heap_frozen hr
  have r4 : World.cell? _ ⟨w.heap.size, 4, none⟩ = some (.int .u8 0) := heap_cell (i := 4) hr
  have fr4 : World.frozen? _ ⟨w.heap.size, 4, none⟩ = false := heap_frozen hr
  have r5 : World.cell? _ ⟨w.heap.size, 5, none⟩ = some (.string ⟨#[]⟩) := heap_cell (i := 5) hr
  have fr5 : World.frozen? _ ⟨w.heap.size, 5, none⟩ = false := heap_frozen hr
  have r6 : World.cell? _ ⟨w.heap.size, 6, none⟩ = some (.slice none 0 0) := heap_cell (i := 6) hr
  have fr6 : World.frozen? _ ⟨w.heap.size, 6, none⟩ = false := heap_frozen hr
  have e0 : World.cell? _ ⟨w1.heap.size, 0, none⟩ = some (.int .i64 ((a1 : Nat) : Int)) := heap_cell (i := 0) he
  have e1 : World.cell? _ ⟨w1.heap.size, 1, none⟩ = some (.string T) := heap_cell (i := 1) he
  have e2 : World.cell? _ ⟨w1.heap.size, 2, none⟩ = some (.string (nameT toks a1 n1)) := heap_cell (i := 2) he
  have e3 : World.cell? _ ⟨w1.heap.size, 3, none⟩ = some (.string (passT toks [⟨#[105, 110, 116]⟩, ⟨#[98, 111, 111, 108]⟩] a3 n3)) := heap_cell (i := 3) he
  have e4 : World.cell? _ ⟨w1.heap.size, 4, none⟩ = some (.int .u8 op) := heap_cell (i := 4) he
  have e5 : World.cell? _ ⟨w1.heap.size, 5, none⟩ = some (.string t) := heap_cell (i := 5) he
  have e6 : World.cell? _ ⟨w1.heap.size, 6, none⟩ = some (.slice ao m c) := heap_cell (i := 6) he
  have hy := put7_same hr (.int .i64 ((a1 : Nat) : Int)) (.string T) (.string (nameT toks a1 n1)) (.string (passT toks [⟨#[105, 110, 116]⟩, ⟨#[98, 111, 111, 108]⟩] a3 n3)) (.int .u8 op) (.string t) (.slice ao m c)
  have y0 : World.cell? _ ⟨w.heap.size, 0, none⟩ = some (.int .i64 ((a1 : Nat) : Int)) := heap_cell (i := 0) hy
  have y1 : World.cell? _ ⟨w.heap.size, 1, none⟩ = some (.string T) := heap_cell (i := 1) hy
  have y2 : World.cell? _ ⟨w.heap.size, 2, none⟩ = some (.string (nameT toks a1 n1)) := heap_cell (i := 2) hy
  have y3 : World.cell? _ ⟨w.heap.size, 3, none⟩ = some (.string (passT toks [⟨#[105, 110, 116]⟩, ⟨#[98, 111, 111, 108]⟩] a3 n3)) := heap_cell (i := 3) hy
  have y4 : World.cell? _ ⟨w.heap.size, 4, none⟩ = some (.int .u8 op) := heap_cell (i := 4) hy
  have y5 : World.cell? _ ⟨w.heap.size, 5, none⟩ = some (.string t) := heap_cell (i := 5) hy
  have y6 : World.cell? _ ⟨w.heap.size, 6, none⟩ = some (.slice ao m c) := heap_cell (i := 6) hy
  go_wp2
  refine bodyPost_ret (v := .agg #[.int .i64 ((a1 : Nat) : Int), .string T, .string (nameT toks a1 n1), .string (passT toks [⟨#[105, 110, 116]⟩, ⟨#[98, 111, 111, 108]⟩] a3 n3), .int .u8 op, .string t, .slice ao m c]) (by simp [results, Tryz.results173, go_sem, y0, y1, y2, y3, y4, y5, y6]; try rfl) rfl ?_
  have hd := HDL.out.put7 (Nat.le_refl _) (.int .i64 ((a1 : Nat) : Int)) (.string T) (.string (nameT toks a1 n1)) (.string (passT toks [⟨#[105, 110, 116]⟩, ⟨#[98, 111, 111, 108]⟩] a3 n3)) (.int .u8 op) (.string t) (.slice ao m c)
  rw [← HZ.out]
  have hlt0 : ¬ (fun k => w.heap.size < k ∧ k ≠ w1.heap.size) w.heap.size := fun h => Nat.lt_irrefl _ h.1
  exact let_post HLE.out HST.out hd (.inl ⟨rfl, HTL.out⟩) (fun x hx => by obtain ⟨n, hn, hr⟩ := HX.out x hx; exact ⟨n, hn, rep_mono (rep_later hr (HL7.out.put7 hlt0 _ _ _ _ _ _ _)) (fun k _ h => h.1)⟩)

set_option maxRecDepth 100000 in
set_option maxHeartbeats 2000000 in
theorem ritem_pub {toks : List Tok} (hw : Wf toks) (hs : RL toks 0 1700) (rb tb cap a : Nat) (w : World) (ha : a < toks.length) (hP : RP toks rb tb cap a 0 false w.heap) (h0 : isT toks a [112, 117, 98] = true) (a1 : Nat) (n1 : Bool) (hs1 : passS toks [⟨#[108, 101, 116]⟩] (a + 1) false = (a1, n1)) (h1 : a1 < toks.length) :
    Calls Tryz.prog 173 #[.pointer (some ⟨rb, 0, none⟩)] w (IPost toks rb tb cap (if n1 then (a1, none) else tailP toks 2 a1).1 (if n1 then (a1, none) else tailP toks 2 a1).2 w) := by
  obtain ⟨a2, n2, a3, n3, a4, n4, a5, n5, b6, r6, b, nf, hst⟩ := lsteps hw 2 a1 n1 h1
  generalize hz : (if n1 then (a1, none) else tailP toks 2 a1) = z
  have HZ := hid hz
  clear hz
  have i2 := hst.i2
  have i3 := hst.i3
  have i4 := hst.i4
  have i5 := hst.i5
  have i6 := hst.i6
  have HLE := hid hw.le
  have HST := hid hst
  have HS := hid hs
  have HW := hid hw
  have HP := hid hP
  have hn := hw.next_isT ha h0
  have HS0 := hid (pass3_pub h0)
  have HT0 := hid (pass3_pubT h0)
  have HS1 := hid hs1
  clear hw hP hs hst hs1 h0
  have H0 := hid ((DS.refl HP.out).alloc (.cells #[.int .i64 0, .string ⟨#[]⟩, .string ⟨#[]⟩, .string ⟨#[]⟩, .int .u8 0, .string ⟨#[]⟩, .slice none 0 0] 234))
  have HR0 := hid (new_heap w (.cells #[.int .i64 0, .string ⟨#[]⟩, .string ⟨#[]⟩, .string ⟨#[]⟩, .int .u8 0, .string ⟨#[]⟩, .slice none 0 0] 234))
  go_enter Tryz.func173, Tryz.ntmps173
  go_wp2_with fail
  refine (rpass_any HW.out rb tb cap a 0 false _ [⟨#[117, 115, 101]⟩, ⟨#[112, 117, 98]⟩, ⟨#[108, 101, 116]⟩] _ (H0.out.alloc _).rp ha (Lst.lit3n (by simp)) HS0.out).mono ?_
  rintro e w1 ⟨rfl, hp, hf⟩
  rw [HT0.out]
  have H1b := hid ((H0.out.alloc _).call hp hf)
  have HR1b := hid (own_fr (old_heap _ HR0.out) hf (Nat.le_refl _) H0.out.pl)
  have H1 := hid (H1b.out.alloc (.cells #[.int .i64 0, .string ⟨#[112, 117, 98]⟩, .string ⟨#[]⟩, .string ⟨#[]⟩, .int .u8 0, .string ⟨#[]⟩, .slice none 0 0] 234))
  have HR1 := hid (old_heap (.cells #[.int .i64 0, .string ⟨#[112, 117, 98]⟩, .string ⟨#[]⟩, .string ⟨#[]⟩, .int .u8 0, .string ⟨#[]⟩, .slice none 0 0] 234) HR1b.out)
  have hi := new_heap w1 (.cells #[.int .i64 0, .string ⟨#[112, 117, 98]⟩, .string ⟨#[]⟩, .string ⟨#[]⟩, .int .u8 0, .string ⟨#[]⟩, .slice none 0 0] 234)
  have HI1 := hid hi
  have hlt : Hid (w.heap.size < w1.heap.size) := hid (heap_lt (own_fr (old_heap _ HR0.out) hf (Nat.le_refl _) H0.out.pl))
  have hrb := H0.out.pl
  clear hp hf
  have c0 : World.cell? _ ⟨w1.heap.size, 0, none⟩ = some (.int .i64 0) := heap_cell (i := 0) hi
  have fc0 : World.frozen? _ ⟨w1.heap.size, 0, none⟩ = false := heap_frozen hi
  have c1 : World.cell? _ ⟨w1.heap.size, 1, none⟩ = some (.string ⟨#[112, 117, 98]⟩) := heap_cell (i := 1) hi
  have fc1 : World.frozen? _ ⟨w1.heap.size, 1, none⟩ = false := heap_frozen hi
  have c2 : World.cell? _ ⟨w1.heap.size, 2, none⟩ = some (.string ⟨#[]⟩) := heap_cell (i := 2) hi
  have fc2 : World.frozen? _ ⟨w1.heap.size, 2, none⟩ = false := heap_frozen hi
  have c3 : World.cell? _ ⟨w1.heap.size, 3, none⟩ = some (.string ⟨#[]⟩) := heap_cell (i := 3) hi
  have fc3 : World.frozen? _ ⟨w1.heap.size, 3, none⟩ = false := heap_frozen hi
  have c4 : World.cell? _ ⟨w1.heap.size, 4, none⟩ = some (.int .u8 0) := heap_cell (i := 4) hi
  have fc4 : World.frozen? _ ⟨w1.heap.size, 4, none⟩ = false := heap_frozen hi
  have c5 : World.cell? _ ⟨w1.heap.size, 5, none⟩ = some (.string ⟨#[]⟩) := heap_cell (i := 5) hi
  have fc5 : World.frozen? _ ⟨w1.heap.size, 5, none⟩ = false := heap_frozen hi
  have c6 : World.cell? _ ⟨w1.heap.size, 6, none⟩ = some (.slice none 0 0) := heap_cell (i := 6) hi
  have fc6 : World.frozen? _ ⟨w1.heap.size, 6, none⟩ = false := heap_frozen hi
  clear hi
  go_wp2_with fail
  refine (rpass_any HW.out rb tb cap (a + 1) 0 false (.slice (some ⟨w1.heap.size + 1, 0, none⟩) 1 1) [⟨#[108, 101, 116]⟩] _ (H1.out.alloc _).rp hn (Lst.lit1n (by simp)) HS1.out).mono ?_
  rintro e w1p ⟨rfl, hp, hf⟩
  have H1p := hid ((H1.out.alloc _).call hp hf)
  have HR1p := hid (own_fr (old_heap _ HR1.out) hf (Nat.le_refl _) hrb)
  have HI1p := hid (own_fr (old_heap _ HI1.out) hf (Nat.le_of_lt hlt.out) hrb)
  clear hp hf
  have hcf := HI1p.out
  have k0 : World.cell? _ ⟨w1.heap.size, 0, none⟩ = some (.int .i64 0) := heap_cell (i := 0) hcf
  have fk0 : World.frozen? _ ⟨w1.heap.size, 0, none⟩ = false := heap_frozen hcf
  have k1 : World.cell? _ ⟨w1.heap.size, 1, none⟩ = some (.string ⟨#[112, 117, 98]⟩) := heap_cell (i := 1) hcf
  have fk1 : World.frozen? _ ⟨w1.heap.size, 1, none⟩ = false := heap_frozen hcf
  have k2 : World.cell? _ ⟨w1.heap.size, 2, none⟩ = some (.string ⟨#[]⟩) := heap_cell (i := 2) hcf
  have fk2 : World.frozen? _ ⟨w1.heap.size, 2, none⟩ = false := heap_frozen hcf
  have k3 : World.cell? _ ⟨w1.heap.size, 3, none⟩ = some (.string ⟨#[]⟩) := heap_cell (i := 3) hcf
  have fk3 : World.frozen? _ ⟨w1.heap.size, 3, none⟩ = false := heap_frozen hcf
  have k4 : World.cell? _ ⟨w1.heap.size, 4, none⟩ = some (.int .u8 0) := heap_cell (i := 4) hcf
  have fk4 : World.frozen? _ ⟨w1.heap.size, 4, none⟩ = false := heap_frozen hcf
  have k5 : World.cell? _ ⟨w1.heap.size, 5, none⟩ = some (.string ⟨#[]⟩) := heap_cell (i := 5) hcf
  have fk5 : World.frozen? _ ⟨w1.heap.size, 5, none⟩ = false := heap_frozen hcf
  have k6 : World.cell? _ ⟨w1.heap.size, 6, none⟩ = some (.slice none 0 0) := heap_cell (i := 6) hcf
  have fk6 : World.frozen? _ ⟨w1.heap.size, 6, none⟩ = false := heap_frozen hcf
  clear hcf
  have p1 := H1p.out.rp.c1
  have HI1q : Hid ((w1p.setCell ⟨w1.heap.size, 0, none⟩ (.int .i64 ((a1 : Nat) : Int))).heap[w1.heap.size]? = some (.cells #[.int .i64 ((a1 : Nat) : Int), .string ⟨#[112, 117, 98]⟩, .string ⟨#[]⟩, .string ⟨#[]⟩, .int .u8 0, .string ⟨#[]⟩, .slice none 0 0] 234)) := hid (heap_setCell_lit (i := 0) HI1p.out _)
  have H1q := hid (H1p.out.set (Nat.le_of_lt hlt.out) 0 (.int .i64 ((a1 : Nat) : Int)))
  have HR1q := hid (own_set (i := 0) HR1p.out (Nat.ne_of_lt hlt.out) (.int .i64 ((a1 : Nat) : Int)))
  go_wp2_with fail
  refine (rname_any HW.out rb tb cap a1 0 n1 _ H1q.out.rp h1 HST.out.s2).mono ?_
  rintro e w2 ⟨rfl, hp, hf⟩
  have H2 := hid (H1q.out.call hp hf)
  have HR2 := hid (own_fr HR1q.out hf (Nat.le_refl _) hrb)
  have HI2 := hid (own_fr HI1q.out hf (Nat.le_of_lt hlt.out) hrb)
  clear hp hf
  have hcf := HI2.out
  have d0 : World.cell? _ ⟨w1.heap.size, 0, none⟩ = some (.int .i64 ((a1 : Nat) : Int)) := heap_cell (i := 0) hcf
  have fd0 : World.frozen? _ ⟨w1.heap.size, 0, none⟩ = false := heap_frozen hcf
  have d1 : World.cell? _ ⟨w1.heap.size, 1, none⟩ = some (.string ⟨#[112, 117, 98]⟩) := heap_cell (i := 1) hcf
  have fd1 : World.frozen? _ ⟨w1.heap.size, 1, none⟩ = false := heap_frozen hcf
  have d2 : World.cell? _ ⟨w1.heap.size, 2, none⟩ = some (.string ⟨#[]⟩) := heap_cell (i := 2) hcf
  have fd2 : World.frozen? _ ⟨w1.heap.size, 2, none⟩ = false := heap_frozen hcf
  have d3 : World.cell? _ ⟨w1.heap.size, 3, none⟩ = some (.string ⟨#[]⟩) := heap_cell (i := 3) hcf
  have fd3 : World.frozen? _ ⟨w1.heap.size, 3, none⟩ = false := heap_frozen hcf
  have d4 : World.cell? _ ⟨w1.heap.size, 4, none⟩ = some (.int .u8 0) := heap_cell (i := 4) hcf
  have fd4 : World.frozen? _ ⟨w1.heap.size, 4, none⟩ = false := heap_frozen hcf
  have d5 : World.cell? _ ⟨w1.heap.size, 5, none⟩ = some (.string ⟨#[]⟩) := heap_cell (i := 5) hcf
  have fd5 : World.frozen? _ ⟨w1.heap.size, 5, none⟩ = false := heap_frozen hcf
  have d6 : World.cell? _ ⟨w1.heap.size, 6, none⟩ = some (.slice none 0 0) := heap_cell (i := 6) hcf
  have fd6 : World.frozen? _ ⟨w1.heap.size, 6, none⟩ = false := heap_frozen hcf
  clear hcf
  have HI2q : Hid ((w2.setCell ⟨w1.heap.size, 2, none⟩ (.string (nameT toks a1 n1))).heap[w1.heap.size]? = some (.cells #[.int .i64 ((a1 : Nat) : Int), .string ⟨#[112, 117, 98]⟩, .string (nameT toks a1 n1), .string ⟨#[]⟩, .int .u8 0, .string ⟨#[]⟩, .slice none 0 0] 234)) := hid (heap_setCell_lit (i := 2) HI2.out _)
  have H2q := hid (H2.out.set (Nat.le_of_lt hlt.out) 2 (.string (nameT toks a1 n1)))
  have HR2q := hid (own_set (i := 2) HR2.out (Nat.ne_of_lt hlt.out) (.string (nameT toks a1 n1)))
  go_wp2_with fail
  refine (rpass_any HW.out rb tb cap a2 0 n2 (.slice (some ⟨w2.heap.size, 0, none⟩) 1 1) [⟨#[58]⟩] _ (H2q.out.alloc _).rp i2 (Lst.lit1n (by simp)) HST.out.s3).mono ?_
  rintro e w3 ⟨rfl, hp, hf⟩
  have H3 := hid ((H2q.out.alloc _).call hp hf)
  have HR3 := hid (own_fr (old_heap _ HR2q.out) hf (Nat.le_refl _) hrb)
  have HI3 := hid (own_fr (old_heap _ HI2q.out) hf (Nat.le_of_lt hlt.out) hrb)
  clear hp hf
  go_wp2_with fail
  refine (rpass_any HW.out rb tb cap a3 0 n3 (.slice (some ⟨w3.heap.size, 0, none⟩) 2 2) [⟨#[105, 110, 116]⟩, ⟨#[98, 111, 111, 108]⟩] _ (H3.out.alloc _).rp i3 (Lst.lit2n (by simp)) HST.out.s4).mono ?_
  rintro e w4 ⟨rfl, hp, hf⟩
  have H4 := hid ((H3.out.alloc _).call hp hf)
  have HR4 := hid (own_fr (old_heap _ HR3.out) hf (Nat.le_refl _) hrb)
  have HI4 := hid (own_fr (old_heap _ HI3.out) hf (Nat.le_of_lt hlt.out) hrb)
  clear hp hf
  have hcf := HI4.out
  have m0 : World.cell? _ ⟨w1.heap.size, 0, none⟩ = some (.int .i64 ((a1 : Nat) : Int)) := heap_cell (i := 0) hcf
  have fm0 : World.frozen? _ ⟨w1.heap.size, 0, none⟩ = false := heap_frozen hcf
  have m1 : World.cell? _ ⟨w1.heap.size, 1, none⟩ = some (.string ⟨#[112, 117, 98]⟩) := heap_cell (i := 1) hcf
  have fm1 : World.frozen? _ ⟨w1.heap.size, 1, none⟩ = false := heap_frozen hcf
  have m2 : World.cell? _ ⟨w1.heap.size, 2, none⟩ = some (.string (nameT toks a1 n1)) := heap_cell (i := 2) hcf
  have fm2 : World.frozen? _ ⟨w1.heap.size, 2, none⟩ = false := heap_frozen hcf
  have m3 : World.cell? _ ⟨w1.heap.size, 3, none⟩ = some (.string ⟨#[]⟩) := heap_cell (i := 3) hcf
  have fm3 : World.frozen? _ ⟨w1.heap.size, 3, none⟩ = false := heap_frozen hcf
  have m4 : World.cell? _ ⟨w1.heap.size, 4, none⟩ = some (.int .u8 0) := heap_cell (i := 4) hcf
  have fm4 : World.frozen? _ ⟨w1.heap.size, 4, none⟩ = false := heap_frozen hcf
  have m5 : World.cell? _ ⟨w1.heap.size, 5, none⟩ = some (.string ⟨#[]⟩) := heap_cell (i := 5) hcf
  have fm5 : World.frozen? _ ⟨w1.heap.size, 5, none⟩ = false := heap_frozen hcf
  have m6 : World.cell? _ ⟨w1.heap.size, 6, none⟩ = some (.slice none 0 0) := heap_cell (i := 6) hcf
  have fm6 : World.frozen? _ ⟨w1.heap.size, 6, none⟩ = false := heap_frozen hcf
  clear hcf
  have HI4q : Hid ((w4.setCell ⟨w1.heap.size, 3, none⟩ (.string (passT toks [⟨#[105, 110, 116]⟩, ⟨#[98, 111, 111, 108]⟩] a3 n3))).heap[w1.heap.size]? = some (.cells #[.int .i64 ((a1 : Nat) : Int), .string ⟨#[112, 117, 98]⟩, .string (nameT toks a1 n1), .string (passT toks [⟨#[105, 110, 116]⟩, ⟨#[98, 111, 111, 108]⟩] a3 n3), .int .u8 0, .string ⟨#[]⟩, .slice none 0 0] 234)) := hid (heap_setCell_lit (i := 3) HI4.out _)
  have H4q := hid (H4.out.set (Nat.le_of_lt hlt.out) 3 (.string (passT toks [⟨#[105, 110, 116]⟩, ⟨#[98, 111, 111, 108]⟩] a3 n3)))
  have HR4q := hid (own_set (i := 3) HR4.out (Nat.ne_of_lt hlt.out) (.string (passT toks [⟨#[105, 110, 116]⟩, ⟨#[98, 111, 111, 108]⟩] a3 n3)))
  go_wp2_with fail
  refine (rpass_any HW.out rb tb cap a4 0 n4 (.slice (some ⟨w4.heap.size, 0, none⟩) 1 1) [⟨#[61]⟩] _ (H4q.out.alloc _).rp i4 (Lst.lit1n (by simp)) HST.out.s5).mono ?_
  rintro e w5 ⟨rfl, hp, hf⟩
  have H5 := hid ((H4q.out.alloc _).call hp hf)
  have HR5 := hid (own_fr (old_heap _ HR4q.out) hf (Nat.le_refl _) hrb)
  have HI5 := hid (own_fr (old_heap _ HI4q.out) hf (Nat.le_of_lt hlt.out) hrb)
  clear hp hf
  go_wp2_with fail
  refine (HS.out rb tb cap 0 a5 b6 n5 r6 _ HST.out.s6 i5 (by omega) H5.out.rp).mono ?_
  rintro e w6 ⟨op, t, ao, m, c, rfl, hp, hf, hx⟩
  have hlt5 : w.heap.size < w5.heap.size := heap_lt HR5.out
  have H6 := hid (H5.out.call hp hf)
  have HR6 := hid (own_fr HR5.out hf (Nat.le_refl _) hrb)
  have HI6 := hid (own_fr HI5.out hf (Nat.le_of_lt hlt.out) hrb)
  have HX := hid (fun x h => by obtain ⟨n, h1, h2⟩ := hx x h; exact ⟨n, h1, rep_mono h2 (fun k h4 h3 => ⟨Nat.lt_trans hlt5 h3, Nat.ne_of_gt (Nat.lt_trans (heap_lt HI5.out) h3)⟩)⟩ : ∀ x, r6 = some x → ∃ n, n + a5 ≤ b6 ∧ Rep (fun k => w.heap.size < k ∧ k ≠ w1.heap.size) w6 n (.agg #[.int .u8 op, .string t, .slice ao m c]) x)
  clear hp hf hx hlt5
  have hcf := HI6.out
  have v0 : World.cell? _ ⟨w1.heap.size, 0, none⟩ = some (.int .i64 ((a1 : Nat) : Int)) := heap_cell (i := 0) hcf
  have fv0 : World.frozen? _ ⟨w1.heap.size, 0, none⟩ = false := heap_frozen hcf
  have v1 : World.cell? _ ⟨w1.heap.size, 1, none⟩ = some (.string ⟨#[112, 117, 98]⟩) := heap_cell (i := 1) hcf
  have fv1 : World.frozen? _ ⟨w1.heap.size, 1, none⟩ = false := heap_frozen hcf
  have v2 : World.cell? _ ⟨w1.heap.size, 2, none⟩ = some (.string (nameT toks a1 n1)) := heap_cell (i := 2) hcf
  have fv2 : World.frozen? _ ⟨w1.heap.size, 2, none⟩ = false := heap_frozen hcf
  have v3 : World.cell? _ ⟨w1.heap.size, 3, none⟩ = some (.string (passT toks [⟨#[105, 110, 116]⟩, ⟨#[98, 111, 111, 108]⟩] a3 n3)) := heap_cell (i := 3) hcf
  have fv3 : World.frozen? _ ⟨w1.heap.size, 3, none⟩ = false := heap_frozen hcf
  have v4 : World.cell? _ ⟨w1.heap.size, 4, none⟩ = some (.int .u8 0) := heap_cell (i := 4) hcf
  have fv4 : World.frozen? _ ⟨w1.heap.size, 4, none⟩ = false := heap_frozen hcf
  have v5 : World.cell? _ ⟨w1.heap.size, 5, none⟩ = some (.string ⟨#[]⟩) := heap_cell (i := 5) hcf
  have fv5 : World.frozen? _ ⟨w1.heap.size, 5, none⟩ = false := heap_frozen hcf
  have v6 : World.cell? _ ⟨w1.heap.size, 6, none⟩ = some (.slice none 0 0) := heap_cell (i := 6) hcf
  have fv6 : World.frozen? _ ⟨w1.heap.size, 6, none⟩ = false := heap_frozen hcf
  clear hcf
  have HI6q4 : Hid ((w6.setCell ⟨w1.heap.size, 4, none⟩ (.int .u8 op)).heap[w1.heap.size]? = some (.cells #[.int .i64 ((a1 : Nat) : Int), .string ⟨#[112, 117, 98]⟩, .string (nameT toks a1 n1), .string (passT toks [⟨#[105, 110, 116]⟩, ⟨#[98, 111, 111, 108]⟩] a3 n3), .int .u8 op, .string ⟨#[]⟩, .slice none 0 0] 234)) := hid (heap_setCell_lit (i := 4) HI6.out _)
  have H6q4 := hid (H6.out.set (Nat.le_of_lt hlt.out) 4 (.int .u8 op))
  have HR6q4 := hid (own_set (i := 4) HR6.out (Nat.ne_of_lt hlt.out) (.int .u8 op))
  have HI6q5 : Hid (((w6.setCell ⟨w1.heap.size, 4, none⟩ (.int .u8 op)).setCell ⟨w1.heap.size, 5, none⟩ (.string t)).heap[w1.heap.size]? = some (.cells #[.int .i64 ((a1 : Nat) : Int), .string ⟨#[112, 117, 98]⟩, .string (nameT toks a1 n1), .string (passT toks [⟨#[105, 110, 116]⟩, ⟨#[98, 111, 111, 108]⟩] a3 n3), .int .u8 op, .string t, .slice none 0 0] 234)) := hid (heap_setCell_lit (i := 5) HI6q4.out _)
  have H6q5 := hid (H6q4.out.set (Nat.le_of_lt hlt.out) 5 (.string t))
  have HR6q5 := hid (own_set (i := 5) HR6q4.out (Nat.ne_of_lt hlt.out) (.string t))
  have HI6q6 : Hid ((((w6.setCell ⟨w1.heap.size, 4, none⟩ (.int .u8 op)).setCell ⟨w1.heap.size, 5, none⟩ (.string t)).setCell ⟨w1.heap.size, 6, none⟩ (.slice ao m c)).heap[w1.heap.size]? = some (.cells #[.int .i64 ((a1 : Nat) : Int), .string ⟨#[112, 117, 98]⟩, .string (nameT toks a1 n1), .string (passT toks [⟨#[105, 110, 116]⟩, ⟨#[98, 111, 111, 108]⟩] a3 n3), .int .u8 op, .string t, .slice ao m c] 234)) := hid (heap_setCell_lit (i := 6) HI6q5.out _)
  have H6q6 := hid (H6q5.out.set (Nat.le_of_lt hlt.out) 6 (.slice ao m c))
  have HR6q6 := hid (own_set (i := 6) HR6q5.out (Nat.ne_of_lt hlt.out) (.slice ao m c))
  go_wp2_with fail
  refine (rpass_any HW.out rb tb cap b6 0 r6.isNone (.slice (some ⟨w6.heap.size, 0, none⟩) 1 1) [⟨#[59]⟩] _ (H6q6.out.alloc _).rp i6 (Lst.lit1n (by simp)) HST.out.s7).mono ?_
  rintro e w7 ⟨rfl, hp, hf⟩
  have H7 := hid ((H6q6.out.alloc _).call hp hf)
  have HR7 := hid (own_fr (old_heap _ HR6q6.out) hf (Nat.le_refl _) hrb)
  have HI7 := hid (own_fr (old_heap _ HI6q6.out) hf (Nat.le_of_lt hlt.out) hrb)
  have HL7 := hid ((((((Later.refl (fun k => w.heap.size < k ∧ k ≠ w1.heap.size) w6).set (p := ⟨w1.heap.size, 4, none⟩) (fun h => h.2 rfl) (.int .u8 op)).set (p := ⟨w1.heap.size, 5, none⟩) (fun h => h.2 rfl) (.string t)).set (p := ⟨w1.heap.size, 6, none⟩) (fun h => h.2 rfl) (.slice ao m c)).alloc _).trans (later_loop (eb := w1.heap.size) hf hrb))
  clear hp hf
  have HRL := HR7
  have HIL := HI7
  have HDL := H7
  have hr := HRL.out
  have he := HIL.out
  have r0 : World.cell? _ ⟨w.heap.size, 0, none⟩ = some (.int .i64 0) := heap_cell (i := 0) hr
  have fr0 : World.frozen? _ ⟨w.heap.size, 0, none⟩ = false := heap_frozen hr
  have r1 : World.cell? _ ⟨w.heap.size, 1, none⟩ = some (.string ⟨#[]⟩) := heap_cell (i := 1) hr
  have fr1 : World.frozen? _ ⟨w.heap.size, 1, none⟩ = false := heap_frozen hr
  have r2 : World.cell? _ ⟨w.heap.size, 2, none⟩ = some (.string ⟨#[]⟩) := heap_cell (i := 2) hr
  have fr2 : World.frozen? _ ⟨w.heap.size, 2, none⟩ = false := heap_frozen hr
  have r3 : World.cell? _ ⟨w.heap.size, 3, none⟩ = some (.string ⟨#[]⟩) := heap_cell (i := 3) hr
  have fr3 : World.frozen? _ ⟨w.heap.size, 3, none⟩ = false := heap_frozen hr
  have r4 : World.cell? _ ⟨w.heap.size, 4, none⟩ = some (.int .u8 0) := heap_cell (i := 4) hr
  have fr4 : World.frozen? _ ⟨w.heap.size, 4, none⟩ = false := heap_frozen hr
  have r5 : World.cell? _ ⟨w.heap.size, 5, none⟩ = some (.string ⟨#[]⟩) := heap_cell (i := 5) hr
  have fr5 : World.frozen? _ ⟨w.heap.size, 5, none⟩ = false := heap_frozen hr
  have r6 : World.cell? _ ⟨w.heap.size, 6, none⟩ = some (.slice none 0 0) := heap_cell (i := 6) hr
  have fr6 : World.frozen? _ ⟨w.heap.size, 6, none⟩ = false := heap_frozen hr
  have e0 : World.cell? _ ⟨w1.heap.size, 0, none⟩ = some (.int .i64 ((a1 : Nat) : Int)) := heap_cell (i := 0) he
  have e1 : World.cell? _ ⟨w1.heap.size, 1, none⟩ = some (.string ⟨#[112, 117, 98]⟩) := heap_cell (i := 1) he
  have e2 : World.cell? _ ⟨w1.heap.size, 2, none⟩ = some (.string (nameT toks a1 n1)) := heap_cell (i := 2) he
  have e3 : World.cell? _ ⟨w1.heap.size, 3, none⟩ = some (.string (passT toks [⟨#[105, 110, 116]⟩, ⟨#[98, 111, 111, 108]⟩] a3 n3)) := heap_cell (i := 3) he
  have e4 : World.cell? _ ⟨w1.heap.size, 4, none⟩ = some (.int .u8 op) := heap_cell (i := 4) he
  have e5 : World.cell? _ ⟨w1.heap.size, 5, none⟩ = some (.string t) := heap_cell (i := 5) he
  have e6 : World.cell? _ ⟨w1.heap.size, 6, none⟩ = some (.slice ao m c) := heap_cell (i := 6) he
  have hy := put7_same hr (.int .i64 ((a1 : Nat) : Int)) (.string ⟨#[112, 117, 98]⟩) (.string (nameT toks a1 n1)) (.string (passT toks [⟨#[105, 110, 116]⟩, ⟨#[98, 111, 111, 108]⟩] a3 n3)) (.int .u8 op) (.string t) (.slice ao m c)
  have y0 : World.cell? _ ⟨w.heap.size, 0, none⟩ = some (.int .i64 ((a1 : Nat) : Int)) := heap_cell (i := 0) hy
  have y1 : World.cell? _ ⟨w.heap.size, 1, none⟩ = some (.string ⟨#[112, 117, 98]⟩) := heap_cell (i := 1) hy
  have y2 : World.cell? _ ⟨w.heap.size, 2, none⟩ = some (.string (nameT toks a1 n1)) := heap_cell (i := 2) hy
  have y3 : World.cell? _ ⟨w.heap.size, 3, none⟩ = some (.string (passT toks [⟨#[105, 110, 116]⟩, ⟨#[98, 111, 111, 108]⟩] a3 n3)) := heap_cell (i := 3) hy
  have y4 : World.cell? _ ⟨w.heap.size, 4, none⟩ = some (.int .u8 op) := heap_cell (i := 4) hy
  have y5 : World.cell? _ ⟨w.heap.size, 5, none⟩ = some (.string t) := heap_cell (i := 5) hy
  have y6 : World.cell? _ ⟨w.heap.size, 6, none⟩ = some (.slice ao m c) := heap_cell (i := 6) hy
  go_wp2
  refine bodyPost_ret (v := .agg #[.int .i64 ((a1 : Nat) : Int), .string ⟨#[112, 117, 98]⟩, .string (nameT toks a1 n1), .string (passT toks [⟨#[105, 110, 116]⟩, ⟨#[98, 111, 111, 108]⟩] a3 n3), .int .u8 op, .string t, .slice ao m c]) (by simp [results, Tryz.results173, go_sem, y0, y1, y2, y3, y4, y5, y6]; try rfl) rfl ?_
  have hd := HDL.out.put7 (Nat.le_refl _) (.int .i64 ((a1 : Nat) : Int)) (.string ⟨#[112, 117, 98]⟩) (.string (nameT toks a1 n1)) (.string (passT toks [⟨#[105, 110, 116]⟩, ⟨#[98, 111, 111, 108]⟩] a3 n3)) (.int .u8 op) (.string t) (.slice ao m c)
  rw [← HZ.out]
  have hlt0 : ¬ (fun k => w.heap.size < k ∧ k ≠ w1.heap.size) w.heap.size := fun h => Nat.lt_irrefl _ h.1
  exact let_post HLE.out HST.out hd (.inr ⟨rfl, rfl⟩) (fun x hx => by obtain ⟨n, hn, hr⟩ := HX.out x hx; exact ⟨n, hn, rep_mono (rep_later hr (HL7.out.put7 hlt0 _ _ _ _ _ _ _)) (fun k _ h => h.1)⟩)

end Go.Proofs.YtfekglokoafpiaaGreatDoor
