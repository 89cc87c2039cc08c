/-
  The parser: item.
  The parser: what ReadTree holds.
  The program's write: what each expr adds to a builder.
-/
import Derived.Test.YtfekglokoafpiaaGreatDoorQ07

set_option linter.unusedVariables false
set_option linter.unusedSimpArgs false

namespace Go.Proofs.YtfekglokoafpiaaGreatDoor
open Go.RowKit

def itemP (toks : List Tok) (a : Nat) : Nat × Option It :=
  if isT toks a [117, 115, 101] then useP toks (a + 1) else if isT toks a [112, 117, 98] then letP toks 2 (a + 1) else letP toks 1 a

set_option maxRecDepth 100000 in
set_option maxHeartbeats 2000000 in
theorem item_use {toks : List Tok} (hw : Wf toks) (pb tb cap a : Nat) (w : World) (ha : a < toks.length) (hP : PS toks pb tb cap a 0 w.heap) (h0 : isT toks a [117, 115, 101] = true) :
    Calls Tryz.prog 122 #[.pointer (some ⟨pb, 0, none⟩)] w (PostI toks pb tb cap (useP toks (a + 1)).1 (useP toks (a + 1)).2 w) := by
  have HT0 : Hid (eqB (tx toks a) ⟨#[117, 115, 101]⟩ = true) := hid ((isT_eqB toks a [117, 115, 101]).symm.trans h0)
  have HX1 := hid (hw.next_isT ha h0)
  have HZ0 := hid (RS.start hP #[.int .i64 0, .int .i64 0, .string ⟨#[]⟩, .string ⟨#[]⟩, .nilIface])
  have HL := hid hw.le
  have HW := hid hw
  generalize hsp : useP toks (a + 1) = z
  obtain ⟨b, r⟩ := z
  have HSP := hid hsp
  clear hP hw hsp h0
  go_enter Tryz.func122, Tryz.ntmps122
  go_wp2_with fail
  refine (take_yes toks pb tb cap a 0 _ _ HZ0.out.ps ha HL.out HT0.out).mono ?_
  rintro e w1 ⟨rfl, hP1, hF1⟩
  have HZ := hid (HZ0.out.call hF1 hP1)
  clear hP1 hF1
  go_wp2_with fail
  refine (use_any HW.out pb tb cap (a + 1) _ HX1.out HZ.out.ps).mono ?_
  rw [HSP.out]
  rintro e w3 ⟨⟨v, rfl, ⟨i0, i1, s2, s3, x4, rfl, hi⟩, hx⟩, hP3, hb3, hF3⟩
  rcases hi with rfl | ⟨t4, v4, rfl⟩
  · have hz3 := HZ.out.call hF3 hP3
    clear hP3 hF3
    have r0 : w3.cell? ⟨w.heap.size, 0, none⟩ = some (.int .i64 0) := hz3.cell 0
    have rf0 := hz3.f 0
    have r1 : w3.cell? ⟨w.heap.size, 1, none⟩ = some (.int .i64 0) := hz3.cell 1
    have rf1 := hz3.f 1
    have r2 : w3.cell? ⟨w.heap.size, 2, none⟩ = some (.string ⟨#[]⟩) := hz3.cell 2
    have rf2 := hz3.f 2
    have r3 : w3.cell? ⟨w.heap.size, 3, none⟩ = some (.string ⟨#[]⟩) := hz3.cell 3
    have rf3 := hz3.f 3
    have r4 : w3.cell? ⟨w.heap.size, 4, none⟩ = some .nilIface := hz3.cell 4
    have rf4 := hz3.f 4
    have hR : RS toks pb tb cap w (((((w3.setCell ⟨w.heap.size, 0, none⟩ (.int .i64 i0)).setCell ⟨w.heap.size, 1, none⟩ (.int .i64 i1)).setCell ⟨w.heap.size, 2, none⟩ (.string s2)).setCell ⟨w.heap.size, 3, none⟩ (.string s3)).setCell ⟨w.heap.size, 4, none⟩ .nilIface) _ #[(.int .i64 i0), (.int .i64 i1), (.string s2), (.string s3), .nilIface] := hz3.put (.int .i64 i0) (.int .i64 i1) (.string s2) (.string s3) .nilIface
    have y0 : (((((w3.setCell ⟨w.heap.size, 0, none⟩ (.int .i64 i0)).setCell ⟨w.heap.size, 1, none⟩ (.int .i64 i1)).setCell ⟨w.heap.size, 2, none⟩ (.string s2)).setCell ⟨w.heap.size, 3, none⟩ (.string s3)).setCell ⟨w.heap.size, 4, none⟩ .nilIface).cell? ⟨w.heap.size, 0, none⟩ = some (.int .i64 i0) := hR.cell 0
    have y1 : (((((w3.setCell ⟨w.heap.size, 0, none⟩ (.int .i64 i0)).setCell ⟨w.heap.size, 1, none⟩ (.int .i64 i1)).setCell ⟨w.heap.size, 2, none⟩ (.string s2)).setCell ⟨w.heap.size, 3, none⟩ (.string s3)).setCell ⟨w.heap.size, 4, none⟩ .nilIface).cell? ⟨w.heap.size, 1, none⟩ = some (.int .i64 i1) := hR.cell 1
    have y2 : (((((w3.setCell ⟨w.heap.size, 0, none⟩ (.int .i64 i0)).setCell ⟨w.heap.size, 1, none⟩ (.int .i64 i1)).setCell ⟨w.heap.size, 2, none⟩ (.string s2)).setCell ⟨w.heap.size, 3, none⟩ (.string s3)).setCell ⟨w.heap.size, 4, none⟩ .nilIface).cell? ⟨w.heap.size, 2, none⟩ = some (.string s2) := hR.cell 2
    have y3 : (((((w3.setCell ⟨w.heap.size, 0, none⟩ (.int .i64 i0)).setCell ⟨w.heap.size, 1, none⟩ (.int .i64 i1)).setCell ⟨w.heap.size, 2, none⟩ (.string s2)).setCell ⟨w.heap.size, 3, none⟩ (.string s3)).setCell ⟨w.heap.size, 4, none⟩ .nilIface).cell? ⟨w.heap.size, 3, none⟩ = some (.string s3) := hR.cell 3
    have y4 : (((((w3.setCell ⟨w.heap.size, 0, none⟩ (.int .i64 i0)).setCell ⟨w.heap.size, 1, none⟩ (.int .i64 i1)).setCell ⟨w.heap.size, 2, none⟩ (.string s2)).setCell ⟨w.heap.size, 3, none⟩ (.string s3)).setCell ⟨w.heap.size, 4, none⟩ .nilIface).cell? ⟨w.heap.size, 4, none⟩ = some .nilIface := hR.cell 4
    have HR := hid hR
    have HX := hid hx
    clear hR hz3 hx
    go_wp2
    refine bodyPost_ret (v := .tuple #[.agg #[(.int .i64 i0), (.int .i64 i1), (.string s2), (.string s3), .nilIface], .bool r.isSome]) (by simp [results, Tryz.results122, go_sem, y0, y1, y2, y3, y4]; try rfl) rfl ?_
    exact ⟨⟨_, rfl, ⟨_, _, _, _, _, rfl, .inl rfl⟩, HX.out⟩, HR.out.ps, hb3, HR.out.fr⟩
  · have hz3 := HZ.out.call hF3 hP3
    clear hP3 hF3
    have r0 : w3.cell? ⟨w.heap.size, 0, none⟩ = some (.int .i64 0) := hz3.cell 0
    have rf0 := hz3.f 0
    have r1 : w3.cell? ⟨w.heap.size, 1, none⟩ = some (.int .i64 0) := hz3.cell 1
    have rf1 := hz3.f 1
    have r2 : w3.cell? ⟨w.heap.size, 2, none⟩ = some (.string ⟨#[]⟩) := hz3.cell 2
    have rf2 := hz3.f 2
    have r3 : w3.cell? ⟨w.heap.size, 3, none⟩ = some (.string ⟨#[]⟩) := hz3.cell 3
    have rf3 := hz3.f 3
    have r4 : w3.cell? ⟨w.heap.size, 4, none⟩ = some .nilIface := hz3.cell 4
    have rf4 := hz3.f 4
    have hR : RS toks pb tb cap w (((((w3.setCell ⟨w.heap.size, 0, none⟩ (.int .i64 i0)).setCell ⟨w.heap.size, 1, none⟩ (.int .i64 i1)).setCell ⟨w.heap.size, 2, none⟩ (.string s2)).setCell ⟨w.heap.size, 3, none⟩ (.string s3)).setCell ⟨w.heap.size, 4, none⟩ (.iface t4 v4)) _ #[(.int .i64 i0), (.int .i64 i1), (.string s2), (.string s3), (.iface t4 v4)] := hz3.put (.int .i64 i0) (.int .i64 i1) (.string s2) (.string s3) (.iface t4 v4)
    have y0 : (((((w3.setCell ⟨w.heap.size, 0, none⟩ (.int .i64 i0)).setCell ⟨w.heap.size, 1, none⟩ (.int .i64 i1)).setCell ⟨w.heap.size, 2, none⟩ (.string s2)).setCell ⟨w.heap.size, 3, none⟩ (.string s3)).setCell ⟨w.heap.size, 4, none⟩ (.iface t4 v4)).cell? ⟨w.heap.size, 0, none⟩ = some (.int .i64 i0) := hR.cell 0
    have y1 : (((((w3.setCell ⟨w.heap.size, 0, none⟩ (.int .i64 i0)).setCell ⟨w.heap.size, 1, none⟩ (.int .i64 i1)).setCell ⟨w.heap.size, 2, none⟩ (.string s2)).setCell ⟨w.heap.size, 3, none⟩ (.string s3)).setCell ⟨w.heap.size, 4, none⟩ (.iface t4 v4)).cell? ⟨w.heap.size, 1, none⟩ = some (.int .i64 i1) := hR.cell 1
    have y2 : (((((w3.setCell ⟨w.heap.size, 0, none⟩ (.int .i64 i0)).setCell ⟨w.heap.size, 1, none⟩ (.int .i64 i1)).setCell ⟨w.heap.size, 2, none⟩ (.string s2)).setCell ⟨w.heap.size, 3, none⟩ (.string s3)).setCell ⟨w.heap.size, 4, none⟩ (.iface t4 v4)).cell? ⟨w.heap.size, 2, none⟩ = some (.string s2) := hR.cell 2
    have y3 : (((((w3.setCell ⟨w.heap.size, 0, none⟩ (.int .i64 i0)).setCell ⟨w.heap.size, 1, none⟩ (.int .i64 i1)).setCell ⟨w.heap.size, 2, none⟩ (.string s2)).setCell ⟨w.heap.size, 3, none⟩ (.string s3)).setCell ⟨w.heap.size, 4, none⟩ (.iface t4 v4)).cell? ⟨w.heap.size, 3, none⟩ = some (.string s3) := hR.cell 3
    have y4 : (((((w3.setCell ⟨w.heap.size, 0, none⟩ (.int .i64 i0)).setCell ⟨w.heap.size, 1, none⟩ (.int .i64 i1)).setCell ⟨w.heap.size, 2, none⟩ (.string s2)).setCell ⟨w.heap.size, 3, none⟩ (.string s3)).setCell ⟨w.heap.size, 4, none⟩ (.iface t4 v4)).cell? ⟨w.heap.size, 4, none⟩ = some (.iface t4 v4) := hR.cell 4
    have HR := hid hR
    have HX := hid hx
    clear hR hz3 hx
    go_wp2
    refine bodyPost_ret (v := .tuple #[.agg #[(.int .i64 i0), (.int .i64 i1), (.string s2), (.string s3), (.iface t4 v4)], .bool r.isSome]) (by simp [results, Tryz.results122, go_sem, y0, y1, y2, y3, y4]; try rfl) rfl ?_
    exact ⟨⟨_, rfl, ⟨_, _, _, _, _, rfl, .inr ⟨_, _, rfl⟩⟩, HX.out⟩, HR.out.ps, hb3, HR.out.fr⟩

set_option maxRecDepth 100000 in
set_option maxHeartbeats 2000000 in
theorem item_pub {toks : List Tok} (hw : Wf toks) (pb tb cap a : Nat) (w : World) (ha : a < toks.length) (hP : PS toks pb tb cap a 0 w.heap) (h0 : isT toks a [117, 115, 101] = false ∧ isT toks a [112, 117, 98] = true) :
    Calls Tryz.prog 122 #[.pointer (some ⟨pb, 0, none⟩)] w (PostI toks pb tb cap (letP toks 2 (a + 1)).1 (letP toks 2 (a + 1)).2 w) := by
  have HT0 : Hid (eqB (tx toks a) ⟨#[117, 115, 101]⟩ = false) := hid ((isT_eqB toks a [117, 115, 101]).symm.trans h0.1)
  have HT1 : Hid (eqB (tx toks a) ⟨#[112, 117, 98]⟩ = true) := hid ((isT_eqB toks a [112, 117, 98]).symm.trans h0.2)
  have HX1 := hid (hw.next_isT ha h0.2)
  have HZ0 := hid (RS.start hP #[.int .i64 0, .int .i64 0, .string ⟨#[]⟩, .string ⟨#[]⟩, .nilIface])
  have HL := hid hw.le
  have HW := hid hw
  generalize hsp : letP toks 2 (a + 1) = z
  obtain ⟨b, r⟩ := z
  have HSP := hid hsp
  clear hP hw hsp h0
  go_enter Tryz.func122, Tryz.ntmps122
  go_wp2_with fail
  refine (take_no toks pb tb cap a 0 _ _ HZ0.out.ps ha HT0.out).mono ?_
  rintro e w1 ⟨rfl, hP1, hF1⟩
  have HZ1 := hid (HZ0.out.call hF1 hP1)
  clear hP1 hF1
  go_wp2_with fail
  refine (take_yes toks pb tb cap a 0 _ _ HZ1.out.ps ha HL.out HT1.out).mono ?_
  rintro e w2 ⟨rfl, hP1, hF1⟩
  have HZ := hid (HZ1.out.call hF1 hP1)
  clear hP1 hF1
  go_wp2_with fail
  refine (let_any HW.out pb tb cap 2 (a + 1) _ HX1.out HZ.out.ps).mono ?_
  rw [HSP.out]
  rintro e w3 ⟨⟨v, rfl, ⟨i0, i1, s2, s3, x4, rfl, hi⟩, hx⟩, hP3, hb3, hF3⟩
  rcases hi with rfl | ⟨t4, v4, rfl⟩
  · have hz3 := HZ.out.call hF3 hP3
    clear hP3 hF3
    have r0 : w3.cell? ⟨w.heap.size, 0, none⟩ = some (.int .i64 0) := hz3.cell 0
    have rf0 := hz3.f 0
    have r1 : w3.cell? ⟨w.heap.size, 1, none⟩ = some (.int .i64 0) := hz3.cell 1
    have rf1 := hz3.f 1
    have r2 : w3.cell? ⟨w.heap.size, 2, none⟩ = some (.string ⟨#[]⟩) := hz3.cell 2
    have rf2 := hz3.f 2
    have r3 : w3.cell? ⟨w.heap.size, 3, none⟩ = some (.string ⟨#[]⟩) := hz3.cell 3
    have rf3 := hz3.f 3
    have r4 : w3.cell? ⟨w.heap.size, 4, none⟩ = some .nilIface := hz3.cell 4
    have rf4 := hz3.f 4
    have hR : RS toks pb tb cap w (((((w3.setCell ⟨w.heap.size, 0, none⟩ (.int .i64 i0)).setCell ⟨w.heap.size, 1, none⟩ (.int .i64 i1)).setCell ⟨w.heap.size, 2, none⟩ (.string s2)).setCell ⟨w.heap.size, 3, none⟩ (.string s3)).setCell ⟨w.heap.size, 4, none⟩ .nilIface) _ #[(.int .i64 i0), (.int .i64 i1), (.string s2), (.string s3), .nilIface] := hz3.put (.int .i64 i0) (.int .i64 i1) (.string s2) (.string s3) .nilIface
    have y0 : (((((w3.setCell ⟨w.heap.size, 0, none⟩ (.int .i64 i0)).setCell ⟨w.heap.size, 1, none⟩ (.int .i64 i1)).setCell ⟨w.heap.size, 2, none⟩ (.string s2)).setCell ⟨w.heap.size, 3, none⟩ (.string s3)).setCell ⟨w.heap.size, 4, none⟩ .nilIface).cell? ⟨w.heap.size, 0, none⟩ = some (.int .i64 i0) := hR.cell 0
    have y1 : (((((w3.setCell ⟨w.heap.size, 0, none⟩ (.int .i64 i0)).setCell ⟨w.heap.size, 1, none⟩ (.int .i64 i1)).setCell ⟨w.heap.size, 2, none⟩ (.string s2)).setCell ⟨w.heap.size, 3, none⟩ (.string s3)).setCell ⟨w.heap.size, 4, none⟩ .nilIface).cell? ⟨w.heap.size, 1, none⟩ = some (.int .i64 i1) := hR.cell 1
    have y2 : (((((w3.setCell ⟨w.heap.size, 0, none⟩ (.int .i64 i0)).setCell ⟨w.heap.size, 1, none⟩ (.int .i64 i1)).setCell ⟨w.heap.size, 2, none⟩ (.string s2)).setCell ⟨w.heap.size, 3, none⟩ (.string s3)).setCell ⟨w.heap.size, 4, none⟩ .nilIface).cell? ⟨w.heap.size, 2, none⟩ = some (.string s2) := hR.cell 2
    have y3 : (((((w3.setCell ⟨w.heap.size, 0, none⟩ (.int .i64 i0)).setCell ⟨w.heap.size, 1, none⟩ (.int .i64 i1)).setCell ⟨w.heap.size, 2, none⟩ (.string s2)).setCell ⟨w.heap.size, 3, none⟩ (.string s3)).setCell ⟨w.heap.size, 4, none⟩ .nilIface).cell? ⟨w.heap.size, 3, none⟩ = some (.string s3) := hR.cell 3
    have y4 : (((((w3.setCell ⟨w.heap.size, 0, none⟩ (.int .i64 i0)).setCell ⟨w.heap.size, 1, none⟩ (.int .i64 i1)).setCell ⟨w.heap.size, 2, none⟩ (.string s2)).setCell ⟨w.heap.size, 3, none⟩ (.string s3)).setCell ⟨w.heap.size, 4, none⟩ .nilIface).cell? ⟨w.heap.size, 4, none⟩ = some .nilIface := hR.cell 4
    have HR := hid hR
    have HX := hid hx
    clear hR hz3 hx
    go_wp2
    refine bodyPost_ret (v := .tuple #[.agg #[(.int .i64 i0), (.int .i64 i1), (.string s2), (.string s3), .nilIface], .bool r.isSome]) (by simp [results, Tryz.results122, go_sem, y0, y1, y2, y3, y4]; try rfl) rfl ?_
    exact ⟨⟨_, rfl, ⟨_, _, _, _, _, rfl, .inl rfl⟩, HX.out⟩, HR.out.ps, hb3, HR.out.fr⟩
  · have hz3 := HZ.out.call hF3 hP3
    clear hP3 hF3
    have r0 : w3.cell? ⟨w.heap.size, 0, none⟩ = some (.int .i64 0) := hz3.cell 0
    have rf0 := hz3.f 0
    have r1 : w3.cell? ⟨w.heap.size, 1, none⟩ = some (.int .i64 0) := hz3.cell 1
    have rf1 := hz3.f 1
    have r2 : w3.cell? ⟨w.heap.size, 2, none⟩ = some (.string ⟨#[]⟩) := hz3.cell 2
    have rf2 := hz3.f 2
    have r3 : w3.cell? ⟨w.heap.size, 3, none⟩ = some (.string ⟨#[]⟩) := hz3.cell 3
    have rf3 := hz3.f 3
    have r4 : w3.cell? ⟨w.heap.size, 4, none⟩ = some .nilIface := hz3.cell 4
    have rf4 := hz3.f 4
    have hR : RS toks pb tb cap w (((((w3.setCell ⟨w.heap.size, 0, none⟩ (.int .i64 i0)).setCell ⟨w.heap.size, 1, none⟩ (.int .i64 i1)).setCell ⟨w.heap.size, 2, none⟩ (.string s2)).setCell ⟨w.heap.size, 3, none⟩ (.string s3)).setCell ⟨w.heap.size, 4, none⟩ (.iface t4 v4)) _ #[(.int .i64 i0), (.int .i64 i1), (.string s2), (.string s3), (.iface t4 v4)] := hz3.put (.int .i64 i0) (.int .i64 i1) (.string s2) (.string s3) (.iface t4 v4)
    have y0 : (((((w3.setCell ⟨w.heap.size, 0, none⟩ (.int .i64 i0)).setCell ⟨w.heap.size, 1, none⟩ (.int .i64 i1)).setCell ⟨w.heap.size, 2, none⟩ (.string s2)).setCell ⟨w.heap.size, 3, none⟩ (.string s3)).setCell ⟨w.heap.size, 4, none⟩ (.iface t4 v4)).cell? ⟨w.heap.size, 0, none⟩ = some (.int .i64 i0) := hR.cell 0
    have y1 : (((((w3.setCell ⟨w.heap.size, 0, none⟩ (.int .i64 i0)).setCell ⟨w.heap.size, 1, none⟩ (.int .i64 i1)).setCell ⟨w.heap.size, 2, none⟩ (.string s2)).setCell ⟨w.heap.size, 3, none⟩ (.string s3)).setCell ⟨w.heap.size, 4, none⟩ (.iface t4 v4)).cell? ⟨w.heap.size, 1, none⟩ = some (.int .i64 i1) := hR.cell 1
    have y2 : (((((w3.setCell ⟨w.heap.size, 0, none⟩ (.int .i64 i0)).setCell ⟨w.heap.size, 1, none⟩ (.int .i64 i1)).setCell ⟨w.heap.size, 2, none⟩ (.string s2)).setCell ⟨w.heap.size, 3, none⟩ (.string s3)).setCell ⟨w.heap.size, 4, none⟩ (.iface t4 v4)).cell? ⟨w.heap.size, 2, none⟩ = some (.string s2) := hR.cell 2
    have y3 : (((((w3.setCell ⟨w.heap.size, 0, none⟩ (.int .i64 i0)).setCell ⟨w.heap.size, 1, none⟩ (.int .i64 i1)).setCell ⟨w.heap.size, 2, none⟩ (.string s2)).setCell ⟨w.heap.size, 3, none⟩ (.string s3)).setCell ⟨w.heap.size, 4, none⟩ (.iface t4 v4)).cell? ⟨w.heap.size, 3, none⟩ = some (.string s3) := hR.cell 3
    have y4 : (((((w3.setCell ⟨w.heap.size, 0, none⟩ (.int .i64 i0)).setCell ⟨w.heap.size, 1, none⟩ (.int .i64 i1)).setCell ⟨w.heap.size, 2, none⟩ (.string s2)).setCell ⟨w.heap.size, 3, none⟩ (.string s3)).setCell ⟨w.heap.size, 4, none⟩ (.iface t4 v4)).cell? ⟨w.heap.size, 4, none⟩ = some (.iface t4 v4) := hR.cell 4
    have HR := hid hR
    have HX := hid hx
    clear hR hz3 hx
    go_wp2
    refine bodyPost_ret (v := .tuple #[.agg #[(.int .i64 i0), (.int .i64 i1), (.string s2), (.string s3), (.iface t4 v4)], .bool r.isSome]) (by simp [results, Tryz.results122, go_sem, y0, y1, y2, y3, y4]; try rfl) rfl ?_
    exact ⟨⟨_, rfl, ⟨_, _, _, _, _, rfl, .inr ⟨_, _, rfl⟩⟩, HX.out⟩, HR.out.ps, hb3, HR.out.fr⟩

set_option maxRecDepth 100000 in
set_option maxHeartbeats 2000000 in
theorem item_let {toks : List Tok} (hw : Wf toks) (pb tb cap a : Nat) (w : World) (ha : a < toks.length) (hP : PS toks pb tb cap a 0 w.heap) (h0 : isT toks a [117, 115, 101] = false ∧ isT toks a [112, 117, 98] = false) :
    Calls Tryz.prog 122 #[.pointer (some ⟨pb, 0, none⟩)] w (PostI toks pb tb cap (letP toks 1 a).1 (letP toks 1 a).2 w) := by
  have HT0 : Hid (eqB (tx toks a) ⟨#[117, 115, 101]⟩ = false) := hid ((isT_eqB toks a [117, 115, 101]).symm.trans h0.1)
  have HT1 : Hid (eqB (tx toks a) ⟨#[112, 117, 98]⟩ = false) := hid ((isT_eqB toks a [112, 117, 98]).symm.trans h0.2)
  have HZ0 := hid (RS.start hP #[.int .i64 0, .int .i64 0, .string ⟨#[]⟩, .string ⟨#[]⟩, .nilIface])
  have HL := hid hw.le
  have HW := hid hw
  generalize hsp : letP toks 1 a = z
  obtain ⟨b, r⟩ := z
  have HSP := hid hsp
  clear hP hw hsp h0
  go_enter Tryz.func122, Tryz.ntmps122
  go_wp2_with fail
  refine (take_no toks pb tb cap a 0 _ _ HZ0.out.ps ha HT0.out).mono ?_
  rintro e w1 ⟨rfl, hP1, hF1⟩
  have HZ1 := hid (HZ0.out.call hF1 hP1)
  clear hP1 hF1
  go_wp2_with fail
  refine (take_no toks pb tb cap a 0 _ _ HZ1.out.ps ha HT1.out).mono ?_
  rintro e w2 ⟨rfl, hP1, hF1⟩
  have HZ := hid (HZ1.out.call hF1 hP1)
  clear hP1 hF1
  go_wp2_with fail
  refine (let_any HW.out pb tb cap 1 a _ ha HZ.out.ps).mono ?_
  rw [HSP.out]
  rintro e w3 ⟨⟨v, rfl, ⟨i0, i1, s2, s3, x4, rfl, hi⟩, hx⟩, hP3, hb3, hF3⟩
  rcases hi with rfl | ⟨t4, v4, rfl⟩
  · have hz3 := HZ.out.call hF3 hP3
    clear hP3 hF3
    have r0 : w3.cell? ⟨w.heap.size, 0, none⟩ = some (.int .i64 0) := hz3.cell 0
    have rf0 := hz3.f 0
    have r1 : w3.cell? ⟨w.heap.size, 1, none⟩ = some (.int .i64 0) := hz3.cell 1
    have rf1 := hz3.f 1
    have r2 : w3.cell? ⟨w.heap.size, 2, none⟩ = some (.string ⟨#[]⟩) := hz3.cell 2
    have rf2 := hz3.f 2
    have r3 : w3.cell? ⟨w.heap.size, 3, none⟩ = some (.string ⟨#[]⟩) := hz3.cell 3
    have rf3 := hz3.f 3
    have r4 : w3.cell? ⟨w.heap.size, 4, none⟩ = some .nilIface := hz3.cell 4
    have rf4 := hz3.f 4
    have hR : RS toks pb tb cap w (((((w3.setCell ⟨w.heap.size, 0, none⟩ (.int .i64 i0)).setCell ⟨w.heap.size, 1, none⟩ (.int .i64 i1)).setCell ⟨w.heap.size, 2, none⟩ (.string s2)).setCell ⟨w.heap.size, 3, none⟩ (.string s3)).setCell ⟨w.heap.size, 4, none⟩ .nilIface) _ #[(.int .i64 i0), (.int .i64 i1), (.string s2), (.string s3), .nilIface] := hz3.put (.int .i64 i0) (.int .i64 i1) (.string s2) (.string s3) .nilIface
    have y0 : (((((w3.setCell ⟨w.heap.size, 0, none⟩ (.int .i64 i0)).setCell ⟨w.heap.size, 1, none⟩ (.int .i64 i1)).setCell ⟨w.heap.size, 2, none⟩ (.string s2)).setCell ⟨w.heap.size, 3, none⟩ (.string s3)).setCell ⟨w.heap.size, 4, none⟩ .nilIface).cell? ⟨w.heap.size, 0, none⟩ = some (.int .i64 i0) := hR.cell 0
    have y1 : (((((w3.setCell ⟨w.heap.size, 0, none⟩ (.int .i64 i0)).setCell ⟨w.heap.size, 1, none⟩ (.int .i64 i1)).setCell ⟨w.heap.size, 2, none⟩ (.string s2)).setCell ⟨w.heap.size, 3, none⟩ (.string s3)).setCell ⟨w.heap.size, 4, none⟩ .nilIface).cell? ⟨w.heap.size, 1, none⟩ = some (.int .i64 i1) := hR.cell 1
    have y2 : (((((w3.setCell ⟨w.heap.size, 0, none⟩ (.int .i64 i0)).setCell ⟨w.heap.size, 1, none⟩ (.int .i64 i1)).setCell ⟨w.heap.size, 2, none⟩ (.string s2)).setCell ⟨w.heap.size, 3, none⟩ (.string s3)).setCell ⟨w.heap.size, 4, none⟩ .nilIface).cell? ⟨w.heap.size, 2, none⟩ = some (.string s2) := hR.cell 2
    have y3 : (((((w3.setCell ⟨w.heap.size, 0, none⟩ (.int .i64 i0)).setCell ⟨w.heap.size, 1, none⟩ (.int .i64 i1)).setCell ⟨w.heap.size, 2, none⟩ (.string s2)).setCell ⟨w.heap.size, 3, none⟩ (.string s3)).setCell ⟨w.heap.size, 4, none⟩ .nilIface).cell? ⟨w.heap.size, 3, none⟩ = some (.string s3) := hR.cell 3
    have y4 : (((((w3.setCell ⟨w.heap.size, 0, none⟩ (.int .i64 i0)).setCell ⟨w.heap.size, 1, none⟩ (.int .i64 i1)).setCell ⟨w.heap.size, 2, none⟩ (.string s2)).setCell ⟨w.heap.size, 3, none⟩ (.string s3)).setCell ⟨w.heap.size, 4, none⟩ .nilIface).cell? ⟨w.heap.size, 4, none⟩ = some .nilIface := hR.cell 4
    have HR := hid hR
    have HX := hid hx
    clear hR hz3 hx
    go_wp2
    refine bodyPost_ret (v := .tuple #[.agg #[(.int .i64 i0), (.int .i64 i1), (.string s2), (.string s3), .nilIface], .bool r.isSome]) (by simp [results, Tryz.results122, go_sem, y0, y1, y2, y3, y4]; try rfl) rfl ?_
    exact ⟨⟨_, rfl, ⟨_, _, _, _, _, rfl, .inl rfl⟩, HX.out⟩, HR.out.ps, hb3, HR.out.fr⟩
  · have hz3 := HZ.out.call hF3 hP3
    clear hP3 hF3
    have r0 : w3.cell? ⟨w.heap.size, 0, none⟩ = some (.int .i64 0) := hz3.cell 0
    have rf0 := hz3.f 0
    have r1 : w3.cell? ⟨w.heap.size, 1, none⟩ = some (.int .i64 0) := hz3.cell 1
    have rf1 := hz3.f 1
    have r2 : w3.cell? ⟨w.heap.size, 2, none⟩ = some (.string ⟨#[]⟩) := hz3.cell 2
    have rf2 := hz3.f 2
    have r3 : w3.cell? ⟨w.heap.size, 3, none⟩ = some (.string ⟨#[]⟩) := hz3.cell 3
    have rf3 := hz3.f 3
    have r4 : w3.cell? ⟨w.heap.size, 4, none⟩ = some .nilIface := hz3.cell 4
    have rf4 := hz3.f 4
    have hR : RS toks pb tb cap w (((((w3.setCell ⟨w.heap.size, 0, none⟩ (.int .i64 i0)).setCell ⟨w.heap.size, 1, none⟩ (.int .i64 i1)).setCell ⟨w.heap.size, 2, none⟩ (.string s2)).setCell ⟨w.heap.size, 3, none⟩ (.string s3)).setCell ⟨w.heap.size, 4, none⟩ (.iface t4 v4)) _ #[(.int .i64 i0), (.int .i64 i1), (.string s2), (.string s3), (.iface t4 v4)] := hz3.put (.int .i64 i0) (.int .i64 i1) (.string s2) (.string s3) (.iface t4 v4)
    have y0 : (((((w3.setCell ⟨w.heap.size, 0, none⟩ (.int .i64 i0)).setCell ⟨w.heap.size, 1, none⟩ (.int .i64 i1)).setCell ⟨w.heap.size, 2, none⟩ (.string s2)).setCell ⟨w.heap.size, 3, none⟩ (.string s3)).setCell ⟨w.heap.size, 4, none⟩ (.iface t4 v4)).cell? ⟨w.heap.size, 0, none⟩ = some (.int .i64 i0) := hR.cell 0
    have y1 : (((((w3.setCell ⟨w.heap.size, 0, none⟩ (.int .i64 i0)).setCell ⟨w.heap.size, 1, none⟩ (.int .i64 i1)).setCell ⟨w.heap.size, 2, none⟩ (.string s2)).setCell ⟨w.heap.size, 3, none⟩ (.string s3)).setCell ⟨w.heap.size, 4, none⟩ (.iface t4 v4)).cell? ⟨w.heap.size, 1, none⟩ = some (.int .i64 i1) := hR.cell 1
    have y2 : (((((w3.setCell ⟨w.heap.size, 0, none⟩ (.int .i64 i0)).setCell ⟨w.heap.size, 1, none⟩ (.int .i64 i1)).setCell ⟨w.heap.size, 2, none⟩ (.string s2)).setCell ⟨w.heap.size, 3, none⟩ (.string s3)).setCell ⟨w.heap.size, 4, none⟩ (.iface t4 v4)).cell? ⟨w.heap.size, 2, none⟩ = some (.string s2) := hR.cell 2
    have y3 : (((((w3.setCell ⟨w.heap.size, 0, none⟩ (.int .i64 i0)).setCell ⟨w.heap.size, 1, none⟩ (.int .i64 i1)).setCell ⟨w.heap.size, 2, none⟩ (.string s2)).setCell ⟨w.heap.size, 3, none⟩ (.string s3)).setCell ⟨w.heap.size, 4, none⟩ (.iface t4 v4)).cell? ⟨w.heap.size, 3, none⟩ = some (.string s3) := hR.cell 3
    have y4 : (((((w3.setCell ⟨w.heap.size, 0, none⟩ (.int .i64 i0)).setCell ⟨w.heap.size, 1, none⟩ (.int .i64 i1)).setCell ⟨w.heap.size, 2, none⟩ (.string s2)).setCell ⟨w.heap.size, 3, none⟩ (.string s3)).setCell ⟨w.heap.size, 4, none⟩ (.iface t4 v4)).cell? ⟨w.heap.size, 4, none⟩ = some (.iface t4 v4) := hR.cell 4
    have HR := hid hR
    have HX := hid hx
    clear hR hz3 hx
    go_wp2
    refine bodyPost_ret (v := .tuple #[.agg #[(.int .i64 i0), (.int .i64 i1), (.string s2), (.string s3), (.iface t4 v4)], .bool r.isSome]) (by simp [results, Tryz.results122, go_sem, y0, y1, y2, y3, y4]; try rfl) rfl ?_
    exact ⟨⟨_, rfl, ⟨_, _, _, _, _, rfl, .inr ⟨_, _, rfl⟩⟩, HX.out⟩, HR.out.ps, hb3, HR.out.fr⟩

theorem item_any {toks : List Tok} (hw : Wf toks) (pb tb cap a : Nat) (w : World) (ha : a < toks.length) (hP : PS toks pb tb cap a 0 w.heap) :
    Calls Tryz.prog 122 #[.pointer (some ⟨pb, 0, none⟩)] w (PostI toks pb tb cap (itemP toks a).1 (itemP toks a).2 w) := by
  cases h0 : isT toks a [117, 115, 101] with
  | true => simpa [itemP, h0] using item_use hw pb tb cap a w ha hP h0
  | false =>
    cases h1 : isT toks a [112, 117, 98] with
    | true => simpa [itemP, h0, h1] using item_pub hw pb tb cap a w ha hP ⟨h0, h1⟩
    | false => simpa [itemP, h0, h1] using item_let hw pb tb cap a w ha hP ⟨h0, h1⟩

end Go.Proofs.YtfekglokoafpiaaGreatDoor

namespace Go.Proofs.YtfekglokoafpiaaGreatDoor
open Go.RowKit

def treeP (toks : List Tok) : Nat → Nat → List It × Option Nat
  | 0, _ => ([], none)
  | f + 1, a => if eqB (tx toks a) ⟨#[]⟩ then ([], none) else
      match itemP toks a with
      | (b, none) => ([], some b)
      | (b, some i) => (i :: (treeP toks f b).1, (treeP toks f b).2)

def treeAll (toks : List Tok) : List It × Option Nat := treeP toks toks.length 0
def faultV : Option Nat → Value
  | none => .int .i64 (-1)
  | some b => .int .i64 b

theorem letP_ge {toks : List Tok} (hw : Wf toks) {k a b : Nat} {i : It} (h : letP toks k a = (b, some i)) : a < b := by
  unfold letP at h
  split at h
  · split at h
    · split at h
      · split at h
        · split at h
          · split at h
            · cases h
            · rename_i c x he
              have := exprP_ge hw (a + 5)
              rw [he] at this
              split at h
              · cases h; simp at this; omega
              · cases h
          · cases h
        · cases h
      · cases h
    · cases h
  · cases h

theorem useP_ge {toks : List Tok} {a b : Nat} {i : It} (h : useP toks a = (b, some i)) : a < b := by
  unfold useP at h
  split at h
  · split at h
    · cases h; omega
    · cases h
  · cases h

theorem itemP_ge {toks : List Tok} (hw : Wf toks) {a b : Nat} {i : It} (h : itemP toks a = (b, some i)) : a < b := by
  unfold itemP at h
  split at h
  · have := useP_ge h; omega
  · split at h
    · have := letP_ge hw h; omega
    · exact letP_ge hw h

/-- An owned row stays one where its block does. -/
theorem own_block {w w' : World} {B : Nat} {e : TypeId} {size : Nat} {v : Value} {n : Nat} {xs : List Value} (h : w.ownsRow B e size v n xs) (hk : ∀ g, B ≤ g → g < w.heap.size → w'.heap[g]? = w.heap[g]?) : w'.ownsRow B e size v n xs := by
  obtain ⟨hl, h | ⟨g, cap, cur, hv, hb, hg, h1, h2, h3, h4⟩⟩ := h
  · exact ⟨hl, .inl h⟩
  · exact ⟨hl, .inr ⟨g, cap, cur, hv, hb, (hk g hb (heap_lt hg)).trans hg, h1, h2, h3, h4⟩⟩

/-- Within ReadTree: the result in block B, the parser in B + 1, the tree in B + 2, B being where the heap ended. -/
structure TS (toks : List Tok) (tb cap : Nat) (w wr : World) (a : Nat) (v : Value) (n : Nat) (xs : List Value) (fault : Int) : Prop where
  tl : tb < w.heap.size
  ps : PS toks (w.heap.size + 1) tb cap a 0 wr.heap
  bl : Below w.heap.size w wr
  rb : wr.heap[w.heap.size]? = some (.cells #[.slice none 0 0, .int .i64 0] 86)
  tr : wr.heap[w.heap.size + 1 + 1]? = some (.cells #[v, .int .i64 fault] 86)
  own : wr.ownsRow (w.heap.size + 3) 135 5 v n xs

theorem TS.start {toks : List Tok} {tb cap : Nat} {w : World} (ht : ∃ cur, w.heap[tb]? = some (.cells cur 118) ∧ cur.toList.take (3 * toks.length) = tokCells toks) :
    TS toks tb cap w (((w.alloc (.cells #[.slice none 0 0, .int .i64 0] 86)).alloc (.cells #[.slice (some ⟨tb, 0, none⟩) toks.length cap, .int .i64 0, .int .i64 0] 210)).alloc (.cells #[.slice none 0 0, .int .i64 (-1)] 86)) 0 (.slice none 0 0) 0 [] (-1) := by
  obtain ⟨cur, hc, hcc⟩ := ht
  have hlt := heap_lt hc
  have e1 : (w.alloc (.cells #[.slice none 0 0, .int .i64 0] 86)).heap.size = w.heap.size + 1 := by simp
  have e2 : ((w.alloc (.cells #[.slice none 0 0, .int .i64 0] 86)).alloc (.cells #[.slice (some ⟨tb, 0, none⟩) toks.length cap, .int .i64 0, .int .i64 0] 210)).heap.size = w.heap.size + 1 + 1 := by simp
  refine ⟨hlt, ⟨by omega, ?_, cur, old_heap _ (old_heap _ (old_heap _ hc)), hcc⟩, ((((Below.refl _ _).alloc (Nat.le_refl _) _).alloc (by omega) _).alloc (by omega) _), old_heap _ (old_heap _ (new_heap _ _)), ?_, World.ownsRow_nil _ _ _ _⟩
  · refine old_heap _ ?_
    have := new_heap (w.alloc (.cells #[.slice none 0 0, .int .i64 0] 86)) (.cells #[.slice (some ⟨tb, 0, none⟩) toks.length cap, .int .i64 0, .int .i64 0] 210)
    rw [e1] at this
    exact this
  · have := new_heap ((w.alloc (.cells #[.slice none 0 0, .int .i64 0] 86)).alloc (.cells #[.slice (some ⟨tb, 0, none⟩) toks.length cap, .int .i64 0, .int .i64 0] 210)) (.cells #[.slice none 0 0, .int .i64 (-1)] 86)
    rw [e2] at this
    exact this

section
variable {toks : List Tok} {tb cap : Nat} {w wr : World} {a : Nat} {v : Value} {n : Nat} {xs : List Value} {fault : Int}

theorem TS.call (h : TS toks tb cap w wr a v n xs fault) {w' : World} {b : Nat} (hf : Fr [w.heap.size + 1] wr w') (hp : PS toks (w.heap.size + 1) tb cap b 0 w'.heap) : TS toks tb cap w w' b v n xs fault :=
  ⟨h.tl, hp, ⟨hf.os.trans h.bl.os, hf.tape.trans h.bl.tape, hf.output.trans h.bl.output, Nat.le_trans h.bl.size hf.size, fun k hk => (hf.block k (by have := h.bl.size; omega) (by simp; omega)).trans (h.bl.block k hk)⟩,
    hf.heap h.rb (by simp), hf.heap h.tr (by simp), own_block h.own fun g hg hlt => hf.block g hlt (by simp; omega)⟩

theorem TS.alloc (h : TS toks tb cap w wr a v n xs fault) (o : Obj) : TS toks tb cap w (wr.alloc o) a v n xs fault :=
  ⟨h.tl, h.ps.below ((Below.refl _ _).alloc (Nat.le_refl _) _), h.bl.alloc h.bl.size _, old_heap _ h.rb, old_heap _ h.tr, h.own.alloc _⟩

theorem TS.faulty (h : TS toks tb cap w wr a v n xs fault) (z : Int) : TS toks tb cap w (wr.setCell ⟨w.heap.size + 1 + 1, 1, none⟩ (.int .i64 z)) a v n xs z :=
  ⟨h.tl, h.ps.other (by omega) (by have := h.tl; omega) _, h.bl.setCell (p := ⟨w.heap.size + 1 + 1, 1, none⟩) (by show w.heap.size ≤ w.heap.size + 1 + 1; omega) _, (heap_setCell_ne (by omega) _).trans h.rb, heap_setCell_lit (i := 1) h.tr _, own_block h.own fun g hg hlt => heap_setCell_ne (by omega) _⟩

theorem TS.put (h : TS toks tb cap w wr a v n xs fault) {w' : World} {v' : Value} {m : Nat} {ys : List Value} (hown : w'.ownsRow (w.heap.size + 3) 135 5 v' m ys) (hg : wr.grownBy w' v.ownBlock) :
    TS toks tb cap w (w'.setCell ⟨w.heap.size + 1 + 1, 0, none⟩ v') a v' m ys fault := by
  have hlt := fun k hk => (h.own.lt k hk).1
  have hsz := heap_lt h.tr
  have hb : ∀ k, k < w.heap.size + 3 → w'.heap[k]? = wr.heap[k]? := fun k hk => hg.block k (by omega) fun e => by have := hlt k e.symm; omega
  obtain ⟨cur, hc, hcc⟩ := h.ps.t
  have hb2 : Below w.heap.size w w' := h.bl.grown hg h.bl.size (fun k hk => by have := hlt k hk; omega)
  refine ⟨h.tl, ?_, hb2.setCell (p := ⟨w.heap.size + 1 + 1, 0, none⟩) (by show w.heap.size ≤ w.heap.size + 1 + 1; omega) _, (heap_setCell_ne (by omega) _).trans ((hb _ (by omega)).trans h.rb), heap_setCell_lit (i := 0) ((hb _ (by omega)).trans h.tr) _, own_block hown fun g hg hlt => heap_setCell_ne (by omega) _⟩
  exact PS.other ⟨h.ps.ne, (hb _ (by omega)).trans h.ps.p, cur, (hb _ (by have := h.tl; omega)).trans hc, hcc⟩ (by omega) (by have := h.tl; omega) _

theorem TS.shape (h : TS toks tb cap w wr a v n xs fault) : ∃ ao m c, v = .slice ao m c := by
  obtain ⟨_, ⟨h, _⟩ | ⟨g, c, _, h, _⟩⟩ := h.own
  · exact ⟨none, 0, 0, h⟩
  · exact ⟨_, _, _, h⟩
theorem TS.setR (h : TS toks tb cap w wr a v n xs fault) (u z : Value) : ((wr.setCell ⟨w.heap.size, 0, none⟩ u).setCell ⟨w.heap.size, 1, none⟩ z).heap[w.heap.size]? = some (.cells #[u, z] 86) ∧
    ((wr.setCell ⟨w.heap.size, 0, none⟩ u).setCell ⟨w.heap.size, 1, none⟩ z).ownsRow w.heap.size 135 5 v n xs ∧ Below w.heap.size w ((wr.setCell ⟨w.heap.size, 0, none⟩ u).setCell ⟨w.heap.size, 1, none⟩ z) := by
  have h1 : (wr.setCell ⟨w.heap.size, 0, none⟩ u).heap[w.heap.size]? = some (.cells #[u, .int .i64 0] 86) := heap_setCell_lit (i := 0) h.rb u
  refine ⟨heap_setCell_lit (i := 1) h1 z, ?_, (h.bl.setCell (p := ⟨w.heap.size, 0, none⟩) (Nat.le_refl _) _).setCell (p := ⟨w.heap.size, 1, none⟩) (Nat.le_refl _) _⟩
  have h2 := own_block h.own (w' := (wr.setCell ⟨w.heap.size, 0, none⟩ u).setCell ⟨w.heap.size, 1, none⟩ z) fun g hg hlt => (heap_setCell_ne (by omega) _).trans (heap_setCell_ne (by omega) _)
  obtain ⟨hl, h2 | ⟨g, c, cur, hv, hb, hr⟩⟩ := h2
  · exact ⟨hl, .inl h2⟩
  · exact ⟨hl, .inr ⟨g, c, cur, hv, by omega, hr⟩⟩
theorem TS.r0 (h : TS toks tb cap w wr a v n xs fault) : wr.cell? ⟨w.heap.size, 0, none⟩ = some (.slice none 0 0) := heap_cell h.rb
theorem TS.r1 (h : TS toks tb cap w wr a v n xs fault) : wr.cell? ⟨w.heap.size, 1, none⟩ = some (.int .i64 0) := heap_cell h.rb
theorem TS.rf (h : TS toks tb cap w wr a v n xs fault) (i : Nat) : wr.frozen? ⟨w.heap.size, i, none⟩ = false := heap_frozen h.rb
theorem TS.t0 (h : TS toks tb cap w wr a v n xs fault) : wr.cell? ⟨w.heap.size + 1 + 1, 0, none⟩ = some v := heap_cell h.tr
theorem TS.t1 (h : TS toks tb cap w wr a v n xs fault) : wr.cell? ⟨w.heap.size + 1 + 1, 1, none⟩ = some (.int .i64 fault) := heap_cell h.tr
theorem TS.tf (h : TS toks tb cap w wr a v n xs fault) (i : Nat) : wr.frozen? ⟨w.heap.size + 1 + 1, i, none⟩ = false := heap_frozen h.tr
end

end Go.Proofs.YtfekglokoafpiaaGreatDoor

namespace Go.Proofs.YtfekglokoafpiaaGreatDoor
open Go.RowKit Go.Sort

theorem sz1 (c : UInt8) : (⟨#[c]⟩ : ByteArray).size = 1 := rfl
theorem bsz1 (l : List UInt8) : (⟨⟨l⟩⟩ : ByteArray).size = l.length := by simp [ByteArray.size]

abbrev LIM : Nat := 140737488355328

/-- The table of powers reads as it was laid, whatever is done from B on. -/
def PT (B : Nat) (w : World) : Prop := Lib.TabBelow Tryz.prog B w "internal/strconv.uint64pow10" .u64 Lib.pow10Tab

theorem PT.on {B : Nat} {w w' : World} (h : PT B w) (hb : Below B w w') : PT B w' := Lib.TabBelow.on h hb

theorem IsB.below {B b : Nat} {bs : List Value} {w w' : World} (h : IsB B b bs w) (hb : Below w.heap.size w w') : IsB B b bs w' := by
  have key : ∀ p, BAt B b p bs w → BAt B b p bs w' := by
    rintro p ⟨hB, v, hbk, hown, hne⟩
    exact ⟨hB, v, below_heap hb (heap_lt hbk) hbk, own_block hown fun g _ hg => hb.block g hg, hne⟩
  rcases h with h | h
  · exact .inl (key _ h)
  · exact .inr (key _ h)

theorem IsB.lt {B b : Nat} {bs : List Value} {w : World} (h : IsB B b bs w) : b < w.heap.size := by
  rcases h with h | h
  · exact Lib.BuilderAt.lt h
  · exact Lib.BuilderAt.lt h

theorem KT.of_below {b : Nat} {w w' : World} (h : Below w.heap.size w w') : KT b w w' := fun k hk _ _ => h.block k hk
/-- What a call that adds s to the builder leaves. -/
structure Adds (B b : Nat) (bs : List Value) (s : ByteArray) (w w' : World) : Prop where
  bd : IsB B b (bs ++ Lib.strCells s) w'
  bl : Below B w w'
  kt : KT b w w'

def Writes (x : Value) (s : ByteArray) : Prop :=
  ∃ (T : TypeId) (v u : Value) (F : FuncId), x = .iface T v ∧ (∀ w, (method 453 T v "almanac/lang.write").run Tryz.prog w = .ok (F, u) w) ∧ (∀ args w, (callFunc F args).run Tryz.prog w = .ok (.enter F args) w) ∧ Tryz.prog.inits.idxOf? F = none ∧
    ∀ (B b : Nat) (bs : List Value) (w : World), IsB B b bs w → bs.length + s.size ≤ LIM → B ≤ w.heap.size → PT B w →
      Calls Tryz.prog F #[u, .pointer (some ⟨b, 0, none⟩)] w fun e w' => (∃ r, e = .returned r) ∧ Adds B b bs s w w'

theorem strCells_append (s t : ByteArray) : Lib.strCells (s ++ t) = Lib.strCells s ++ Lib.strCells t := by
  simp [Lib.strCells, Lib.byteCells]

theorem Adds.trans {B b : Nat} {bs : List Value} {s t : ByteArray} {w w1 w2 : World} (h : Adds B b bs s w w1) (k : Adds B b (bs ++ Lib.strCells s) t w1 w2) : Adds B b bs (s ++ t) w w2 :=
  ⟨by rw [strCells_append, ← List.append_assoc]; exact k.bd, h.bl.trans k.bl, h.kt.trans h.bl.size k.kt⟩

theorem Adds.byte {B b : Nat} {bs : List Value} {c : UInt8} {w w' : World} (h : IsB B b (bs ++ [.int .u8 c.toNat]) w' ∧ Below B w w' ∧ KT b w w') : Adds B b bs ⟨#[c]⟩ w w' := ⟨by simpa [Lib.strCells, Lib.byteCells] using h.1, h.2.1, h.2.2⟩

theorem Adds.from {B b : Nat} {bs : List Value} {s : ByteArray} {w0 w w' : World} (h : Adds B b bs s w w') (hb : Below w0.heap.size w0 w) (hB : B ≤ w0.heap.size) : Adds B b bs s w0 w' :=
  ⟨h.bd, (below_mono hB hb).trans h.bl, (KT.of_below hb).trans hb.size h.kt⟩

theorem methNumber (n : Int) (w : World) : (method 453 189 (.int .i64 n) "almanac/lang.write").run Tryz.prog w = .ok (293, (.int .i64 n)) w := by kernel_rfl
theorem entNumber (args : Array Value) (w : World) : (callFunc 293 args).run Tryz.prog w = .ok (.enter 293 args) w := by kernel_rfl
theorem methTruth (n : Bool) (w : World) : (method 453 329 (.bool n) "almanac/lang.write").run Tryz.prog w = .ok (306, (.bool n)) w := by kernel_rfl
theorem entTruth (args : Array Value) (w : World) : (callFunc 306 args).run Tryz.prog w = .ok (.enter 306 args) w := by kernel_rfl
theorem methName (n : ByteArray) (w : World) : (method 453 330 (.string n) "almanac/lang.write").run Tryz.prog w = .ok (310, (.string n)) w := by kernel_rfl
theorem entName (args : Array Value) (w : World) : (callFunc 310 args).run Tryz.prog w = .ok (.enter 310 args) w := by kernel_rfl
theorem methPair (n : Value) (w : World) : (method 453 305 n "almanac/lang.write").run Tryz.prog w = .ok (299, n) w := by kernel_rfl
theorem entPair (args : Array Value) (w : World) : (callFunc 299 args).run Tryz.prog w = .ok (.enter 299 args) w := by kernel_rfl
theorem methChoice (n : Value) (w : World) : (method 453 332 n "almanac/lang.write").run Tryz.prog w = .ok (314, n) w := by kernel_rfl
theorem entChoice (args : Array Value) (w : World) : (callFunc 314 args).run Tryz.prog w = .ok (.enter 314 args) w := by kernel_rfl

set_option maxRecDepth 100000 in
set_option maxHeartbeats 2000000 in
theorem writes_number {t : ByteArray} (ht : numB t = true) : Writes (.iface 189 (.int .i64 (numVal t))) (stripT t) := by
  obtain ⟨h0, h1, he⟩ := itoa_strip ht
  refine ⟨_, _, _, _, rfl, methNumber _, entNumber, by kernel_rfl, fun B b bs w hb hl hB hp => ?_⟩
  have HB := hid hb
  have HP := hid hp
  have HE := hid he
  have HL := hid hl
  generalize numVal t = z at h0 h1 HE ⊢
  clear hb hp he hl ht
  go_enter Tryz.func293, Tryz.ntmps293
  go_wp2_with fail
  refine (Tryz.strconv_FormatInt_10 z (by omega) h1 _ (Lib.TabBelow.here HP.out)).mono ?_
  rintro e w1 ⟨rfl, k, os, rfl⟩
  rw [HE.out]
  have hg := below_growN w k os
  have HG := hid hg
  have HB1 := hid (HB.out.below hg)
  clear hg
  go_wp2_with fail
  refine (bWriteString B b bs (stripT t) _ HB1.out HL.out (Nat.le_trans hB HG.out.size)).mono ?_
  rintro e w2 ⟨rfl, h1, h2, h3⟩
  have HA := hid ((Adds.mk h1 h2 h3).from HG.out hB)
  clear h1 h2 h3
  go_wp2
  go_end0
  exact ⟨⟨_, rfl⟩, HA.out⟩

set_option maxRecDepth 100000 in
set_option maxHeartbeats 2000000 in
theorem writes_truth (n : Bool) : Writes (.iface 329 (.bool n)) ⟨(Lib.formatBool n).toArray⟩ := by
  refine ⟨_, _, _, _, rfl, methTruth _, entTruth, by kernel_rfl, fun B b bs w hb hl hB hp => ?_⟩
  have HB := hid hb
  have HL := hid hl
  clear hb hp hl
  go_enter Tryz.func306, Tryz.ntmps306
  go_wp2_with fail
  refine (Tryz.strconv_FormatBool n _).mono ?_
  rintro e w1 ⟨rfl, rfl⟩
  go_wp2_with fail
  refine (bWriteString B b bs _ _ HB.out HL.out hB).mono ?_
  rintro e w2 ⟨rfl, h1, h2, h3⟩
  have HA := hid (Adds.mk h1 h2 h3)
  clear h1 h2 h3
  go_wp2
  go_end0
  exact ⟨⟨_, rfl⟩, HA.out⟩

set_option maxRecDepth 100000 in
set_option maxHeartbeats 2000000 in
theorem writes_name (t : ByteArray) : Writes (.iface 330 (.string t)) t := by
  refine ⟨_, _, _, _, rfl, methName _, entName, by kernel_rfl, fun B b bs w hb hl hB hp => ?_⟩
  have HB := hid hb
  have HL := hid hl
  clear hb hp hl
  go_enter Tryz.func310, Tryz.ntmps310
  go_wp2_with fail
  refine (bWriteString B b bs _ _ HB.out HL.out hB).mono ?_
  rintro e w2 ⟨rfl, h1, h2, h3⟩
  have HA := hid (Adds.mk h1 h2 h3)
  clear h1 h2 h3
  go_wp2
  go_end0
  exact ⟨⟨_, rfl⟩, HA.out⟩

set_option maxRecDepth 100000 in
set_option maxHeartbeats 2000000 in
theorem writes_pair {op : List UInt8} {l r : Value} {s1 s2 : ByteArray} (hl : Writes l s1) (hr : Writes r s2) : Writes (mkPair ⟨⟨op⟩⟩ l r) (pairT op s1 s2) := by
  obtain ⟨T1, v1, u1, F1, rfl, m1, e1, _, c1⟩ := hl
  obtain ⟨T2, v2, u2, F2, rfl, m2, e2, _, c2⟩ := hr
  have HC1 := hid c1
  have HC2 := hid c2
  clear c1 c2
  refine ⟨_, _, _, _, rfl, methPair _, entPair, by kernel_rfl, fun B b bs w hb hl hB hp => ?_⟩
  have hbl := below_new w (.cells #[.string ⟨⟨op⟩⟩, .iface T1 v1, .iface T2 v2] 305)
  have HB := hid (hb.below hbl)
  have HBL := hid hbl
  have HP := hid (hp.on (below_mono hB hbl))
  have HN := hid (new_heap w (.cells #[.string ⟨⟨op⟩⟩, .iface T1 v1, .iface T2 v2] 305))
  have hne : w.heap.size ≠ b := Nat.ne_of_gt hb.lt
  have hB1 : B ≤ (w.alloc (.cells #[.string ⟨⟨op⟩⟩, .iface T1 v1, .iface T2 v2] 305)).heap.size := by simp; omega
  have HB1 := hid hB1
  have HLN := hid hl
  clear hb hp hbl hB1 hl
  go_enter Tryz.func299, Tryz.ntmps299
  go_wp2_with fail
  refine (bWriteByte B b bs 40 _ HB.out (by have := HLN.out; simp only [pairT, choiceT, List.length_append, Lib.strCells_length, ByteArray.size_append, bsz1, sz1, LIM, List.length_cons, List.length_nil] at *; omega) HB1.out).mono ?_
  rintro e w1 ⟨rfl, hadd⟩
  have hadd := Adds.byte (c := 40) hadd
  have HA1 := hid hadd
  have hk := HA1.out.kt.get HN.out hne (by decide)
  have k1_0 : World.cell? _ ⟨w.heap.size, 0, none⟩ = some (.string ⟨⟨op⟩⟩) := heap_cell (i := 0) hk
  have k1_1 : World.cell? _ ⟨w.heap.size, 1, none⟩ = some (.iface T1 v1) := heap_cell (i := 1) hk
  have k1_2 : World.cell? _ ⟨w.heap.size, 2, none⟩ = some (.iface T2 v2) := heap_cell (i := 2) hk
  clear hk hadd
  go_wp2_with fail
  refine (HC1.out B b (bs ++ Lib.strCells (⟨#[40]⟩)) _ HA1.out.bd (by have := HLN.out; simp only [pairT, choiceT, List.length_append, Lib.strCells_length, ByteArray.size_append, bsz1, sz1, LIM, List.length_cons, List.length_nil] at *; omega) (Nat.le_trans HB1.out HA1.out.bl.size) (HP.out.on HA1.out.bl)).mono ?_
  rintro e w2 ⟨⟨rv2, rfl⟩, hadd⟩
  have HA2 := hid (HA1.out.trans hadd)
  have hk := HA2.out.kt.get HN.out hne (by decide)
  have k2_0 : World.cell? _ ⟨w.heap.size, 0, none⟩ = some (.string ⟨⟨op⟩⟩) := heap_cell (i := 0) hk
  have k2_1 : World.cell? _ ⟨w.heap.size, 1, none⟩ = some (.iface T1 v1) := heap_cell (i := 1) hk
  have k2_2 : World.cell? _ ⟨w.heap.size, 2, none⟩ = some (.iface T2 v2) := heap_cell (i := 2) hk
  clear hk hadd
  go_wp2_with fail
  refine (bWriteString B b (bs ++ Lib.strCells (⟨#[40]⟩ ++ s1)) ⟨⟨op⟩⟩ _ HA2.out.bd (by have := HLN.out; simp only [pairT, choiceT, List.length_append, Lib.strCells_length, ByteArray.size_append, bsz1, sz1, LIM, List.length_cons, List.length_nil] at *; omega) (Nat.le_trans HB1.out HA2.out.bl.size)).mono ?_
  rintro e w3 ⟨rfl, hadd1, hadd2, hadd3⟩
  have hadd := Adds.mk hadd1 hadd2 hadd3
  clear hadd1 hadd2 hadd3
  have HA3 := hid (HA2.out.trans hadd)
  have hk := HA3.out.kt.get HN.out hne (by decide)
  have k3_0 : World.cell? _ ⟨w.heap.size, 0, none⟩ = some (.string ⟨⟨op⟩⟩) := heap_cell (i := 0) hk
  have k3_1 : World.cell? _ ⟨w.heap.size, 1, none⟩ = some (.iface T1 v1) := heap_cell (i := 1) hk
  have k3_2 : World.cell? _ ⟨w.heap.size, 2, none⟩ = some (.iface T2 v2) := heap_cell (i := 2) hk
  clear hk hadd
  go_wp2_with fail
  refine (HC2.out B b (bs ++ Lib.strCells (⟨#[40]⟩ ++ s1 ++ ⟨⟨op⟩⟩)) _ HA3.out.bd (by have := HLN.out; simp only [pairT, choiceT, List.length_append, Lib.strCells_length, ByteArray.size_append, bsz1, sz1, LIM, List.length_cons, List.length_nil] at *; omega) (Nat.le_trans HB1.out HA3.out.bl.size) (HP.out.on HA3.out.bl)).mono ?_
  rintro e w4 ⟨⟨rv4, rfl⟩, hadd⟩
  have HA4 := hid (HA3.out.trans hadd)
  have hk := HA4.out.kt.get HN.out hne (by decide)
  have k4_0 : World.cell? _ ⟨w.heap.size, 0, none⟩ = some (.string ⟨⟨op⟩⟩) := heap_cell (i := 0) hk
  have k4_1 : World.cell? _ ⟨w.heap.size, 1, none⟩ = some (.iface T1 v1) := heap_cell (i := 1) hk
  have k4_2 : World.cell? _ ⟨w.heap.size, 2, none⟩ = some (.iface T2 v2) := heap_cell (i := 2) hk
  clear hk hadd
  go_wp2_with fail
  refine (bWriteByte B b (bs ++ Lib.strCells (⟨#[40]⟩ ++ s1 ++ ⟨⟨op⟩⟩ ++ s2)) 41 _ HA4.out.bd (by have := HLN.out; simp only [pairT, choiceT, List.length_append, Lib.strCells_length, ByteArray.size_append, bsz1, sz1, LIM, List.length_cons, List.length_nil] at *; omega) (Nat.le_trans HB1.out HA4.out.bl.size)).mono ?_
  rintro e w5 ⟨rfl, hadd⟩
  have hadd := Adds.byte (c := 41) hadd
  have HA5 := hid (HA4.out.trans hadd)
  have hk := HA5.out.kt.get HN.out hne (by decide)
  have k5_0 : World.cell? _ ⟨w.heap.size, 0, none⟩ = some (.string ⟨⟨op⟩⟩) := heap_cell (i := 0) hk
  have k5_1 : World.cell? _ ⟨w.heap.size, 1, none⟩ = some (.iface T1 v1) := heap_cell (i := 1) hk
  have k5_2 : World.cell? _ ⟨w.heap.size, 2, none⟩ = some (.iface T2 v2) := heap_cell (i := 2) hk
  clear hk hadd
  go_wp2
  go_end0
  exact ⟨⟨_, rfl⟩, HA5.out.from HBL.out hB⟩

set_option maxRecDepth 100000 in
set_option maxHeartbeats 2000000 in
theorem writes_choice {x y z : Value} {s1 s2 s3 : ByteArray} (hx : Writes x s1) (hy : Writes y s2) (hz : Writes z s3) : Writes (mkChoice x y z) (choiceT s1 s2 s3) := by
  obtain ⟨T1, v1, u1, F1, rfl, m1, e1, _, c1⟩ := hx
  obtain ⟨T2, v2, u2, F2, rfl, m2, e2, _, c2⟩ := hy
  obtain ⟨T3, v3, u3, F3, rfl, m3, e3, _, c3⟩ := hz
  have HC1 := hid c1
  have HC2 := hid c2
  have HC3 := hid c3
  clear c1 c2 c3
  refine ⟨_, _, _, _, rfl, methChoice _, entChoice, by kernel_rfl, fun B b bs w hb hl hB hp => ?_⟩
  have hbl := below_new w (.cells #[.iface T1 v1, .iface T2 v2, .iface T3 v3] 332)
  have HB := hid (hb.below hbl)
  have HBL := hid hbl
  have HP := hid (hp.on (below_mono hB hbl))
  have HN := hid (new_heap w (.cells #[.iface T1 v1, .iface T2 v2, .iface T3 v3] 332))
  have hne : w.heap.size ≠ b := Nat.ne_of_gt hb.lt
  have hB1 : B ≤ (w.alloc (.cells #[.iface T1 v1, .iface T2 v2, .iface T3 v3] 332)).heap.size := by simp; omega
  have HB1 := hid hB1
  have HLN := hid hl
  clear hb hp hbl hB1 hl
  go_enter Tryz.func314, Tryz.ntmps314
  go_wp2_with fail
  refine (bWriteByte B b bs 40 _ HB.out (by have := HLN.out; simp only [pairT, choiceT, List.length_append, Lib.strCells_length, ByteArray.size_append, bsz1, sz1, LIM, List.length_cons, List.length_nil] at *; omega) HB1.out).mono ?_
  rintro e w1 ⟨rfl, hadd⟩
  have hadd := Adds.byte (c := 40) hadd
  have HA1 := hid hadd
  have hk := HA1.out.kt.get HN.out hne (by decide)
  have k1_0 : World.cell? _ ⟨w.heap.size, 0, none⟩ = some (.iface T1 v1) := heap_cell (i := 0) hk
  have k1_1 : World.cell? _ ⟨w.heap.size, 1, none⟩ = some (.iface T2 v2) := heap_cell (i := 1) hk
  have k1_2 : World.cell? _ ⟨w.heap.size, 2, none⟩ = some (.iface T3 v3) := heap_cell (i := 2) hk
  clear hk hadd
  go_wp2_with fail
  refine (HC1.out B b (bs ++ Lib.strCells (⟨#[40]⟩)) _ HA1.out.bd (by have := HLN.out; simp only [pairT, choiceT, List.length_append, Lib.strCells_length, ByteArray.size_append, bsz1, sz1, LIM, List.length_cons, List.length_nil] at *; omega) (Nat.le_trans HB1.out HA1.out.bl.size) (HP.out.on HA1.out.bl)).mono ?_
  rintro e w2 ⟨⟨rv2, rfl⟩, hadd⟩
  have HA2 := hid (HA1.out.trans hadd)
  have hk := HA2.out.kt.get HN.out hne (by decide)
  have k2_0 : World.cell? _ ⟨w.heap.size, 0, none⟩ = some (.iface T1 v1) := heap_cell (i := 0) hk
  have k2_1 : World.cell? _ ⟨w.heap.size, 1, none⟩ = some (.iface T2 v2) := heap_cell (i := 1) hk
  have k2_2 : World.cell? _ ⟨w.heap.size, 2, none⟩ = some (.iface T3 v3) := heap_cell (i := 2) hk
  clear hk hadd
  go_wp2_with fail
  refine (bWriteByte B b (bs ++ Lib.strCells (⟨#[40]⟩ ++ s1)) 63 _ HA2.out.bd (by have := HLN.out; simp only [pairT, choiceT, List.length_append, Lib.strCells_length, ByteArray.size_append, bsz1, sz1, LIM, List.length_cons, List.length_nil] at *; omega) (Nat.le_trans HB1.out HA2.out.bl.size)).mono ?_
  rintro e w3 ⟨rfl, hadd⟩
  have hadd := Adds.byte (c := 63) hadd
  have HA3 := hid (HA2.out.trans hadd)
  have hk := HA3.out.kt.get HN.out hne (by decide)
  have k3_0 : World.cell? _ ⟨w.heap.size, 0, none⟩ = some (.iface T1 v1) := heap_cell (i := 0) hk
  have k3_1 : World.cell? _ ⟨w.heap.size, 1, none⟩ = some (.iface T2 v2) := heap_cell (i := 1) hk
  have k3_2 : World.cell? _ ⟨w.heap.size, 2, none⟩ = some (.iface T3 v3) := heap_cell (i := 2) hk
  clear hk hadd
  go_wp2_with fail
  refine (HC2.out B b (bs ++ Lib.strCells (⟨#[40]⟩ ++ s1 ++ ⟨#[63]⟩)) _ HA3.out.bd (by have := HLN.out; simp only [pairT, choiceT, List.length_append, Lib.strCells_length, ByteArray.size_append, bsz1, sz1, LIM, List.length_cons, List.length_nil] at *; omega) (Nat.le_trans HB1.out HA3.out.bl.size) (HP.out.on HA3.out.bl)).mono ?_
  rintro e w4 ⟨⟨rv4, rfl⟩, hadd⟩
  have HA4 := hid (HA3.out.trans hadd)
  have hk := HA4.out.kt.get HN.out hne (by decide)
  have k4_0 : World.cell? _ ⟨w.heap.size, 0, none⟩ = some (.iface T1 v1) := heap_cell (i := 0) hk
  have k4_1 : World.cell? _ ⟨w.heap.size, 1, none⟩ = some (.iface T2 v2) := heap_cell (i := 1) hk
  have k4_2 : World.cell? _ ⟨w.heap.size, 2, none⟩ = some (.iface T3 v3) := heap_cell (i := 2) hk
  clear hk hadd
  go_wp2_with fail
  refine (bWriteByte B b (bs ++ Lib.strCells (⟨#[40]⟩ ++ s1 ++ ⟨#[63]⟩ ++ s2)) 58 _ HA4.out.bd (by have := HLN.out; simp only [pairT, choiceT, List.length_append, Lib.strCells_length, ByteArray.size_append, bsz1, sz1, LIM, List.length_cons, List.length_nil] at *; omega) (Nat.le_trans HB1.out HA4.out.bl.size)).mono ?_
  rintro e w5 ⟨rfl, hadd⟩
  have hadd := Adds.byte (c := 58) hadd
  have HA5 := hid (HA4.out.trans hadd)
  have hk := HA5.out.kt.get HN.out hne (by decide)
  have k5_0 : World.cell? _ ⟨w.heap.size, 0, none⟩ = some (.iface T1 v1) := heap_cell (i := 0) hk
  have k5_1 : World.cell? _ ⟨w.heap.size, 1, none⟩ = some (.iface T2 v2) := heap_cell (i := 1) hk
  have k5_2 : World.cell? _ ⟨w.heap.size, 2, none⟩ = some (.iface T3 v3) := heap_cell (i := 2) hk
  clear hk hadd
  go_wp2_with fail
  refine (HC3.out B b (bs ++ Lib.strCells (⟨#[40]⟩ ++ s1 ++ ⟨#[63]⟩ ++ s2 ++ ⟨#[58]⟩)) _ HA5.out.bd (by have := HLN.out; simp only [pairT, choiceT, List.length_append, Lib.strCells_length, ByteArray.size_append, bsz1, sz1, LIM, List.length_cons, List.length_nil] at *; omega) (Nat.le_trans HB1.out HA5.out.bl.size) (HP.out.on HA5.out.bl)).mono ?_
  rintro e w6 ⟨⟨rv6, rfl⟩, hadd⟩
  have HA6 := hid (HA5.out.trans hadd)
  have hk := HA6.out.kt.get HN.out hne (by decide)
  have k6_0 : World.cell? _ ⟨w.heap.size, 0, none⟩ = some (.iface T1 v1) := heap_cell (i := 0) hk
  have k6_1 : World.cell? _ ⟨w.heap.size, 1, none⟩ = some (.iface T2 v2) := heap_cell (i := 1) hk
  have k6_2 : World.cell? _ ⟨w.heap.size, 2, none⟩ = some (.iface T3 v3) := heap_cell (i := 2) hk
  clear hk hadd
  go_wp2_with fail
  refine (bWriteByte B b (bs ++ Lib.strCells (⟨#[40]⟩ ++ s1 ++ ⟨#[63]⟩ ++ s2 ++ ⟨#[58]⟩ ++ s3)) 41 _ HA6.out.bd (by have := HLN.out; simp only [pairT, choiceT, List.length_append, Lib.strCells_length, ByteArray.size_append, bsz1, sz1, LIM, List.length_cons, List.length_nil] at *; omega) (Nat.le_trans HB1.out HA6.out.bl.size)).mono ?_
  rintro e w7 ⟨rfl, hadd⟩
  have hadd := Adds.byte (c := 41) hadd
  have HA7 := hid (HA6.out.trans hadd)
  have hk := HA7.out.kt.get HN.out hne (by decide)
  have k7_0 : World.cell? _ ⟨w.heap.size, 0, none⟩ = some (.iface T1 v1) := heap_cell (i := 0) hk
  have k7_1 : World.cell? _ ⟨w.heap.size, 1, none⟩ = some (.iface T2 v2) := heap_cell (i := 1) hk
  have k7_2 : World.cell? _ ⟨w.heap.size, 2, none⟩ = some (.iface T3 v3) := heap_cell (i := 2) hk
  clear hk hadd
  go_wp2
  go_end0
  exact ⟨⟨_, rfl⟩, HA7.out.from HBL.out hB⟩

end Go.Proofs.YtfekglokoafpiaaGreatDoor
