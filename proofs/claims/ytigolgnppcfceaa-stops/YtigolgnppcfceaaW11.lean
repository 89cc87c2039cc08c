/-
  The program's session: Set, Remove.
-/
import Derived.Test.YtigolgnppcfceaaW10
namespace Go.Proofs.Ytigolgnppcfceaa
open Go.RowKit

theorem New1.after {w w1 w' : World} {bs bm bq bc : Nat} {r : Int} {t : ByteArray} (h : New1 w1 w' bs bm bq bc r t) (hb : Below w.heap.size w w1) : New1 w w' bs bm bq bc r t :=
  ⟨by have := h.lm; have := hb.size; omega, by have := h.lq; have := hb.size; omega, by have := h.lc; have := hb.size; omega, h.d, h.p, (Fr.of_below hb).trans h.f⟩

set_option maxRecDepth 100000 in
set_option maxHeartbeats 600000 in
theorem set_long (t : ByteArray) (bs : Nat) (M Q : Option Nat) (r : Int) (w : World) (hl : 400 < t.size) (hm : t.size ≤ maxLen) (h : w.heap[bs]? = some (sBlk M Q r)) :
    Calls Try.prog 5 #[.pointer (some ⟨bs, 0, none⟩), .string ⟨#[97]⟩, .string t] w fun e w' => e = .returned (.int .i64 2) ∧ w' = w := by
  unfold maxLen at hm
  have HH : Hid (w.heap[bs]? = some (sBlk M Q r)) := h
  clear h
  go_enter Try.func5, Try.ntmps5
  go_wp2_with (first
    | (go_at_call 11; go_must (refine (begin_any bs _ _ _ _ HH.out).mono ?_; rintro e w' ⟨rfl, rfl⟩))
    | (go_at_call 12; refine (isFile_a _).mono ?_; rintro e w' ⟨rfl, rfl⟩))
  go_ret
  exact ⟨rfl, rfl⟩

set_option maxRecDepth 100000 in
set_option maxHeartbeats 600000 in
theorem set_new (t : ByteArray) (bs : Nat) (r : Int) (w : World) (hl : t.size ≤ 400) (hr : 0 ≤ r) (hr2 : r < 1000) (h : w.heap[bs]? = some (sBlk none none r)) :
    Calls Try.prog 5 #[.pointer (some ⟨bs, 0, none⟩), .string ⟨#[97]⟩, .string t] w fun e w' => e = .returned (.int .i64 0) ∧ ∃ bm bq bc, New1 w w' bs bm bq bc (r + 1) t := by
  have HH : Hid (w.heap[bs]? = some (sBlk none none r)) := h
  have c0 : w.cell? ⟨bs, 0, none⟩ = some (.map none) := heap_cell h
  clear h
  go_enter Try.func5, Try.ntmps5
  go_wp2_with (first
    | (go_at_call 11; go_must (refine (begin_any bs _ _ _ _ HH.out).mono ?_; rintro e w' ⟨rfl, rfl⟩))
    | (go_at_call 12; refine (isFile_a _).mono ?_; rintro e w' ⟨rfl, rfl⟩)
    | (go_at_call 13; go_must (refine (text_nil _ _ c0).mono ?_; rintro e w' ⟨rfl, hb⟩; have h1 := below_heap hb HH.out; have c0' : w'.cell? ⟨bs, 0, none⟩ = some (.map none) := heap_cell h1; have c1' : w'.cell? ⟨bs, 1, none⟩ = some (.int .i64 r) := heap_cell h1; have H1 : Hid (w'.heap[bs]? = some (sBlk none none r)) := h1; clear h1))
    | (go_at_call 14; go_must (refine (full_nil _ _ c0').mono ?_; rintro e w' ⟨rfl, rfl⟩))
    | (go_at_call 15; go_must (refine (rev_any bs _ _ c1').mono ?_; rintro e w' ⟨rfl, rfl⟩))
    | (go_at_call 16; go_must (refine (put_new t bs r _ hl hr hr2 H1.out).mono ?_; rintro e w2 ⟨rfl, bm, bq, bc, hN⟩)))
  go_ret
  exact ⟨rfl, bm, bq, bc, hN.after hb⟩

set_option maxRecDepth 100000 in
set_option maxHeartbeats 600000 in
theorem set_same (t t0 : ByteArray) (bs bm bq bc : Nat) (r : Int) (w : World) (hl : t.size ≤ 400) (ht : (t0.toList == t.toList) = true) (h : PC w.heap bs bm bq bc r (mBlk t0)) :
    Calls Try.prog 5 #[.pointer (some ⟨bs, 0, none⟩), .string ⟨#[97]⟩, .string t] w fun e w' => e = .returned (.int .i64 0) ∧ Below w.heap.size w w' := by
  have HH : Hid (PC w.heap bs bm bq bc r (mBlk t0)) := h
  have c0 := h.c0
  clear h
  go_enter Try.func5, Try.ntmps5
  go_wp2_with (first
    | (go_at_call 11; go_must (refine (begin_any bs _ _ _ _ HH.out.hs).mono ?_; rintro e w' ⟨rfl, rfl⟩))
    | (go_at_call 12; refine (isFile_a _).mono ?_; rintro e w' ⟨rfl, rfl⟩)
    | (go_at_call 13; go_must (refine (text_one _ _ _ _ c0 HH.out.hm).mono ?_; rintro e w' ⟨rfl, hb⟩; have H1 := PC.hid hb HH; have c0' := H1.out.c0; have c1' := H1.out.c1)))
  go_ret
  exact ⟨rfl, hb⟩

set_option maxRecDepth 100000 in
set_option maxHeartbeats 600000 in
theorem set_full (t t0 : ByteArray) (bs bm bq bc : Nat) (w : World) (hl : t.size ≤ 400) (ht : (t0.toList == t.toList) = false) (h : PC w.heap bs bm bq bc 1000 (mBlk t0)) :
    Calls Try.prog 5 #[.pointer (some ⟨bs, 0, none⟩), .string ⟨#[97]⟩, .string t] w fun e w' => e = .returned (.int .i64 5) ∧ Below w.heap.size w w' := by
  have HH : Hid (PC w.heap bs bm bq bc 1000 (mBlk t0)) := h
  have c0 := h.c0
  clear h
  go_enter Try.func5, Try.ntmps5
  go_wp2_with (first
    | (go_at_call 11; go_must (refine (begin_any bs _ _ _ _ HH.out.hs).mono ?_; rintro e w' ⟨rfl, rfl⟩))
    | (go_at_call 12; refine (isFile_a _).mono ?_; rintro e w' ⟨rfl, rfl⟩)
    | (go_at_call 13; go_must (refine (text_one _ _ _ _ c0 HH.out.hm).mono ?_; rintro e w' ⟨rfl, hb⟩; have H1 := PC.hid hb HH; have c0' := H1.out.c0; have c1' := H1.out.c1))
    | (go_at_call 15; go_must (refine (rev_any bs _ _ c1').mono ?_; rintro e w' ⟨rfl, rfl⟩)))
  go_ret
  exact ⟨rfl, hb⟩

set_option maxRecDepth 100000 in
set_option maxHeartbeats 600000 in
theorem set_next (t t0 : ByteArray) (bs bm bq bc : Nat) (r : Int) (w : World) (hl : t.size ≤ 400) (ht : (t0.toList == t.toList) = false) (hr : 0 ≤ r) (hr2 : r < 1000) (hd : Dis bs bm bq bc) (h : PC w.heap bs bm bq bc r (mBlk t0)) :
    Calls Try.prog 5 #[.pointer (some ⟨bs, 0, none⟩), .string ⟨#[97]⟩, .string t] w fun e w' => e = .returned (.int .i64 0) ∧ PC w'.heap bs bm bq bc (r + 1) (mBlk t) ∧ Fr [bs, bm, bc] w w' := by
  have HH : Hid (PC w.heap bs bm bq bc r (mBlk t0)) := h
  have c0 := h.c0
  clear h
  go_enter Try.func5, Try.ntmps5
  go_wp2_with (first
    | (go_at_call 11; go_must (refine (begin_any bs _ _ _ _ HH.out.hs).mono ?_; rintro e w' ⟨rfl, rfl⟩))
    | (go_at_call 12; refine (isFile_a _).mono ?_; rintro e w' ⟨rfl, rfl⟩)
    | (go_at_call 13; go_must (refine (text_one _ _ _ _ c0 HH.out.hm).mono ?_; rintro e w' ⟨rfl, hb⟩; have H1 := PC.hid hb HH; have c0' := H1.out.c0; have c1' := H1.out.c1))
    | (go_at_call 15; go_must (refine (rev_any bs _ _ c1').mono ?_; rintro e w' ⟨rfl, rfl⟩))
    | (go_at_call 16; go_must (refine (put_old t t0 bs bm bq bc r _ hl hr hr2 hd H1.out).mono ?_; rintro e w2 ⟨rfl, hP, hF⟩)))
  go_ret
  exact ⟨rfl, hP, (Fr.of_below hb).trans hF⟩

set_option maxRecDepth 100000 in
set_option maxHeartbeats 600000 in
theorem remove_nil (bs : Nat) (Q : Option Nat) (r : Int) (w : World) (h : w.heap[bs]? = some (sBlk none Q r)) :
    Calls Try.prog 8 #[.pointer (some ⟨bs, 0, none⟩), .string ⟨#[97]⟩] w fun e w' => e = .returned (.int .i64 4) ∧ Below w.heap.size w w' := by
  have HH : Hid (w.heap[bs]? = some (sBlk none Q r)) := h
  have c0 : w.cell? ⟨bs, 0, none⟩ = some (.map none) := heap_cell h
  clear h
  go_enter Try.func8, Try.ntmps8
  go_wp2_with (first
    | (go_at_call 11; go_must (refine (begin_any bs _ _ _ _ HH.out).mono ?_; rintro e w' ⟨rfl, rfl⟩))
    | (go_at_call 12; refine (isFile_a _).mono ?_; rintro e w' ⟨rfl, rfl⟩)
    | (go_at_call 13; go_must (refine (text_nil _ _ c0).mono ?_; rintro e w' ⟨rfl, hb⟩)))
  go_ret
  exact ⟨rfl, hb⟩

set_option maxRecDepth 100000 in
set_option maxHeartbeats 600000 in
theorem remove_full (t0 : ByteArray) (bs bm bq bc : Nat) (w : World) (h : PC w.heap bs bm bq bc 1000 (mBlk t0)) :
    Calls Try.prog 8 #[.pointer (some ⟨bs, 0, none⟩), .string ⟨#[97]⟩] w fun e w' => e = .returned (.int .i64 5) ∧ Below w.heap.size w w' := by
  have HH : Hid (PC w.heap bs bm bq bc 1000 (mBlk t0)) := h
  have c0 := h.c0
  clear h
  go_enter Try.func8, Try.ntmps8
  go_wp2_with (first
    | (go_at_call 11; go_must (refine (begin_any bs _ _ _ _ HH.out.hs).mono ?_; rintro e w' ⟨rfl, rfl⟩))
    | (go_at_call 12; refine (isFile_a _).mono ?_; rintro e w' ⟨rfl, rfl⟩)
    | (go_at_call 13; go_must (refine (text_one _ _ _ _ c0 HH.out.hm).mono ?_; rintro e w' ⟨rfl, hb⟩; have H1 := PC.hid hb HH; have c0' := H1.out.c0; have c1' := H1.out.c1))
    | (go_at_call 15; go_must (refine (rev_any bs _ _ c1').mono ?_; rintro e w' ⟨rfl, rfl⟩)))
  go_ret
  exact ⟨rfl, hb⟩

set_option maxRecDepth 100000 in
set_option maxHeartbeats 1000000 in
theorem remove_yes (t0 : ByteArray) (bs bm bq bc : Nat) (r : Int) (w : World) (hr : 0 ≤ r) (hr2 : r < 1000) (hd : Dis bs bm bq bc) (h : PC w.heap bs bm bq bc r (mBlk t0)) :
    Calls Try.prog 8 #[.pointer (some ⟨bs, 0, none⟩), .string ⟨#[97]⟩] w fun e w' => e = .returned (.int .i64 0) ∧ PC w'.heap bs bm bq bc (r + 1) (.map #[] 1) ∧ Fr [bs, bm, bc] w w' := by
  have HH : Hid (PC w.heap bs bm bq bc r (mBlk t0)) := h
  have c0 := h.c0
  clear h
  have HD : Hid (Dis bs bm bq bc) := hd
  clear hd
  have hst : ∀ W : World, W.heap[bm]? = some (mBlk t0) → (Builtin.delete_ #[42, 9] 0 #[.map (some bm), .string ⟨#[97]⟩]).run Try.prog W = .ok (.tuple #[]) (setO W bm (.map #[] 1)) := fun W hW => delete_one W bm t0 0 hW
  go_enter Try.func8, Try.ntmps8
  go_wp2_with (first
    | (go_at_call 11; go_must (refine (begin_any bs _ _ _ _ HH.out.hs).mono ?_; rintro e w' ⟨rfl, rfl⟩))
    | (go_at_call 12; refine (isFile_a _).mono ?_; rintro e w' ⟨rfl, rfl⟩)
    | (go_at_call 13; go_must (refine (text_one _ _ _ _ c0 HH.out.hm).mono ?_; rintro e w' ⟨rfl, hb⟩; have H1 := PC.hid hb HH; have c0' := H1.out.c0; have c1' := H1.out.c1; have hm' := H1.out.hm; have HP2 : Hid (PC (setO w' bm (.map #[] 1)).heap bs bm bq bc r (.map #[] 1)) := PC.setO HD.out H1.out _; obtain ⟨cc, hcc⟩ := HP2.out.hc))
    | (go_at_call 15; go_must (refine (rev_any bs _ _ c1').mono ?_; rintro e w' ⟨rfl, rfl⟩))
    | (go_at_call 20; go_must (refine (change_old bs bq bc (some bm) r cc _ hr hr2 (by exact HP2.out.hs) (by exact HP2.out.hq) (by exact hcc) HD.out.cs HD.out.qs HD.out.qc).mono ?_; rintro e w2 ⟨rfl, hch⟩)))
  go_ret
  have HCH : Hid (Chg (setO w' bm (.map #[] 1)) w2 bs bq bc (some bm) (r + 1)) := (by first | exact hch | exact ⟨hch.s, hch.q, hch.c, ⟨hch.f.os, hch.f.tape, hch.f.output, hch.f.size, hch.f.block⟩⟩)
  exact ⟨rfl, HP2.out.chg HD.out HCH.out, ((Fr.of_below hb).setO bm (.inl (by simp)) _).trans (HCH.out.f.mono (fun k hk => .inl (by simp at hk ⊢; omega)))⟩

end Go.Proofs.Ytigolgnppcfceaa
