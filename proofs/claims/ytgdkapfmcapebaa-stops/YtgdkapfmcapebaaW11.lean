/-
  The program's session: Set.
-/
import Derived.Test.YtgdkapfmcapebaaW10
namespace Go.Proofs.Ytgdkapfmcapebaa
open Go.RowKit

set_option maxHeartbeats 400000 in
theorem set_long (t : ByteArray) (a : Value) (w : World) (hl : 400 < t.size) (hm : t.size ≤ maxLen) :
    Calls Try.prog 5 #[a, .string ⟨#[97]⟩, .string t] w fun e w' => e = .returned (.int .i64 2) ∧ w' = w := by
  unfold maxLen at hm
  go_enter Try.func5, Try.ntmps5
  go_wp2_with (go_at_call 11; refine (isFile_a _).mono ?_; rintro e w' ⟨rfl, rfl⟩)
  go_ret
  exact ⟨rfl, rfl⟩

set_option maxHeartbeats 400000 in
theorem set_new (t : ByteArray) (bs : Nat) (r : Int) (w : World) (hl : t.size ≤ 400) (hr : 0 ≤ r) (hr2 : r < 1000) (h : w.heap[bs]? = some (sBlk none r)) :
    Calls Try.prog 5 #[.pointer (some ⟨bs, 0, none⟩), .string ⟨#[97]⟩, .string t] w fun e w' => e = .returned (.int .i64 0) ∧ ∃ bm, w.heap.size ≤ bm ∧ PC w'.heap bs bm (r + 1) (mBlk t) ∧ Fr [bs] w w' := by
  have HH : Hid (w.heap[bs]? = some (sBlk none r)) := h
  have c0 : w.cell? ⟨bs, 0, none⟩ = some (.map none) := heap_cell h
  clear h
  go_enter Try.func5, Try.ntmps5
  go_wp2_with (first
    | (go_at_call 11; refine (isFile_a _).mono ?_; rintro e w' ⟨rfl, rfl⟩)
    | (go_at_call 12; go_must (refine (text_nil _ _ c0).mono ?_; rintro e w' ⟨rfl, hb⟩; have h1 := below_heap hb HH.out; have c0' : w'.cell? ⟨bs, 0, none⟩ = some (.map none) := heap_cell h1; have c1' : w'.cell? ⟨bs, 1, none⟩ = some (.int .i64 r) := heap_cell h1; have H1 : Hid (w'.heap[bs]? = some (sBlk none r)) := h1; clear h1))
    | (go_at_call 13; go_must (refine (full_nil _ _ c0').mono ?_; rintro e w' ⟨rfl, rfl⟩))
    | (go_at_call 14; go_must (refine (put_new t bs r _ hl hr hr2 H1.out).mono ?_; rintro e w2 ⟨rfl, hP, hF⟩)))
  go_ret
  exact ⟨rfl, _, hb.size, hP, (Fr.of_below hb).trans hF⟩

set_option maxHeartbeats 400000 in
theorem set_same (t t0 : ByteArray) (bs bm : Nat) (r : Int) (w : World) (hl : t.size ≤ 400) (ht : (t0.toList == t.toList) = true) (h : PC w.heap bs bm r (mBlk t0)) :
    Calls Try.prog 5 #[.pointer (some ⟨bs, 0, none⟩), .string ⟨#[97]⟩, .string t] w fun e w' => e = .returned (.int .i64 0) ∧ Below w.heap.size w w' := by
  have HH : Hid (PC w.heap bs bm r (mBlk t0)) := h
  have c0 := h.c0
  clear h
  go_enter Try.func5, Try.ntmps5
  go_wp2_with (first
    | (go_at_call 11; refine (isFile_a _).mono ?_; rintro e w' ⟨rfl, rfl⟩)
    | (go_at_call 12; go_must (refine (text_one _ _ _ _ c0 HH.out.hm).mono ?_; rintro e w' ⟨rfl, hb⟩; have H1 := PC.hid hb HH; have c0' := H1.out.c0; have c1' := H1.out.c1)))
  go_ret
  exact ⟨rfl, hb⟩

set_option maxHeartbeats 400000 in
theorem set_full (t t0 : ByteArray) (bs bm : Nat) (w : World) (hl : t.size ≤ 400) (ht : (t0.toList == t.toList) = false) (h : PC w.heap bs bm 1000 (mBlk t0)) :
    Calls Try.prog 5 #[.pointer (some ⟨bs, 0, none⟩), .string ⟨#[97]⟩, .string t] w fun e w' => e = .returned (.int .i64 5) ∧ Below w.heap.size w w' := by
  have HH : Hid (PC w.heap bs bm 1000 (mBlk t0)) := h
  have c0 := h.c0
  clear h
  go_enter Try.func5, Try.ntmps5
  go_wp2_with (first
    | (go_at_call 11; refine (isFile_a _).mono ?_; rintro e w' ⟨rfl, rfl⟩)
    | (go_at_call 12; go_must (refine (text_one _ _ _ _ c0 HH.out.hm).mono ?_; rintro e w' ⟨rfl, hb⟩; have H1 := PC.hid hb HH; have c0' := H1.out.c0; have c1' := H1.out.c1)))
  go_ret
  exact ⟨rfl, hb⟩

set_option maxHeartbeats 400000 in
theorem set_next (t t0 : ByteArray) (bs bm : Nat) (r : Int) (w : World) (hl : t.size ≤ 400) (ht : (t0.toList == t.toList) = false) (hr : 0 ≤ r) (hr2 : r < 1000) (hne : bm ≠ bs) (h : PC w.heap bs bm r (mBlk t0)) :
    Calls Try.prog 5 #[.pointer (some ⟨bs, 0, none⟩), .string ⟨#[97]⟩, .string t] w fun e w' => e = .returned (.int .i64 0) ∧ PC w'.heap bs bm (r + 1) (mBlk t) ∧ Fr [bs, bm] w w' := by
  have HH : Hid (PC w.heap bs bm r (mBlk t0)) := h
  have c0 := h.c0
  clear h
  go_enter Try.func5, Try.ntmps5
  go_wp2_with (first
    | (go_at_call 11; refine (isFile_a _).mono ?_; rintro e w' ⟨rfl, rfl⟩)
    | (go_at_call 12; go_must (refine (text_one _ _ _ _ c0 HH.out.hm).mono ?_; rintro e w' ⟨rfl, hb⟩; have H1 := PC.hid hb HH; have c0' := H1.out.c0; have c1' := H1.out.c1))
    | (go_at_call 14; go_must (refine (put_old t t0 bs bm r _ hl hr hr2 hne H1.out).mono ?_; rintro e w2 ⟨rfl, hP, hF⟩)))
  go_ret
  exact ⟨rfl, hP, (Fr.of_below hb).trans hF⟩

set_option maxHeartbeats 400000 in
theorem remove_nil (bs : Nat) (w : World) (c0 : w.cell? ⟨bs, 0, none⟩ = some (.map none)) :
    Calls Try.prog 8 #[.pointer (some ⟨bs, 0, none⟩), .string ⟨#[97]⟩] w fun e w' => e = .returned (.int .i64 4) ∧ Below w.heap.size w w' := by
  go_enter Try.func8, Try.ntmps8
  go_wp2_with (first
    | (go_at_call 11; refine (isFile_a _).mono ?_; rintro e w' ⟨rfl, rfl⟩)
    | (go_at_call 12; go_must (refine (text_nil _ _ c0).mono ?_; rintro e w' ⟨rfl, hb⟩)))
  go_ret
  exact ⟨rfl, hb⟩

set_option maxHeartbeats 400000 in
theorem remove_full (t0 : ByteArray) (bs bm : Nat) (w : World) (h : PC w.heap bs bm 1000 (mBlk t0)) :
    Calls Try.prog 8 #[.pointer (some ⟨bs, 0, none⟩), .string ⟨#[97]⟩] w fun e w' => e = .returned (.int .i64 5) ∧ Below w.heap.size w w' := by
  have HH : Hid (PC w.heap bs bm 1000 (mBlk t0)) := h
  have c0 := h.c0
  clear h
  go_enter Try.func8, Try.ntmps8
  go_wp2_with (first
    | (go_at_call 11; refine (isFile_a _).mono ?_; rintro e w' ⟨rfl, rfl⟩)
    | (go_at_call 12; go_must (refine (text_one _ _ _ _ c0 HH.out.hm).mono ?_; rintro e w' ⟨rfl, hb⟩; have H1 := PC.hid hb HH; have c0' := H1.out.c0; have c1' := H1.out.c1)))
  go_ret
  exact ⟨rfl, hb⟩

set_option maxHeartbeats 400000 in
theorem remove_yes (t0 : ByteArray) (bs bm : Nat) (r : Int) (w : World) (hr : 0 ≤ r) (hr2 : r < 1000) (hne : bm ≠ bs) (h : PC w.heap bs bm r (mBlk t0)) :
    Calls Try.prog 8 #[.pointer (some ⟨bs, 0, none⟩), .string ⟨#[97]⟩] w fun e w' => e = .returned (.int .i64 0) ∧ PC w'.heap bs bm (r + 1) (.map #[] 1) ∧ Fr [bs, bm] w w' := by
  have HH : Hid (PC w.heap bs bm r (mBlk t0)) := h
  have c0 := h.c0
  clear h
  have hnb : bs ≠ bm := Ne.symm hne
  have hst : ∀ W : World, W.heap[bm]? = some (mBlk t0) → (Builtin.delete_ #[42, 9] 0 #[.map (some bm), .string ⟨#[97]⟩]).run Try.prog W = .ok (.tuple #[]) (setO W bm (.map #[] 1)) := fun W hW => delete_one W bm t0 0 hW
  have hsc : ∀ W : World, (setO W bm (.map #[] 1)).cell? ⟨bs, 1, none⟩ = W.cell? ⟨bs, 1, none⟩ := fun W => setO_cell W bm bs 1 _ hnb
  have hsf : ∀ W : World, (setO W bm (.map #[] 1)).frozen? ⟨bs, 1, none⟩ = W.frozen? ⟨bs, 1, none⟩ := fun W => setO_frozen W bm bs 1 _ hnb
  have HNE : Hid (bm ≠ bs) := hne
  clear hne
  go_enter Try.func8, Try.ntmps8
  go_wp2_with (first
    | (go_at_call 11; refine (isFile_a _).mono ?_; rintro e w' ⟨rfl, rfl⟩)
    | (go_at_call 12; go_must (refine (text_one _ _ _ _ c0 HH.out.hm).mono ?_; rintro e w' ⟨rfl, hb⟩; have H1 := PC.hid hb HH; have c0' := H1.out.c0; have c1' := H1.out.c1; have f1' := H1.out.f1; have hm' := H1.out.hm)))
  go_ret
  exact ⟨rfl, put_world HNE.out H1.out _ _, put_fr (Fr.of_below hb) (by simp) (.inl (by simp)) _ _⟩
end Go.Proofs.Ytgdkapfmcapebaa
