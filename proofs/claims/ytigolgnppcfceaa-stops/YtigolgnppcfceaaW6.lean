/-
  The document's session: Set, with the file there.
-/
import Derived.Test.YtigolgnppcfceaaW5
namespace Go.Proofs.Ytigolgnppcfceaa
open Go.RowKit

structure FC (w : World) (bf : Nat) (t : ByteArray) (r : Int) : Prop where
  k0 : w.cell? ⟨bf, 0, none⟩ = some (.string ⟨#[97]⟩)
  k1 : w.cell? ⟨bf, 1, none⟩ = some (.string t)
  k2 : w.cell? ⟨bf, 2, none⟩ = some (.bool true)
  k3 : w.cell? ⟨bf, 3, none⟩ = some (.int .i64 r)
  f : ∀ i, w.frozen? ⟨bf, i, none⟩ = false
theorem fc_of {w : World} {bf : Nat} {t : ByteArray} {r : Int} {rest : Array Value} (h : w.heap[bf]? = some (fBlk t r rest)) : FC w bf t r :=
  ⟨by rw [heap_cell h, Array.getElem?_append_left (by simp)]; rfl, by rw [heap_cell h, Array.getElem?_append_left (by simp)]; rfl, by rw [heap_cell h, Array.getElem?_append_left (by simp)]; rfl, by rw [heap_cell h, Array.getElem?_append_left (by simp)]; rfl, fun _ => heap_frozen h⟩

/-- The same text: nothing at all. -/
theorem rset_same (t t0 : ByteArray) (br bf cap : Nat) (r r0 : Int) (rest : Array Value) (w : World) (hl : t.size ≤ 400) (ht : (t0.toList == t.toList) = true) (h : w.heap[br]? = some (rBlk (.slice (some ⟨bf, 0, none⟩) 1 cap) r)) (hf : w.heap[bf]? = some (fBlk t0 r0 rest)) :
    Calls Try.prog 7 #[.pointer (some ⟨br, 0, none⟩), .string ⟨#[97]⟩, .string t] w fun e w' => e = .returned (.int .i64 0) ∧ Below w.heap.size w w' := by
  obtain ⟨c0, c1, c2, c3, c4, f⟩ := rc_of h
  have hs := setCell_same c4
  have f4 := f 4
  clear c0 c1 c2 c3 f
  have hH : Hid (w.heap[br]? = some (rBlk (.slice (some ⟨bf, 0, none⟩) 1 cap) r)) := h
  have hF : Hid (w.heap[bf]? = some (fBlk t0 r0 rest)) := hf
  clear h hf
  go_enter Try.func7, Try.ntmps7
  go_wp2_with (first
    | (go_at_call 17; refine (called_a _).mono ?_; rintro e w' ⟨rfl, hb⟩; have h1 := below_heap hb hH.out; have h2 := below_heap hb hF.out; clear f4 hs c4; obtain ⟨c0, c1, c2, c3, c4, f⟩ := rc_of h1; obtain ⟨k0, k1, k2, k3, kf⟩ := fc_of h2; clear f kf h1 h2)
    | (go_at_call 18; refine (find_one _ _ _ _ k0).mono ?_; rintro e w' ⟨rfl, rfl⟩)
    | (go_at_call 19; refine (count_one _ _ _ _ _ c0 k2).mono ?_; rintro e w' ⟨rfl, rfl⟩))
  go_ret
  exact ⟨rfl, hb⟩

set_option maxHeartbeats 400000 in
/-- Another text, but the thousand changes are used up. -/
theorem rset_full (t t0 : ByteArray) (br bf cap : Nat) (r0 : Int) (rest : Array Value) (w : World) (hl : t.size ≤ 400) (ht : (t0.toList == t.toList) = false) (h : w.heap[br]? = some (rBlk (.slice (some ⟨bf, 0, none⟩) 1 cap) 1000)) (hf : w.heap[bf]? = some (fBlk t0 r0 rest)) :
    Calls Try.prog 7 #[.pointer (some ⟨br, 0, none⟩), .string ⟨#[97]⟩, .string t] w fun e w' => e = .returned (.int .i64 5) ∧ Below w.heap.size w w' := by
  obtain ⟨c0, c1, c2, c3, c4, f⟩ := rc_of h
  have hs := setCell_same c4
  have f4 := f 4
  clear c0 c1 c2 c3 f
  have hH : Hid (w.heap[br]? = some (rBlk (.slice (some ⟨bf, 0, none⟩) 1 cap) 1000)) := h
  have hF : Hid (w.heap[bf]? = some (fBlk t0 r0 rest)) := hf
  clear h hf
  go_enter Try.func7, Try.ntmps7
  go_wp2_with (first
    | (go_at_call 17; refine (called_a _).mono ?_; rintro e w' ⟨rfl, hb⟩; have h1 := below_heap hb hH.out; have h2 := below_heap hb hF.out; clear f4 hs c4; obtain ⟨c0, c1, c2, c3, c4, f⟩ := rc_of h1; obtain ⟨k0, k1, k2, k3, kf⟩ := fc_of h2; clear f kf h1 h2)
    | (go_at_call 18; refine (find_one _ _ _ _ k0).mono ?_; rintro e w' ⟨rfl, rfl⟩)
    | (go_at_call 19; refine (count_one _ _ _ _ _ c0 k2).mono ?_; rintro e w' ⟨rfl, rfl⟩))
  go_ret
  exact ⟨rfl, hb⟩

set_option maxHeartbeats 800000 in
/-- Another text: it has it. -/
theorem rset_next (t t0 : ByteArray) (br bf cap : Nat) (r r0 : Int) (rest : Array Value) (w : World) (hl : t.size ≤ 400) (ht : (t0.toList == t.toList) = false) (hr : 0 ≤ r) (hr2 : r < 1000) (hne : bf ≠ br) (h : w.heap[br]? = some (rBlk (.slice (some ⟨bf, 0, none⟩) 1 cap) r)) (hf : w.heap[bf]? = some (fBlk t0 r0 rest)) :
    Calls Try.prog 7 #[.pointer (some ⟨br, 0, none⟩), .string ⟨#[97]⟩, .string t] w fun e w' => e = .returned (.int .i64 0) ∧ 
       w'.heap[br]? = some (rBlk (.slice (some ⟨bf, 0, none⟩) 1 cap) (r + 1)) ∧ w'.heap[bf]? = some (fBlk t (r + 1) rest) ∧ Fr [br, bf] w w' := by
  obtain ⟨c0, c1, c2, c3, c4, f⟩ := rc_of h
  have hs := setCell_same c4
  have f4 := f 4
  have hr1000 : (r == 1000) = false := by rw [beq_eq_false_iff_ne]; omega
  clear c0 c1 c2 c3 f
  have hH : Hid (w.heap[br]? = some (rBlk (.slice (some ⟨bf, 0, none⟩) 1 cap) r)) := h
  have hF : Hid (w.heap[bf]? = some (fBlk t0 r0 rest)) := hf
  clear h hf
  go_enter Try.func7, Try.ntmps7
  go_wp2_with (first
    | (go_at_call 17; refine (called_a _).mono ?_; rintro e w' ⟨rfl, hb⟩; have h1 := below_heap hb hH.out; have h2 := below_heap hb hF.out; clear f4 hs c4; obtain ⟨c0, c1, c2, c3, c4, f⟩ := rc_of h1; obtain ⟨k0, k1, k2, k3, kf⟩ := fc_of h2; have f2 := f 2; have kf0 := kf 0; have kf1 := kf 1; have kf2 := kf 2; have kf3 := kf 3; have H1 : Hid (w'.heap[br]? = some (rBlk (.slice (some ⟨bf, 0, none⟩) 1 cap) r)) := h1; have H2 : Hid (w'.heap[bf]? = some (fBlk t0 r0 rest)) := h2; clear f kf h1 h2)
    | (go_at_call 18; refine (find_one _ _ _ _ k0).mono ?_; rintro e w' ⟨rfl, rfl⟩)
    | (go_at_call 19; refine (count_one _ _ _ _ _ c0 k2).mono ?_; rintro e w' ⟨rfl, rfl⟩))
  go_region
  go_wp2
  go_ret
  have s := set_world hne H1.out H2.out t (r + 1)
  exact ⟨rfl, s.1, s.2.1, (Fr.of_below hb).trans s.2.2⟩

end Go.Proofs.Ytigolgnppcfceaa
