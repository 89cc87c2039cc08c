/-
  The document's session: Remove, Look.
-/
import Derived.Test.YtigolgnppcfceaaW6
import Derived.Deep.RegionWith
namespace Go.Proofs.Ytigolgnppcfceaa
open Go.RowKit

def gBlk (r : Int) (rest : Array Value) : Obj := .cells (#[.string ⟨#[97]⟩, .string ⟨#[]⟩, .bool false, .int .i64 r] ++ rest) 59

theorem gone_world {w : World} {br bf : Nat} {F : Value} {r : Int} {x0 x1 x2 x3 : Value} {rest : Array Value} (hne : bf ≠ br) (h1 : w.heap[br]? = some (rBlk F r)) (h2 : w.heap[bf]? = some (.cells (#[x0, x1, x2, x3] ++ rest) 59)) (q : Int) :
    (((((w.setCell ⟨br, 2, none⟩ (.int .i64 q)).setCell ⟨bf, 0, none⟩ (.string ⟨#[97]⟩)).setCell ⟨bf, 1, none⟩ (.string ⟨#[]⟩)).setCell ⟨bf, 2, none⟩ (.bool false)).setCell ⟨bf, 3, none⟩ (.int .i64 q)).drew.heap[br]? = some (rBlk F q) ∧
    (((((w.setCell ⟨br, 2, none⟩ (.int .i64 q)).setCell ⟨bf, 0, none⟩ (.string ⟨#[97]⟩)).setCell ⟨bf, 1, none⟩ (.string ⟨#[]⟩)).setCell ⟨bf, 2, none⟩ (.bool false)).setCell ⟨bf, 3, none⟩ (.int .i64 q)).drew.heap[bf]? = some (gBlk q rest) ∧
    Fr [br, bf] w (((((w.setCell ⟨br, 2, none⟩ (.int .i64 q)).setCell ⟨bf, 0, none⟩ (.string ⟨#[97]⟩)).setCell ⟨bf, 1, none⟩ (.string ⟨#[]⟩)).setCell ⟨bf, 2, none⟩ (.bool false)).setCell ⟨bf, 3, none⟩ (.int .i64 q)).drew := by
  have a0 : (w.setCell ⟨br, 2, none⟩ (.int .i64 q)).heap[bf]? = some (.cells (#[x0, x1, x2, x3] ++ rest) 59) := (heap_setCell_ne hne _).trans h2
  have a1 := heap_setCell_lit (i := 0) a0 (.string ⟨#[97]⟩)
  have a2 := heap_setCell_lit (i := 1) a1 (.string ⟨#[]⟩)
  have a3 := heap_setCell_lit (i := 2) a2 (.bool false)
  have a4 := heap_setCell_lit (i := 3) a3 (.int .i64 q)
  have b0 : (w.setCell ⟨br, 2, none⟩ (.int .i64 q)).heap[br]? = some (rBlk F q) := heap_setCell_lit (i := 2) h1 _
  refine ⟨?_, ?_, ?_⟩
  · rw [drew_heap, heap_setCell_ne hne.symm, heap_setCell_ne hne.symm, heap_setCell_ne hne.symm, heap_setCell_ne hne.symm]
    exact b0
  · rw [drew_heap, a4, four_set, gBlk]
  · exact Fr.drew ((((((Fr.refl _ _).setCell _ (.inl (by simp)) _).setCell _ (.inl (by simp)) _).setCell _ (.inl (by simp)) _).setCell _ (.inl (by simp)) _).setCell _ (.inl (by simp)) _)

set_option maxHeartbeats 400000 in
theorem rremove_none (br : Nat) (w : World) (r : Int) (h : w.heap[br]? = some (rBlk (.slice none 0 0) r)) :
    Calls Try.prog 9 #[.pointer (some ⟨br, 0, none⟩), .string ⟨#[97]⟩] w fun e w' => e = .returned (.int .i64 4) ∧ Below w.heap.size w w' := by
  obtain ⟨c0, c1, c2, c3, c4, f⟩ := rc_of h
  have hs := setCell_same c4
  have f4 := f 4
  clear c0 c1 c2 c3 f
  have hH : Hid (w.heap[br]? = some (rBlk (.slice none 0 0) r)) := h
  clear h
  go_enter Try.func9, Try.ntmps9
  go_wp2_with (first
    | (go_at_call 17; refine (called_a _).mono ?_; rintro e w' ⟨rfl, hb⟩; have h1 := below_heap hb hH.out; clear f4 hs c4; obtain ⟨c0, c1, c2, c3, c4, f⟩ := rc_of h1; clear f h1)
    | (go_at_call 18; refine (find_nil _ _).mono ?_; rintro e w' ⟨rfl, rfl⟩))
  go_ret
  exact ⟨rfl, hb⟩

set_option maxHeartbeats 800000 in
theorem rremove_yes (t0 : ByteArray) (br bf cap : Nat) (r r0 : Int) (rest : Array Value) (w : World) (hr : 0 ≤ r) (hr2 : r < 1000) (hne : bf ≠ br) (h : w.heap[br]? = some (rBlk (.slice (some ⟨bf, 0, none⟩) 1 cap) r)) (hf : w.heap[bf]? = some (fBlk t0 r0 rest)) :
    Calls Try.prog 9 #[.pointer (some ⟨br, 0, none⟩), .string ⟨#[97]⟩] w fun e w' => e = .returned (.int .i64 0) ∧ 
       w'.heap[br]? = some (rBlk (.slice (some ⟨bf, 0, none⟩) 1 cap) (r + 1)) ∧ w'.heap[bf]? = some (gBlk (r + 1) rest) ∧ Fr [br, bf] w w' := by
  obtain ⟨c0, c1, c2, c3, c4, f⟩ := rc_of h
  have hs := setCell_same c4
  have f4 := f 4
  have hr1000 : (r == 1000) = false := by rw [beq_eq_false_iff_ne]; omega
  clear c0 c1 c2 c3 f
  have hH : Hid (w.heap[br]? = some (rBlk (.slice (some ⟨bf, 0, none⟩) 1 cap) r)) := h
  have hF : Hid (w.heap[bf]? = some (fBlk t0 r0 rest)) := hf
  clear h hf
  go_enter Try.func9, Try.ntmps9
  go_wp2_with (first
    | (go_at_call 17; refine (called_a _).mono ?_; rintro e w' ⟨rfl, hb⟩; have h1 := below_heap hb hH.out; have h2 := below_heap hb hF.out; clear f4 hs c4; obtain ⟨c0, c1, c2, c3, c4, f⟩ := rc_of h1; obtain ⟨k0, k1, k2, k3, kf⟩ := fc_of h2; have f2 := f 2; have kf0 := kf 0; have kf1 := kf 1; have kf2 := kf 2; have kf3 := kf 3; have H1 : Hid (w'.heap[br]? = some (rBlk (.slice (some ⟨bf, 0, none⟩) 1 cap) r)) := h1; have H2 : Hid (w'.heap[bf]? = some (fBlk t0 r0 rest)) := h2; clear f kf h1 h2)
    | (go_at_call 18; refine (find_one _ _ _ _ k0).mono ?_; rintro e w' ⟨rfl, rfl⟩))
  go_region
  go_wp2
  go_ret
  have s := gone_world hne H1.out H2.out (r + 1)
  exact ⟨rfl, s.1, s.2.1, (Fr.of_below hb).trans s.2.2⟩

set_option maxHeartbeats 800000 in
theorem rremove_full (t0 : ByteArray) (br bf cap : Nat) (r0 : Int) (rest : Array Value) (w : World) (h : w.heap[br]? = some (rBlk (.slice (some ⟨bf, 0, none⟩) 1 cap) 1000)) (hf : w.heap[bf]? = some (fBlk t0 r0 rest)) :
    Calls Try.prog 9 #[.pointer (some ⟨br, 0, none⟩), .string ⟨#[97]⟩] w fun e w' => e = .returned (.int .i64 5) ∧ Below w.heap.size w w' := by
  obtain ⟨c0, c1, c2, c3, c4, f⟩ := rc_of h
  have hs := setCell_same c4
  have f4 := f 4
  clear c0 c1 c2 c3 f
  have hH : Hid (w.heap[br]? = some (rBlk (.slice (some ⟨bf, 0, none⟩) 1 cap) 1000)) := h
  have hF : Hid (w.heap[bf]? = some (fBlk t0 r0 rest)) := hf
  clear h hf
  go_enter Try.func9, Try.ntmps9
  go_wp2_with (first
    | (go_at_call 17; refine (called_a _).mono ?_; rintro e w' ⟨rfl, hb⟩; have h1 := below_heap hb hH.out; have h2 := below_heap hb hF.out; clear f4 hs c4; obtain ⟨c0, c1, c2, c3, c4, f⟩ := rc_of h1; obtain ⟨k0, k1, k2, k3, kf⟩ := fc_of h2; clear f kf h1 h2)
    | (go_at_call 18; refine (find_one _ _ _ _ k0).mono ?_; rintro e w' ⟨rfl, rfl⟩))
  go_ret
  exact ⟨rfl, hb⟩

set_option maxHeartbeats 400000 in
theorem rlook_any (br : Nat) (w : World) (F : Value) (r n : Int) (h : w.heap[br]? = some (rBlk F r))
   (hcnt : ∀ wx, Below w.heap.size w wx → Calls Try.prog 19 #[.pointer (some ⟨br, 0, none⟩)] wx fun e w' => e = .returned (.int .i64 n) ∧ w' = wx) :
    Calls Try.prog 22 #[.pointer (some ⟨br, 0, none⟩)] w fun e w' => e = .returned (.agg #[.int .i64 r, .int .i64 n, .int .i64 0]) ∧ Below w.heap.size w w' := by
  obtain ⟨c0, c1, c2, c3, c4, f⟩ := rc_of h
  have hc : Hid (∀ wx, Below w.heap.size w wx → Calls Try.prog 19 #[.pointer (some ⟨br, 0, none⟩)] wx fun e w' => e = .returned (.int .i64 n) ∧ w' = wx) := hcnt
  clear hcnt f
  have hbr : br < w.heap.size := heap_lt h
  clear h
  go_enter Try.func22, Try.ntmps22
  go_wp2
  go_region_with (first
    | (go_at_call 19; refine (hc.out _ (by exact Below.drew ((Below.refl _ _).alloc (Nat.le_refl _) _))).mono ?_; rintro e w' ⟨rfl, rfl⟩)
    | (go_at_call 29; refine (kept_nil _ _ (by go_simp)).mono ?_; rintro e w' ⟨rfl, rfl⟩))
  all_goals go_wp2
  all_goals (refine bodyPost_ret (v := .agg #[.int .i64 r, .int .i64 n, .int .i64 0]) (by simp [results, Try.results22, go_sem]) rfl ⟨rfl, ?_⟩)
  all_goals exact ((Below.refl _ _).alloc (Nat.le_refl _) _).drew
end Go.Proofs.Ytigolgnppcfceaa
