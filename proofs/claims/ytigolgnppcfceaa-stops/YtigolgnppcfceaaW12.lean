/-
  Look, and the pair's look.
-/
import Derived.Test.YtigolgnppcfceaaW11
namespace Go.Proofs.Ytigolgnppcfceaa
open Go.RowKit

theorem len_some (w : World) (b : Nat) (es : Array MapEntry) (k : Nat) (ty : TypeId) (h : w.heap[b]? = some (.map es k)) :
    (Builtin.len_ #[42] ty #[.map (some b)]).run Try.prog w = .ok (.int .i64 es.size) w := by
  simp [Builtin.len_, run_underlying Try.underlying42, MapKept.run_getObj_map h, Result.andThen, goInt]

set_option maxHeartbeats 1000000 in
theorem look_any (bs : Nat) (M Q : Option Nat) (r : Int) (n : Int) (w : World) (h : w.heap[bs]? = some (sBlk M Q r))
    (hn : ∀ W : World, Below w.heap.size w W → (Builtin.len_ #[42] 3 #[.map M]).run Try.prog W = .ok (.int .i64 n) W) :
    Calls Try.prog 21 #[.pointer (some ⟨bs, 0, none⟩)] w fun e w' => e = .returned (.agg #[.int .i64 r, .int .i64 n, .int .i64 0]) ∧ Below w.heap.size w w' := by
  have hbr : bs < w.heap.size := heap_lt h
  have HB : Hid (Below w.heap.size w (w.alloc (.cells #[.int .i64 0, .int .i64 0, .int .i64 0] 62))) := (Below.refl _ _).alloc (Nat.le_refl _) _
  have h2 := below_heap HB.out h
  have HH : Hid ((w.alloc (.cells #[.int .i64 0, .int .i64 0, .int .i64 0] 62)).heap[bs]? = some (sBlk M Q r)) := h2
  have hn2 : ∀ W : World, Below (w.alloc (.cells #[.int .i64 0, .int .i64 0, .int .i64 0] 62)).heap.size (w.alloc (.cells #[.int .i64 0, .int .i64 0, .int .i64 0] 62)) W → (Builtin.len_ #[42] 3 #[.map M]).run Try.prog W = .ok (.int .i64 n) W := fun W hb => hn W (HB.out.trans (hb.mono HB.out.size))
  have HW : Hid (w.heap[bs]? = some (sBlk M Q r)) := h
  clear h h2 hn
  go_enter Try.func21, Try.ntmps21
  go_wp2
  have c0 : w.cell? ⟨bs, 0, none⟩ = some (.map M) := heap_cell HW.out
  have c1 : (w.alloc (.cells #[.int .i64 0, .int .i64 0, .int .i64 0] 62)).cell? ⟨bs, 1, none⟩ = some (.int .i64 r) := heap_cell HH.out
  have c5 : (w.alloc (.cells #[.int .i64 0, .int .i64 0, .int .i64 0] 62)).cell? ⟨bs, 5, none⟩ = some (.slice none 0 0) := heap_cell HH.out
  have hl : (Builtin.len_ #[42] 3 #[.map M]).run Try.prog (w.alloc (.cells #[.int .i64 0, .int .i64 0, .int .i64 0] 62)).drew = .ok (.int .i64 n) (w.alloc (.cells #[.int .i64 0, .int .i64 0, .int .i64 0] 62)).drew := hn2 _ (Below.refl _ _).drew
  clear hn2
  go_region_with (first
    | (go_at_call 15; go_must (refine (rev_any bs _ _ (by exact c1)).mono ?_; rintro e w' ⟨rfl, rfl⟩))
    | (go_at_call 28; go_must (refine (kept_any bs _ (by exact c5)).mono ?_; rintro e w' ⟨rfl, rfl⟩)))
  all_goals go_wp2
  all_goals (refine bodyPost_ret (v := .agg #[.int .i64 r, .int .i64 n, .int .i64 0]) (by simp [results, Try.results21, go_sem]) rfl ⟨rfl, ?_⟩)
  all_goals exact ((Below.refl _ _).alloc (Nat.le_refl _) _).drew

set_option maxHeartbeats 1000000 in
theorem pairlook (bp bs br : Nat) (r n : Int) (w : World) (h : w.heap[bp]? = some (.cells #[.pointer (some ⟨bs, 0, none⟩), .pointer (some ⟨br, 0, none⟩)] 33))
    (hx : ∀ W : World, Below w.heap.size w W → Calls Try.prog 21 #[.pointer (some ⟨bs, 0, none⟩)] W fun e w' => e = .returned (.agg #[.int .i64 r, .int .i64 n, .int .i64 0]) ∧ Below W.heap.size W w')
    (hy : ∀ W : World, Below w.heap.size w W → Calls Try.prog 22 #[.pointer (some ⟨br, 0, none⟩)] W fun e w' => e = .returned (.agg #[.int .i64 r, .int .i64 n, .int .i64 0]) ∧ Below W.heap.size W w') :
    Calls Try.prog 10 #[.pointer (some ⟨bp, 0, none⟩)] w fun e w' => e = .returned (.bool true) ∧ Below w.heap.size w w' := by
  have c0 : w.cell? ⟨bp, 0, none⟩ = some (.pointer (some ⟨bs, 0, none⟩)) := heap_cell h
  have HX : Hid (∀ W : World, Below w.heap.size w W → Calls Try.prog 21 #[.pointer (some ⟨bs, 0, none⟩)] W fun e w' => e = .returned (.agg #[.int .i64 r, .int .i64 n, .int .i64 0]) ∧ Below W.heap.size W w') := hx
  have HY : Hid (∀ W : World, Below w.heap.size w W → Calls Try.prog 22 #[.pointer (some ⟨br, 0, none⟩)] W fun e w' => e = .returned (.agg #[.int .i64 r, .int .i64 n, .int .i64 0]) ∧ Below W.heap.size W w') := hy
  have H0 : Hid (w.heap[bp]? = some (.cells #[.pointer (some ⟨bs, 0, none⟩), .pointer (some ⟨br, 0, none⟩)] 33)) := h
  clear hx hy h
  go_enter Try.func10, Try.ntmps10
  go_wp2_with (go_at_call 21; go_must (refine (HX.out _ (Below.refl _ _)).mono ?_; rintro e w1 ⟨rfl, hb⟩; have hq := heap_lt H0.out; have c1 : ∀ o, (w1.alloc o).cell? ⟨bp, 1, none⟩ = some (.pointer (some ⟨br, 0, none⟩)) := fun o => heap_cell ((Below.heap_alloc w1 o bp (by have := hb.size; omega)).trans (below_heap hb H0.out))))
  have HB : Hid (Below w.heap.size w (w1.alloc (.cells #[.int .i64 r, .int .i64 n, .int .i64 0] 62))) := hb.alloc hb.size _
  have hz := hb.size
  refine (HY.out _ HB.out).mono ?_
  rintro e w2 ⟨rfl, hb2⟩
  have hA := MapKept.heap_alloc w1 (.cells #[.int .i64 r, .int .i64 n, .int .i64 0] 62)
  have hl := heap_lt hA.1
  have hA2 := below_heap hb2 hA.1
  have hz2 : w1.heap.size < w2.heap.size := by have := hb2.size; omega
  have d0 : ∀ o, (w2.alloc o).cell? ⟨w1.heap.size, 0, none⟩ = some (.int .i64 r) := fun o => heap_cell ((Below.heap_alloc w2 o _ hz2).trans hA2)
  have d1 : ∀ o, (w2.alloc o).cell? ⟨w1.heap.size, 1, none⟩ = some (.int .i64 n) := fun o => heap_cell ((Below.heap_alloc w2 o _ hz2).trans hA2)
  have d2 : ∀ o, (w2.alloc o).cell? ⟨w1.heap.size, 2, none⟩ = some (.int .i64 0) := fun o => heap_cell ((Below.heap_alloc w2 o _ hz2).trans hA2)
  have HB2 : Hid (Below w.heap.size w w2) := HB.out.trans (hb2.mono (by have := hb.size; simp; omega))
  clear hA hA2 hb2 hl hz
  go_wp2
  go_ret
  exact ⟨rfl, HB2.out.alloc HB2.out.size _⟩
end Go.Proofs.Ytigolgnppcfceaa
