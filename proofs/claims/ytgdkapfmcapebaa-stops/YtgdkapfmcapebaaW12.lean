/-
  Look, and the pair's look.
-/
import Derived.Test.YtgdkapfmcapebaaW11
namespace Go.Proofs.Ytgdkapfmcapebaa
open Go.RowKit

theorem len_some (w : World) (b : Nat) (es : Array MapEntry) (k : Nat) (ty : TypeId) (h : w.heap[b]? = some (.map es k)) :
    (Builtin.len_ #[42] ty #[.map (some b)]).run Try.prog w = .ok (.int .i64 es.size) w := by
  simp [Builtin.len_, run_underlying Try.underlying42, MapKept.run_getObj_map h, Result.andThen, goInt]

set_option maxHeartbeats 1000000 in
theorem look_any (bs : Nat) (M : Option Nat) (r : Int) (n : Int) (w : World) (h : w.heap[bs]? = some (sBlk M r))
    (hn : ∀ W : World, Below w.heap.size w W → (Builtin.len_ #[42] 3 #[.map M]).run Try.prog W = .ok (.int .i64 n) W) :
    Calls Try.prog 18 #[.pointer (some ⟨bs, 0, none⟩)] w fun e w' => e = .returned (.agg #[.int .i64 r, .int .i64 n, .int .i64 0]) ∧ Below w.heap.size w w' := by
  have c0 : w.cell? ⟨bs, 0, none⟩ = some (.map M) := heap_cell h
  have c1 : w.cell? ⟨bs, 1, none⟩ = some (.int .i64 r) := heap_cell h
  have hbr : bs < w.heap.size := heap_lt h
  clear h
  have hl : (Builtin.len_ #[42] 3 #[.map M]).run Try.prog (w.alloc (.cells #[.int .i64 0, .int .i64 0, .int .i64 0] 53)) = .ok (.int .i64 n) (w.alloc (.cells #[.int .i64 0, .int .i64 0, .int .i64 0] 53)) := hn _ ((Below.refl _ _).alloc (Nat.le_refl _) _)
  have hl2 : (Builtin.len_ #[42] 3 #[.map M]).run Try.prog (w.alloc (.cells #[.int .i64 0, .int .i64 0, .int .i64 0] 53)).drew = .ok (.int .i64 n) (w.alloc (.cells #[.int .i64 0, .int .i64 0, .int .i64 0] 53)).drew := hn _ ((Below.refl _ _).alloc (Nat.le_refl _) _).drew
  clear hn
  go_enter Try.func18, Try.ntmps18
  go_wp2
  go_region
  all_goals go_wp2
  all_goals (refine bodyPost_ret (v := .agg #[.int .i64 r, .int .i64 n, .int .i64 0]) (by simp [results, Try.results18, go_sem]) rfl ⟨rfl, ?_⟩)
  all_goals exact ((Below.refl _ _).alloc (Nat.le_refl _) _).drew

set_option maxHeartbeats 1000000 in
theorem pairlook (bp bs br : Nat) (r n : Int) (w : World) (h : w.heap[bp]? = some (.cells #[.pointer (some ⟨bs, 0, none⟩), .pointer (some ⟨br, 0, none⟩)] 33))
    (hx : ∀ W : World, Below w.heap.size w W → Calls Try.prog 18 #[.pointer (some ⟨bs, 0, none⟩)] W fun e w' => e = .returned (.agg #[.int .i64 r, .int .i64 n, .int .i64 0]) ∧ Below W.heap.size W w')
    (hy : ∀ W : World, Below w.heap.size w W → Calls Try.prog 19 #[.pointer (some ⟨br, 0, none⟩)] W fun e w' => e = .returned (.agg #[.int .i64 r, .int .i64 n, .int .i64 0]) ∧ Below W.heap.size W w') :
    Calls Try.prog 10 #[.pointer (some ⟨bp, 0, none⟩)] w fun e w' => e = .returned (.bool true) ∧ Below w.heap.size w w' := by
  have c0 : w.cell? ⟨bp, 0, none⟩ = some (.pointer (some ⟨bs, 0, none⟩)) := heap_cell h
  have HX : Hid (∀ W : World, Below w.heap.size w W → Calls Try.prog 18 #[.pointer (some ⟨bs, 0, none⟩)] W fun e w' => e = .returned (.agg #[.int .i64 r, .int .i64 n, .int .i64 0]) ∧ Below W.heap.size W w') := hx
  have HY : Hid (∀ W : World, Below w.heap.size w W → Calls Try.prog 19 #[.pointer (some ⟨br, 0, none⟩)] W fun e w' => e = .returned (.agg #[.int .i64 r, .int .i64 n, .int .i64 0]) ∧ Below W.heap.size W w') := hy
  have H0 : Hid (w.heap[bp]? = some (.cells #[.pointer (some ⟨bs, 0, none⟩), .pointer (some ⟨br, 0, none⟩)] 33)) := h
  clear hx hy h
  go_enter Try.func10, Try.ntmps10
  go_wp2_with (go_at_call 18; go_must (refine (HX.out _ (Below.refl _ _)).mono ?_; rintro e w1 ⟨rfl, hb⟩; have hq := heap_lt H0.out; have c1 : ∀ o, (w1.alloc o).cell? ⟨bp, 1, none⟩ = some (.pointer (some ⟨br, 0, none⟩)) := fun o => heap_cell ((Below.heap_alloc w1 o bp (by have := hb.size; omega)).trans (below_heap hb H0.out))))
  have HB : Hid (Below w.heap.size w (w1.alloc (.cells #[.int .i64 r, .int .i64 n, .int .i64 0] 53))) := hb.alloc hb.size _
  have hz := hb.size
  refine (HY.out _ HB.out).mono ?_
  rintro e w2 ⟨rfl, hb2⟩
  have hA := MapKept.heap_alloc w1 (.cells #[.int .i64 r, .int .i64 n, .int .i64 0] 53)
  have hl := heap_lt hA.1
  have hA2 := below_heap hb2 hA.1
  have hz2 : w1.heap.size < w2.heap.size := by have := hb2.size; omega
  have d0 : ∀ o, (w2.alloc o).cell? ⟨w1.heap.size, 0, none⟩ = some (.int .i64 r) := fun o => heap_cell ((Below.heap_alloc w2 o _ hz2).trans hA2)
  have d1 : ∀ o, (w2.alloc o).cell? ⟨w1.heap.size, 1, none⟩ = some (.int .i64 n) := fun o => heap_cell ((Below.heap_alloc w2 o _ hz2).trans hA2)
  have d2 : ∀ o, (w2.alloc o).cell? ⟨w1.heap.size, 2, none⟩ = some (.int .i64 0) := fun o => heap_cell ((Below.heap_alloc w2 o _ hz2).trans hA2)
  have HB2 : Hid (Below w.heap.size w w2) := HB.out.trans (hb2.mono (by have := hb.size; simp; omega))
  clear hA hA2 hb2 hl hz
  go_wp2
  go_ret
  exact ⟨rfl, HB2.out.alloc HB2.out.size _⟩
end Go.Proofs.Ytgdkapfmcapebaa
