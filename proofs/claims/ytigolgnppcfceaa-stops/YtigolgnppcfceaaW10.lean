/-
  The program's session: put, with no file as yet.
-/
import Derived.Test.YtigolgnppcfceaaW9c
namespace Go.Proofs.Ytigolgnppcfceaa
open Go.RowKit

/-- The world ahead of the store into the new map of files. -/
structure PreF (w W : World) (bs : Nat) (r : Int) : Prop where
  s : W.heap[bs]? = some (sBlk (some w.heap.size) none r)
  m : W.heap[w.heap.size]? = some (.map #[] 0)
  f : Fr [bs] w W
  lt : bs < w.heap.size
  sz : w.heap.size < W.heap.size

theorem PreF.below {w W W' : World} {bs : Nat} {r : Int} (h : PreF w W bs r) (hb : Below W.heap.size W W') : PreF w W' bs r :=
  ⟨below_heap hb h.s, below_heap hb h.m, h.f.trans (Fr.of_below hb), h.lt, by have := h.sz; have := hb.size; omega⟩
theorem PreF.drew {w W : World} {bs : Nat} {r : Int} (h : PreF w W bs r) : PreF w W.drew bs r := ⟨h.s, h.m, h.f.drew, h.lt, h.sz⟩
theorem PreF.step {w W W' : World} {bs : Nat} {r : Int} (h : Hid (PreF w W bs r)) (hb : Below W.heap.size W W') : Hid (PreF w W' bs r) := h.out.below hb
theorem PreF.dr {w W : World} {bs : Nat} {r : Int} (h : Hid (PreF w W bs r)) : Hid (PreF w W.drew bs r) := h.out.drew

theorem preF_of {w : World} {bs : Nat} {r : Int} (h : w.heap[bs]? = some (sBlk none none r)) :
    PreF w ((w.setCell ⟨bs, 0, none⟩ (.map (some w.heap.size))).alloc (.map #[] 0)) bs r := by
  have hb := heap_lt h
  have s0 := heap_setCell_lit (i := 0) h (.map (some w.heap.size))
  have hz0 : (w.setCell ⟨bs, 0, none⟩ (.map (some w.heap.size))).heap.size = w.heap.size := by simp
  have hA := MapKept.heap_alloc (w.setCell ⟨bs, 0, none⟩ (.map (some w.heap.size))) (.map #[] 0)
  rw [hz0] at hA
  exact ⟨(hA.2 bs hb).trans s0, hA.1, ((Fr.refl _ _).setCell _ (.inl (by simp)) _).alloc _, hb, by simp⟩

/-- A first file is there. -/
structure New1 (w w' : World) (bs bm bq bc : Nat) (r : Int) (t : ByteArray) : Prop where
  lm : w.heap.size ≤ bm
  lq : w.heap.size ≤ bq
  lc : w.heap.size ≤ bc
  d : Dis bs bm bq bc
  p : PC w'.heap bs bm bq bc r (mBlk t)
  f : Fr [bs] w w'

theorem PreF.done {w W w' : World} {bs bq bc : Nat} {r r' : Int} {t : ByteArray} (h : PreF w W bs r) (hc : Chn (setO W w.heap.size (mBlk t)) w' bs bq bc (some w.heap.size) r' r') : New1 w w' bs w.heap.size bq bc r' t := by
  have h1 := h.lt
  have h2 := h.sz
  have h3 : (setO W w.heap.size (mBlk t)).heap.size = W.heap.size := by simp [setO]
  have lq := hc.lq
  have lc := hc.lc
  rw [h3] at lq lc
  refine ⟨Nat.le_refl _, by omega, by omega, ⟨by omega, by omega, by omega, by omega, by omega, hc.ne⟩, ⟨hc.s, ?_, hc.q, _, hc.c⟩, ?_⟩
  · exact (hc.f.block w.heap.size (by omega) (by simp; omega)).trans (setO_eq _ h.m)
  · exact (h.f.setO _ (.inr (Nat.le_refl _)) _).trans hc.f

set_option maxRecDepth 100000 in
set_option maxHeartbeats 1000000 in
theorem put_new (t : ByteArray) (bs : Nat) (r : Int) (w : World) (hl : t.size ≤ 400) (hr : 0 ≤ r) (hr2 : r < 1000) (h : w.heap[bs]? = some (sBlk none none r)) :
    Calls Try.prog 16 #[.pointer (some ⟨bs, 0, none⟩), .string ⟨#[97]⟩, .string t] w fun e w' => e = .returned (.tuple #[]) ∧ ∃ bm bq bc, New1 w w' bs bm bq bc (r + 1) t := by
  have c0 : w.cell? ⟨bs, 0, none⟩ = some (.map none) := heap_cell h
  have f0 : w.frozen? ⟨bs, 0, none⟩ = false := heap_frozen h
  have hb := heap_lt h
  have d0 : ∀ o, (w.alloc o).cell? ⟨bs, 0, none⟩ = some (.map none) := fun o => heap_cell ((Below.heap_alloc w o bs hb).trans h)
  have g0 : ∀ o, (w.alloc o).frozen? ⟨bs, 0, none⟩ = false := fun o => heap_frozen ((Below.heap_alloc w o bs hb).trans h)
  have hP : Hid (PreF w ((w.setCell ⟨bs, 0, none⟩ (.map (some w.heap.size))).alloc (.map #[] 0)) bs r) := preF_of h
  have hmn : ∀ W : World, (binOp .eql 42 (.map none) (.map none)).run Try.prog W = .ok (.bool true) W := fun W => run_eql_map_nil W 42 9 65 none Try.underlying42
  have hmk : ∀ W : World, (Instr.makeMap 42 none).run Try.prog W = .ok (.map (some W.heap.size)) (W.alloc (.map #[] 0)) := fun W => @run_makeMap Try.prog 42 W
  have hst : ∀ W : World, W.heap[w.heap.size]? = some (.map #[] 0) → (Instr.mapUpdate 42 (.map (some w.heap.size)) (.string ⟨#[97]⟩) (.agg #[.string t])).run Try.prog W = .ok () (setO W w.heap.size (mBlk t)) := fun W hW => store_new W w.heap.size t hW
  clear h
  go_enter Try.func16, Try.ntmps16
  go_wp2
  generalize (w.setCell ⟨bs, 0, none⟩ (.map (some w.heap.size))).alloc (.map #[] 0) = W at hP ⊢
  have e0 : W.cell? ⟨bs, 0, none⟩ = some (.map (some w.heap.size)) := heap_cell hP.out.s
  clear c0 f0 d0 g0 hmn hmk hb
  go_region_with (go_at_call 25; go_must (refine (clone_any _ _ ?hh).mono ?_; (case hh => (first | exact hl | decide)); rintro e w' ⟨rfl, hb⟩; have hP : Hid (PreF w w' bs r) := (by first | exact PreF.step hP hb | exact PreF.step (PreF.dr hP) hb | exact PreF.step (PreF.dr (PreF.dr hP)) hb); have hm' := hP.out.m; have c0' : w'.cell? ⟨bs, 0, none⟩ = some (.map (some w.heap.size)) := heap_cell hP.out.s; clear hb))
  all_goals
    have HS : Hid ((setO w' w.heap.size (mBlk t)).heap[bs]? = some (sBlk (some w.heap.size) none r)) := (setO_ne _ _ _ _ (by have := hP.out.lt; omega)).trans hP.out.s
  all_goals go_wp2_with fail
  all_goals refine (change_first bs (some w.heap.size) r _ hr hr2 (by exact HS.out)).mono ?_
  all_goals rintro e w2 ⟨rfl, bq, bc, hch⟩
  all_goals
    have HCH : Hid (Chn (setO w' w.heap.size (mBlk t)) w2 bs bq bc (some w.heap.size) (r + 1) (r + 1)) := (by first | exact hch | exact Chn.drewL hch)
  all_goals go_wp2
  all_goals go_end0
  all_goals exact ⟨rfl, _, _, _, hP.out.done HCH.out⟩

end Go.Proofs.Ytigolgnppcfceaa
