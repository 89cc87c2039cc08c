/-
  The program's session: put, with no file as yet.
-/
import Derived.Test.YtgdkapfmcapebaaW9
namespace Go.Proofs.Ytgdkapfmcapebaa
open Go.RowKit

theorem put_first_world {w : World} {bs : Nat} {r : Int} (h : w.heap[bs]? = some (sBlk none r)) :
    PC ((w.alloc (.map #[] 0)).setCell ⟨bs, 0, none⟩ (.map (some w.heap.size))).heap bs w.heap.size r (.map #[] 0) := by
  have hb := heap_lt h
  have hA := MapKept.heap_alloc w (.map #[] 0)
  refine ⟨?_, ?_⟩
  · exact heap_setCell_lit (i := 0) ((hA.2 bs hb).trans h) _
  · rw [heap_setCell_ne (by omega)]
    exact hA.1

set_option maxHeartbeats 1000000 in
theorem put_new (t : ByteArray) (bs : Nat) (r : Int) (w : World) (hl : t.size ≤ 400) (hr : 0 ≤ r) (hr2 : r < 1000) (h : w.heap[bs]? = some (sBlk none r)) :
    Calls Try.prog 14 #[.pointer (some ⟨bs, 0, none⟩), .string ⟨#[97]⟩, .string t] w fun e w' => e = .returned (.tuple #[]) ∧ PC w'.heap bs w.heap.size (r + 1) (mBlk t) ∧ Fr [bs] w w' := by
  have c0 : w.cell? ⟨bs, 0, none⟩ = some (.map none) := heap_cell h
  have c1 : w.cell? ⟨bs, 1, none⟩ = some (.int .i64 r) := heap_cell h
  have f0 : w.frozen? ⟨bs, 0, none⟩ = false := heap_frozen h
  have f1 : w.frozen? ⟨bs, 1, none⟩ = false := heap_frozen h
  have hnb : bs ≠ w.heap.size := by have := heap_lt h; omega
  have HNE : Hid (w.heap.size ≠ bs) := hnb.symm
  have hP : Hid (PC ((w.alloc (.map #[] 0)).setCell ⟨bs, 0, none⟩ (.map (some w.heap.size))).heap bs w.heap.size r (.map #[] 0)) := put_first_world h
  have hF : Hid (Fr [bs] w ((w.alloc (.map #[] 0)).setCell ⟨bs, 0, none⟩ (.map (some w.heap.size)))) := ((Fr.refl _ _).alloc _).setCell _ (.inl (by simp)) _
  have ca0 : ∀ o, (w.alloc o).cell? ⟨bs, 0, none⟩ = some (.map none) := fun o => heap_cell ((Below.heap_alloc w o bs (heap_lt h)).trans h)
  have cf0 : ∀ o, (w.alloc o).frozen? ⟨bs, 0, none⟩ = false := fun o => heap_frozen ((Below.heap_alloc w o bs (heap_lt h)).trans h)
  clear h
  have hmn : ∀ W : World, (binOp .eql 42 (.map none) (.map none)).run Try.prog W = .ok (.bool true) W := fun W => run_eql_map_nil W 42 9 56 none Try.underlying42
  obtain ⟨bm, hbm⟩ : ∃ bm, bm = w.heap.size := ⟨_, rfl⟩
  have hmk : ∀ W : World, (Instr.makeMap 42 none).run Try.prog W = .ok (.map (some W.heap.size)) (W.alloc (.map #[] 0)) := fun W => @run_makeMap Try.prog 42 W
  have hst : ∀ W : World, W.heap[w.heap.size]? = some (.map #[] 0) → (Instr.mapUpdate 42 (.map (some w.heap.size)) (.string ⟨#[97]⟩) (.agg #[.string t])).run Try.prog W = .ok () (setO W w.heap.size (mBlk t)) := fun W hW => store_new W w.heap.size t hW
  have hsc : ∀ W : World, (setO W w.heap.size (mBlk t)).cell? ⟨bs, 1, none⟩ = W.cell? ⟨bs, 1, none⟩ := fun W => setO_cell W w.heap.size bs 1 _ hnb
  have hsf : ∀ W : World, (setO W w.heap.size (mBlk t)).frozen? ⟨bs, 1, none⟩ = W.frozen? ⟨bs, 1, none⟩ := fun W => setO_frozen W w.heap.size bs 1 _ hnb
  have hdh : ∀ W : World, W.drew.heap = W.heap := fun W => rfl
  have hdo : ∀ W : World, setO W.drew w.heap.size (mBlk t) = (setO W w.heap.size (mBlk t)).drew := fun W => rfl
  clear hbm bm
  go_enter Try.func14, Try.ntmps14
  go_wp2
  go_region_with (go_at_call 21; go_must (refine (clone_any _ _ ?hh).mono ?_; (case hh => (first | exact hl | decide)); rintro e w' ⟨rfl, hb⟩; have hF : Hid (Fr [bs] w w') := (by first | exact Fr.step hF hb | exact Fr.step (Fr.dr hF) hb | exact Fr.step (Fr.dr (Fr.dr hF)) hb); have hP := PC.hid hb hP; have hm' := hP.out.hm; have c0' := hP.out.c0; have c1' := hP.out.c1; have f1' := hP.out.f1))
  all_goals go_wp2
  all_goals go_end0
  all_goals exact ⟨rfl, put_world HNE.out hP.out _ _, put_fr hF.out (by simp) (.inr (Nat.le_refl _)) _ _⟩
end Go.Proofs.Ytgdkapfmcapebaa
