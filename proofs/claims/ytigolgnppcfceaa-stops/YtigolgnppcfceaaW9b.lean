/-
  The table's source, and Change, at a first file.
-/
import Derived.Test.YtigolgnppcfceaaW9
namespace Go.Proofs.Ytigolgnppcfceaa
open Go.RowKit

/-- Behind a first Change: the sources' map and the file's source are new. -/
structure Chn (w w' : World) (bs bq bc : Nat) (M : Option Nat) (r c : Int) : Prop where
  s : w'.heap[bs]? = some (sBlk M (some bq) r)
  q : w'.heap[bq]? = some (qBlk bc)
  c : w'.heap[bc]? = some (cBlk c)
  lq : w.heap.size ≤ bq
  lc : w.heap.size ≤ bc
  ne : bq ≠ bc
  f : Fr [bs] w w'

/-- The world ahead of the store into the new map. -/
structure Pre (w W : World) (bs : Nat) (M : Option Nat) (r : Int) : Prop where
  s : W.heap[bs]? = some (sBlk M (some (w.heap.size + 1)) r)
  q : W.heap[w.heap.size + 1]? = some (.map #[] 0)
  c : W.heap[w.heap.size]? = some (cBlk 0)
  f : Fr [bs] w W
  lt : bs < w.heap.size

theorem Pre.below {w W W' : World} {bs : Nat} {M : Option Nat} {r : Int} (h : Pre w W bs M r) (hb : Below W.heap.size W W') : Pre w W' bs M r :=
  ⟨below_heap hb h.s, below_heap hb h.q, below_heap hb h.c, h.f.trans (Fr.of_below hb), h.lt⟩

theorem Pre.drew {w W : World} {bs : Nat} {M : Option Nat} {r : Int} (h : Pre w W bs M r) : Pre w W.drew bs M r := ⟨h.s, h.q, h.c, h.f.drew, h.lt⟩

theorem pre_of {w : World} {bs : Nat} {M : Option Nat} {r : Int} (h : w.heap[bs]? = some (sBlk M none r)) :
    Pre w (((w.setCell ⟨bs, 2, none⟩ (.map (some (w.heap.size + 1)))).alloc (cBlk 0)).alloc (.map #[] 0)) bs M r := by
  have hb := heap_lt h
  have s0 := heap_setCell_lit (i := 2) h (.map (some (w.heap.size + 1)))
  have hz0 : (w.setCell ⟨bs, 2, none⟩ (.map (some (w.heap.size + 1)))).heap.size = w.heap.size := by simp
  have hA := MapKept.heap_alloc (w.setCell ⟨bs, 2, none⟩ (.map (some (w.heap.size + 1)))) (cBlk 0)
  have hA2 := MapKept.heap_alloc ((w.setCell ⟨bs, 2, none⟩ (.map (some (w.heap.size + 1)))).alloc (cBlk 0)) (.map #[] 0)
  have hz : ((w.setCell ⟨bs, 2, none⟩ (.map (some (w.heap.size + 1)))).alloc (cBlk 0)).heap.size = w.heap.size + 1 := by simp
  rw [hz] at hA2
  rw [hz0] at hA
  exact ⟨(hA2.2 bs (by omega)).trans ((hA.2 bs hb).trans s0), hA2.1, (hA2.2 _ (by omega)).trans hA.1, ((((Fr.refl _ _).setCell _ (.inl (by simp)) _).alloc _).alloc _), hb⟩

theorem Pre.store {w W : World} {bs : Nat} {M : Option Nat} {r : Int} (h : Pre w W bs M r) : Chn w (setO W (w.heap.size + 1) (qBlk w.heap.size)) bs (w.heap.size + 1) w.heap.size M r 0 := by
  have := h.lt
  exact ⟨(setO_ne _ _ _ _ (by omega)).trans h.s, setO_eq _ h.q, (setO_ne _ _ _ _ (by omega)).trans h.c, by omega, by omega, by omega, h.f.setO _ (.inr (by omega)) _⟩

theorem Chn.below {w w1 w2 : World} {bs bq bc : Nat} {M : Option Nat} {r c : Int} (h : Chn w w1 bs bq bc M r c) (hb : Below w1.heap.size w1 w2) : Chn w w2 bs bq bc M r c :=
  ⟨below_heap hb h.s, below_heap hb h.q, below_heap hb h.c, h.lq, h.lc, h.ne, h.f.trans (Fr.of_below hb)⟩

set_option maxRecDepth 100000 in
set_option maxHeartbeats 1000000 in
theorem source_new (bs : Nat) (M : Option Nat) (r : Int) (w : World) (h : w.heap[bs]? = some (sBlk M none r)) :
    Calls Try.prog 27 #[.pointer (some ⟨bs, 1, none⟩), .string ⟨#[97]⟩] w fun e w' => e = .returned (.pointer (some ⟨w.heap.size, 0, none⟩)) ∧ Chn w w' bs (w.heap.size + 1) w.heap.size M r 0 := by
  have c2 : w.cell? ⟨bs, 2, none⟩ = some (.map none) := heap_cell h
  have hb := heap_lt h
  have hA := MapKept.heap_alloc w (cBlk 0)
  have hA2 := MapKept.heap_alloc (w.alloc (cBlk 0)) (.map #[] 0)
  have d2 : ∀ o, (w.alloc o).cell? ⟨bs, 2, none⟩ = some (.map none) := fun o => heap_cell ((Below.heap_alloc w o bs hb).trans h)
  have e2 : ∀ o p, ((w.alloc o).alloc p).cell? ⟨bs, 2, none⟩ = some (.map none) := fun o p => heap_cell ((Below.heap_alloc (w.alloc o) p bs (by simp; omega)).trans ((Below.heap_alloc w o bs hb).trans h))
  have g2 : ∀ o p, ((w.alloc o).alloc p).frozen? ⟨bs, 2, none⟩ = false := fun o p => heap_frozen ((Below.heap_alloc (w.alloc o) p bs (by simp; omega)).trans ((Below.heap_alloc w o bs hb).trans h))
  have hmn : ∀ W : World, (binOp .eql 43 (.map none) (.map none)).run Try.prog W = .ok (.bool true) W := fun W => run_eql_map_nil W 43 9 71 none Try.underlying43
  have hmk : ∀ W : World, (Instr.makeMap 43 none).run Try.prog W = .ok (.map (some W.heap.size)) (W.alloc (.map #[] 0)) := fun W => @run_makeMap Try.prog 43 W
  have hl := lookq_nil w
  have HP : Hid (Pre w (((w.setCell ⟨bs, 2, none⟩ (.map (some (w.heap.size + 1)))).alloc (cBlk 0)).alloc (.map #[] 0)) bs M r) := pre_of h
  clear h hA hA2
  go_enter Try.func27, Try.ntmps27
  go_wp2
  have HP2 : Hid (Pre w (((w.setCell ⟨bs, 2, none⟩ (.map (some (w.heap.size + 1)))).alloc (.cells #[.int .i64 0] 70)).alloc (.map #[] 0)) bs M r) := HP
  generalize ((w.setCell ⟨bs, 2, none⟩ (.map (some (w.heap.size + 1)))).alloc (.cells #[.int .i64 0] 70)).alloc (.map #[] 0) = W at HP2 ⊢
  have d2 : W.cell? ⟨bs, 2, none⟩ = some (.map (some (w.heap.size + 1))) := heap_cell HP2.out.s
  have hst : ∀ W : World, W.heap[w.heap.size + 1]? = some (.map #[] 0) → (Instr.mapUpdate 43 (.map (some (w.heap.size + 1))) (.string ⟨#[97]⟩) (.pointer (some ⟨w.heap.size, 0, none⟩))).run Try.prog W = .ok () (setO W (w.heap.size + 1) (qBlk w.heap.size)) := fun W hW => storeq_new W (w.heap.size + 1) w.heap.size hW
  clear HP c2 e2 g2 hmn hmk hl hb
  go_region_with (go_at_call 25; go_must (refine (clone_any _ _ ?hh).mono ?_; (case hh => decide); rintro e w' ⟨rfl, hb⟩; have HP3 : Hid (Pre w w' bs M r) := (by first | exact HP2.out.below hb | exact HP2.out.drew.below hb); have d2' : w'.cell? ⟨bs, 2, none⟩ = some (.map (some (w.heap.size + 1))) := heap_cell HP3.out.s; have q2' := HP3.out.q))
  all_goals go_wp2
  all_goals go_ret
  all_goals exact ⟨rfl, HP3.out.store⟩

end Go.Proofs.Ytigolgnppcfceaa
