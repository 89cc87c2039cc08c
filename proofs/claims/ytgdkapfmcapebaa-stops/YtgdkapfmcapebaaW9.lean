/-
  The program's session: text, full.
-/
import Derived.Test.YtgdkapfmcapebaaW8
namespace Go.Proofs.Ytgdkapfmcapebaa
open Go.RowKit

set_option maxHeartbeats 400000 in
theorem text_nil (bs : Nat) (w : World) (c0 : w.cell? ⟨bs, 0, none⟩ = some (.map none)) :
    Calls Try.prog 12 #[.pointer (some ⟨bs, 0, none⟩), .string ⟨#[97]⟩] w fun e w' => e = .returned (.tuple #[.string ⟨#[]⟩, .bool false]) ∧ Below w.heap.size w w' := by
  have hl := look_nil w
  go_enter Try.func12, Try.ntmps12
  go_wp2
  go_ret2
  exact ⟨rfl, (Below.refl _ _).alloc (Nat.le_refl _) _⟩

set_option maxHeartbeats 400000 in
theorem text_one (bs bm : Nat) (t : ByteArray) (w : World) (c0 : w.cell? ⟨bs, 0, none⟩ = some (.map (some bm))) (hm : w.heap[bm]? = some (mBlk t)) :
    Calls Try.prog 12 #[.pointer (some ⟨bs, 0, none⟩), .string ⟨#[97]⟩] w fun e w' => e = .returned (.tuple #[.string t, .bool true]) ∧ Below w.heap.size w w' := by
  have hl := look_one w bm t hm
  clear hm
  go_enter Try.func12, Try.ntmps12
  go_wp2
  go_ret2
  exact ⟨rfl, (Below.refl _ _).alloc (Nat.le_refl _) _⟩

set_option maxHeartbeats 400000 in
theorem full_nil (bs : Nat) (w : World) (c0 : w.cell? ⟨bs, 0, none⟩ = some (.map none)) :
    Calls Try.prog 13 #[.pointer (some ⟨bs, 0, none⟩)] w fun e w' => e = .returned (.bool false) ∧ w' = w := by
  have hl := Maps.len_nil (P := Try.prog) (w := w) Try.underlying42 3
  go_enter Try.func13, Try.ntmps13
  go_wp2
  go_ret
  exact ⟨rfl, rfl⟩

set_option maxHeartbeats 400000 in
theorem clone_any (s : ByteArray) (w : World) (hl : s.size ≤ 400) :
    Calls Try.prog 21 #[.string s] w fun e w' => e = .returned (.string s) ∧ Below w.heap.size w w' := by
  go_enter Try.func21, Try.ntmps21
  go_wp2_with (go_at_call 27; refine (Try.stringslite_Clone _ _ (by omega)).mono ?_; rintro e w' ⟨rfl, hb⟩)
  go_ret
  exact ⟨rfl, hb⟩

def sBlk (M : Option Nat) (r : Int) : Obj := .cells #[.map M, .int .i64 r] 44


def setO (w : World) (b : Nat) (o : Obj) : World := { w with heap := w.heap.setIfInBounds b o }
theorem setO_ne (w : World) (b k : Nat) (o : Obj) (h : k ≠ b) : (setO w b o).heap[k]? = w.heap[k]? := by
  simp [setO, Ne.symm h]
theorem setO_eq {w : World} {b : Nat} {o' : Obj} (o : Obj) (h : w.heap[b]? = some o') : (setO w b o).heap[b]? = some o := by
  have := heap_lt h
  simp [setO, this]
theorem setO_cell (w : World) (b k i : Nat) (o : Obj) (h : k ≠ b) : (setO w b o).cell? ⟨k, i, none⟩ = w.cell? ⟨k, i, none⟩ := World.cell?_of_block (w := w) (setO_ne w b k o h)
theorem setO_frozen (w : World) (b k i : Nat) (o : Obj) (h : k ≠ b) : (setO w b o).frozen? ⟨k, i, none⟩ = w.frozen? ⟨k, i, none⟩ := World.frozen?_of_block (w := w) (setO_ne w b k o h)
theorem setO_drew (w : World) (b : Nat) (o : Obj) : setO w.drew b o = (setO w b o).drew := rfl

structure PC (hp : Array Obj) (bs bm : Nat) (r : Int) (o : Obj) : Prop where
  hs : hp[bs]? = some (sBlk (some bm) r)
  hm : hp[bm]? = some o
theorem PC.below {w w' : World} {bs bm : Nat} {r : Int} {o : Obj} (hb : Below w.heap.size w w') (h : PC w.heap bs bm r o) : PC w'.heap bs bm r o := ⟨below_heap hb h.hs, below_heap hb h.hm⟩
theorem PC.hid {w w' : World} {bs bm : Nat} {r : Int} {o : Obj} (hb : Below w.heap.size w w') (h : Hid (PC w.heap bs bm r o)) : Hid (PC w'.heap bs bm r o) := PC.below hb h.out
theorem PC.c0 {w : World} {bs bm : Nat} {r : Int} {o : Obj} (h : PC w.heap bs bm r o) : w.cell? ⟨bs, 0, none⟩ = some (.map (some bm)) := heap_cell h.hs
theorem PC.c1 {w : World} {bs bm : Nat} {r : Int} {o : Obj} (h : PC w.heap bs bm r o) : w.cell? ⟨bs, 1, none⟩ = some (.int .i64 r) := heap_cell h.hs
theorem PC.f1 {w : World} {bs bm : Nat} {r : Int} {o : Obj} (h : PC w.heap bs bm r o) : w.frozen? ⟨bs, 1, none⟩ = false := heap_frozen h.hs

/-- Hid facts on what a new world is, gathered: from the world a to this one. -/
theorem Fr.step {S : List Nat} {a w w' : World} (h : Hid (Fr S a w)) (hb : Below w.heap.size w w') : Hid (Fr S a w') := h.out.trans (Fr.of_below hb)

theorem Fr.dr {S : List Nat} {a w : World} (h : Hid (Fr S a w)) : Hid (Fr S a w.drew) := h.out.drew
theorem Fr.setO {S : List Nat} {a w : World} (h : Fr S a w) (b : Nat) (hb : b ∈ S ∨ a.heap.size ≤ b) (o : Obj) : Fr S a (setO w b o) :=
  ⟨h.os, h.tape, h.output, by have := h.size; simpa [Ytgdkapfmcapebaa.setO] using this, fun k hk hn => by
    have hne : k ≠ b := by
      rintro rfl
      rcases hb with hb | hb
      · exact hn hb
      · omega
    rw [setO_ne _ _ _ _ hne]; exact h.block k hk hn⟩

theorem put_world {w : World} {bs bm : Nat} {r : Int} {o : Obj} (hne : bm ≠ bs) (h : PC w.heap bs bm r o) (o' : Obj) (q : Int) :
    PC ((setO w bm o').setCell ⟨bs, 1, none⟩ (.int .i64 q)).heap bs bm q o' := by
  refine ⟨?_, ?_⟩
  · exact heap_setCell_lit (i := 1) ((setO_ne w bm bs o' hne.symm).trans h.hs) _
  · rw [heap_setCell_ne hne]; exact setO_eq o' h.hm

theorem put_fr {a w : World} {S : List Nat} {bs bm : Nat} (h : Fr S a w) (h1 : bs ∈ S) (h2 : bm ∈ S ∨ a.heap.size ≤ bm) (o' : Obj) (q : Int) : Fr S a ((setO w bm o').setCell ⟨bs, 1, none⟩ (.int .i64 q)) :=
  (h.setO bm h2 o').setCell _ (.inl h1) _

set_option maxHeartbeats 1000000 in
theorem put_old (t t0 : ByteArray) (bs bm : Nat) (r : Int) (w : World) (hl : t.size ≤ 400) (hr : 0 ≤ r) (hr2 : r < 1000) (hne : bm ≠ bs) (h : PC w.heap bs bm r (mBlk t0)) :
    Calls Try.prog 14 #[.pointer (some ⟨bs, 0, none⟩), .string ⟨#[97]⟩, .string t] w fun e w' => e = .returned (.tuple #[]) ∧ PC w'.heap bs bm (r + 1) (mBlk t) ∧ Fr [bs, bm] w w' := by
  have c0 := h.c0
  have hP : Hid (PC w.heap bs bm r (mBlk t0)) := h
  clear h
  have hF : Hid (Fr [bs, bm] w w) := Fr.refl _ _
  have hmn : ∀ W : World, (binOp .eql 42 (.map (some bm)) (.map none)).run Try.prog W = .ok (.bool false) W := fun W => run_eql_map_nil W 42 9 56 (some bm) Try.underlying42
  have hst : ∀ W : World, W.heap[bm]? = some (mBlk t0) → (Instr.mapUpdate 42 (.map (some bm)) (.string ⟨#[97]⟩) (.agg #[.string t])).run Try.prog W = .ok () (setO W bm (mBlk t)) := fun W hW => store_old W bm t t0 hW
  have hnb : bs ≠ bm := Ne.symm hne
  have hsc : ∀ W : World, (setO W bm (mBlk t)).cell? ⟨bs, 1, none⟩ = W.cell? ⟨bs, 1, none⟩ := fun W => setO_cell W bm bs 1 _ hnb
  have hsf : ∀ W : World, (setO W bm (mBlk t)).frozen? ⟨bs, 1, none⟩ = W.frozen? ⟨bs, 1, none⟩ := fun W => setO_frozen W bm bs 1 _ hnb
  have hdh : ∀ W : World, W.drew.heap = W.heap := fun W => rfl
  have hdo : ∀ W : World, setO W.drew bm (mBlk t) = (setO W bm (mBlk t)).drew := fun W => rfl
  have HNE : Hid (bm ≠ bs) := hne
  clear hne
  go_enter Try.func14, Try.ntmps14
  go_wp2
  go_region_with (go_at_call 21; go_must (refine (clone_any _ _ ?hh).mono ?_; (case hh => (first | exact hl | decide)); rintro e w' ⟨rfl, hb⟩; have hF : Hid (Fr [bs, bm] w w') := (by first | exact Fr.step hF hb | exact Fr.step (Fr.dr hF) hb | exact Fr.step (Fr.dr (Fr.dr hF)) hb); have hP := PC.hid hb hP; have hm' := hP.out.hm; have c0' := hP.out.c0; have c1' := hP.out.c1; have f1' := hP.out.f1))
  all_goals go_wp2
  all_goals go_end0
  all_goals exact ⟨rfl, put_world HNE.out hP.out _ _, put_fr hF.out (by simp) (.inl (by simp)) _ _⟩
end Go.Proofs.Ytgdkapfmcapebaa
