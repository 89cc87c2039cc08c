/-
  The program's session: text, full.
-/
import Derived.Test.YtigolgnppcfceaaW8
namespace Go.Proofs.Ytigolgnppcfceaa
open Go.RowKit

set_option maxHeartbeats 400000 in
theorem text_nil (bs : Nat) (w : World) (c0 : w.cell? ⟨bs, 0, none⟩ = some (.map none)) :
    Calls Try.prog 13 #[.pointer (some ⟨bs, 0, none⟩), .string ⟨#[97]⟩] w fun e w' => e = .returned (.tuple #[.string ⟨#[]⟩, .bool false]) ∧ Below w.heap.size w w' := by
  have hl := look_nil w
  go_enter Try.func13, Try.ntmps13
  go_wp2
  go_ret2
  exact ⟨rfl, (Below.refl _ _).alloc (Nat.le_refl _) _⟩

set_option maxHeartbeats 400000 in
theorem text_one (bs bm : Nat) (t : ByteArray) (w : World) (c0 : w.cell? ⟨bs, 0, none⟩ = some (.map (some bm))) (hm : w.heap[bm]? = some (mBlk t)) :
    Calls Try.prog 13 #[.pointer (some ⟨bs, 0, none⟩), .string ⟨#[97]⟩] w fun e w' => e = .returned (.tuple #[.string t, .bool true]) ∧ Below w.heap.size w w' := by
  have hl := look_one w bm t hm
  clear hm
  go_enter Try.func13, Try.ntmps13
  go_wp2
  go_ret2
  exact ⟨rfl, (Below.refl _ _).alloc (Nat.le_refl _) _⟩

set_option maxHeartbeats 400000 in
theorem full_nil (bs : Nat) (w : World) (c0 : w.cell? ⟨bs, 0, none⟩ = some (.map none)) :
    Calls Try.prog 14 #[.pointer (some ⟨bs, 0, none⟩)] w fun e w' => e = .returned (.bool false) ∧ w' = w := by
  have hl := Maps.len_nil (P := Try.prog) (w := w) Try.underlying42 3
  go_enter Try.func14, Try.ntmps14
  go_wp2
  go_ret
  exact ⟨rfl, rfl⟩

set_option maxHeartbeats 400000 in
theorem clone_any (s : ByteArray) (w : World) (hl : s.size ≤ 400) :
    Calls Try.prog 25 #[.string s] w fun e w' => e = .returned (.string s) ∧ Below w.heap.size w w' := by
  go_enter Try.func25, Try.ntmps25
  go_wp2_with (go_at_call 33; refine (Try.stringslite_Clone _ _ (by omega)).mono ?_; rintro e w' ⟨rfl, hb⟩)
  go_ret
  exact ⟨rfl, hb⟩

/-- The program's session: its files' map, the table's sources' map, the revision. -/
def sBlk (M Q : Option Nat) (r : Int) : Obj := .cells #[.map M, .int .i64 r, .map Q, .map none, .slice none 0 0, .slice none 0 0, .int .u64 0] 52
def cBlk (c : Int) : Obj := .cells #[.int .i64 c] 70



def setO (w : World) (b : Nat) (o : Obj) : World := { w with heap := w.heap.setIfInBounds b o }
theorem setO_ne (w : World) (b k : Nat) (o : Obj) (h : k ≠ b) : (setO w b o).heap[k]? = w.heap[k]? := by
  simp [setO, Ne.symm h]
theorem setO_eq {w : World} {b : Nat} {o' : Obj} (o : Obj) (h : w.heap[b]? = some o') : (setO w b o).heap[b]? = some o := by
  have := heap_lt h
  simp [setO, this]
theorem setO_cell (w : World) (b k i : Nat) (o : Obj) (h : k ≠ b) : (setO w b o).cell? ⟨k, i, none⟩ = w.cell? ⟨k, i, none⟩ := World.cell?_of_block (w := w) (setO_ne w b k o h)
theorem setO_frozen (w : World) (b k i : Nat) (o : Obj) (h : k ≠ b) : (setO w b o).frozen? ⟨k, i, none⟩ = w.frozen? ⟨k, i, none⟩ := World.frozen?_of_block (w := w) (setO_ne w b k o h)
theorem setO_drew (w : World) (b : Nat) (o : Obj) : setO w.drew b o = (setO w b o).drew := rfl

/-- The files' map at bm, the sources' at bq, the file's source at bc. -/
structure PC (hp : Array Obj) (bs bm bq bc : Nat) (r : Int) (o : Obj) : Prop where
  hs : hp[bs]? = some (sBlk (some bm) (some bq) r)
  hm : hp[bm]? = some o
  hq : hp[bq]? = some (qBlk bc)
  hc : ∃ c, hp[bc]? = some (cBlk c)
theorem PC.below {w w' : World} {bs bm bq bc : Nat} {r : Int} {o : Obj} (hb : Below w.heap.size w w') (h : PC w.heap bs bm bq bc r o) : PC w'.heap bs bm bq bc r o := ⟨below_heap hb h.hs, below_heap hb h.hm, below_heap hb h.hq, h.hc.imp fun _ e => below_heap hb e⟩
theorem PC.hid {w w' : World} {bs bm bq bc : Nat} {r : Int} {o : Obj} (hb : Below w.heap.size w w') (h : Hid (PC w.heap bs bm bq bc r o)) : Hid (PC w'.heap bs bm bq bc r o) := PC.below hb h.out
theorem PC.c0 {w : World} {bs bm bq bc : Nat} {r : Int} {o : Obj} (h : PC w.heap bs bm bq bc r o) : w.cell? ⟨bs, 0, none⟩ = some (.map (some bm)) := heap_cell h.hs
theorem PC.c1 {w : World} {bs bm bq bc : Nat} {r : Int} {o : Obj} (h : PC w.heap bs bm bq bc r o) : w.cell? ⟨bs, 1, none⟩ = some (.int .i64 r) := heap_cell h.hs
theorem PC.f1 {w : World} {bs bm bq bc : Nat} {r : Int} {o : Obj} (h : PC w.heap bs bm bq bc r o) : w.frozen? ⟨bs, 1, none⟩ = false := heap_frozen h.hs

/-- Hid facts on what a new world is, gathered: from the world a to this one. -/
theorem Fr.step {S : List Nat} {a w w' : World} (h : Hid (Fr S a w)) (hb : Below w.heap.size w w') : Hid (Fr S a w') := h.out.trans (Fr.of_below hb)

theorem Fr.dr {S : List Nat} {a w : World} (h : Hid (Fr S a w)) : Hid (Fr S a w.drew) := h.out.drew
theorem Fr.setO {S : List Nat} {a w : World} (h : Fr S a w) (b : Nat) (hb : b ∈ S ∨ a.heap.size ≤ b) (o : Obj) : Fr S a (setO w b o) :=
  ⟨h.os, h.tape, h.output, by have := h.size; simpa [Ytigolgnppcfceaa.setO] using this, fun k hk hn => by
    have hne : k ≠ b := by
      rintro rfl
      rcases hb with hb | hb
      · exact hn hb
      · omega
    rw [setO_ne _ _ _ _ hne]; exact h.block k hk hn⟩

set_option maxHeartbeats 400000 in
theorem begin_any (bs : Nat) (M Q : Option Nat) (r : Int) (w : World) (h : w.heap[bs]? = some (sBlk M Q r)) :
    Calls Try.prog 11 #[.pointer (some ⟨bs, 0, none⟩)] w fun e w' => e = .returned (.tuple #[]) ∧ w' = w := by
  have c4 : w.cell? ⟨bs, 4, none⟩ = some (.slice none 0 0) := heap_cell h
  have f4 : w.frozen? ⟨bs, 4, none⟩ = false := heap_frozen h
  have hs := setCell_same c4
  clear h
  go_enter Try.func11, Try.ntmps11
  go_wp2
  go_end0
  exact ⟨rfl, rfl⟩

set_option maxHeartbeats 400000 in
theorem rev_any (bs : Nat) (r : Int) (w : World) (c1 : w.cell? ⟨bs, 1, none⟩ = some (.int .i64 r)) :
    Calls Try.prog 15 #[.pointer (some ⟨bs, 1, none⟩)] w fun e w' => e = .returned (.int .i64 r) ∧ w' = w := by
  go_enter Try.func15, Try.ntmps15
  go_wp2
  go_ret
  exact ⟨rfl, rfl⟩

set_option maxHeartbeats 400000 in
theorem kept_any (bs : Nat) (w : World) (c5 : w.cell? ⟨bs, 5, none⟩ = some (.slice none 0 0)) :
    Calls Try.prog 28 #[.pointer (some ⟨bs, 1, none⟩)] w fun e w' => e = .returned (.int .i64 0) ∧ w' = w := by
  go_enter Try.func28, Try.ntmps28
  go_wp2
  go_ret
  exact ⟨rfl, rfl⟩

set_option maxHeartbeats 400000 in
theorem source_old (bs bq bc : Nat) (w : World) (c2 : w.cell? ⟨bs, 2, none⟩ = some (.map (some bq))) (hq : w.heap[bq]? = some (qBlk bc)) :
    Calls Try.prog 27 #[.pointer (some ⟨bs, 1, none⟩), .string ⟨#[97]⟩] w fun e w' => e = .returned (.pointer (some ⟨bc, 0, none⟩)) ∧ w' = w := by
  have hl := lookq_one w bq bc hq
  clear hq
  go_enter Try.func27, Try.ntmps27
  go_wp2
  go_ret
  exact ⟨rfl, rfl⟩

/-- The revision is one more, and the source has changed at it. -/
structure Chg (w w' : World) (bs bq bc : Nat) (M : Option Nat) (r : Int) : Prop where
  s : w'.heap[bs]? = some (sBlk M (some bq) r)
  q : w'.heap[bq]? = some (qBlk bc)
  c : w'.heap[bc]? = some (cBlk r)
  f : Fr [bs, bc] w w'

set_option maxHeartbeats 1000000 in
theorem change_old (bs bq bc : Nat) (M : Option Nat) (r c : Int) (w : World) (hr : 0 ≤ r) (hr2 : r < 1000) (h : w.heap[bs]? = some (sBlk M (some bq) r)) (hq : w.heap[bq]? = some (qBlk bc)) (hc : w.heap[bc]? = some (cBlk c)) (h1 : bc ≠ bs) (h2 : bq ≠ bs) (h3 : bq ≠ bc) :
    Calls Try.prog 20 #[.pointer (some ⟨bs, 1, none⟩), .string ⟨#[97]⟩] w fun e w' => e = .returned (.tuple #[]) ∧ Chg w w' bs bq bc M (r + 1) := by
  have c1 : w.cell? ⟨bs, 1, none⟩ = some (.int .i64 r) := heap_cell h
  have f1 : w.frozen? ⟨bs, 1, none⟩ = false := heap_frozen h
  have HS : Hid ((w.setCell ⟨bs, 1, none⟩ (.int .i64 (r + 1))).heap[bs]? = some (sBlk M (some bq) (r + 1))) := heap_setCell_lit (i := 1) h (.int .i64 (r + 1))
  have HQ : Hid ((w.setCell ⟨bs, 1, none⟩ (.int .i64 (r + 1))).heap[bq]? = some (qBlk bc)) := (heap_setCell_ne h2 _).trans hq
  have HC : Hid ((w.setCell ⟨bs, 1, none⟩ (.int .i64 (r + 1))).heap[bc]? = some (cBlk c)) := (heap_setCell_ne h1 _).trans hc
  have HF : Hid (Fr [bs, bc] w (w.setCell ⟨bs, 1, none⟩ (.int .i64 (r + 1)))) := (Fr.refl _ _).setCell _ (.inl (by simp)) _
  have HN : Hid (bc ≠ bs) := h1
  have HN3 : Hid (bq ≠ bc) := h3
  clear h hq hc
  go_enter Try.func20, Try.ntmps20
  go_wp2
  generalize w.setCell ⟨bs, 1, none⟩ (.int .i64 (r + 1)) = W at HS HQ HC HF ⊢
  have d1 : W.cell? ⟨bs, 1, none⟩ = some (.int .i64 (r + 1)) := heap_cell HS.out
  have d2 : W.cell? ⟨bs, 2, none⟩ = some (.map (some bq)) := heap_cell HS.out
  have e0 : W.cell? ⟨bc, 0, none⟩ = some (.int .i64 c) := heap_cell HC.out
  have k0 : W.frozen? ⟨bc, 0, none⟩ = false := heap_frozen HC.out
  clear c1 f1 h1 h2 h3
  go_region_with (go_at_call 27; go_must (refine (source_old bs bq bc _ (by exact d2) (by exact HQ.out)).mono ?_; rintro e w' ⟨rfl, rfl⟩))
  all_goals go_wp2
  all_goals go_end0
  all_goals exact ⟨rfl, (heap_setCell_ne HN.out.symm _).trans HS.out, (heap_setCell_ne HN3.out _).trans HQ.out, heap_setCell_lit (i := 0) HC.out _, (HF.out.setCell _ (.inl (by simp)) _).drew⟩

end Go.Proofs.Ytigolgnppcfceaa
