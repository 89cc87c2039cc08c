/-
  The sessions at a first Set of the file a: the program's Set.
  The document's engine: Ask of the next kind.
  The document's engine: Ask of the kinds 1 to 4, one behind the other.
  The program's session with a file a or none: text, known, tokens, tree, the question's check.
  The program's Ask of the kinds 1 to 4.
  The program's text of an item is one.
  Pure facts of a text's items.
-/
import Derived.Test.YtedipbfomdnnnaaGreatDoorQ19
import Derived.Test.YtedipbfomdnnnaaGreatDoorShelf
import Derived.Maps.OwnSet

set_option linter.unusedVariables false
set_option linter.unusedSimpArgs false

namespace Go.Proofs.YtedipbfomdnnnaaGreatDoor.Ses
open Go.RowKit


def mEs (t : ByteArray) : Array MapEntry := #[{ key := .string ⟨#[97]⟩, val := .agg #[.string t], born := 0 }]
def mBlk (t : ByteArray) : Obj := .map (mEs t) 1
theorem isKA : MapKept.IsKey .string (.string ⟨#[97]⟩) := by simp [MapKept.IsKey]
theorem zero56 (w : World) : (zeroValue 73).run Tryz.prog w = .ok (.agg #[.string ⟨#[]⟩]) w := by kernel_rfl
theorem findA (t : ByteArray) : Instr.findNow .string (.string ⟨#[97]⟩) (mEs t).toList 0 = some (some (0, .agg #[.string t])) := rfl

theorem look_nil (w : World) : (Instr.lookup 41 (.map none) (.string ⟨#[97]⟩) true).run Tryz.prog w = .ok (.tuple #[.agg #[.string ⟨#[]⟩], .bool false]) w := by
  kernel_rfl

theorem look_one (w : World) (b : Nat) (t : ByteArray) (h : w.heap[b]? = some (mBlk t)) :
    (Instr.lookup 41 (.map (some b)) (.string ⟨#[97]⟩) true).run Tryz.prog w = .ok (.tuple #[.agg #[.string t], .bool true]) w := by
  simp [Instr.lookup, run_underlying Tryz.underlying41, MapKept.run_getObj_map h, MapKept.run_checkKey Tryz.underlying9 isKA, MapKept.run_findKey Tryz.underlying9 (findA t), Result.andThen]

theorem store_new (w : World) (b : Nat) (t : ByteArray) (h : w.heap[b]? = some (.map #[] 0)) :
    (Instr.mapUpdate 41 (.map (some b)) (.string ⟨#[97]⟩) (.agg #[.string t])).run Tryz.prog w = .ok () { w with heap := w.heap.setIfInBounds b (mBlk t) } := by
  have hf : Instr.findNow .string (.string ⟨#[97]⟩) ([] : List MapEntry) 0 = some none := rfl
  simp [Instr.mapUpdate, run_underlying Tryz.underlying41, MapKept.run_getObj_map h, MapKept.run_checkKey Tryz.underlying9 isKA, MapKept.run_findKey Tryz.underlying9 hf, MapKept.run_setObj_map _ h, Result.andThen, mBlk, mEs]

theorem store_old (w : World) (b : Nat) (t t0 : ByteArray) (h : w.heap[b]? = some (mBlk t0)) :
    (Instr.mapUpdate 41 (.map (some b)) (.string ⟨#[97]⟩) (.agg #[.string t])).run Tryz.prog w = .ok () { w with heap := w.heap.setIfInBounds b (mBlk t) } := by
  have hk : (Instr.keyThatStays (.string ⟨#[97]⟩) (.string ⟨#[97]⟩)).run Tryz.prog w = .ok (.string ⟨#[97]⟩) w := MapKept.run_keyThatStays isKA
  have hj : (mEs t0)[0]? = some { key := .string ⟨#[97]⟩, val := .agg #[.string t0], born := 0 } := rfl
  simp [Instr.mapUpdate, run_underlying Tryz.underlying41, MapKept.run_getObj_map h, MapKept.run_checkKey Tryz.underlying9 isKA, MapKept.run_findKey Tryz.underlying9 (findA t0), hj, hk, MapKept.run_setObj_map _ h, Result.andThen, mBlk]
  simp [mEs]

theorem delete_one (w : World) (b : Nat) (t : ByteArray) (ty : TypeId) (h : w.heap[b]? = some (mBlk t)) :
    (Builtin.delete_ #[41, 9] ty #[.map (some b), .string ⟨#[97]⟩]).run Tryz.prog w = .ok (.tuple #[]) { w with heap := w.heap.setIfInBounds b (.map #[] 1) } := by
  simp [Builtin.delete_, run_underlying Tryz.underlying41, MapKept.run_getObj_map h, MapKept.run_checkKey Tryz.underlying9 isKA, MapKept.run_findKey Tryz.underlying9 (findA t), MapKept.run_setObj_map _ h, Result.andThen]
  simp [mEs]


set_option maxRecDepth 100000 in
set_option maxHeartbeats 400000 in
theorem text_nil (bs : Nat) (w : World) (c0 : w.cell? ⟨bs, 0, none⟩ = some (.map none)) :
    Calls Tryz.prog 12 #[.pointer (some ⟨bs, 0, none⟩), .string ⟨#[97]⟩] w fun e w' => e = .returned (.tuple #[.string ⟨#[]⟩, .bool false]) ∧ Below w.heap.size w w' := by
  have hl := look_nil w
  go_enter Tryz.func12, Tryz.ntmps12
  go_wp2
  go_ret2
  exact ⟨rfl, (Below.refl _ _).alloc (Nat.le_refl _) _⟩

set_option maxRecDepth 100000 in
set_option maxHeartbeats 400000 in
theorem text_one (bs bm : Nat) (t : ByteArray) (w : World) (c0 : w.cell? ⟨bs, 0, none⟩ = some (.map (some bm))) (hm : w.heap[bm]? = some (mBlk t)) :
    Calls Tryz.prog 12 #[.pointer (some ⟨bs, 0, none⟩), .string ⟨#[97]⟩] w fun e w' => e = .returned (.tuple #[.string t, .bool true]) ∧ Below w.heap.size w w' := by
  have hl := look_one w bm t hm
  clear hm
  go_enter Tryz.func12, Tryz.ntmps12
  go_wp2
  go_ret2
  exact ⟨rfl, (Below.refl _ _).alloc (Nat.le_refl _) _⟩

set_option maxRecDepth 100000 in
set_option maxHeartbeats 400000 in
theorem full_nil (bs : Nat) (w : World) (c0 : w.cell? ⟨bs, 0, none⟩ = some (.map none)) :
    Calls Tryz.prog 13 #[.pointer (some ⟨bs, 0, none⟩)] w fun e w' => e = .returned (.bool false) ∧ w' = w := by
  have hl := Maps.len_nil (P := Tryz.prog) (w := w) Tryz.underlying41 3
  go_enter Tryz.func13, Tryz.ntmps13
  go_wp2
  go_ret
  exact ⟨rfl, rfl⟩

set_option maxRecDepth 100000 in
set_option maxHeartbeats 400000 in
theorem clone_any (s : ByteArray) (w : World) (hl : s.size ≤ 400) :
    Calls Tryz.prog 32 #[.string s] w fun e w' => e = .returned (.string s) ∧ Below w.heap.size w w' := by
  go_enter Tryz.func32, Tryz.ntmps32
  go_wp2_with (go_at_call 53; refine (Tryz.stringslite_Clone _ _ (by omega)).mono ?_; rintro e w' ⟨rfl, hb⟩)
  go_ret
  exact ⟨rfl, hb⟩

def sBlk (M : Option Nat) (r : Int) : Obj := .cells #[.map M, .int .i64 r] 43


def setO (w : World) (b : Nat) (o : Obj) : World := { w with heap := w.heap.setIfInBounds b o }
theorem setO_ne (w : World) (b k : Nat) (o : Obj) (h : k ≠ b) : (setO w b o).heap[k]? = w.heap[k]? := by
  simp [setO, Ne.symm h]
theorem setO_eq {w : World} {b : Nat} {o' : Obj} (o : Obj) (h : w.heap[b]? = some o') : (setO w b o).heap[b]? = some o := by
  have := heap_lt h
  simp [setO, this]
theorem setO_cell (w : World) (b k i : Nat) (o : Obj) (h : k ≠ b) : (setO w b o).cell? ⟨k, i, none⟩ = w.cell? ⟨k, i, none⟩ := World.cell?_of_block (w := w) (setO_ne w b k o h)
theorem setO_frozen (w : World) (b k i : Nat) (o : Obj) (h : k ≠ b) : (setO w b o).frozen? ⟨k, i, none⟩ = w.frozen? ⟨k, i, none⟩ := World.frozen?_of_block (w := w) (setO_ne w b k o h)
theorem setO_drew (w : World) (b : Nat) (o : Obj) : setO w.drew b o = (setO w b o).drew := rfl

structure PC (hp : Array Obj) (bs bm : Nat) (r : Int) (o : Obj) : Prop where
  hs : hp[bs]? = some (sBlk (some bm) r)
  hm : hp[bm]? = some o
theorem PC.below {w w' : World} {bs bm : Nat} {r : Int} {o : Obj} (hb : Below w.heap.size w w') (h : PC w.heap bs bm r o) : PC w'.heap bs bm r o := ⟨below_heap hb h.hs, below_heap hb h.hm⟩
theorem PC.hid {w w' : World} {bs bm : Nat} {r : Int} {o : Obj} (hb : Below w.heap.size w w') (h : Hid (PC w.heap bs bm r o)) : Hid (PC w'.heap bs bm r o) := PC.below hb h.out
theorem PC.c0 {w : World} {bs bm : Nat} {r : Int} {o : Obj} (h : PC w.heap bs bm r o) : w.cell? ⟨bs, 0, none⟩ = some (.map (some bm)) := heap_cell h.hs
theorem PC.c1 {w : World} {bs bm : Nat} {r : Int} {o : Obj} (h : PC w.heap bs bm r o) : w.cell? ⟨bs, 1, none⟩ = some (.int .i64 r) := heap_cell h.hs
theorem PC.f1 {w : World} {bs bm : Nat} {r : Int} {o : Obj} (h : PC w.heap bs bm r o) : w.frozen? ⟨bs, 1, none⟩ = false := heap_frozen h.hs

/-- Hid facts on what a new world is, gathered: from the world a to this one. -/
theorem Fr.step {S : List Nat} {a w w' : World} (h : Hid (Fr S a w)) (hb : Below w.heap.size w w') : Hid (Fr S a w') := h.out.trans (Fr.of_below hb)

theorem Fr.dr {S : List Nat} {a w : World} (h : Hid (Fr S a w)) : Hid (Fr S a w.drew) := h.out.drew
theorem Fr.setO {S : List Nat} {a w : World} (h : Fr S a w) (b : Nat) (hb : b ∈ S ∨ a.heap.size ≤ b) (o : Obj) : Fr S a (setO w b o) :=
  ⟨h.os, h.tape, h.output, by have := h.size; simpa [Ses.setO] using this, fun k hk hn => by
    have hne : k ≠ b := by
      rintro rfl
      rcases hb with hb | hb
      · exact hn hb
      · omega
    rw [setO_ne _ _ _ _ hne]; exact h.block k hk hn⟩

theorem put_world {w : World} {bs bm : Nat} {r : Int} {o : Obj} (hne : bm ≠ bs) (h : PC w.heap bs bm r o) (o' : Obj) (q : Int) :
    PC ((setO w bm o').setCell ⟨bs, 1, none⟩ (.int .i64 q)).heap bs bm q o' := by
  refine ⟨?_, ?_⟩
  · exact heap_setCell_lit (i := 1) ((setO_ne w bm bs o' hne.symm).trans h.hs) _
  · rw [heap_setCell_ne hne]; exact setO_eq o' h.hm

theorem put_fr {a w : World} {S : List Nat} {bs bm : Nat} (h : Fr S a w) (h1 : bs ∈ S) (h2 : bm ∈ S ∨ a.heap.size ≤ bm) (o' : Obj) (q : Int) : Fr S a ((setO w bm o').setCell ⟨bs, 1, none⟩ (.int .i64 q)) :=
  (h.setO bm h2 o').setCell _ (.inl h1) _

set_option maxRecDepth 100000 in
set_option maxHeartbeats 1000000 in
theorem put_old (t t0 : ByteArray) (bs bm : Nat) (r : Int) (w : World) (hl : t.size ≤ 400) (hr : 0 ≤ r) (hr2 : r < 1000) (hne : bm ≠ bs) (h : PC w.heap bs bm r (mBlk t0)) :
    Calls Tryz.prog 14 #[.pointer (some ⟨bs, 0, none⟩), .string ⟨#[97]⟩, .string t] w fun e w' => e = .returned (.tuple #[]) ∧ PC w'.heap bs bm (r + 1) (mBlk t) ∧ Fr [bs, bm] w w' := by
  have c0 := h.c0
  have hP : Hid (PC w.heap bs bm r (mBlk t0)) := h
  clear h
  have hF : Hid (Fr [bs, bm] w w) := Fr.refl _ _
  have hmn : ∀ W : World, (binOp .eql 41 (.map (some bm)) (.map none)).run Tryz.prog W = .ok (.bool false) W := fun W => run_eql_map_nil W 41 9 73 (some bm) Tryz.underlying41
  have hst : ∀ W : World, W.heap[bm]? = some (mBlk t0) → (Instr.mapUpdate 41 (.map (some bm)) (.string ⟨#[97]⟩) (.agg #[.string t])).run Tryz.prog W = .ok () (setO W bm (mBlk t)) := fun W hW => store_old W bm t t0 hW
  have hnb : bs ≠ bm := Ne.symm hne
  have hsc : ∀ W : World, (setO W bm (mBlk t)).cell? ⟨bs, 1, none⟩ = W.cell? ⟨bs, 1, none⟩ := fun W => setO_cell W bm bs 1 _ hnb
  have hsf : ∀ W : World, (setO W bm (mBlk t)).frozen? ⟨bs, 1, none⟩ = W.frozen? ⟨bs, 1, none⟩ := fun W => setO_frozen W bm bs 1 _ hnb
  have hdh : ∀ W : World, W.drew.heap = W.heap := fun W => rfl
  have hdo : ∀ W : World, setO W.drew bm (mBlk t) = (setO W bm (mBlk t)).drew := fun W => rfl
  have HNE : Hid (bm ≠ bs) := hne
  clear hne
  go_enter Tryz.func14, Tryz.ntmps14
  go_wp2
  go_region_with (go_at_call 32; go_must (refine (clone_any _ _ ?hh).mono ?_; (case hh => (first | exact hl | decide)); rintro e w' ⟨rfl, hb⟩; have hF : Hid (Fr [bs, bm] w w') := (by first | exact Fr.step hF hb | exact Fr.step (Fr.dr hF) hb | exact Fr.step (Fr.dr (Fr.dr hF)) hb); have hP := PC.hid hb hP; have hm' := hP.out.hm; have c0' := hP.out.c0; have c1' := hP.out.c1; have f1' := hP.out.f1))
  all_goals go_wp2
  all_goals go_end0
  all_goals exact ⟨rfl, put_world HNE.out hP.out _ _, put_fr hF.out (by simp) (.inl (by simp)) _ _⟩


theorem put_first_world {w : World} {bs : Nat} {r : Int} (h : w.heap[bs]? = some (sBlk none r)) :
    PC ((w.alloc (.map #[] 0)).setCell ⟨bs, 0, none⟩ (.map (some w.heap.size))).heap bs w.heap.size r (.map #[] 0) := by
  have hb := heap_lt h
  have hA := MapKept.heap_alloc w (.map #[] 0)
  refine ⟨?_, ?_⟩
  · exact heap_setCell_lit (i := 0) ((hA.2 bs hb).trans h) _
  · rw [heap_setCell_ne (by omega)]
    exact hA.1

set_option maxRecDepth 100000 in
set_option maxHeartbeats 1000000 in
theorem put_new (t : ByteArray) (bs : Nat) (r : Int) (w : World) (hl : t.size ≤ 400) (hr : 0 ≤ r) (hr2 : r < 1000) (h : w.heap[bs]? = some (sBlk none r)) :
    Calls Tryz.prog 14 #[.pointer (some ⟨bs, 0, none⟩), .string ⟨#[97]⟩, .string t] w fun e w' => e = .returned (.tuple #[]) ∧ PC w'.heap bs w.heap.size (r + 1) (mBlk t) ∧ Fr [bs] w w' := by
  have c0 : w.cell? ⟨bs, 0, none⟩ = some (.map none) := heap_cell h
  have c1 : w.cell? ⟨bs, 1, none⟩ = some (.int .i64 r) := heap_cell h
  have f0 : w.frozen? ⟨bs, 0, none⟩ = false := heap_frozen h
  have f1 : w.frozen? ⟨bs, 1, none⟩ = false := heap_frozen h
  have hnb : bs ≠ w.heap.size := by have := heap_lt h; omega
  have HNE : Hid (w.heap.size ≠ bs) := hnb.symm
  have hP : Hid (PC ((w.alloc (.map #[] 0)).setCell ⟨bs, 0, none⟩ (.map (some w.heap.size))).heap bs w.heap.size r (.map #[] 0)) := put_first_world h
  have hF : Hid (Fr [bs] w ((w.alloc (.map #[] 0)).setCell ⟨bs, 0, none⟩ (.map (some w.heap.size)))) := ((Fr.refl _ _).alloc _).setCell _ (.inl (by simp)) _
  have ca0 : ∀ o, (w.alloc o).cell? ⟨bs, 0, none⟩ = some (.map none) := fun o => heap_cell ((Below.heap_alloc w o bs (heap_lt h)).trans h)
  have cf0 : ∀ o, (w.alloc o).frozen? ⟨bs, 0, none⟩ = false := fun o => heap_frozen ((Below.heap_alloc w o bs (heap_lt h)).trans h)
  clear h
  have hmn : ∀ W : World, (binOp .eql 41 (.map none) (.map none)).run Tryz.prog W = .ok (.bool true) W := fun W => run_eql_map_nil W 41 9 73 none Tryz.underlying41
  obtain ⟨bm, hbm⟩ : ∃ bm, bm = w.heap.size := ⟨_, rfl⟩
  have hmk : ∀ W : World, (Instr.makeMap 41 none).run Tryz.prog W = .ok (.map (some W.heap.size)) (W.alloc (.map #[] 0)) := fun W => @run_makeMap Tryz.prog 41 W
  have hst : ∀ W : World, W.heap[w.heap.size]? = some (.map #[] 0) → (Instr.mapUpdate 41 (.map (some w.heap.size)) (.string ⟨#[97]⟩) (.agg #[.string t])).run Tryz.prog W = .ok () (setO W w.heap.size (mBlk t)) := fun W hW => store_new W w.heap.size t hW
  have hsc : ∀ W : World, (setO W w.heap.size (mBlk t)).cell? ⟨bs, 1, none⟩ = W.cell? ⟨bs, 1, none⟩ := fun W => setO_cell W w.heap.size bs 1 _ hnb
  have hsf : ∀ W : World, (setO W w.heap.size (mBlk t)).frozen? ⟨bs, 1, none⟩ = W.frozen? ⟨bs, 1, none⟩ := fun W => setO_frozen W w.heap.size bs 1 _ hnb
  have hdh : ∀ W : World, W.drew.heap = W.heap := fun W => rfl
  have hdo : ∀ W : World, setO W.drew w.heap.size (mBlk t) = (setO W w.heap.size (mBlk t)).drew := fun W => rfl
  clear hbm bm
  go_enter Tryz.func14, Tryz.ntmps14
  go_wp2
  go_region_with (go_at_call 32; go_must (refine (clone_any _ _ ?hh).mono ?_; (case hh => (first | exact hl | decide)); rintro e w' ⟨rfl, hb⟩; have hF : Hid (Fr [bs] w w') := (by first | exact Fr.step hF hb | exact Fr.step (Fr.dr hF) hb | exact Fr.step (Fr.dr (Fr.dr hF)) hb); have hP := PC.hid hb hP; have hm' := hP.out.hm; have c0' := hP.out.c0; have c1' := hP.out.c1; have f1' := hP.out.f1))
  all_goals go_wp2
  all_goals go_end0
  all_goals exact ⟨rfl, put_world HNE.out hP.out _ _, put_fr hF.out (by simp) (.inr (Nat.le_refl _)) _ _⟩


set_option maxRecDepth 100000 in
set_option maxHeartbeats 400000 in
theorem set_long (t : ByteArray) (a : Value) (w : World) (hl : 400 < t.size) (hm : t.size ≤ maxLen) :
    Calls Tryz.prog 6 #[a, .string ⟨#[97]⟩, .string t] w fun e w' => e = .returned (.int .i64 2) ∧ w' = w := by
  unfold maxLen at hm
  go_enter Tryz.func6, Tryz.ntmps6
  go_wp2_with (go_at_call 11; refine (isFile_a _).mono ?_; rintro e w' ⟨rfl, rfl⟩)
  go_ret
  exact ⟨rfl, rfl⟩

set_option maxRecDepth 100000 in
set_option maxHeartbeats 400000 in
theorem set_new (t : ByteArray) (bs : Nat) (r : Int) (w : World) (hl : t.size ≤ 400) (hr : 0 ≤ r) (hr2 : r < 1000) (h : w.heap[bs]? = some (sBlk none r)) :
    Calls Tryz.prog 6 #[.pointer (some ⟨bs, 0, none⟩), .string ⟨#[97]⟩, .string t] w fun e w' => e = .returned (.int .i64 0) ∧ ∃ bm, w.heap.size ≤ bm ∧ PC w'.heap bs bm (r + 1) (mBlk t) ∧ Fr [bs] w w' := by
  have HH : Hid (w.heap[bs]? = some (sBlk none r)) := h
  have c0 : w.cell? ⟨bs, 0, none⟩ = some (.map none) := heap_cell h
  clear h
  go_enter Tryz.func6, Tryz.ntmps6
  go_wp2_with (first
    | (go_at_call 11; refine (isFile_a _).mono ?_; rintro e w' ⟨rfl, rfl⟩)
    | (go_at_call 12; go_must (refine (text_nil _ _ c0).mono ?_; rintro e w' ⟨rfl, hb⟩; have h1 := below_heap hb HH.out; have c0' : w'.cell? ⟨bs, 0, none⟩ = some (.map none) := heap_cell h1; have c1' : w'.cell? ⟨bs, 1, none⟩ = some (.int .i64 r) := heap_cell h1; have H1 : Hid (w'.heap[bs]? = some (sBlk none r)) := h1; clear h1))
    | (go_at_call 13; go_must (refine (full_nil _ _ c0').mono ?_; rintro e w' ⟨rfl, rfl⟩))
    | (go_at_call 14; go_must (refine (put_new t bs r _ hl hr hr2 H1.out).mono ?_; rintro e w2 ⟨rfl, hP, hF⟩)))
  go_ret
  exact ⟨rfl, _, hb.size, hP, (Fr.of_below hb).trans hF⟩

set_option maxRecDepth 100000 in
set_option maxHeartbeats 400000 in
theorem set_same (t t0 : ByteArray) (bs bm : Nat) (r : Int) (w : World) (hl : t.size ≤ 400) (ht : (t0.toList == t.toList) = true) (h : PC w.heap bs bm r (mBlk t0)) :
    Calls Tryz.prog 6 #[.pointer (some ⟨bs, 0, none⟩), .string ⟨#[97]⟩, .string t] w fun e w' => e = .returned (.int .i64 0) ∧ Below w.heap.size w w' := by
  have HH : Hid (PC w.heap bs bm r (mBlk t0)) := h
  have c0 := h.c0
  clear h
  go_enter Tryz.func6, Tryz.ntmps6
  go_wp2_with (first
    | (go_at_call 11; refine (isFile_a _).mono ?_; rintro e w' ⟨rfl, rfl⟩)
    | (go_at_call 12; go_must (refine (text_one _ _ _ _ c0 HH.out.hm).mono ?_; rintro e w' ⟨rfl, hb⟩; have H1 := PC.hid hb HH; have c0' := H1.out.c0; have c1' := H1.out.c1)))
  go_ret
  exact ⟨rfl, hb⟩

set_option maxRecDepth 100000 in
set_option maxHeartbeats 400000 in
theorem set_full (t t0 : ByteArray) (bs bm : Nat) (w : World) (hl : t.size ≤ 400) (ht : (t0.toList == t.toList) = false) (h : PC w.heap bs bm 1000 (mBlk t0)) :
    Calls Tryz.prog 6 #[.pointer (some ⟨bs, 0, none⟩), .string ⟨#[97]⟩, .string t] w fun e w' => e = .returned (.int .i64 5) ∧ Below w.heap.size w w' := by
  have HH : Hid (PC w.heap bs bm 1000 (mBlk t0)) := h
  have c0 := h.c0
  clear h
  go_enter Tryz.func6, Tryz.ntmps6
  go_wp2_with (first
    | (go_at_call 11; refine (isFile_a _).mono ?_; rintro e w' ⟨rfl, rfl⟩)
    | (go_at_call 12; go_must (refine (text_one _ _ _ _ c0 HH.out.hm).mono ?_; rintro e w' ⟨rfl, hb⟩; have H1 := PC.hid hb HH; have c0' := H1.out.c0; have c1' := H1.out.c1)))
  go_ret
  exact ⟨rfl, hb⟩

set_option maxRecDepth 100000 in
set_option maxHeartbeats 400000 in
theorem set_next (t t0 : ByteArray) (bs bm : Nat) (r : Int) (w : World) (hl : t.size ≤ 400) (ht : (t0.toList == t.toList) = false) (hr : 0 ≤ r) (hr2 : r < 1000) (hne : bm ≠ bs) (h : PC w.heap bs bm r (mBlk t0)) :
    Calls Tryz.prog 6 #[.pointer (some ⟨bs, 0, none⟩), .string ⟨#[97]⟩, .string t] w fun e w' => e = .returned (.int .i64 0) ∧ PC w'.heap bs bm (r + 1) (mBlk t) ∧ Fr [bs, bm] w w' := by
  have HH : Hid (PC w.heap bs bm r (mBlk t0)) := h
  have c0 := h.c0
  clear h
  go_enter Tryz.func6, Tryz.ntmps6
  go_wp2_with (first
    | (go_at_call 11; refine (isFile_a _).mono ?_; rintro e w' ⟨rfl, rfl⟩)
    | (go_at_call 12; go_must (refine (text_one _ _ _ _ c0 HH.out.hm).mono ?_; rintro e w' ⟨rfl, hb⟩; have H1 := PC.hid hb HH; have c0' := H1.out.c0; have c1' := H1.out.c1))
    | (go_at_call 14; go_must (refine (put_old t t0 bs bm r _ hl hr hr2 hne H1.out).mono ?_; rintro e w2 ⟨rfl, hP, hF⟩)))
  go_ret
  exact ⟨rfl, hP, (Fr.of_below hb).trans hF⟩

end Go.Proofs.YtedipbfomdnnnaaGreatDoor.Ses

namespace Go.Proofs.YtedipbfomdnnnaaGreatDoor
open Go.RowKit

theorem YS.ranNil {w : World} {sb B : Nat} {fv slv ranv : Value} {n : Nat} {xs rs : List Value} {rev clk : Int} (h : YS w sb B fv slv ranv n xs rs rev clk) :
    YS (w.setCell ⟨sb, 4, none⟩ (.slice none 0 0)) sb B fv slv (.slice none 0 0) n xs [] rev clk :=
  ⟨heap_setCell_lit h.s _, h.lt, ownsRow_setCell_below h.own (a := ⟨sb, 4, none⟩) h.lt _, ⟨rfl, .inl ⟨rfl, rfl⟩⟩, fun b hb => by simp [Value.ownBlock] at hb⟩

set_option maxRecDepth 100000 in
set_option maxHeartbeats 1000000 in
theorem name_empty (w : World) : Calls Tryz.prog 27 #[.string ⟨#[]⟩] w fun e w' => e = .returned (.bool false) ∧ Below w.heap.size w w' := by
  have h : nameB ⟨#[]⟩ = false := by decide +kernel
  have h2 := rName_any ⟨#[]⟩ w (by decide)
  rw [h] at h2
  exact h2

theorem keepf5 {w2 w w' : World} {p0 p1 p2 p3 p4 : Addr} {v0 v1 v2 v3 v4 : Value} (h : Below w2.heap.size w2 w ∧ w.cell? p0 = some v0 ∧ w.cell? p1 = some v1 ∧ w.cell? p2 = some v2 ∧ w.cell? p3 = some v3 ∧ w.cell? p4 = some v4) (hb : Below w.heap.size w w') :
    Below w2.heap.size w2 w' ∧ w'.cell? p0 = some v0 ∧ w'.cell? p1 = some v1 ∧ w'.cell? p2 = some v2 ∧ w'.cell? p3 = some v3 ∧ w'.cell? p4 = some v4 := ⟨below_seq h.1 hb, cell_kept hb h.2.1, cell_kept hb h.2.2.1, cell_kept hb h.2.2.2.1, cell_kept hb h.2.2.2.2.1, cell_kept hb h.2.2.2.2.2⟩

set_option maxRecDepth 100000 in
set_option maxHeartbeats 2000000 in
theorem yask_new {w : World} {sb B : Nat} {fv slv ranv : Value} {n : Nat} {xs rs : List Value} {rev clk : Int} (h : YS w sb B fv slv ranv n xs rs rev clk) (hB : B ≤ w.heap.size) (hd : AllDone n rev xs) (hn : n ≤ 3) (hc0 : 0 ≤ clk) (hc : clk ≤ 100) (k : Nat) (hk : k = n + 1)
    (k0 : Nat) (ans : ByteArray)
    (HL : ∀ wx : World, Calls Tryz.prog 88 #[fv, .agg #[.int .i64 (k : Nat), .string ⟨#[97]⟩, .string ⟨#[]⟩]] wx fun e w' => ∃ g c, e = .returned (.slice (some ⟨g, 0, none⟩) 1 c) ∧ wx.heap.size ≤ g ∧ w'.heap[g]? = some (.cells #[.int .i64 (k0 : Nat), .string ⟨#[97]⟩, .string ⟨#[]⟩] 66) ∧ Below wx.heap.size wx w')
    (HFe : ∀ (wx : World) (slv' ranv : Value) (rs : List Value), YS wx sb B fv slv' ranv (n + 1) (actXs n k xs) rs rev clk → B ≤ wx.heap.size → Calls Tryz.prog 28 #[.pointer (some ⟨sb, 0, none⟩), .agg #[.int .i64 (k0 : Nat), .string ⟨#[97]⟩, .string ⟨#[]⟩], .bool true] wx fun e w' => e = .returned (.int .i64 (-1)) ∧ ∃ xs' c', (LastNew n k xs' ∧ AllDone n rev xs' ∧ clk ≤ c' ∧ c' ≤ clk + 1) ∧ YS w' sb B fv slv' ranv (n + 1) xs' rs rev c' ∧ Stay sb slv' wx w')
    (HA : ∀ wx : World, Keep B sb w wx → Calls Tryz.prog 89 #[fv, .int .i64 (k : Nat), .string ⟨#[97]⟩, .string ⟨#[]⟩] wx fun e w' => e = .returned (.string ans) ∧ Below wx.heap.size wx w') :
    Calls Tryz.prog 10 #[.pointer (some ⟨sb, 0, none⟩), .int .i64 (k : Nat), .string ⟨#[97]⟩, .string ⟨#[]⟩] w fun e w' => e = .returned (.tuple #[.string ans, .int .i64 0]) ∧ ∃ slv' ranv' xs' rs' clk', YS w' sb B fv slv' ranv' (n + 1) xs' rs' rev clk' ∧ AllDone (n + 1) rev xs' ∧ clk ≤ clk' ∧ clk' ≤ clk + 3 ∧ Keep B sb w w' := by
  have H := hid h
  have HD := hid hd
  have HK := hid hk
  have HLO := hid HL
  have HFE := hid HFe
  have HAN := hid HA
  have s4 : w.cell? ⟨sb, 4, none⟩ = some ranv := heap_cell (i := 4) h.s
  have f4 : w.frozen? ⟨sb, 4, none⟩ = false := heap_frozen h.s
  have hsr : ∃ ao m c, ranv = .slice ao m c := by
    obtain ⟨_, ⟨h, _⟩ | ⟨g, c, _, h, _⟩⟩ := h.ran
    · exact ⟨none, 0, 0, h⟩
    · exact ⟨_, _, _, h⟩
  obtain ⟨ra, rm, rc, rfl⟩ := hsr
  have hk1 : ¬ ((k : Int) < 1) := by omega
  have hk8 : ¬ ((8 : Int) < (k : Int)) := by omega
  have hk4 : k ≤ 4 := by omega
  clear h hd hk HL HFe HA
  go_enter Tryz.func10, Tryz.ntmps10
  go_wp2_with fail
  have H1 := hid H.out.ranNil
  have HK1 := hid (show Keep B sb w (w.setCell ⟨sb, 4, none⟩ (.slice none 0 0)) from Keep.stay hB H.out.own (Stay.setS _ _ _))
  have HB1 := hid (show B ≤ (w.setCell ⟨sb, 4, none⟩ (.slice none 0 0)).heap.size by simpa using hB)
  generalize w.setCell ⟨sb, 4, none⟩ (.slice none 0 0) = W1 at H1 HK1 HB1 ⊢
  clear s4 f4
  refine (Ses.called_a _).mono ?_
  rintro e w2 ⟨rfl, hb2⟩
  have H2 := hid (H1.out.below hb2)
  have HK2 := hid (HK1.out.seq (Keep.below HB1.out hb2))
  have HB2 := hid (show B ≤ w2.heap.size by have := HB1.out; have := hb2.size; omega)
  clear hb2 H1
  go_wp2_with fail
  refine (named_small k hk4 _).mono ?_
  rintro e w3 ⟨rfl, rfl⟩
  go_wp2_with fail
  refine (name_empty _).mono ?_
  rintro e w4 ⟨rfl, hb4⟩
  have H4 := hid (H2.out.below hb4)
  have HK4 := hid (HK2.out.seq (Keep.below HB2.out hb4))
  have HB4 := hid (show B ≤ w4.heap.size by have := HB2.out; have := hb4.size; omega)
  clear hb4 H2
  go_wp2_with fail
  have hN := new_heap w4 (.cells #[.int .i64 (k : Nat), .string ⟨#[97]⟩, .string ⟨#[]⟩] 66)
  have hbl := below_new w4 (.cells #[.int .i64 (k : Nat), .string ⟨#[97]⟩, .string ⟨#[]⟩] 66)
  generalize w4.alloc (.cells #[.int .i64 (k : Nat), .string ⟨#[97]⟩, .string ⟨#[]⟩] 66) = W5 at hN hbl ⊢
  have H5 := hid (H4.out.below hbl)
  have HK5 := hid (HK4.out.seq (Keep.below HB4.out hbl))
  have HB5 := hid (show B ≤ W5.heap.size by have := HB4.out; have := hbl.size; omega)
  have HN := hid hN
  clear hbl hN
  refine (fetch_new H5.out HB5.out HD.out hn hc0 hc k HK.out k0 ans HLO.out HFE.out (fun wx hx => HAN.out wx (HK5.out.seq hx))).mono ?_
  rintro e w6 ⟨rfl, slv6, ranv6, xs6, rs6, clk6, hy6, hd6, ha6, hc6, hc6', hk6⟩
  have H6 := hid hy6
  have HD6 := hid hd6
  have HA6 := hid ha6
  have HK6 := hid (HK5.out.seq (Keep.stay HB5.out H5.out.own hk6))
  have hN6 := (hk6.2 w4.heap.size (heap_lt HN.out) (by have := heap_lt H4.out.s; omega) (fun e => by have := (H4.out.own.lt _ e).2; omega)).trans HN.out
  have HN6 := hid hN6
  clear hy6 hd6 ha6 hk6 hN6
  go_wp2_with fail
  refine (drop_none H6.out HD6.out.kept (by omega) (by omega)).mono ?_
  rintro e w7 ⟨rfl, hb7⟩
  have HB7 := hid hb7
  have H7 := hid (H6.out.below hb7)
  have hN7 := below_heap hb7 (heap_lt HN6.out) HN6.out
  have y0 : w7.cell? ⟨w4.heap.size, 0, none⟩ = some (.int .i64 (k : Nat)) := heap_cell (i := 0) hN7
  have y1 : w7.cell? ⟨w4.heap.size, 1, none⟩ = some (.string ⟨#[97]⟩) := heap_cell (i := 1) hN7
  have y2 : w7.cell? ⟨w4.heap.size, 2, none⟩ = some (.string ⟨#[]⟩) := heap_cell (i := 2) hN7
  obtain ⟨g, c, rfl, hne, hcell, hfz⟩ := H7.out.slots (by omega)
  have s1 : w7.cell? ⟨sb, 1, none⟩ = some (.slice (some ⟨g, 0, none⟩) (n + 1) c) := heap_cell (i := 1) H7.out.s
  have z11 : w7.cell? ⟨g, n * 12 + 11, none⟩ = some (.string ans) := (H7.out.own.cellAt (n * 12 + 11) (by omega)).trans HA6.out
  clear hN7 hb7 hcell hfz
  have hki : ((k - 1 : Nat) : Int) = (n : Int) := by have := HK.out; omega
  have HKI := hid hki
  have hi0 : (0 : Int) ≤ (n : Int) := by omega
  have hin : (n : Int) < ((n + 1 : Nat) : Int) := by omega
  have hin2 : (n : Int) < (n : Int) + 1 := by omega
  have HKN := hid HD6.out.kinds
  have HB0 := hid (show Below w7.heap.size w7 w7 from Below.refl _ _)
  have hS : Below w7.heap.size w7 w7 ∧ w7.cell? ⟨sb, 1, none⟩ = some (.slice (some ⟨g, 0, none⟩) (n + 1) c) ∧ w7.cell? ⟨w4.heap.size, 0, none⟩ = some (.int .i64 (k : Nat)) ∧ w7.cell? ⟨w4.heap.size, 1, none⟩ = some (.string ⟨#[97]⟩) ∧ w7.cell? ⟨w4.heap.size, 2, none⟩ = some (.string ⟨#[]⟩) ∧ w7.cell? ⟨g, n * 12 + 11, none⟩ = some (.string ans) := ⟨Below.refl _ _, s1, y0, y1, y2, z11⟩
  clear hki s1 y0 y1 y2 z11
  go_wp2
  go_region_held3 (fun wx => Below w7.heap.size w7 wx ∧ wx.cell? ⟨sb, 1, none⟩ = some (.slice (some ⟨g, 0, none⟩) (n + 1) c) ∧ wx.cell? ⟨w4.heap.size, 0, none⟩ = some (.int .i64 (k : Nat)) ∧ wx.cell? ⟨w4.heap.size, 1, none⟩ = some (.string ⟨#[97]⟩) ∧ wx.cell? ⟨w4.heap.size, 2, none⟩ = some (.string ⟨#[]⟩) ∧ wx.cell? ⟨g, n * 12 + 11, none⟩ = some (.string ans))
    (first
      | exact keepf5 (by assumption) (below_drew _)
      | exact keepf5 (by assumption) (by assumption)
      | exact keepf5 (by assumption) (Below.refl _ _)
      | exact keepf5 hS (below_drew _))
    (first
      | (go_at_call 30; refine (slot_old (H7.out.below (below_drew _)) HKN.out (by omega) k (by have := HK.out; omega) (by have := HK.out; omega)).mono ?_; rintro e w8 ⟨rfl, hb8⟩; rw [HKI.out]))
  have hHeld := (by assumption : Below w7.heap.size w7 _ ∧ _)
  have HB9 := hid hHeld.1
  clear hHeld
  go_wp2
  go_ret2
  exact ⟨rfl, _, _, xs6, rs6, clk6, H7.out.below HB9.out, HD6.out, hc6, hc6', HK6.out.seq ((Keep.below (by have := HK6.out.size; omega) HB7.out).seq (Keep.below (by have := HK6.out.size; have := HB7.out.size; omega) HB9.out))⟩

end Go.Proofs.YtedipbfomdnnnaaGreatDoor

namespace Go.Proofs.YtedipbfomdnnnaaGreatDoor
open Go.RowKit

/-- The document's session with n kinds asked. -/
def YSess (w : World) (sb B : Nat) (fv : Value) (n : Nat) (rev : Int) : Prop :=
  ∃ slv ranv xs rs clk, YS w sb B fv slv ranv n xs rs rev clk ∧ AllDone n rev xs ∧ 0 ≤ clk ∧ clk ≤ 3 * (n : Int)

theorem YSess.below {w w' : World} {sb B : Nat} {fv : Value} {n : Nat} {rev : Int} (h : YSess w sb B fv n rev) (hb : Below w.heap.size w w') : YSess w' sb B fv n rev := by
  obtain ⟨slv, ranv, xs, rs, clk, h1, h2, h3, h4⟩ := h
  exact ⟨slv, ranv, xs, rs, clk, h1.below hb, h2, h3, h4⟩

theorem Fl.keep {fv : Value} {text : ByteArray} {there : Bool} {w w' : World} {B sb : Nat} (h : Fl fv text there w) (hlt : ∀ b, fv.ownBlock = some b → b < B ∧ b ≠ sb) (hk : Keep B sb w w') : Fl fv text there w' := by
  rcases h with h | ⟨fb, c, ch, rfl, h2, h3, h4, h5, h6⟩
  · exact .inl h
  · obtain ⟨h7, h8⟩ := hlt fb rfl
    have e : ∀ i, w'.cell? ⟨fb, i, none⟩ = w.cell? ⟨fb, i, none⟩ := fun i => World.cell?_of_block (w := w) (hk.2 fb h7 h8)
    exact .inr ⟨fb, c, ch, rfl, h2, (e _).trans h3, (e _).trans h4, (e _).trans h5, (e _).trans h6⟩

set_option maxRecDepth 100000 in
set_option maxHeartbeats 1000000 in
theorem fetch_file (sb : Nat) (w : World) : Calls Tryz.prog 28 #[.pointer (some ⟨sb, 0, none⟩), .agg #[.int .i64 ((0 : Nat) : Int), .string ⟨#[97]⟩, .string ⟨#[]⟩], .bool true] w fun e w' => e = .returned (.int .i64 (-1)) ∧ Below w.heap.size w w' := by
  have HBL := hid (below_new w (.cells #[.int .i64 ((0 : Nat) : Int), .string ⟨#[97]⟩, .string ⟨#[]⟩] 66))
  go_enter Tryz.func28, Tryz.ntmps28
  go_wp2
  go_ret
  exact ⟨rfl, by simpa using HBL.out⟩

theorem ask_step {w : World} {sb B : Nat} {fv : Value} {n : Nat} {rev : Int} (h : YSess w sb B fv n rev) (hB : B ≤ w.heap.size) (hn : n ≤ 3) (k : Nat) (hk : k = n + 1)
    (k0 : Nat) (ans : ByteArray)
    (HL : ∀ wx : World, Calls Tryz.prog 88 #[fv, .agg #[.int .i64 (k : Nat), .string ⟨#[97]⟩, .string ⟨#[]⟩]] wx fun e w' => ∃ g c, e = .returned (.slice (some ⟨g, 0, none⟩) 1 c) ∧ wx.heap.size ≤ g ∧ w'.heap[g]? = some (.cells #[.int .i64 (k0 : Nat), .string ⟨#[97]⟩, .string ⟨#[]⟩] 66) ∧ Below wx.heap.size wx w')
    (hk0 : k0 = 0 ∨ (1 ≤ k0 ∧ k0 ≤ n))
    (HA : ∀ wx : World, Keep B sb w wx → Calls Tryz.prog 89 #[fv, .int .i64 (k : Nat), .string ⟨#[97]⟩, .string ⟨#[]⟩] wx fun e w' => e = .returned (.string ans) ∧ Below wx.heap.size wx w') :
    Calls Tryz.prog 10 #[.pointer (some ⟨sb, 0, none⟩), .int .i64 (k : Nat), .string ⟨#[97]⟩, .string ⟨#[]⟩] w fun e w' => e = .returned (.tuple #[.string ans, .int .i64 0]) ∧ YSess w' sb B fv (n + 1) rev ∧ Keep B sb w w' := by
  obtain ⟨slv, ranv, xs, rs, clk, h1, h2, h3, h4⟩ := h
  have hl : xs.length = n * 12 := h1.own.1
  refine (yask_new h1 hB h2 hn h3 (by omega) k hk k0 ans HL (fun wx slv' ranv' rs' hy hBx => ?_) HA).mono ?_
  · rcases hk0 with rfl | ⟨hk1, hk2⟩
    · refine (fetch_file sb wx).mono ?_
      rintro e w' ⟨rfl, hb⟩
      exact ⟨rfl, _, clk, ⟨LastNew.act hl, actXs_done hl h2, by omega, by omega⟩, hy.below hb, Stay.below hb⟩
    · obtain ⟨i, rfl⟩ : ∃ i, k0 = i + 1 := ⟨k0 - 1, by omega⟩
      have hd := actXs_done (k := k) hl h2
      obtain ⟨la, ll, lc, ch, us, v, d⟩ := hd i (by omega)
      refine (fetch_done hy hBx (actXs_kinds hl hk h2.kinds) (by omega) h3 (by omega) (i + 1) i (by omega) rfl d).mono ?_
      rintro e w' ⟨rfl, hy', hs⟩
      exact ⟨rfl, _, clk + 1, ⟨(LastNew.act hl).used (by omega), useXs_all hd, by omega, by omega⟩, hy', hs⟩
  · rintro e w' ⟨rfl, slv', ranv', xs', rs', clk', hy, hd, hc1, hc2, hkp⟩
    exact ⟨rfl, ⟨slv', ranv', xs', rs', clk', hy, hd, by omega, by omega⟩, hkp⟩

theorem yask_1 {w : World} {sb B : Nat} {fv : Value} {rev : Int} {text : ByteArray} {there : Bool} (h : YSess w sb B fv 0 rev) (hB : B ≤ w.heap.size) (hfl : Fl fv text there w) (hlt : ∀ b, fv.ownBlock = some b → b < B ∧ b ≠ sb) :
    Calls Tryz.prog 10 #[.pointer (some ⟨sb, 0, none⟩), .int .i64 1, .string ⟨#[97]⟩, .string ⟨#[]⟩] w fun e w' => e = .returned (.tuple #[.string (knownT there), .int .i64 0]) ∧ YSess w' sb B fv 1 rev ∧ Keep B sb w w' :=
  ask_step h hB (by omega) 1 rfl 0 _ (fun wx => looks_1 fv wx) (.inl rfl) (fun wx hk => ans_known ⟨#[]⟩ wx (hfl.keep hlt hk))

theorem yask_2 {w : World} {sb B : Nat} {fv : Value} {rev : Int} {text : ByteArray} {there : Bool} (h : YSess w sb B fv 1 rev) (hB : B ≤ w.heap.size) (hfl : Fl fv text there w) (hlt : ∀ b, fv.ownBlock = some b → b < B ∧ b ≠ sb) (hd : DocT text) :
    Calls Tryz.prog 10 #[.pointer (some ⟨sb, 0, none⟩), .int .i64 2, .string ⟨#[97]⟩, .string ⟨#[]⟩] w fun e w' => e = .returned (.tuple #[.string (joinT ((lexAll text).map tokT)), .int .i64 0]) ∧ YSess w' sb B fv 2 rev ∧ Keep B sb w w' :=
  ask_step h hB (by omega) 2 rfl 0 _ (fun wx => looks_2 fv wx) (.inl rfl) (fun wx hk => ans_tokens ⟨#[]⟩ _ rfl wx (hfl.keep hlt hk) hd)

theorem yask_4 {w : World} {sb B : Nat} {fv : Value} {rev : Int} {text : ByteArray} {there : Bool} (h : YSess w sb B fv 3 rev) (hB : B ≤ w.heap.size) (hfl : Fl fv text there w) (hlt : ∀ b, fv.ownBlock = some b → b < B ∧ b ≠ sb) (hd : DocT text)
    (items : List It) (fl : Option Nat) (htree : treeAll (lexAll text) = (items, fl)) (hn : items.length ≤ 401) (hnum : ∀ i ∈ items, i.num ≤ 1000) (hnames : ∀ i ∈ items, i.name.size ≤ 8) :
    Calls Tryz.prog 10 #[.pointer (some ⟨sb, 0, none⟩), .int .i64 4, .string ⟨#[97]⟩, .string ⟨#[]⟩] w fun e w' => e = .returned (.tuple #[.string (joinT (docE items)), .int .i64 0]) ∧ YSess w' sb B fv 4 rev ∧ Keep B sb w w' :=
  ask_step h hB (by omega) 4 rfl 3 _ (fun wx => looks_4 fv wx) (.inr ⟨by omega, by omega⟩) (fun wx hk => ans_exports ⟨#[]⟩ items fl htree wx (hfl.keep hlt hk) hd hn hnum hnames)

end Go.Proofs.YtedipbfomdnnnaaGreatDoor

namespace Go.Proofs.YtedipbfomdnnnaaGreatDoor
open Go.RowKit

theorem own_down {w : World} {B B' : Nat} {T : TypeId} {z n : Nat} {v : Value} {xs : List Value} (h : w.ownsRow B T z v n xs) (hb : B' ≤ B) : w.ownsRow B' T z v n xs := by
  obtain ⟨hl, h2 | ⟨g, c, cur, hv, hg, hr⟩⟩ := h
  · exact ⟨hl, .inl h2⟩
  · exact ⟨hl, .inr ⟨g, c, cur, hv, by omega, hr⟩⟩

/-- The program's session in block bs: the file a with a text, or none. -/
def XS (w : World) (bs : Nat) (text : ByteArray) (there : Bool) : Prop :=
  (there = false ∧ text = ⟨#[]⟩ ∧ w.heap[bs]? = some (Ses.sBlk none 0)) ∨ (there = true ∧ ∃ bm, Ses.PC w.heap bs bm 1 (Ses.mBlk text))

theorem XS.below {w w' : World} {bs : Nat} {text : ByteArray} {there : Bool} (h : XS w bs text there) (hb : Below w.heap.size w w') : XS w' bs text there := by
  rcases h with ⟨h1, h2, h3⟩ | ⟨h1, bm, h2⟩
  · exact .inl ⟨h1, h2, Ses.below_heap hb h3⟩
  · exact .inr ⟨h1, bm, h2.below hb⟩

theorem xtext_any {w : World} {bs : Nat} {text : ByteArray} {there : Bool} (h : XS w bs text there) :
    Calls Tryz.prog 12 #[.pointer (some ⟨bs, 0, none⟩), .string ⟨#[97]⟩] w fun e w' => e = .returned (.tuple #[.string text, .bool there]) ∧ Below w.heap.size w w' := by
  rcases h with ⟨rfl, rfl, h⟩ | ⟨rfl, bm, h⟩
  · exact Ses.text_nil bs w (Ses.heap_cell h)
  · exact Ses.text_one bs bm text w h.c0 h.hm

def knownX (there : Bool) : ByteArray := if there then ⟨#[121, 101, 115]⟩ else ⟨#[110, 111]⟩

set_option maxRecDepth 100000 in
set_option maxHeartbeats 400000 in
theorem xknown_any {w : World} {bs : Nat} {text : ByteArray} {there : Bool} (h : XS w bs text there) :
    Calls Tryz.prog 19 #[.pointer (some ⟨bs, 0, none⟩), .string ⟨#[97]⟩] w fun e w' => e = .returned (.string (knownX there)) ∧ Below w.heap.size w w' := by
  have H := hid h
  clear h
  go_enter Tryz.func19, Tryz.ntmps19
  go_wp2_with fail
  refine (xtext_any H.out).mono ?_
  rintro e w1 ⟨rfl, hb⟩
  cases there
  all_goals
    go_wp2
    go_ret
    exact ⟨rfl, hb⟩

set_option maxRecDepth 100000 in
set_option maxHeartbeats 400000 in
theorem xtokens_any {w : World} {bs : Nat} {text : ByteArray} {there : Bool} (h : XS w bs text there) (ht : text.size ≤ 400) :
    Calls Tryz.prog 21 #[.pointer (some ⟨bs, 0, none⟩), .string ⟨#[97]⟩] w fun e w' => ∃ v, e = .returned v ∧ w'.ownsRow w.heap.size 80 3 v (lexAll text).length (tokCells (lexAll text)) ∧ Below w.heap.size w w' := by
  have H := hid h
  clear h
  go_enter Tryz.func21, Tryz.ntmps21
  go_wp2_with fail
  refine (xtext_any H.out).mono ?_
  rintro e w1 ⟨rfl, hb⟩
  have HB := hid hb
  clear hb
  go_wp2_with fail
  refine (readTokens_any text _ ht).mono ?_
  rintro e w2 ⟨v, rfl, hown, hb2⟩
  have HO := hid hown
  have HB2 := hid hb2
  have hsh : ∃ ao m c, v = .slice ao m c := by
    obtain ⟨_, ⟨h, _⟩ | ⟨g, c, _, h, _⟩⟩ := hown
    · exact ⟨none, 0, 0, h⟩
    · exact ⟨_, _, _, h⟩
  obtain ⟨ao, m, c, rfl⟩ := hsh
  clear hown hb2
  go_wp2
  go_ret
  refine ⟨_, rfl, ?_, below_seq HB.out HB2.out⟩
  obtain ⟨hl, h2 | ⟨g, c, cur, hv, hb, hr⟩⟩ := HO.out
  · exact ⟨hl, .inl h2⟩
  · exact ⟨hl, .inr ⟨g, c, cur, hv, by have := HB.out.size; omega, hr⟩⟩

set_option maxRecDepth 100000 in
set_option maxHeartbeats 400000 in
theorem xtree_any {w : World} {bs : Nat} {text : ByteArray} {there : Bool} (h : XS w bs text there) (hd : DocT text) :
    Calls Tryz.prog 23 #[.pointer (some ⟨bs, 0, none⟩), .string ⟨#[97]⟩] w fun e w' => ∃ v, e = .returned (.agg #[v, faultV (treeAll (lexAll text)).2]) ∧ w'.ownsRow w.heap.size 92 5 v (treeAll (lexAll text)).1.length ((treeAll (lexAll text)).1.flatMap itCells) ∧ Below w.heap.size w w' := by
  have H := hid h
  have HD := hid hd
  clear h hd
  go_enter Tryz.func23, Tryz.ntmps23
  have HBL := hid (below_new w (.cells #[.slice none 0 0, .int .i64 0] 60))
  go_wp2_with fail
  refine (xtokens_any (H.out.below HBL.out) HD.out.sz).mono ?_
  rintro e w1 ⟨v, rfl, hown, hb⟩
  obtain ⟨tb, cap, cur, rfl, hg, hc⟩ := own_tok hown HD.out.wf.pos
  have HG := hid hg
  have HC := hid hc
  have HB := hid hb
  clear hown hg hc hb
  go_wp2_with fail
  refine (readTree_any HD.out.wf tb cap _ ⟨cur, HG.out, HC.out⟩).mono ?_
  rintro e w2 ⟨v, rfl, hown, hb⟩
  have hsh : ∃ ao m c, v = .slice ao m c := by
    obtain ⟨_, ⟨h, _⟩ | ⟨g, c, _, h, _⟩⟩ := hown
    · exact ⟨none, 0, 0, h⟩
    · exact ⟨_, _, _, h⟩
  obtain ⟨ao, m, c, rfl⟩ := hsh
  have HO := hid hown
  have HB2 := hid hb
  have HFV := hid (show ∃ z, faultV (treeAll (lexAll text)).2 = .int .i64 z by cases (treeAll (lexAll text)).2 with
    | none => exact ⟨_, rfl⟩
    | some b => exact ⟨_, rfl⟩)
  obtain ⟨z, hz⟩ := HFV.out
  rw [hz]
  have hsz1 : w.heap.size < w1.heap.size := by have := HB.out.size; simp at this; omega
  have hR := below_heap hb hsz1 (below_heap HB.out (by simp) (new_heap w (.cells #[.slice none 0 0, .int .i64 0] 60)))
  have q0 : w2.cell? ⟨w.heap.size, 0, none⟩ = some (.slice none 0 0) := heap_cell (i := 0) hR
  have q1 : w2.cell? ⟨w.heap.size, 1, none⟩ = some (.int .i64 0) := heap_cell (i := 1) hR
  have f0 : w2.frozen? ⟨w.heap.size, 0, none⟩ = false := heap_frozen hR
  have f1 : w2.frozen? ⟨w.heap.size, 1, none⟩ = false := heap_frozen hR
  have hS := heap_setCell_lit (i := 1) (heap_setCell_lit (i := 0) hR (.slice ao m c)) (.int .i64 z)
  have HS := hid hS
  have HSZ := hid hsz1
  have HZ := hid hz
  clear hown hb HFV hz hR hS hsz1
  go_wp2
  have y0 := heap_cell (i := 0) HS.out
  have y1 := heap_cell (i := 1) HS.out
  refine bodyPost_ret (v := .agg #[.slice ao m c, .int .i64 z]) (by simp [results, Tryz.results23, go_sem, y0, y1]; try rfl) rfl ?_
  have hown := HO.out
  rw [HZ.out]
  refine ⟨_, rfl, ?_, ?_⟩
  · exact own_down (ownsRow_setCell_below (a := ⟨w.heap.size, 1, none⟩) (ownsRow_setCell_below (a := ⟨w.heap.size, 0, none⟩) hown HSZ.out _) HSZ.out _) (by have := HSZ.out; omega)
  · exact ((below_seq HBL.out (below_seq HB.out HB2.out)).setCell (Nat.le_refl _) _).setCell (Nat.le_refl _) _

set_option maxRecDepth 100000 in
set_option maxHeartbeats 400000 in
theorem needs_small (k : Nat) (hk : k ≤ 4) (w : World) : Calls Tryz.prog 33 #[.int .i64 (k : Nat)] w fun e w' => e = .returned (.bool false) ∧ w' = w := by
  have h5 : ¬ ((5 : Int) ≤ (k : Int)) := by omega
  go_enter Tryz.func33, Tryz.ntmps33
  go_wp2
  go_ret
  exact ⟨rfl, rfl⟩

set_option maxRecDepth 100000 in
set_option maxHeartbeats 400000 in
theorem check_small (k : Nat) (hk0 : 1 ≤ k) (hk : k ≤ 4) (nm : ByteArray) (w : World) : Calls Tryz.prog 18 #[.int .i64 (k : Nat), .string ⟨#[97]⟩, .string nm] w fun e w' => e = .returned (.int .i64 0) ∧ w' = w := by
  have h1 : ¬ ((k : Int) < 1) := by omega
  have h8 : ¬ ((8 : Int) < (k : Int)) := by omega
  go_enter Tryz.func18, Tryz.ntmps18
  go_wp2_with (first
    | (go_at_call 11; refine (Ses.isFile_a _).mono ?_; rintro e w' ⟨rfl, rfl⟩)
    | (go_at_call 33; refine (needs_small k hk _).mono ?_; rintro e w' ⟨rfl, rfl⟩))
  go_ret
  exact ⟨rfl, rfl⟩

end Go.Proofs.YtedipbfomdnnnaaGreatDoor

namespace Go.Proofs.YtedipbfomdnnnaaGreatDoor
open Go.RowKit Go.Sort

theorem PT.up {w w1 : World} (h : PT w.heap.size w) (hb : Below w.heap.size w w1) : PT w1.heap.size w1 := fun w' h' => h w' (below_seq hb h')

theorem expL_len (items : List It) : (expL items).length ≤ items.length :=
  Nat.le_trans (Lib.compact_length_le _) (by rw [List.length_mergeSort]; exact pubs_len items)

theorem expL_join (items : List It) (hn : items.length ≤ 401) (hz : ∀ i ∈ items, i.name.size ≤ 8) : (Lib.join (expL items) [32]).length ≤ 140737488355328 := by
  have h1 := congrArg ByteArray.size (exports_same items)
  have h2 := joinT_size (docE items) 8 (docE_name items 8 hz)
  have h3 := docE_len items
  have h4 : (⟨(Lib.join (expL items) [32]).toArray⟩ : ByteArray).size = (Lib.join (expL items) [32]).length := by simp [ByteArray.size]
  rw [h4] at h1
  have h5 : (docE items).length * (8 + 1) ≤ 401 * 9 := Nat.mul_le_mul (Nat.le_trans h3 hn) (Nat.le_refl _)
  omega

set_option maxRecDepth 100000 in
set_option maxHeartbeats 400000 in
theorem xask_1 {w : World} {bs : Nat} {text : ByteArray} {there : Bool} (nm : ByteArray) (h : XS w bs text there) :
    Calls Tryz.prog 9 #[.pointer (some ⟨bs, 0, none⟩), .int .i64 1, .string ⟨#[97]⟩, .string nm] w fun e w' => e = .returned (.tuple #[.string (knownX there), .int .i64 0]) ∧ Below w.heap.size w w' := by
  have H := hid h
  clear h
  go_enter Tryz.func9, Tryz.ntmps9
  go_wp2_with fail
  refine (check_small 1 (by decide) (by decide) nm _).mono ?_
  rintro e w1 ⟨rfl, rfl⟩
  go_wp2_with fail
  refine (xknown_any H.out).mono ?_
  rintro e w1 ⟨rfl, hb⟩
  go_wp2
  go_ret2
  exact ⟨rfl, hb⟩

set_option maxRecDepth 100000 in
set_option maxHeartbeats 400000 in
theorem xask_2 {w : World} {bs : Nat} {text : ByteArray} {there : Bool} (nm : ByteArray) (h : XS w bs text there) (hd : DocT text) (hp : PT w.heap.size w) :
    Calls Tryz.prog 9 #[.pointer (some ⟨bs, 0, none⟩), .int .i64 2, .string ⟨#[97]⟩, .string nm] w fun e w' => e = .returned (.tuple #[.string (joinT ((lexAll text).map tokT)), .int .i64 0]) ∧ Below w.heap.size w w' := by
  have H := hid h
  have HD := hid hd
  have HP := hid hp
  clear h hd hp
  go_enter Tryz.func9, Tryz.ntmps9
  go_wp2_with fail
  refine (check_small 2 (by decide) (by decide) nm _).mono ?_
  rintro e w1 ⟨rfl, rfl⟩
  go_wp2_with fail
  refine (xtokens_any H.out HD.out.sz).mono ?_
  rintro e w1 ⟨v, rfl, hown, hb⟩
  obtain ⟨tb, cap, cur, rfl, hg, hc⟩ := own_tok hown HD.out.wf.pos
  have HG := hid hg
  have HC := hid hc
  have HB := hid hb
  clear hown hg hc hb
  go_wp2_with fail
  refine (writeTokens_any (lexAll text) HD.out.wf.le (fun i t h => tok_sizes HD.out.sz i t h) tb cap _ ⟨cur, HG.out, HC.out⟩ (PT.up HP.out HB.out)).mono ?_
  rintro e w2 ⟨rfl, hb⟩
  go_wp2
  go_ret2
  exact ⟨rfl, below_seq HB.out hb⟩

set_option maxRecDepth 100000 in
set_option maxHeartbeats 400000 in
theorem xask_3 {w : World} {bs : Nat} {text : ByteArray} {there : Bool} (nm : ByteArray) (h : XS w bs text there) (hd : DocT text) (hp : PT w.heap.size w) (items : List It) (fl : Option Nat) (htree : treeAll (lexAll text) = (items, fl)) (ss : List ByteArray) (hlen : ss.length = items.length) (hit : ∀ (k : Nat) (i : It) (s : ByteArray), items[k]? = some i → ss[k]? = some s → ITx i s) (hn : items.length ≤ 401) (hfl : ∀ b, fl = some b → b ≤ 1000) :
    Calls Tryz.prog 9 #[.pointer (some ⟨bs, 0, none⟩), .int .i64 3, .string ⟨#[97]⟩, .string nm] w fun e w' => e = .returned (.tuple #[.string (treeT ss fl), .int .i64 0]) ∧ Below w.heap.size w w' := by
  have H := hid h
  have HD := hid hd
  have HP := hid hp
  have HI := hid hit
  have HFL := hid hfl
  have HTR := hid htree
  have HLEN := hid hlen
  clear h hd hp hit hfl htree hlen
  go_enter Tryz.func9, Tryz.ntmps9
  go_wp2_with fail
  refine (check_small 3 (by decide) (by decide) nm _).mono ?_
  rintro e w1 ⟨rfl, rfl⟩
  go_wp2_with fail
  refine (xtree_any H.out HD.out).mono ?_
  rw [HTR.out]
  rintro e w1 ⟨v, rfl, hown, hb⟩
  have HO := hid hown
  have HB := hid hb
  clear hown hb
  go_wp2_with fail
  refine (writeTree_any items ss HLEN.out HI.out hn fl HFL.out _ v _ HO.out (PT.up HP.out HB.out)).mono ?_
  rintro e w2 ⟨rfl, hb⟩
  go_wp2
  go_ret2
  exact ⟨rfl, below_seq HB.out hb⟩

set_option maxRecDepth 100000 in
set_option maxHeartbeats 400000 in
theorem xask_4 {w : World} {bs : Nat} {text : ByteArray} {there : Bool} (nm : ByteArray) (h : XS w bs text there) (hd : DocT text) (items : List It) (fl : Option Nat) (htree : treeAll (lexAll text) = (items, fl)) (hn : items.length ≤ 401) (hex : ∀ i ∈ items, i.ex = .nilIface ∨ ∃ T v, i.ex = .iface T v) (hsz : ∀ i ∈ items, i.name.size ≤ 8) :
    Calls Tryz.prog 9 #[.pointer (some ⟨bs, 0, none⟩), .int .i64 4, .string ⟨#[97]⟩, .string nm] w fun e w' => e = .returned (.tuple #[.string (joinT (docE items)), .int .i64 0]) ∧ Below w.heap.size w w' := by
  have H := hid h
  have HD := hid hd
  have HTR := hid htree
  have HEX := hid hex
  have HJ := hid (expL_join items hn hsz)
  have HSAME := hid (exports_same items)
  clear h hd htree hex hsz
  rw [HSAME.out]
  go_enter Tryz.func9, Tryz.ntmps9
  go_wp2_with fail
  refine (check_small 4 (by decide) (by decide) nm _).mono ?_
  rintro e w1 ⟨rfl, rfl⟩
  go_wp2_with fail
  refine (xtree_any H.out HD.out).mono ?_
  rw [HTR.out]
  rintro e w1 ⟨v, rfl, hown, hb⟩
  dsimp only at hown
  have HB := hid hb
  obtain ⟨ao, c, rfl, hao⟩ : ∃ ao c, v = .slice ao items.length c ∧ (0 < items.length → ∃ g cur, ao = some ⟨g, 0, none⟩ ∧ w1.heap[g]? = some (.cells cur 92 (0, 0)) ∧ cur.toList.take (items.length * 5) = items.flatMap itCells) := by
    obtain ⟨hl, ⟨h, h0⟩ | ⟨g, c, cur, hv, hB, hg, h1, h2, h3, h4⟩⟩ := hown
    · exact ⟨none, 0, by rw [h, h0], fun hp => by omega⟩
    · exact ⟨_, c, hv, fun _ => ⟨g, cur, rfl, hg, h4⟩⟩
  have HAO := hid hao
  clear hown hb hao
  go_wp2_with fail
  refine (exports_ao items hn HEX.out (faultV fl) ao c _ HAO.out).mono ?_
  rintro e w2 ⟨hb, c2, h⟩
  have HB2 := hid hb
  clear hb HAO
  rcases h with ⟨hnil, rfl⟩ | ⟨g, rfl, hc2, hg, hcell⟩
  · have HNIL := hid hnil
    clear hnil
    go_wp2_with fail
    refine (Tryz.strings_Join_none none c2 ⟨#[32]⟩ _).mono ?_
    rintro e w3 ⟨rfl, rfl⟩
    go_wp2
    go_ret2
    rw [HNIL.out]
    exact ⟨rfl, below_seq HB.out HB2.out⟩
  · have HCELL := hid hcell
    have HLN := hid HJ.out
    have HLE := hid (expL_len items)
    obtain ⟨E, hE⟩ : ∃ E, E = expL items := ⟨_, rfl⟩
    rw [← hE] at HCELL HLN HLE hc2 ⊢
    have HEE := hid hE
    clear hcell hE HJ HSAME
    obtain ⟨L, hL⟩ : ∃ L, L = E.map fun x => (⟨x.toArray⟩ : ByteArray) := ⟨_, rfl⟩
    have hel : E.length = L.length := by rw [hL]; simp
    have hmm : L.map (·.data.toList) = E := by rw [hL, List.map_map]; exact (List.map_congr_left (fun x _ => by simp)).trans (List.map_id _)
    have hget : ∀ (j : Nat) x, L[j]? = some x → w2.cell? ⟨g, 0 + j, none⟩ = some (.string x) := by
      intro j x hj
      rw [hL, List.getElem?_map] at hj
      cases hx : E[j]? with
      | none => rw [hx] at hj; simp at hj
      | some y =>
        rw [hx] at hj
        simp at hj
        subst hj
        simpa using HCELL.out j y hx
    have HMM := hid hmm
    have HEL := hid hel
    have HGET := hid hget
    clear hmm hel hL hget
    rw [HEL.out]
    go_wp2_with fail
    refine (Tryz.strings_Join g 0 c2 L ⟨#[32]⟩ _ HGET.out hg ?_ ?_ ?_).mono ?_
    · rw [← HEL.out]; have := HLE.out; omega
    · rw [← HEL.out]; exact hc2
    · rw [HMM.out]; exact HLN.out
    rintro e w3 ⟨rfl, hb3⟩
    rw [HMM.out]
    go_wp2
    go_ret2
    exact ⟨by rw [← HEE.out]; rfl, below_seq HB.out (below_seq HB2.out hb3)⟩

end Go.Proofs.YtedipbfomdnnnaaGreatDoor

namespace Go.Proofs.YtedipbfomdnnnaaGreatDoor
open Go.RowKit Go.Sort

theorem Calls.ex {P : Program} {f : FuncId} {args : Array Value} {w : World} {R : Ending → World → Prop} (h : Calls P f args w R) : ∃ e w', R e w' := by
  obtain ⟨e, w', _, hr, _⟩ := h []
  exact ⟨e, w', hr⟩

/-- Two contracts of one call speak of one end. -/
theorem calls_agree {P : Program} {f : FuncId} {args : Array Value} {w : World} {R R' : Value → World → Prop}
    (h : Calls P f args w fun | .returned v, w' => R v w' | _, _ => False) (h' : Calls P f args w fun | .returned v, w' => R' v w' | _, _ => False) (hi : P.inits.idxOf? f = none) :
    ∃ v w', R v w' ∧ R' v w' := by
  obtain ⟨n, v, w1, e1, r1⟩ := h.done hi
  obtain ⟨m, v', w2, e2, r2⟩ := h'.done hi
  have a : runN P (n + m) (lone (Frame.enter P f args .normal) [] w) = .ended (.done v) w1 := by rw [runN_add, e1]
  have b : runN P (m + n) (lone (Frame.enter P f args .normal) [] w) = .ended (.done v') w2 := by rw [runN_add, e2]
  rw [Nat.add_comm, a] at b
  injection b with ho hw
  injection ho with hv
  subst hv hw
  exact ⟨_, _, r1, r2⟩

theorem own_same {w : World} {B : Nat} {T : TypeId} {v : Value} {xs ys : List Value} (h : w.ownsRow B T 1 v xs.length xs) (h' : w.ownsRow B T 1 v ys.length ys) : xs = ys := by
  obtain ⟨_, ⟨h1, h2⟩ | ⟨g, cap, cur, h1, _, h3, _, _, _, h4⟩⟩ := h
  · obtain ⟨_, ⟨k1, k2⟩ | ⟨g', cap', cur', k1, _⟩⟩ := h'
    · rw [List.length_eq_zero_iff.1 h2, List.length_eq_zero_iff.1 k2]
    · rw [h1] at k1; cases k1
  · obtain ⟨_, ⟨k1, k2⟩ | ⟨g', cap', cur', k1, _, k3, _, _, _, k4⟩⟩ := h'
    · rw [h1] at k1; cases k1
    · rw [h1] at k1
      injection k1 with e1 e2 e3
      injection e1 with e1
      injection e1 with e1
      subst e1
      rw [h3] at k3
      injection k3 with k3
      injection k3 with k3
      subst k3
      rw [← h4, ← k4, e2]

theorem isB_same {B b : Nat} {xs ys : List Value} {w : World} (h : IsB B b xs w) (h' : IsB B b ys w) : xs = ys := by
  have key : ∀ p q, BAt B b p xs w → BAt B b q ys w → xs = ys := by
    rintro p q ⟨_, v, h1, h2, _⟩ ⟨_, v', k1, k2, _⟩
    rw [h1] at k1
    injection k1 with k1
    injection k1 with k1
    have e : v = v' := by
      have := congrArg (fun a => a.toList) k1
      simp at this
      exact this.2
    subst e
    exact own_same h2 k2
  rcases h with h | h <;> rcases h' with h' | h' <;> exact key _ _ h h'

theorem strCells_inj {s t : ByteArray} (h : Lib.strCells s = Lib.strCells t) : s = t := by
  have h2 : s.data.toList = t.data.toList := by
    unfold Lib.strCells at h
    exact (List.map_inj_right (fun a b hab => by
      injection hab with _ h3
      exact UInt8.toNat_inj.1 (by omega))).1 h
  exact ByteArray.ext (Array.toList_inj.1 h2)

theorem writes_uniq {x : Value} {s t : ByteArray} (h : Writes x s) (h' : Writes x t) (hs : s.size ≤ LIM) (ht : t.size ≤ LIM) (w : World) (hp : PT w.heap.size w) : s = t := by
  obtain ⟨T, v, u, F, rfl, m, e, ni, c⟩ := h
  obtain ⟨T', v', u', F', hx, m', e', ni', c'⟩ := h'
  injection hx with e1 e2
  subst e1; subst e2
  have hm := (m w).symm.trans (m' w)
  injection hm with hm
  injection hm with e3 e4
  subst e3; subst e4
  obtain ⟨o, ho⟩ : ∃ o, o = Obj.cells #[.pointer none, .slice none 0 0] 78 (0, 0) := ⟨_, rfl⟩
  have hb : IsB w.heap.size w.heap.size [] (w.alloc o) := .inl ⟨Nat.le_refl _, .slice none 0 0, by rw [new_heap, ho], ⟨rfl, .inl ⟨rfl, rfl⟩⟩, by simp [Value.ownBlock]⟩
  have hp' := hp.on (below_new w o)
  have h1 := c w.heap.size w.heap.size [] (w.alloc o) hb (by simpa using hs) (by simp) hp'
  have h2 := c' w.heap.size w.heap.size [] (w.alloc o) hb (by simpa using ht) (by simp) hp'
  obtain ⟨_, w', a1, a2⟩ := calls_agree (R := fun _ w' => Adds w.heap.size w.heap.size [] s (w.alloc o) w') (R' := fun _ w' => Adds w.heap.size w.heap.size [] t (w.alloc o) w')
    (h1.mono fun e w' ⟨⟨r, hr⟩, hq⟩ => by subst hr; exact hq) (h2.mono fun e w' ⟨⟨r, hr⟩, hq⟩ => by subst hr; exact hq) ni
  exact strCells_inj (by simpa using isB_same a1.bd a2.bd)

theorem itemL_size (d pre nm ty sx : ByteArray) : sx.size ≤ (itemL d pre nm ty sx).size := by
  simp only [itemL, ByteArray.size_append]; omega

theorem itx_uniq {i : It} {s t : ByteArray} (h : ITx i s) (h' : ITx i t) (w : World) (hp : PT w.heap.size w) : s = t := by
  obtain ⟨_, hs, ⟨k1, e1, q1⟩ | ⟨sx, hw, ⟨k1, q1⟩ | ⟨k1, q1⟩⟩⟩ := h <;> obtain ⟨_, ht, ⟨k2, e2, q2⟩ | ⟨tx, hw2, ⟨k2, q2⟩ | ⟨k2, q2⟩⟩⟩ := h'
  all_goals first
    | (exfalso; omega)
    | (exact q1.trans q2.symm)
    | (have z1 := itemL_size (decT i.num) ⟨#[58, 108, 101, 116, 32]⟩ i.name i.typ sx
       have z2 := itemL_size (decT i.num) ⟨#[58, 108, 101, 116, 32]⟩ i.name i.typ tx
       rw [← q1] at z1; rw [← q2] at z2
       have e := writes_uniq hw hw2 (by unfold LIM; omega) (by unfold LIM; omega) w hp
       rw [q1, q2, e])
    | (have z1 := itemL_size (decT i.num) ⟨#[58, 112, 117, 98, 32]⟩ i.name i.typ sx
       have z2 := itemL_size (decT i.num) ⟨#[58, 112, 117, 98, 32]⟩ i.name i.typ tx
       rw [← q1] at z1; rw [← q2] at z2
       have e := writes_uniq hw hw2 (by unfold LIM; omega) (by unfold LIM; omega) w hp
       rw [q1, q2, e])

/-- Lines of items. -/
def LinesOf (items : List It) (ss : List ByteArray) : Prop := ss.length = items.length ∧ ∀ (k : Nat) (i : It) (s : ByteArray), items[k]? = some i → ss[k]? = some s → ITx i s

theorem lines_uniq {items : List It} {ss tt : List ByteArray} (h : LinesOf items ss) (h' : LinesOf items tt) (w : World) (hp : PT w.heap.size w) : ss = tt := by
  refine List.ext_getElem (h.1.trans h'.1.symm) fun k h1 h2 => ?_
  have hk : k < items.length := by rw [← h.1]; exact h1
  exact itx_uniq (h.2 k items[k] ss[k] (List.getElem?_eq_getElem hk) (List.getElem?_eq_getElem h1)) (h'.2 k items[k] tt[k] (List.getElem?_eq_getElem hk) (List.getElem?_eq_getElem h2)) w hp

end Go.Proofs.YtedipbfomdnnnaaGreatDoor

namespace Go.Proofs.YtedipbfomdnnnaaGreatDoor
open Go.RowKit

theorem itemP_lt {toks : List Tok} (hw : Wf toks) (w : World) {a : Nat} (ha : a < toks.length) : (itemP toks a).1 < toks.length := by
  have h1 := new_heap w (.cells (tokCells toks).toArray 80)
  have h2 := new_heap (w.alloc (.cells (tokCells toks).toArray 80)) (.cells #[.slice (some ⟨w.heap.size, 0, none⟩) toks.length toks.length, .int .i64 a, .int .i64 0] 104)
  have h3 := old_heap (.cells #[.slice (some ⟨w.heap.size, 0, none⟩) toks.length toks.length, .int .i64 a, .int .i64 0] 104) h1
  have hP : PS toks (w.alloc (.cells (tokCells toks).toArray 80)).heap.size w.heap.size toks.length a 0 ((w.alloc (.cells (tokCells toks).toArray 80)).alloc (.cells #[.slice (some ⟨w.heap.size, 0, none⟩) toks.length toks.length, .int .i64 a, .int .i64 0] 104)).heap :=
    ⟨by simp, by rw [h2]; rfl, _, h3, by
      have : (tokCells toks).length = 3 * toks.length := tokCells_length toks
      simp [← this]⟩
  obtain ⟨_, _, hx⟩ := Calls.ex (item_any hw _ _ _ a _ ha hP)
  exact hx.2.2.1

theorem treeP_len {toks : List Tok} : ∀ (f a : Nat), (treeP toks f a).1.length ≤ f
  | 0, _ => by simp [treeP]
  | f + 1, a => by
    unfold treeP
    split
    · simp
    · split
      · simp
      · rename_i b i _
        have := treeP_len (toks := toks) f b
        simp; omega

theorem treeP_fault {toks : List Tok} (hw : Wf toks) (w : World) : ∀ (f a b : Nat), a < toks.length → (treeP toks f a).2 = some b → b < toks.length
  | 0, _, _, _, h => by simp [treeP] at h
  | f + 1, a, b, ha, h => by
    have hlt := itemP_lt hw w ha
    unfold treeP at h
    split at h
    · simp at h
    · split at h
      · rename_i c hip
        rw [hip] at hlt
        simp at h
        subst h
        exact hlt
      · rename_i c i hip
        rw [hip] at hlt
        exact treeP_fault hw w f c b hlt h

theorem nameB_size8 {t : ByteArray} (h : nameB t = true) : t.size ≤ 8 := by
  unfold nameB at h
  simp only [Bool.and_eq_true, decide_eq_true_eq] at h
  exact h.1.1.2

theorem itemP_name {toks : List Tok} {a b : Nat} {i : It} (h : itemP toks a = (b, some i)) : i.name.size ≤ 8 := by
  unfold itemP at h
  split at h
  · unfold useP at h
    split at h
    · rename_i hn
      split at h
      · cases h; exact nameB_size8 hn
      · cases h
    · cases h
  · have key : ∀ k a, letP toks k a = (b, some i) → i.name.size ≤ 8 := by
      intro k a h
      unfold letP at h
      split at h
      · split at h
        · rename_i hn
          split at h
          · split at h
            · split at h
              · split at h
                · cases h
                · split at h
                  · cases h; exact nameB_size8 hn
                  · cases h
              · cases h
            · cases h
          · cases h
        · cases h
      · cases h
    split at h
    · exact key _ _ h
    · exact key _ _ h

theorem treeP_name {toks : List Tok} : ∀ (f a : Nat), ∀ i ∈ (treeP toks f a).1, i.name.size ≤ 8
  | 0, a, i, h => by simp [treeP] at h
  | f + 1, a, i, h => by
    unfold treeP at h
    split at h
    · simp at h
    · split at h
      · simp at h
      · rename_i b i1 hip
        simp only [List.mem_cons] at h
        rcases h with rfl | h
        · exact itemP_name hip
        · exact treeP_name f b i h

/-- What is asked of a text's items. -/
structure TreeOk (text : ByteArray) (items : List It) (fl : Option Nat) : Prop where
  tree : treeAll (lexAll text) = (items, fl)
  len : items.length ≤ 401
  num : ∀ i ∈ items, i.num ≤ 1000
  name : ∀ i ∈ items, i.name.size ≤ 8
  fault : ∀ b, fl = some b → b ≤ 1000

theorem treeOk {text : ByteArray} (hw : Wf (lexAll text)) (w : World) : TreeOk text (treeAll (lexAll text)).1 (treeAll (lexAll text)).2 := by
  have hle := hw.le
  refine ⟨rfl, Nat.le_trans (treeP_len _ _) hle, fun i hi => ?_, fun i hi => treeP_name _ _ i hi, fun b hb => ?_⟩
  · have := treeP_num _ _ i hi; omega
  · have := treeP_fault hw w _ _ b hw.pos hb; omega

end Go.Proofs.YtedipbfomdnnnaaGreatDoor
