/-
  The document's session: Set.
-/
import Derived.Test.YtigolgnppcfceaaW3
namespace Go.Proofs.Ytigolgnppcfceaa
open Go.RowKit

/-- The world has new blocks, and may have turned the blocks of S; nothing else. -/
structure Fr (S : List Nat) (w w' : World) : Prop where
  os : w'.os = w.os
  tape : w'.tape = w.tape
  output : w'.output = w.output
  size : w.heap.size ≤ w'.heap.size
  block : ∀ k, k < w.heap.size → k ∉ S → w'.heap[k]? = w.heap[k]?

theorem Fr.refl (S : List Nat) (w : World) : Fr S w w := ⟨rfl, rfl, rfl, Nat.le_refl _, fun _ _ _ => rfl⟩
theorem Fr.drew {S : List Nat} {a w : World} (h : Fr S a w) : Fr S a w.drew := ⟨h.os, h.tape, h.output, h.size, h.block⟩
theorem Fr.alloc {S : List Nat} {a w : World} (h : Fr S a w) (o : Obj) : Fr S a (w.alloc o) :=
  ⟨h.os, h.tape, h.output, by have := h.size; simp; omega, fun k hk hn => by
    rw [Below.heap_alloc _ _ _ (by have := h.size; omega)]; exact h.block k hk hn⟩
theorem Fr.setCell {S : List Nat} {a w : World} (h : Fr S a w) (p : Addr) (hp : p.block ∈ S ∨ a.heap.size ≤ p.block) (u : Value) : Fr S a (w.setCell p u) :=
  ⟨h.os, h.tape, h.output, by have := h.size; simpa [World.setCell] using this, fun k hk hn => by
    have hne : k ≠ p.block := by
      rintro rfl
      rcases hp with hp | hp
      · exact hn hp
      · omega
    rw [Below.heap_setCell _ _ _ _ hne]; exact h.block k hk hn⟩
theorem Fr.trans {S : List Nat} {a b c : World} (h : Fr S a b) (k : Fr S b c) : Fr S a c :=
  ⟨k.os.trans h.os, k.tape.trans h.tape, k.output.trans h.output, Nat.le_trans h.size k.size, fun i hi hn =>
    (k.block i (Nat.lt_of_lt_of_le hi h.size) hn).trans (h.block i hi hn)⟩
theorem Fr.trans_new {a b c : World} {p q : Nat} (h : Fr [p] a b) (k : Fr [p, q] b c) (hq : a.heap.size ≤ q) : Fr [p] a c :=
  ⟨k.os.trans h.os, k.tape.trans h.tape, k.output.trans h.output, Nat.le_trans h.size k.size, fun i hi hn =>
    (k.block i (Nat.lt_of_lt_of_le hi h.size) (by simp at hn ⊢; omega)).trans (h.block i hi hn)⟩
theorem Fr.mono {S T : List Nat} {w w' : World} (h : Fr S w w') (hs : ∀ k, k ∈ S → k ∈ T ∨ w.heap.size ≤ k) : Fr T w w' :=
  ⟨h.os, h.tape, h.output, h.size, fun k hk hn => h.block k hk fun e => by
    rcases hs k e with h1 | h1
    · exact hn h1
    · omega⟩
theorem Fr.of_below {S : List Nat} {w w' : World} (h : Below w.heap.size w w') : Fr S w w' :=
  ⟨h.os, h.tape, h.output, h.size, fun k hk _ => h.block k hk⟩
theorem Fr.cell {S : List Nat} {w w' : World} (h : Fr S w w') {p : Addr} (hp : p.block < w.heap.size) (hn : p.block ∉ S) : w'.cell? p = w.cell? p :=
  World.cell?_of_block (w := w) (h.block p.block hp hn)
theorem Fr.frozen {S : List Nat} {w w' : World} (h : Fr S w w') {p : Addr} (hp : p.block < w.heap.size) (hn : p.block ∉ S) : w'.frozen? p = w.frozen? p :=
  World.frozen?_of_block (w := w) (h.block p.block hp hn)

/-- The document's session at block br: no file as yet, or one of the name a; the revision r. -/
def RefS (w : World) (br : Nat) (st : Option (ByteArray × Nat × Nat)) (r : Int) : Prop :=
  (match st with
   | none => w.heap[br]? = some (.cells #[.slice none 0 0, .slice none 0 0, .int .i64 r, .int .i64 0, .slice none 0 0] 31)
   | some (t, bf, cap) => bf ≠ br ∧ w.heap[br]? = some (.cells #[.slice (some ⟨bf, 0, none⟩) 1 cap, .slice none 0 0, .int .i64 r, .int .i64 0, .slice none 0 0] 31) ∧
      ∃ rest, w.heap[bf]? = some (.cells (#[.string ⟨#[97]⟩, .string t, .bool true, .int .i64 r] ++ rest) 59))

def stB (st : Option (ByteArray × Nat × Nat)) : List Nat := match st with | none => [] | some (_, bf, _) => [bf]

theorem heap_cell {w : World} {b i : Nat} {cs : Array Value} {T : TypeId} {fr : Nat × Nat} (h : w.heap[b]? = some (.cells cs T fr)) : w.cell? ⟨b, i, none⟩ = cs[i]? := by
  simp [World.cell?, h]
theorem heap_frozen {w : World} {b i : Nat} {cs : Array Value} {T : TypeId} (h : w.heap[b]? = some (.cells cs T)) : w.frozen? ⟨b, i, none⟩ = false := by
  simp [World.frozen?, h]


theorem setCell_same {w : World} {b i : Nat} {v : Value} (h : w.cell? ⟨b, i, none⟩ = some v) : w.setCell ⟨b, i, none⟩ v = w := by
  unfold World.cell? at h
  have : (w.setCell ⟨b, i, none⟩ v).heap = w.heap := by
    apply Array.ext_getElem?
    intro k
    simp only [World.setCell, Array.getElem?_modify]
    split
    · next e =>
      subst e
      revert h
      cases hb : w.heap[b]? with
      | none => simp
      | some o =>
        cases o with
        | cells c T fr =>
          intro h
          simp at h
          simp
          apply Array.ext_getElem?
          intro j
          rw [Array.getElem?_setIfInBounds]
          split
          · next e => subst e; rw [h]; split <;> simp_all
          · rfl
        | _ => simp
    · rfl
  show ({ w with heap := (w.setCell ⟨b, i, none⟩ v).heap } : World) = w
  rw [this]

theorem heap_setCell_lit {w : World} {b i : Nat} {cs : Array Value} {T : TypeId} {fr : Nat × Nat} (h : w.heap[b]? = some (.cells cs T fr)) (v : Value) :
    (w.setCell ⟨b, i, none⟩ v).heap[b]? = some (.cells (cs.setIfInBounds i v) T fr) := by
  simp [World.setCell, Array.getElem?_modify, h]

theorem heap_setCell_ne {w : World} {b k i : Nat} (h : k ≠ b) (v : Value) : (w.setCell ⟨b, i, none⟩ v).heap[k]? = w.heap[k]? := Below.heap_setCell _ _ _ _ h

theorem heap_lt {w : World} {b : Nat} {o : Obj} (h : w.heap[b]? = some o) : b < w.heap.size := (Array.getElem?_eq_some_iff.1 h).1

theorem below_heap {w w' : World} (hb : Below w.heap.size w w') {b : Nat} {o : Obj} (h : w.heap[b]? = some o) : w'.heap[b]? = some o := by
  rw [hb.block b (heap_lt h)]; exact h

def rBlk (F : Value) (r : Int) : Obj := .cells #[F, .slice none 0 0, .int .i64 r, .int .i64 0, .slice none 0 0] 31

structure RC (w : World) (br : Nat) (F : Value) (r : Int) : Prop where
  c0 : w.cell? ⟨br, 0, none⟩ = some F
  c1 : w.cell? ⟨br, 1, none⟩ = some (.slice none 0 0)
  c2 : w.cell? ⟨br, 2, none⟩ = some (.int .i64 r)
  c3 : w.cell? ⟨br, 3, none⟩ = some (.int .i64 0)
  c4 : w.cell? ⟨br, 4, none⟩ = some (.slice none 0 0)
  f : ∀ i, w.frozen? ⟨br, i, none⟩ = false

theorem rc_of {w : World} {br : Nat} {F : Value} {r : Int} (h : w.heap[br]? = some (rBlk F r)) : RC w br F r :=
  ⟨heap_cell h, heap_cell h, heap_cell h, heap_cell h, heap_cell h, fun _ => heap_frozen h⟩

def fBlk (t : ByteArray) (r : Int) (rest : Array Value) : Obj := .cells (#[.string ⟨#[97]⟩, .string t, .bool true, .int .i64 r] ++ rest) 59

theorem four_set (x0 x1 x2 x3 : Value) (rest : Array Value) (a b c d : Value) :
    ((((#[x0, x1, x2, x3] ++ rest).setIfInBounds 0 a).setIfInBounds 1 b).setIfInBounds 2 c).setIfInBounds 3 d = #[a, b, c, d] ++ rest := by
  obtain ⟨l⟩ := rest
  simp

theorem four_cut {cur : Array Value} {x0 x1 x2 x3 : Value} (h : cur.toList.take 4 = [x0, x1, x2, x3]) : ∃ rest, cur = #[x0, x1, x2, x3] ++ rest := by
  obtain ⟨l⟩ := cur
  refine ⟨⟨l.drop 4⟩, ?_⟩
  simp only at h
  have := List.take_append_drop 4 l
  rw [h] at this
  rw [← this]
  simp

theorem drew_heap (w : World) : w.drew.heap = w.heap := rfl

/-- The world behind a text that is set, the file being there. -/
theorem set_world {w : World} {br bf : Nat} {F : Value} {r : Int} {x0 x1 x2 x3 : Value} {rest : Array Value} (hne : bf ≠ br) (h1 : w.heap[br]? = some (rBlk F r)) (h2 : w.heap[bf]? = some (.cells (#[x0, x1, x2, x3] ++ rest) 59)) (t : ByteArray) (q : Int) :
    (((((w.setCell ⟨br, 2, none⟩ (.int .i64 q)).setCell ⟨bf, 0, none⟩ (.string ⟨#[97]⟩)).setCell ⟨bf, 1, none⟩ (.string t)).setCell ⟨bf, 2, none⟩ (.bool true)).setCell ⟨bf, 3, none⟩ (.int .i64 q)).drew.heap[br]? = some (rBlk F q) ∧
    (((((w.setCell ⟨br, 2, none⟩ (.int .i64 q)).setCell ⟨bf, 0, none⟩ (.string ⟨#[97]⟩)).setCell ⟨bf, 1, none⟩ (.string t)).setCell ⟨bf, 2, none⟩ (.bool true)).setCell ⟨bf, 3, none⟩ (.int .i64 q)).drew.heap[bf]? = some (fBlk t q rest) ∧
    Fr [br, bf] w (((((w.setCell ⟨br, 2, none⟩ (.int .i64 q)).setCell ⟨bf, 0, none⟩ (.string ⟨#[97]⟩)).setCell ⟨bf, 1, none⟩ (.string t)).setCell ⟨bf, 2, none⟩ (.bool true)).setCell ⟨bf, 3, none⟩ (.int .i64 q)).drew := by
  have a0 : (w.setCell ⟨br, 2, none⟩ (.int .i64 q)).heap[bf]? = some (.cells (#[x0, x1, x2, x3] ++ rest) 59) := (heap_setCell_ne hne _).trans h2
  have a1 := heap_setCell_lit (i := 0) a0 (.string ⟨#[97]⟩)
  have a2 := heap_setCell_lit (i := 1) a1 (.string t)
  have a3 := heap_setCell_lit (i := 2) a2 (.bool true)
  have a4 := heap_setCell_lit (i := 3) a3 (.int .i64 q)
  have b0 : (w.setCell ⟨br, 2, none⟩ (.int .i64 q)).heap[br]? = some (rBlk F q) := heap_setCell_lit (i := 2) h1 _
  refine ⟨?_, ?_, ?_⟩
  · rw [drew_heap, heap_setCell_ne hne.symm, heap_setCell_ne hne.symm, heap_setCell_ne hne.symm, heap_setCell_ne hne.symm]
    exact b0
  · rw [drew_heap, a4, four_set, fBlk]
  · exact Fr.drew ((((((Fr.refl _ _).setCell _ (.inl (by simp)) _).setCell _ (.inl (by simp)) _).setCell _ (.inl (by simp)) _).setCell _ (.inl (by simp)) _).setCell _ (.inl (by simp)) _)

set_option maxHeartbeats 400000 in
theorem rset_long (t : ByteArray) (br : Nat) (w : World) (F : Value) (r : Int) (hl : 400 < t.size) (hm : t.size ≤ maxLen) (h : w.heap[br]? = some (rBlk F r)) :
    Calls Try.prog 7 #[.pointer (some ⟨br, 0, none⟩), .string ⟨#[97]⟩, .string t] w fun e w' => e = .returned (.int .i64 2) ∧ Below w.heap.size w w' := by
  unfold maxLen at hm
  obtain ⟨c0, c1, c2, c3, c4, f⟩ := rc_of h
  have hs := setCell_same c4
  have f4 := f 4
  clear c0 c1 c2 c3 f h
  go_enter Try.func7, Try.ntmps7
  go_wp2_with (go_at_call 17; refine (called_a _).mono ?_; rintro e w' ⟨rfl, hb⟩)
  go_ret
  exact ⟨rfl, hb⟩

end Go.Proofs.Ytigolgnppcfceaa
