/-
  The sessions at a first Set of the file a: the program's Set.
  The document's engine: Ask of the next kind.
  The document's engine: Ask of the kinds 1 to 4, one behind the other.
-/
import Derived.Test.YtfekglokoafpiaaGreatDoorQ20
import Derived.Test.YtfekglokoafpiaaGreatDoorShelf
import Derived.Maps.OwnSet

set_option linter.unusedVariables false
set_option linter.unusedSimpArgs false

namespace Go.Proofs.YtfekglokoafpiaaGreatDoor.Ses
open Go.RowKit

def mEs (t : ByteArray) : Array MapEntry := #[{ key := .string ⟨#[97]⟩, val := .agg #[.string t], born := 0 }]
def mBlk (t : ByteArray) : Obj := .map (mEs t) 1
theorem isKA : MapKept.IsKey .string (.string ⟨#[97]⟩) := by simp [MapKept.IsKey]
theorem findA (t : ByteArray) : Instr.findNow .string (.string ⟨#[97]⟩) (mEs t).toList 0 = some (some (0, .agg #[.string t])) := rfl

theorem look_nil (w : World) : (Instr.lookup 41 (.map none) (.string ⟨#[97]⟩) true).run Tryz.prog w = .ok (.tuple #[.agg #[.string ⟨#[]⟩], .bool false]) w := by
  kernel_rfl

theorem look_one (w : World) (b : Nat) (t : ByteArray) (h : w.heap[b]? = some (mBlk t)) :
    (Instr.lookup 41 (.map (some b)) (.string ⟨#[97]⟩) true).run Tryz.prog w = .ok (.tuple #[.agg #[.string t], .bool true]) w := by
  simp [Instr.lookup, run_underlying Tryz.underlying41, MapKept.run_getObj_map h, MapKept.run_checkKey Tryz.underlying9 isKA, MapKept.run_findKey Tryz.underlying9 (findA t), Result.andThen]

theorem store_new (w : World) (b : Nat) (t : ByteArray) (h : w.heap[b]? = some (.map #[] 0)) :
    (Instr.mapUpdate 41 (.map (some b)) (.string ⟨#[97]⟩) (.agg #[.string t])).run Tryz.prog w = .ok () { w with heap := w.heap.setIfInBounds b (mBlk t) } := by
  have hf : Instr.findNow .string (.string ⟨#[97]⟩) ([] : List MapEntry) 0 = some none := rfl
  simp [Instr.mapUpdate, run_underlying Tryz.underlying41, MapKept.run_getObj_map h, MapKept.run_checkKey Tryz.underlying9 isKA, MapKept.run_findKey Tryz.underlying9 hf, MapKept.run_setObj_map _ h, Result.andThen, mBlk, mEs]

/-- The table's sources: the file a, at the block bc. -/
def qEs (bc : Nat) : Array MapEntry := #[{ key := .string ⟨#[97]⟩, val := .pointer (some ⟨bc, 0, none⟩), born := 0 }]
def qBlk (bc : Nat) : Obj := .map (qEs bc) 1
theorem findQ (bc : Nat) : Instr.findNow .string (.string ⟨#[97]⟩) (qEs bc).toList 0 = some (some (0, .pointer (some ⟨bc, 0, none⟩))) := rfl

theorem lookq_nil (w : World) : (Instr.lookup 42 (.map none) (.string ⟨#[97]⟩) true).run Tryz.prog w = .ok (.tuple #[.pointer none, .bool false]) w := by
  kernel_rfl

theorem lookq_one (w : World) (b bc : Nat) (h : w.heap[b]? = some (qBlk bc)) :
    (Instr.lookup 42 (.map (some b)) (.string ⟨#[97]⟩) true).run Tryz.prog w = .ok (.tuple #[.pointer (some ⟨bc, 0, none⟩), .bool true]) w := by
  simp [Instr.lookup, run_underlying Tryz.underlying42, MapKept.run_getObj_map h, MapKept.run_checkKey Tryz.underlying9 isKA, MapKept.run_findKey Tryz.underlying9 (findQ bc), Result.andThen]

theorem storeq_new (w : World) (b bc : Nat) (h : w.heap[b]? = some (.map #[] 0)) :
    (Instr.mapUpdate 42 (.map (some b)) (.string ⟨#[97]⟩) (.pointer (some ⟨bc, 0, none⟩))).run Tryz.prog w = .ok () { w with heap := w.heap.setIfInBounds b (qBlk bc) } := by
  have hf : Instr.findNow .string (.string ⟨#[97]⟩) ([] : List MapEntry) 0 = some none := rfl
  simp [Instr.mapUpdate, run_underlying Tryz.underlying42, MapKept.run_getObj_map h, MapKept.run_checkKey Tryz.underlying9 isKA, MapKept.run_findKey Tryz.underlying9 hf, MapKept.run_setObj_map _ h, Result.andThen, qBlk, qEs]

set_option maxRecDepth 100000 in
set_option maxHeartbeats 400000 in
theorem text_nil (bs : Nat) (w : World) (c0 : w.cell? ⟨bs, 0, none⟩ = some (.map none)) :
    Calls Tryz.prog 13 #[.pointer (some ⟨bs, 0, none⟩), .string ⟨#[97]⟩] w fun e w' => e = .returned (.tuple #[.string ⟨#[]⟩, .bool false]) ∧ Below w.heap.size w w' := by
  have hl := look_nil w
  go_enter Tryz.func13, Tryz.ntmps13
  go_wp2
  go_ret2
  exact ⟨rfl, (Below.refl _ _).alloc (Nat.le_refl _) _⟩

set_option maxRecDepth 100000 in
set_option maxHeartbeats 400000 in
theorem text_one (bs bm : Nat) (t : ByteArray) (w : World) (c0 : w.cell? ⟨bs, 0, none⟩ = some (.map (some bm))) (hm : w.heap[bm]? = some (mBlk t)) :
    Calls Tryz.prog 13 #[.pointer (some ⟨bs, 0, none⟩), .string ⟨#[97]⟩] w fun e w' => e = .returned (.tuple #[.string t, .bool true]) ∧ Below w.heap.size w w' := by
  have hl := look_one w bm t hm
  clear hm
  go_enter Tryz.func13, Tryz.ntmps13
  go_wp2
  go_ret2
  exact ⟨rfl, (Below.refl _ _).alloc (Nat.le_refl _) _⟩

set_option maxRecDepth 100000 in
set_option maxHeartbeats 400000 in
theorem full_nil (bs : Nat) (w : World) (c0 : w.cell? ⟨bs, 0, none⟩ = some (.map none)) :
    Calls Tryz.prog 14 #[.pointer (some ⟨bs, 0, none⟩)] w fun e w' => e = .returned (.bool false) ∧ w' = w := by
  have hl := Maps.len_nil (P := Tryz.prog) (w := w) Tryz.underlying41 3
  go_enter Tryz.func14, Tryz.ntmps14
  go_wp2
  go_ret
  exact ⟨rfl, rfl⟩

set_option maxRecDepth 100000 in
set_option maxHeartbeats 400000 in
theorem clone_any (s : ByteArray) (w : World) (hl : s.size ≤ 400) :
    Calls Tryz.prog 23 #[.string s] w fun e w' => e = .returned (.string s) ∧ Below w.heap.size w w' := by
  go_enter Tryz.func23, Tryz.ntmps23
  go_wp2_with (go_at_call 46; refine (Tryz.stringslite_Clone _ _ (by omega)).mono ?_; rintro e w' ⟨rfl, hb⟩)
  go_ret
  exact ⟨rfl, hb⟩

/-- The program's session: its files' map, the table's sources' map, the revision. -/
def sBlk (M Q : Option Nat) (r : Int) : Obj := .cells #[.map M, .int .i64 r, .map Q, .map none, .slice none 0 0, .slice none 0 0, .int .u64 0] 51
def cBlk (c : Int) : Obj := .cells #[.int .i64 c] 100

def setO (w : World) (b : Nat) (o : Obj) : World := { w with heap := w.heap.setIfInBounds b o }
theorem setO_ne (w : World) (b k : Nat) (o : Obj) (h : k ≠ b) : (setO w b o).heap[k]? = w.heap[k]? := by
  simp [setO, Ne.symm h]
theorem setO_eq {w : World} {b : Nat} {o' : Obj} (o : Obj) (h : w.heap[b]? = some o') : (setO w b o).heap[b]? = some o := by
  have := heap_lt h
  simp [setO, this]
/-- The files' map at bm, the sources' at bq, the file's source at bc. -/
structure PC (hp : Array Obj) (bs bm bq bc : Nat) (r : Int) (o : Obj) : Prop where
  hs : hp[bs]? = some (sBlk (some bm) (some bq) r)
  hm : hp[bm]? = some o
  hq : hp[bq]? = some (qBlk bc)
  hc : ∃ c, hp[bc]? = some (cBlk c)
theorem PC.below {w w' : World} {bs bm bq bc : Nat} {r : Int} {o : Obj} (hb : Below w.heap.size w w') (h : PC w.heap bs bm bq bc r o) : PC w'.heap bs bm bq bc r o := ⟨below_heap hb h.hs, below_heap hb h.hm, below_heap hb h.hq, h.hc.imp fun _ e => below_heap hb e⟩
theorem PC.hid {w w' : World} {bs bm bq bc : Nat} {r : Int} {o : Obj} (hb : Below w.heap.size w w') (h : Hid (PC w.heap bs bm bq bc r o)) : Hid (PC w'.heap bs bm bq bc r o) := PC.below hb h.out
theorem PC.c0 {w : World} {bs bm bq bc : Nat} {r : Int} {o : Obj} (h : PC w.heap bs bm bq bc r o) : w.cell? ⟨bs, 0, none⟩ = some (.map (some bm)) := heap_cell h.hs
theorem PC.c1 {w : World} {bs bm bq bc : Nat} {r : Int} {o : Obj} (h : PC w.heap bs bm bq bc r o) : w.cell? ⟨bs, 1, none⟩ = some (.int .i64 r) := heap_cell h.hs
theorem PC.f1 {w : World} {bs bm bq bc : Nat} {r : Int} {o : Obj} (h : PC w.heap bs bm bq bc r o) : w.frozen? ⟨bs, 1, none⟩ = false := heap_frozen h.hs

/-- Hid facts on what a new world is, gathered: from the world a to this one. -/
theorem Fr.step {S : List Nat} {a w w' : World} (h : Hid (Fr S a w)) (hb : Below w.heap.size w w') : Hid (Fr S a w') := h.out.trans (Fr.of_below hb)

theorem Fr.dr {S : List Nat} {a w : World} (h : Hid (Fr S a w)) : Hid (Fr S a w.drew) := h.out.drew
theorem Fr.setO {S : List Nat} {a w : World} (h : Fr S a w) (b : Nat) (hb : b ∈ S ∨ a.heap.size ≤ b) (o : Obj) : Fr S a (setO w b o) :=
  ⟨h.os, h.tape, h.output, by have := h.size; simpa [Ses.setO] using this, fun k hk hn => by
    have hne : k ≠ b := by
      rintro rfl
      rcases hb with hb | hb
      · exact hn hb
      · omega
    rw [setO_ne _ _ _ _ hne]; exact h.block k hk hn⟩

set_option maxRecDepth 100000 in
set_option maxHeartbeats 400000 in
theorem begin_any (bs : Nat) (M Q : Option Nat) (r : Int) (w : World) (h : w.heap[bs]? = some (sBlk M Q r)) :
    Calls Tryz.prog 11 #[.pointer (some ⟨bs, 0, none⟩)] w fun e w' => e = .returned (.tuple #[]) ∧ w' = w := by
  have c4 : w.cell? ⟨bs, 4, none⟩ = some (.slice none 0 0) := heap_cell h
  have f4 : w.frozen? ⟨bs, 4, none⟩ = false := heap_frozen h
  have hs := setCell_same c4
  clear h
  go_enter Tryz.func11, Tryz.ntmps11
  go_wp2
  go_end0
  exact ⟨rfl, rfl⟩

set_option maxRecDepth 100000 in
set_option maxHeartbeats 400000 in
theorem rev_any (bs : Nat) (r : Int) (w : World) (c1 : w.cell? ⟨bs, 1, none⟩ = some (.int .i64 r)) :
    Calls Tryz.prog 15 #[.pointer (some ⟨bs, 1, none⟩)] w fun e w' => e = .returned (.int .i64 r) ∧ w' = w := by
  go_enter Tryz.func15, Tryz.ntmps15
  go_wp2
  go_ret
  exact ⟨rfl, rfl⟩

set_option maxRecDepth 100000 in
set_option maxHeartbeats 400000 in
theorem source_old (bs bq bc : Nat) (w : World) (c2 : w.cell? ⟨bs, 2, none⟩ = some (.map (some bq))) (hq : w.heap[bq]? = some (qBlk bc)) :
    Calls Tryz.prog 56 #[.pointer (some ⟨bs, 1, none⟩), .string ⟨#[97]⟩] w fun e w' => e = .returned (.pointer (some ⟨bc, 0, none⟩)) ∧ w' = w := by
  have hl := lookq_one w bq bc hq
  clear hq
  go_enter Tryz.func56, Tryz.ntmps56
  go_wp2
  go_ret
  exact ⟨rfl, rfl⟩

/-- Behind a first Change: the sources' map and the file's source are new. -/
structure Chn (w w' : World) (bs bq bc : Nat) (M : Option Nat) (r c : Int) : Prop where
  s : w'.heap[bs]? = some (sBlk M (some bq) r)
  q : w'.heap[bq]? = some (qBlk bc)
  c : w'.heap[bc]? = some (cBlk c)
  lq : w.heap.size ≤ bq
  lc : w.heap.size ≤ bc
  ne : bq ≠ bc
  f : Fr [bs] w w'

/-- The world ahead of the store into the new map. -/
structure Pre (w W : World) (bs : Nat) (M : Option Nat) (r : Int) : Prop where
  s : W.heap[bs]? = some (sBlk M (some (w.heap.size + 1)) r)
  q : W.heap[w.heap.size + 1]? = some (.map #[] 0)
  c : W.heap[w.heap.size]? = some (cBlk 0)
  f : Fr [bs] w W
  lt : bs < w.heap.size

theorem Pre.below {w W W' : World} {bs : Nat} {M : Option Nat} {r : Int} (h : Pre w W bs M r) (hb : Below W.heap.size W W') : Pre w W' bs M r :=
  ⟨below_heap hb h.s, below_heap hb h.q, below_heap hb h.c, h.f.trans (Fr.of_below hb), h.lt⟩

theorem Pre.drew {w W : World} {bs : Nat} {M : Option Nat} {r : Int} (h : Pre w W bs M r) : Pre w W.drew bs M r := ⟨h.s, h.q, h.c, h.f.drew, h.lt⟩

theorem pre_of {w : World} {bs : Nat} {M : Option Nat} {r : Int} (h : w.heap[bs]? = some (sBlk M none r)) :
    Pre w (((w.setCell ⟨bs, 2, none⟩ (.map (some (w.heap.size + 1)))).alloc (cBlk 0)).alloc (.map #[] 0)) bs M r := by
  have hb := heap_lt h
  have s0 := heap_setCell_lit (i := 2) h (.map (some (w.heap.size + 1)))
  have hz0 : (w.setCell ⟨bs, 2, none⟩ (.map (some (w.heap.size + 1)))).heap.size = w.heap.size := by simp
  have hA := MapKept.heap_alloc (w.setCell ⟨bs, 2, none⟩ (.map (some (w.heap.size + 1)))) (cBlk 0)
  have hA2 := MapKept.heap_alloc ((w.setCell ⟨bs, 2, none⟩ (.map (some (w.heap.size + 1)))).alloc (cBlk 0)) (.map #[] 0)
  have hz : ((w.setCell ⟨bs, 2, none⟩ (.map (some (w.heap.size + 1)))).alloc (cBlk 0)).heap.size = w.heap.size + 1 := by simp
  rw [hz] at hA2
  rw [hz0] at hA
  exact ⟨(hA2.2 bs (by omega)).trans ((hA.2 bs hb).trans s0), hA2.1, (hA2.2 _ (by omega)).trans hA.1, ((((Fr.refl _ _).setCell _ (.inl (by simp)) _).alloc _).alloc _), hb⟩

theorem Pre.store {w W : World} {bs : Nat} {M : Option Nat} {r : Int} (h : Pre w W bs M r) : Chn w (setO W (w.heap.size + 1) (qBlk w.heap.size)) bs (w.heap.size + 1) w.heap.size M r 0 := by
  have := h.lt
  exact ⟨(setO_ne _ _ _ _ (by omega)).trans h.s, setO_eq _ h.q, (setO_ne _ _ _ _ (by omega)).trans h.c, by omega, by omega, by omega, h.f.setO _ (.inr (by omega)) _⟩

theorem Chn.below {w w1 w2 : World} {bs bq bc : Nat} {M : Option Nat} {r c : Int} (h : Chn w w1 bs bq bc M r c) (hb : Below w1.heap.size w1 w2) : Chn w w2 bs bq bc M r c :=
  ⟨below_heap hb h.s, below_heap hb h.q, below_heap hb h.c, h.lq, h.lc, h.ne, h.f.trans (Fr.of_below hb)⟩

set_option maxRecDepth 100000 in
set_option maxHeartbeats 1000000 in
theorem source_new (bs : Nat) (M : Option Nat) (r : Int) (w : World) (h : w.heap[bs]? = some (sBlk M none r)) :
    Calls Tryz.prog 56 #[.pointer (some ⟨bs, 1, none⟩), .string ⟨#[97]⟩] w fun e w' => e = .returned (.pointer (some ⟨w.heap.size, 0, none⟩)) ∧ Chn w w' bs (w.heap.size + 1) w.heap.size M r 0 := by
  have c2 : w.cell? ⟨bs, 2, none⟩ = some (.map none) := heap_cell h
  have hb := heap_lt h
  have hA := MapKept.heap_alloc w (cBlk 0)
  have hA2 := MapKept.heap_alloc (w.alloc (cBlk 0)) (.map #[] 0)
  have d2 : ∀ o, (w.alloc o).cell? ⟨bs, 2, none⟩ = some (.map none) := fun o => heap_cell ((Below.heap_alloc w o bs hb).trans h)
  have e2 : ∀ o p, ((w.alloc o).alloc p).cell? ⟨bs, 2, none⟩ = some (.map none) := fun o p => heap_cell ((Below.heap_alloc (w.alloc o) p bs (by simp; omega)).trans ((Below.heap_alloc w o bs hb).trans h))
  have g2 : ∀ o p, ((w.alloc o).alloc p).frozen? ⟨bs, 2, none⟩ = false := fun o p => heap_frozen ((Below.heap_alloc (w.alloc o) p bs (by simp; omega)).trans ((Below.heap_alloc w o bs hb).trans h))
  have hmn : ∀ W : World, (binOp .eql 42 (.map none) (.map none)).run Tryz.prog W = .ok (.bool true) W := fun W => run_eql_map_nil W 42 9 101 none Tryz.underlying42
  have hmk : ∀ W : World, (Instr.makeMap 42 none).run Tryz.prog W = .ok (.map (some W.heap.size)) (W.alloc (.map #[] 0)) := fun W => @run_makeMap Tryz.prog 42 W
  have hl := lookq_nil w
  have HP : Hid (Pre w (((w.setCell ⟨bs, 2, none⟩ (.map (some (w.heap.size + 1)))).alloc (cBlk 0)).alloc (.map #[] 0)) bs M r) := pre_of h
  clear h hA hA2
  go_enter Tryz.func56, Tryz.ntmps56
  go_wp2
  have HP2 : Hid (Pre w (((w.setCell ⟨bs, 2, none⟩ (.map (some (w.heap.size + 1)))).alloc (.cells #[.int .i64 0] 100)).alloc (.map #[] 0)) bs M r) := HP
  generalize ((w.setCell ⟨bs, 2, none⟩ (.map (some (w.heap.size + 1)))).alloc (.cells #[.int .i64 0] 100)).alloc (.map #[] 0) = W at HP2 ⊢
  have d2 : W.cell? ⟨bs, 2, none⟩ = some (.map (some (w.heap.size + 1))) := heap_cell HP2.out.s
  have hst : ∀ W : World, W.heap[w.heap.size + 1]? = some (.map #[] 0) → (Instr.mapUpdate 42 (.map (some (w.heap.size + 1))) (.string ⟨#[97]⟩) (.pointer (some ⟨w.heap.size, 0, none⟩))).run Tryz.prog W = .ok () (setO W (w.heap.size + 1) (qBlk w.heap.size)) := fun W hW => storeq_new W (w.heap.size + 1) w.heap.size hW
  clear HP c2 e2 g2 hmn hmk hl hb
  go_region_with (go_at_call 23; go_must (refine (clone_any _ _ ?hh).mono ?_; (case hh => decide); rintro e w' ⟨rfl, hb⟩; have HP3 : Hid (Pre w w' bs M r) := (by first | exact HP2.out.below hb | exact HP2.out.drew.below hb); have d2' : w'.cell? ⟨bs, 2, none⟩ = some (.map (some (w.heap.size + 1))) := heap_cell HP3.out.s; have q2' := HP3.out.q))
  all_goals go_wp2
  all_goals go_ret
  all_goals exact ⟨rfl, HP3.out.store⟩

theorem Chn.cell {w w1 : World} {bs bq bc : Nat} {M : Option Nat} {r c : Int} (h : Chn w w1 bs bq bc M r c) (hb : bs < w.heap.size) : Chn w (w1.setCell ⟨bc, 0, none⟩ (.int .i64 r)) bs bq bc M r r := by
  have := h.lc
  exact ⟨(heap_setCell_ne (by omega) _).trans h.s, (heap_setCell_ne h.ne _).trans h.q, heap_setCell_lit (i := 0) h.c _, h.lq, h.lc, h.ne, h.f.setCell _ (.inr h.lc) _⟩

theorem Chn.lower {w W w1 : World} {bs bq bc : Nat} {M : Option Nat} {r c : Int} (h : Chn W w1 bs bq bc M r c) (hF : Fr [bs] w W) : Chn w w1 bs bq bc M r c :=
  ⟨h.s, h.q, h.c, Nat.le_trans hF.size h.lq, Nat.le_trans hF.size h.lc, h.ne, hF.trans h.f⟩

theorem Chn.drew {w w1 : World} {bs bq bc : Nat} {M : Option Nat} {r c : Int} (h : Chn w w1 bs bq bc M r c) : Chn w w1.drew bs bq bc M r c :=
  ⟨h.s, h.q, h.c, h.lq, h.lc, h.ne, h.f.drew⟩

theorem Chn.drewL {w w1 : World} {bs bq bc : Nat} {M : Option Nat} {r c : Int} (h : Chn w.drew w1 bs bq bc M r c) : Chn w w1 bs bq bc M r c :=
  h.lower (Fr.refl _ _).drew

set_option maxRecDepth 100000 in
set_option maxHeartbeats 1000000 in
theorem change_first (bs : Nat) (M : Option Nat) (r : Int) (w : World) (hr : 0 ≤ r) (hr2 : r < 1000) (h : w.heap[bs]? = some (sBlk M none r)) :
    Calls Tryz.prog 31 #[.pointer (some ⟨bs, 1, none⟩), .string ⟨#[97]⟩] w fun e w' => e = .returned (.tuple #[]) ∧ ∃ bq bc, Chn w w' bs bq bc M (r + 1) (r + 1) := by
  have c1 : w.cell? ⟨bs, 1, none⟩ = some (.int .i64 r) := heap_cell h
  have f1 : w.frozen? ⟨bs, 1, none⟩ = false := heap_frozen h
  have HS : Hid ((w.setCell ⟨bs, 1, none⟩ (.int .i64 (r + 1))).heap[bs]? = some (sBlk M none (r + 1))) := heap_setCell_lit (i := 1) h (.int .i64 (r + 1))
  have HF : Hid (Fr [bs] w (w.setCell ⟨bs, 1, none⟩ (.int .i64 (r + 1)))) := (Fr.refl _ _).setCell _ (.inl (by simp)) _
  have HL : Hid (bs < (w.setCell ⟨bs, 1, none⟩ (.int .i64 (r + 1))).heap.size) := by have := heap_lt h; show _ < _; simpa using this
  clear h
  go_enter Tryz.func31, Tryz.ntmps31
  go_wp2
  generalize w.setCell ⟨bs, 1, none⟩ (.int .i64 (r + 1)) = W at HS HF HL ⊢
  have d1 : W.cell? ⟨bs, 1, none⟩ = some (.int .i64 (r + 1)) := heap_cell HS.out
  clear c1 f1
  go_region_with (go_at_call 56; go_must (refine (source_new bs M (r + 1) _ (by exact HS.out)).mono ?_; rintro e w' ⟨rfl, hC⟩; have HC : Hid (Chn W w' bs (W.heap.size + 1) W.heap.size M (r + 1) 0) := (by first | exact hC | exact Chn.drewL hC); have d1' : w'.cell? ⟨bs, 1, none⟩ = some (.int .i64 (r + 1)) := heap_cell HC.out.s; have e0' : w'.cell? ⟨W.heap.size, 0, none⟩ = some (.int .i64 0) := heap_cell HC.out.c; have k0' : w'.frozen? ⟨W.heap.size, 0, none⟩ = false := heap_frozen HC.out.c; clear hC))
  all_goals go_wp2
  all_goals go_end0
  all_goals first
    | exact ⟨rfl, _, _, (HC.out.cell HL.out).lower HF.out⟩
    | exact ⟨rfl, _, _, ((HC.out.cell HL.out).lower HF.out).drew⟩

structure Dis (bs bm bq bc : Nat) : Prop where
  ms : bm ≠ bs
  qs : bq ≠ bs
  cs : bc ≠ bs
  mq : bm ≠ bq
  mc : bm ≠ bc
  qc : bq ≠ bc

theorem PC.setO {w : World} {bs bm bq bc : Nat} {r : Int} {o : Obj} (hd : Dis bs bm bq bc) (h : PC w.heap bs bm bq bc r o) (o' : Obj) : PC (setO w bm o').heap bs bm bq bc r o' :=
  ⟨(setO_ne _ _ _ _ hd.ms.symm).trans h.hs, setO_eq _ h.hm, (setO_ne _ _ _ _ hd.mq.symm).trans h.hq, h.hc.imp fun _ e => (setO_ne _ _ _ _ hd.mc.symm).trans e⟩

/-- The world ahead of the store into the new map of files. -/
structure PreF (w W : World) (bs : Nat) (r : Int) : Prop where
  s : W.heap[bs]? = some (sBlk (some w.heap.size) none r)
  m : W.heap[w.heap.size]? = some (.map #[] 0)
  f : Fr [bs] w W
  lt : bs < w.heap.size
  sz : w.heap.size < W.heap.size

theorem PreF.below {w W W' : World} {bs : Nat} {r : Int} (h : PreF w W bs r) (hb : Below W.heap.size W W') : PreF w W' bs r :=
  ⟨below_heap hb h.s, below_heap hb h.m, h.f.trans (Fr.of_below hb), h.lt, by have := h.sz; have := hb.size; omega⟩
theorem PreF.drew {w W : World} {bs : Nat} {r : Int} (h : PreF w W bs r) : PreF w W.drew bs r := ⟨h.s, h.m, h.f.drew, h.lt, h.sz⟩
theorem PreF.step {w W W' : World} {bs : Nat} {r : Int} (h : Hid (PreF w W bs r)) (hb : Below W.heap.size W W') : Hid (PreF w W' bs r) := h.out.below hb
theorem PreF.dr {w W : World} {bs : Nat} {r : Int} (h : Hid (PreF w W bs r)) : Hid (PreF w W.drew bs r) := h.out.drew

theorem preF_of {w : World} {bs : Nat} {r : Int} (h : w.heap[bs]? = some (sBlk none none r)) :
    PreF w ((w.setCell ⟨bs, 0, none⟩ (.map (some w.heap.size))).alloc (.map #[] 0)) bs r := by
  have hb := heap_lt h
  have s0 := heap_setCell_lit (i := 0) h (.map (some w.heap.size))
  have hz0 : (w.setCell ⟨bs, 0, none⟩ (.map (some w.heap.size))).heap.size = w.heap.size := by simp
  have hA := MapKept.heap_alloc (w.setCell ⟨bs, 0, none⟩ (.map (some w.heap.size))) (.map #[] 0)
  rw [hz0] at hA
  exact ⟨(hA.2 bs hb).trans s0, hA.1, ((Fr.refl _ _).setCell _ (.inl (by simp)) _).alloc _, hb, by simp⟩

/-- A first file is there. -/
structure New1 (w w' : World) (bs bm bq bc : Nat) (r : Int) (t : ByteArray) : Prop where
  lm : w.heap.size ≤ bm
  lq : w.heap.size ≤ bq
  lc : w.heap.size ≤ bc
  d : Dis bs bm bq bc
  p : PC w'.heap bs bm bq bc r (mBlk t)
  f : Fr [bs] w w'

theorem PreF.done {w W w' : World} {bs bq bc : Nat} {r r' : Int} {t : ByteArray} (h : PreF w W bs r) (hc : Chn (setO W w.heap.size (mBlk t)) w' bs bq bc (some w.heap.size) r' r') : New1 w w' bs w.heap.size bq bc r' t := by
  have h1 := h.lt
  have h2 := h.sz
  have h3 : (setO W w.heap.size (mBlk t)).heap.size = W.heap.size := by simp [setO]
  have lq := hc.lq
  have lc := hc.lc
  rw [h3] at lq lc
  refine ⟨Nat.le_refl _, by omega, by omega, ⟨by omega, by omega, by omega, by omega, by omega, hc.ne⟩, ⟨hc.s, ?_, hc.q, _, hc.c⟩, ?_⟩
  · exact (hc.f.block w.heap.size (by omega) (by simp; omega)).trans (setO_eq _ h.m)
  · exact (h.f.setO _ (.inr (Nat.le_refl _)) _).trans hc.f

set_option maxRecDepth 100000 in
set_option maxHeartbeats 1000000 in
theorem put_new (t : ByteArray) (bs : Nat) (r : Int) (w : World) (hl : t.size ≤ 400) (hr : 0 ≤ r) (hr2 : r < 1000) (h : w.heap[bs]? = some (sBlk none none r)) :
    Calls Tryz.prog 16 #[.pointer (some ⟨bs, 0, none⟩), .string ⟨#[97]⟩, .string t] w fun e w' => e = .returned (.tuple #[]) ∧ ∃ bm bq bc, New1 w w' bs bm bq bc (r + 1) t := by
  have c0 : w.cell? ⟨bs, 0, none⟩ = some (.map none) := heap_cell h
  have f0 : w.frozen? ⟨bs, 0, none⟩ = false := heap_frozen h
  have hb := heap_lt h
  have d0 : ∀ o, (w.alloc o).cell? ⟨bs, 0, none⟩ = some (.map none) := fun o => heap_cell ((Below.heap_alloc w o bs hb).trans h)
  have g0 : ∀ o, (w.alloc o).frozen? ⟨bs, 0, none⟩ = false := fun o => heap_frozen ((Below.heap_alloc w o bs hb).trans h)
  have hP : Hid (PreF w ((w.setCell ⟨bs, 0, none⟩ (.map (some w.heap.size))).alloc (.map #[] 0)) bs r) := preF_of h
  have hmn : ∀ W : World, (binOp .eql 41 (.map none) (.map none)).run Tryz.prog W = .ok (.bool true) W := fun W => run_eql_map_nil W 41 9 73 none Tryz.underlying41
  have hmk : ∀ W : World, (Instr.makeMap 41 none).run Tryz.prog W = .ok (.map (some W.heap.size)) (W.alloc (.map #[] 0)) := fun W => @run_makeMap Tryz.prog 41 W
  have hst : ∀ W : World, W.heap[w.heap.size]? = some (.map #[] 0) → (Instr.mapUpdate 41 (.map (some w.heap.size)) (.string ⟨#[97]⟩) (.agg #[.string t])).run Tryz.prog W = .ok () (setO W w.heap.size (mBlk t)) := fun W hW => store_new W w.heap.size t hW
  clear h
  go_enter Tryz.func16, Tryz.ntmps16
  go_wp2
  generalize (w.setCell ⟨bs, 0, none⟩ (.map (some w.heap.size))).alloc (.map #[] 0) = W at hP ⊢
  have e0 : W.cell? ⟨bs, 0, none⟩ = some (.map (some w.heap.size)) := heap_cell hP.out.s
  clear c0 f0 d0 g0 hmn hmk hb
  go_region_with (go_at_call 23; go_must (refine (clone_any _ _ ?hh).mono ?_; (case hh => (first | exact hl | decide)); rintro e w' ⟨rfl, hb⟩; have hP : Hid (PreF w w' bs r) := (by first | exact PreF.step hP hb | exact PreF.step (PreF.dr hP) hb | exact PreF.step (PreF.dr (PreF.dr hP)) hb); have hm' := hP.out.m; have c0' : w'.cell? ⟨bs, 0, none⟩ = some (.map (some w.heap.size)) := heap_cell hP.out.s; clear hb))
  all_goals
    have HS : Hid ((setO w' w.heap.size (mBlk t)).heap[bs]? = some (sBlk (some w.heap.size) none r)) := (setO_ne _ _ _ _ (by have := hP.out.lt; omega)).trans hP.out.s
  all_goals go_wp2_with fail
  all_goals refine (change_first bs (some w.heap.size) r _ hr hr2 (by exact HS.out)).mono ?_
  all_goals rintro e w2 ⟨rfl, bq, bc, hch⟩
  all_goals
    have HCH : Hid (Chn (setO w' w.heap.size (mBlk t)) w2 bs bq bc (some w.heap.size) (r + 1) (r + 1)) := (by first | exact hch | exact Chn.drewL hch)
  all_goals go_wp2
  all_goals go_end0
  all_goals exact ⟨rfl, _, _, _, hP.out.done HCH.out⟩

theorem New1.after {w w1 w' : World} {bs bm bq bc : Nat} {r : Int} {t : ByteArray} (h : New1 w1 w' bs bm bq bc r t) (hb : Below w.heap.size w w1) : New1 w w' bs bm bq bc r t :=
  ⟨by have := h.lm; have := hb.size; omega, by have := h.lq; have := hb.size; omega, by have := h.lc; have := hb.size; omega, h.d, h.p, (Fr.of_below hb).trans h.f⟩

set_option maxRecDepth 100000 in
set_option maxHeartbeats 600000 in
theorem set_long (t : ByteArray) (bs : Nat) (M Q : Option Nat) (r : Int) (w : World) (hl : 400 < t.size) (hm : t.size ≤ maxLen) (h : w.heap[bs]? = some (sBlk M Q r)) :
    Calls Tryz.prog 6 #[.pointer (some ⟨bs, 0, none⟩), .string ⟨#[97]⟩, .string t] w fun e w' => e = .returned (.int .i64 2) ∧ w' = w := by
  unfold maxLen at hm
  have HH : Hid (w.heap[bs]? = some (sBlk M Q r)) := h
  clear h
  go_enter Tryz.func6, Tryz.ntmps6
  go_wp2_with (first
    | (go_at_call 11; go_must (refine (begin_any bs _ _ _ _ HH.out).mono ?_; rintro e w' ⟨rfl, rfl⟩))
    | (go_at_call 12; refine (isFile_a _).mono ?_; rintro e w' ⟨rfl, rfl⟩))
  go_ret
  exact ⟨rfl, rfl⟩

set_option maxRecDepth 100000 in
set_option maxHeartbeats 600000 in
theorem set_new (t : ByteArray) (bs : Nat) (r : Int) (w : World) (hl : t.size ≤ 400) (hr : 0 ≤ r) (hr2 : r < 1000) (h : w.heap[bs]? = some (sBlk none none r)) :
    Calls Tryz.prog 6 #[.pointer (some ⟨bs, 0, none⟩), .string ⟨#[97]⟩, .string t] w fun e w' => e = .returned (.int .i64 0) ∧ ∃ bm bq bc, New1 w w' bs bm bq bc (r + 1) t := by
  have HH : Hid (w.heap[bs]? = some (sBlk none none r)) := h
  have c0 : w.cell? ⟨bs, 0, none⟩ = some (.map none) := heap_cell h
  clear h
  go_enter Tryz.func6, Tryz.ntmps6
  go_wp2_with (first
    | (go_at_call 11; go_must (refine (begin_any bs _ _ _ _ HH.out).mono ?_; rintro e w' ⟨rfl, rfl⟩))
    | (go_at_call 12; refine (isFile_a _).mono ?_; rintro e w' ⟨rfl, rfl⟩)
    | (go_at_call 13; go_must (refine (text_nil _ _ c0).mono ?_; rintro e w' ⟨rfl, hb⟩; have h1 := below_heap hb HH.out; have c0' : w'.cell? ⟨bs, 0, none⟩ = some (.map none) := heap_cell h1; have c1' : w'.cell? ⟨bs, 1, none⟩ = some (.int .i64 r) := heap_cell h1; have H1 : Hid (w'.heap[bs]? = some (sBlk none none r)) := h1; clear h1))
    | (go_at_call 14; go_must (refine (full_nil _ _ c0').mono ?_; rintro e w' ⟨rfl, rfl⟩))
    | (go_at_call 15; go_must (refine (rev_any bs _ _ c1').mono ?_; rintro e w' ⟨rfl, rfl⟩))
    | (go_at_call 16; go_must (refine (put_new t bs r _ hl hr hr2 H1.out).mono ?_; rintro e w2 ⟨rfl, bm, bq, bc, hN⟩)))
  go_ret
  exact ⟨rfl, bm, bq, bc, hN.after hb⟩

end Go.Proofs.YtfekglokoafpiaaGreatDoor.Ses

namespace Go.Proofs.YtfekglokoafpiaaGreatDoor
open Go.RowKit

theorem YS.ranNil {w : World} {sb B : Nat} {fv slv ranv : Value} {n : Nat} {xs rs : List Value} {rev clk : Int} (h : YS w sb B fv slv ranv n xs rs rev clk) :
    YS (w.setCell ⟨sb, 4, none⟩ (.slice none 0 0)) sb B fv slv (.slice none 0 0) n xs [] rev clk :=
  ⟨heap_setCell_lit h.s _, h.lt, ownsRow_setCell_below h.own (a := ⟨sb, 4, none⟩) h.lt _, ⟨rfl, .inl ⟨rfl, rfl⟩⟩, fun b hb => by simp [Value.ownBlock] at hb⟩

set_option maxRecDepth 100000 in
set_option maxHeartbeats 1000000 in
theorem name_empty (w : World) : Calls Tryz.prog 25 #[.string ⟨#[]⟩] w fun e w' => e = .returned (.bool false) ∧ Below w.heap.size w w' := by
  have h : nameB ⟨#[]⟩ = false := by decide +kernel
  have h2 := rName_any ⟨#[]⟩ w (by decide)
  rw [h] at h2
  exact h2

theorem keepf5 {w2 w w' : World} {p0 p1 p2 p3 p4 : Addr} {v0 v1 v2 v3 v4 : Value} (h : Below w2.heap.size w2 w ∧ w.cell? p0 = some v0 ∧ w.cell? p1 = some v1 ∧ w.cell? p2 = some v2 ∧ w.cell? p3 = some v3 ∧ w.cell? p4 = some v4) (hb : Below w.heap.size w w') :
    Below w2.heap.size w2 w' ∧ w'.cell? p0 = some v0 ∧ w'.cell? p1 = some v1 ∧ w'.cell? p2 = some v2 ∧ w'.cell? p3 = some v3 ∧ w'.cell? p4 = some v4 := ⟨below_seq h.1 hb, cell_kept hb h.2.1, cell_kept hb h.2.2.1, cell_kept hb h.2.2.2.1, cell_kept hb h.2.2.2.2.1, cell_kept hb h.2.2.2.2.2⟩

set_option maxRecDepth 100000 in
set_option maxHeartbeats 2000000 in
theorem yask_new {w : World} {sb B : Nat} {fv slv ranv : Value} {n : Nat} {xs rs : List Value} {rev clk : Int} (h : YS w sb B fv slv ranv n xs rs rev clk) (hB : B ≤ w.heap.size) (hd : AllDone n rev xs) (hn : n ≤ 3) (hc0 : 0 ≤ clk) (hc : clk ≤ 100) (k : Nat) (hk : k = n + 1)
    (k0 : Nat) (ans : ByteArray)
    (HL : ∀ wx : World, Calls Tryz.prog 111 #[fv, .agg #[.int .i64 (k : Nat), .string ⟨#[97]⟩, .string ⟨#[]⟩]] wx fun e w' => ∃ g c, e = .returned (.slice (some ⟨g, 0, none⟩) 1 c) ∧ wx.heap.size ≤ g ∧ w'.heap[g]? = some (.cells #[.int .i64 (k0 : Nat), .string ⟨#[97]⟩, .string ⟨#[]⟩] 66) ∧ Below wx.heap.size wx w')
    (HFe : ∀ (wx : World) (slv' ranv : Value) (rs : List Value), YS wx sb B fv slv' ranv (n + 1) (actXs n k xs) rs rev clk → B ≤ wx.heap.size → Calls Tryz.prog 26 #[.pointer (some ⟨sb, 0, none⟩), .agg #[.int .i64 (k0 : Nat), .string ⟨#[97]⟩, .string ⟨#[]⟩], .bool true] wx fun e w' => e = .returned (.int .i64 (-1)) ∧ ∃ xs' c', (LastNew n k xs' ∧ AllDone n rev xs' ∧ clk ≤ c' ∧ c' ≤ clk + 1) ∧ YS w' sb B fv slv' ranv (n + 1) xs' rs rev c' ∧ Stay sb slv' wx w')
    (HA : ∀ wx : World, Keep B sb w wx → Calls Tryz.prog 112 #[fv, .int .i64 (k : Nat), .string ⟨#[97]⟩, .string ⟨#[]⟩] wx fun e w' => e = .returned (.string ans) ∧ Below wx.heap.size wx w') :
    Calls Tryz.prog 10 #[.pointer (some ⟨sb, 0, none⟩), .int .i64 (k : Nat), .string ⟨#[97]⟩, .string ⟨#[]⟩] w fun e w' => e = .returned (.tuple #[.string ans, .int .i64 0]) ∧ ∃ slv' ranv' xs' rs' clk', YS w' sb B fv slv' ranv' (n + 1) xs' rs' rev clk' ∧ AllDone (n + 1) rev xs' ∧ clk ≤ clk' ∧ clk' ≤ clk + 3 ∧ Keep B sb w w' := by
  have H := hid h
  have HD := hid hd
  have HK := hid hk
  have HLO := hid HL
  have HFE := hid HFe
  have HAN := hid HA
  have s4 : w.cell? ⟨sb, 4, none⟩ = some ranv := heap_cell (i := 4) h.s
  have f4 : w.frozen? ⟨sb, 4, none⟩ = false := heap_frozen h.s
  have hsr : ∃ ao m c, ranv = .slice ao m c := by
    obtain ⟨_, ⟨h, _⟩ | ⟨g, c, _, h, _⟩⟩ := h.ran
    · exact ⟨none, 0, 0, h⟩
    · exact ⟨_, _, _, h⟩
  obtain ⟨ra, rm, rc, rfl⟩ := hsr
  have hk1 : ¬ ((k : Int) < 1) := by omega
  have hk8 : ¬ ((8 : Int) < (k : Int)) := by omega
  have hk4 : k ≤ 4 := by omega
  clear h hd hk HL HFe HA
  go_enter Tryz.func10, Tryz.ntmps10
  go_wp2_with fail
  have H1 := hid H.out.ranNil
  have HK1 := hid (show Keep B sb w (w.setCell ⟨sb, 4, none⟩ (.slice none 0 0)) from Keep.stay hB H.out.own (Stay.setS _ _ _))
  have HB1 := hid (show B ≤ (w.setCell ⟨sb, 4, none⟩ (.slice none 0 0)).heap.size by simpa using hB)
  generalize w.setCell ⟨sb, 4, none⟩ (.slice none 0 0) = W1 at H1 HK1 HB1 ⊢
  clear s4 f4
  refine (Ses.called_a _).mono ?_
  rintro e w2 ⟨rfl, hb2⟩
  have H2 := hid (H1.out.below hb2)
  have HK2 := hid (HK1.out.seq (Keep.below HB1.out hb2))
  have HB2 := hid (show B ≤ w2.heap.size by have := HB1.out; have := hb2.size; omega)
  clear hb2 H1
  go_wp2_with fail
  refine (named_small k hk4 _).mono ?_
  rintro e w3 ⟨rfl, rfl⟩
  go_wp2_with fail
  refine (name_empty _).mono ?_
  rintro e w4 ⟨rfl, hb4⟩
  have H4 := hid (H2.out.below hb4)
  have HK4 := hid (HK2.out.seq (Keep.below HB2.out hb4))
  have HB4 := hid (show B ≤ w4.heap.size by have := HB2.out; have := hb4.size; omega)
  clear hb4 H2
  go_wp2_with fail
  have hN := new_heap w4 (.cells #[.int .i64 (k : Nat), .string ⟨#[97]⟩, .string ⟨#[]⟩] 66)
  have hbl := below_new w4 (.cells #[.int .i64 (k : Nat), .string ⟨#[97]⟩, .string ⟨#[]⟩] 66)
  generalize w4.alloc (.cells #[.int .i64 (k : Nat), .string ⟨#[97]⟩, .string ⟨#[]⟩] 66) = W5 at hN hbl ⊢
  have H5 := hid (H4.out.below hbl)
  have HK5 := hid (HK4.out.seq (Keep.below HB4.out hbl))
  have HB5 := hid (show B ≤ W5.heap.size by have := HB4.out; have := hbl.size; omega)
  have HN := hid hN
  clear hbl hN
  refine (fetch_new H5.out HB5.out HD.out hn hc0 hc k HK.out k0 ans HLO.out HFE.out (fun wx hx => HAN.out wx (HK5.out.seq hx))).mono ?_
  rintro e w6 ⟨rfl, slv6, ranv6, xs6, rs6, clk6, hy6, hd6, ha6, hc6, hc6', hk6⟩
  have H6 := hid hy6
  have HD6 := hid hd6
  have HA6 := hid ha6
  have HK6 := hid (HK5.out.seq (Keep.stay HB5.out H5.out.own hk6))
  have hN6 := (hk6.2 w4.heap.size (heap_lt HN.out) (by have := heap_lt H4.out.s; omega) (fun e => by have := (H4.out.own.lt _ e).2; omega)).trans HN.out
  have HN6 := hid hN6
  clear hy6 hd6 ha6 hk6 hN6
  go_wp2_with fail
  refine (drop_none H6.out HD6.out.kept (by omega) (by omega)).mono ?_
  rintro e w7 ⟨rfl, hb7⟩
  have HB7 := hid hb7
  have H7 := hid (H6.out.below hb7)
  have hN7 := below_heap hb7 (heap_lt HN6.out) HN6.out
  have y0 : w7.cell? ⟨w4.heap.size, 0, none⟩ = some (.int .i64 (k : Nat)) := heap_cell (i := 0) hN7
  have y1 : w7.cell? ⟨w4.heap.size, 1, none⟩ = some (.string ⟨#[97]⟩) := heap_cell (i := 1) hN7
  have y2 : w7.cell? ⟨w4.heap.size, 2, none⟩ = some (.string ⟨#[]⟩) := heap_cell (i := 2) hN7
  obtain ⟨g, c, rfl, hne, hcell, hfz⟩ := H7.out.slots (by omega)
  have s1 : w7.cell? ⟨sb, 1, none⟩ = some (.slice (some ⟨g, 0, none⟩) (n + 1) c) := heap_cell (i := 1) H7.out.s
  have z11 : w7.cell? ⟨g, n * 12 + 11, none⟩ = some (.string ans) := (H7.out.own.cellAt (n * 12 + 11) (by omega)).trans HA6.out
  clear hN7 hb7 hcell hfz
  have hki : ((k - 1 : Nat) : Int) = (n : Int) := by have := HK.out; omega
  have HKI := hid hki
  have hi0 : (0 : Int) ≤ (n : Int) := by omega
  have hin : (n : Int) < ((n + 1 : Nat) : Int) := by omega
  have hin2 : (n : Int) < (n : Int) + 1 := by omega
  have HKN := hid HD6.out.kinds
  have HB0 := hid (show Below w7.heap.size w7 w7 from Below.refl _ _)
  have hS : Below w7.heap.size w7 w7 ∧ w7.cell? ⟨sb, 1, none⟩ = some (.slice (some ⟨g, 0, none⟩) (n + 1) c) ∧ w7.cell? ⟨w4.heap.size, 0, none⟩ = some (.int .i64 (k : Nat)) ∧ w7.cell? ⟨w4.heap.size, 1, none⟩ = some (.string ⟨#[97]⟩) ∧ w7.cell? ⟨w4.heap.size, 2, none⟩ = some (.string ⟨#[]⟩) ∧ w7.cell? ⟨g, n * 12 + 11, none⟩ = some (.string ans) := ⟨Below.refl _ _, s1, y0, y1, y2, z11⟩
  clear hki s1 y0 y1 y2 z11
  go_wp2
  go_region_held3 (fun wx => Below w7.heap.size w7 wx ∧ wx.cell? ⟨sb, 1, none⟩ = some (.slice (some ⟨g, 0, none⟩) (n + 1) c) ∧ wx.cell? ⟨w4.heap.size, 0, none⟩ = some (.int .i64 (k : Nat)) ∧ wx.cell? ⟨w4.heap.size, 1, none⟩ = some (.string ⟨#[97]⟩) ∧ wx.cell? ⟨w4.heap.size, 2, none⟩ = some (.string ⟨#[]⟩) ∧ wx.cell? ⟨g, n * 12 + 11, none⟩ = some (.string ans))
    (first
      | exact keepf5 (by assumption) (below_drew _)
      | exact keepf5 (by assumption) (by assumption)
      | exact keepf5 (by assumption) (Below.refl _ _)
      | exact keepf5 hS (below_drew _))
    (first
      | (go_at_call 28; refine (slot_old (H7.out.below (below_drew _)) HKN.out (by omega) k (by have := HK.out; omega) (by have := HK.out; omega)).mono ?_; rintro e w8 ⟨rfl, hb8⟩; rw [HKI.out]))
  have hHeld := (by assumption : Below w7.heap.size w7 _ ∧ _)
  have HB9 := hid hHeld.1
  clear hHeld
  go_wp2
  go_ret2
  exact ⟨rfl, _, _, xs6, rs6, clk6, H7.out.below HB9.out, HD6.out, hc6, hc6', HK6.out.seq ((Keep.below (by have := HK6.out.size; omega) HB7.out).seq (Keep.below (by have := HK6.out.size; have := HB7.out.size; omega) HB9.out))⟩

end Go.Proofs.YtfekglokoafpiaaGreatDoor

namespace Go.Proofs.YtfekglokoafpiaaGreatDoor
open Go.RowKit

/-- The document's session with n kinds asked. -/
def YSess (w : World) (sb B : Nat) (fv : Value) (n : Nat) (rev : Int) : Prop :=
  ∃ slv ranv xs rs clk, YS w sb B fv slv ranv n xs rs rev clk ∧ AllDone n rev xs ∧ 0 ≤ clk ∧ clk ≤ 3 * (n : Int)

theorem YSess.below {w w' : World} {sb B : Nat} {fv : Value} {n : Nat} {rev : Int} (h : YSess w sb B fv n rev) (hb : Below w.heap.size w w') : YSess w' sb B fv n rev := by
  obtain ⟨slv, ranv, xs, rs, clk, h1, h2, h3, h4⟩ := h
  exact ⟨slv, ranv, xs, rs, clk, h1.below hb, h2, h3, h4⟩

theorem Fl.keep {fv : Value} {text : ByteArray} {there : Bool} {w w' : World} {B sb : Nat} (h : Fl fv text there w) (hlt : ∀ b, fv.ownBlock = some b → b < B ∧ b ≠ sb) (hk : Keep B sb w w') : Fl fv text there w' := by
  rcases h with h | ⟨fb, c, ch, rfl, h2, h3, h4, h5, h6⟩
  · exact .inl h
  · obtain ⟨h7, h8⟩ := hlt fb rfl
    have e : ∀ i, w'.cell? ⟨fb, i, none⟩ = w.cell? ⟨fb, i, none⟩ := fun i => World.cell?_of_block (w := w) (hk.2 fb h7 h8)
    exact .inr ⟨fb, c, ch, rfl, h2, (e _).trans h3, (e _).trans h4, (e _).trans h5, (e _).trans h6⟩

set_option maxRecDepth 100000 in
set_option maxHeartbeats 1000000 in
theorem fetch_file (sb : Nat) (w : World) : Calls Tryz.prog 26 #[.pointer (some ⟨sb, 0, none⟩), .agg #[.int .i64 ((0 : Nat) : Int), .string ⟨#[97]⟩, .string ⟨#[]⟩], .bool true] w fun e w' => e = .returned (.int .i64 (-1)) ∧ Below w.heap.size w w' := by
  have HBL := hid (below_new w (.cells #[.int .i64 ((0 : Nat) : Int), .string ⟨#[97]⟩, .string ⟨#[]⟩] 66))
  go_enter Tryz.func26, Tryz.ntmps26
  go_wp2
  go_ret
  exact ⟨rfl, by simpa using HBL.out⟩

theorem ask_step {w : World} {sb B : Nat} {fv : Value} {n : Nat} {rev : Int} (h : YSess w sb B fv n rev) (hB : B ≤ w.heap.size) (hn : n ≤ 3) (k : Nat) (hk : k = n + 1)
    (k0 : Nat) (ans : ByteArray)
    (HL : ∀ wx : World, Calls Tryz.prog 111 #[fv, .agg #[.int .i64 (k : Nat), .string ⟨#[97]⟩, .string ⟨#[]⟩]] wx fun e w' => ∃ g c, e = .returned (.slice (some ⟨g, 0, none⟩) 1 c) ∧ wx.heap.size ≤ g ∧ w'.heap[g]? = some (.cells #[.int .i64 (k0 : Nat), .string ⟨#[97]⟩, .string ⟨#[]⟩] 66) ∧ Below wx.heap.size wx w')
    (hk0 : k0 = 0 ∨ (1 ≤ k0 ∧ k0 ≤ n))
    (HA : ∀ wx : World, Keep B sb w wx → Calls Tryz.prog 112 #[fv, .int .i64 (k : Nat), .string ⟨#[97]⟩, .string ⟨#[]⟩] wx fun e w' => e = .returned (.string ans) ∧ Below wx.heap.size wx w') :
    Calls Tryz.prog 10 #[.pointer (some ⟨sb, 0, none⟩), .int .i64 (k : Nat), .string ⟨#[97]⟩, .string ⟨#[]⟩] w fun e w' => e = .returned (.tuple #[.string ans, .int .i64 0]) ∧ YSess w' sb B fv (n + 1) rev ∧ Keep B sb w w' := by
  obtain ⟨slv, ranv, xs, rs, clk, h1, h2, h3, h4⟩ := h
  have hl : xs.length = n * 12 := h1.own.1
  refine (yask_new h1 hB h2 hn h3 (by omega) k hk k0 ans HL (fun wx slv' ranv' rs' hy hBx => ?_) HA).mono ?_
  · rcases hk0 with rfl | ⟨hk1, hk2⟩
    · refine (fetch_file sb wx).mono ?_
      rintro e w' ⟨rfl, hb⟩
      exact ⟨rfl, _, clk, ⟨LastNew.act hl, actXs_done hl h2, by omega, by omega⟩, hy.below hb, Stay.below hb⟩
    · obtain ⟨i, rfl⟩ : ∃ i, k0 = i + 1 := ⟨k0 - 1, by omega⟩
      have hd := actXs_done (k := k) hl h2
      obtain ⟨la, ll, lc, ch, us, v, d⟩ := hd i (by omega)
      refine (fetch_done hy hBx (actXs_kinds hl hk h2.kinds) (by omega) h3 (by omega) (i + 1) i (by omega) rfl d).mono ?_
      rintro e w' ⟨rfl, hy', hs⟩
      exact ⟨rfl, _, clk + 1, ⟨(LastNew.act hl).used (by omega), useXs_all hd, by omega, by omega⟩, hy', hs⟩
  · rintro e w' ⟨rfl, slv', ranv', xs', rs', clk', hy, hd, hc1, hc2, hkp⟩
    exact ⟨rfl, ⟨slv', ranv', xs', rs', clk', hy, hd, by omega, by omega⟩, hkp⟩

theorem yask_1 {w : World} {sb B : Nat} {fv : Value} {rev : Int} {text : ByteArray} {there : Bool} (h : YSess w sb B fv 0 rev) (hB : B ≤ w.heap.size) (hfl : Fl fv text there w) (hlt : ∀ b, fv.ownBlock = some b → b < B ∧ b ≠ sb) :
    Calls Tryz.prog 10 #[.pointer (some ⟨sb, 0, none⟩), .int .i64 1, .string ⟨#[97]⟩, .string ⟨#[]⟩] w fun e w' => e = .returned (.tuple #[.string (knownT there), .int .i64 0]) ∧ YSess w' sb B fv 1 rev ∧ Keep B sb w w' :=
  ask_step h hB (by omega) 1 rfl 0 _ (fun wx => looks_1 fv wx) (.inl rfl) (fun wx hk => ans_known ⟨#[]⟩ wx (hfl.keep hlt hk))

theorem yask_2 {w : World} {sb B : Nat} {fv : Value} {rev : Int} {text : ByteArray} {there : Bool} (h : YSess w sb B fv 1 rev) (hB : B ≤ w.heap.size) (hfl : Fl fv text there w) (hlt : ∀ b, fv.ownBlock = some b → b < B ∧ b ≠ sb) (hd : DocT text) :
    Calls Tryz.prog 10 #[.pointer (some ⟨sb, 0, none⟩), .int .i64 2, .string ⟨#[97]⟩, .string ⟨#[]⟩] w fun e w' => e = .returned (.tuple #[.string (joinT ((lexAll text).map tokT)), .int .i64 0]) ∧ YSess w' sb B fv 2 rev ∧ Keep B sb w w' :=
  ask_step h hB (by omega) 2 rfl 0 _ (fun wx => looks_2 fv wx) (.inl rfl) (fun wx hk => ans_tokens ⟨#[]⟩ _ rfl wx (hfl.keep hlt hk) hd)

theorem yask_4 {w : World} {sb B : Nat} {fv : Value} {rev : Int} {text : ByteArray} {there : Bool} (h : YSess w sb B fv 3 rev) (hB : B ≤ w.heap.size) (hfl : Fl fv text there w) (hlt : ∀ b, fv.ownBlock = some b → b < B ∧ b ≠ sb) (hd : DocT text)
    (items : List It) (fl : Option Nat) (htree : treeAll (lexAll text) = (items, fl)) (hn : items.length ≤ 401) (hnum : ∀ i ∈ items, i.num ≤ 1000) (hnames : ∀ i ∈ items, i.name.size ≤ 8) :
    Calls Tryz.prog 10 #[.pointer (some ⟨sb, 0, none⟩), .int .i64 4, .string ⟨#[97]⟩, .string ⟨#[]⟩] w fun e w' => e = .returned (.tuple #[.string (joinT (docE items)), .int .i64 0]) ∧ YSess w' sb B fv 4 rev ∧ Keep B sb w w' :=
  ask_step h hB (by omega) 4 rfl 3 _ (fun wx => looks_4 fv wx) (.inr ⟨by omega, by omega⟩) (fun wx hk => ans_exports ⟨#[]⟩ items fl htree wx (hfl.keep hlt hk) hd hn hnum hnames)

end Go.Proofs.YtfekglokoafpiaaGreatDoor
