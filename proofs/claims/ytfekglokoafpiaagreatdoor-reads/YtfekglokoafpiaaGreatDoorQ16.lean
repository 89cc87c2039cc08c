/-
  The document's line of an item.
  The library's sort of no text.
  The program's Exports.
  The document's line of an item is the program's.
  The document's tokens: length, the walk.
-/
import Derived.Test.YtfekglokoafpiaaGreatDoorQ15
import Derived.Sort.OwnSorted
import Derived.Lib.RowBridge

set_option linter.unusedVariables false
set_option linter.unusedSimpArgs false

namespace Go.Proofs.YtfekglokoafpiaaGreatDoor
open Go.RowKit

theorem keepb7 {w1 w w' : World} {p0 p1 p2 p3 p4 p5 p6 : Addr} {v0 v1 v2 v3 v4 v5 v6 : Value} (h : Below w1.heap.size w1 w ∧ w.cell? p0 = some v0 ∧ w.cell? p1 = some v1 ∧ w.cell? p2 = some v2 ∧ w.cell? p3 = some v3 ∧ w.cell? p4 = some v4 ∧ w.cell? p5 = some v5 ∧ w.cell? p6 = some v6) (hb : Below w.heap.size w w') :
    Below w1.heap.size w1 w' ∧ w'.cell? p0 = some v0 ∧ w'.cell? p1 = some v1 ∧ w'.cell? p2 = some v2 ∧ w'.cell? p3 = some v3 ∧ w'.cell? p4 = some v4 ∧ w'.cell? p5 = some v5 ∧ w'.cell? p6 = some v6 :=
  ⟨below_seq h.1 hb, cell_kept hb h.2.1, cell_kept hb h.2.2.1, cell_kept hb h.2.2.2.1, cell_kept hb h.2.2.2.2.1, cell_kept hb h.2.2.2.2.2.1, cell_kept hb h.2.2.2.2.2.2.1, cell_kept hb h.2.2.2.2.2.2.2⟩

set_option maxRecDepth 100000 in
set_option maxHeartbeats 4000000 in
theorem shown_use (at_ : Nat) (hat : at_ ≤ 1000) (word nm ty : ByteArray) (op : Int) (t : ByteArray) (ao : Option Addr) (m c : Nat) (w : World) (hu : (word.toList == [117, 115, 101]) = true) (h1 : word.size ≤ 8) (h2 : nm.size ≤ 8) :
    Calls Tryz.prog 146 #[.agg #[.int .i64 (at_ : Nat), .string word, .string nm, .string ty, .int .u8 op, .string t, .slice ao m c]] w fun e w' => e = .returned (.string (((((decT at_ ++ ⟨#[58]⟩) ++ word) ++ ⟨#[32]⟩) ++ nm) ++ ⟨#[10]⟩)) ∧ Below w.heap.size w w' := by
  have hN := new_heap w (.cells #[.int .i64 (at_ : Nat), .string word, .string nm, .string ty, .int .u8 op, .string t, .slice ao m c] 234)
  have k0 : World.cell? _ ⟨w.heap.size, 0, none⟩ = some (.int .i64 (at_ : Nat)) := heap_cell (i := 0) hN
  have k1 : World.cell? _ ⟨w.heap.size, 1, none⟩ = some (.string word) := heap_cell (i := 1) hN
  have k2 : World.cell? _ ⟨w.heap.size, 2, none⟩ = some (.string nm) := heap_cell (i := 2) hN
  have k3 : World.cell? _ ⟨w.heap.size, 3, none⟩ = some (.string ty) := heap_cell (i := 3) hN
  have k4 : World.cell? _ ⟨w.heap.size, 4, none⟩ = some (.int .u8 op) := heap_cell (i := 4) hN
  have k5 : World.cell? _ ⟨w.heap.size, 5, none⟩ = some (.string t) := heap_cell (i := 5) hN
  have k6 : World.cell? _ ⟨w.heap.size, 6, none⟩ = some (.slice ao m c) := heap_cell (i := 6) hN
  have HBL := hid (below_new w (.cells #[.int .i64 (at_ : Nat), .string word, .string nm, .string ty, .int .u8 op, .string t, .slice ao m c] 234))
  have hz1 : (decT at_).size ≤ 19 := decT_len 19 at_ (by omega) (by omega)
  have hzz0 : ¬ (9223372036854775807 < (decT at_).size + 1) := by omega
  have hzz1 : ¬ (9223372036854775807 < (decT at_).size + 1 + word.size) := by omega
  have hzz2 : ¬ (9223372036854775807 < (decT at_).size + 1 + word.size + 1) := by omega
  have hzz3 : ¬ (9223372036854775807 < (decT at_).size + 1 + word.size + 1 + nm.size) := by omega
  have hzz4 : ¬ (9223372036854775807 < (decT at_).size + 1 + word.size + 1 + nm.size + 1) := by omega
  have hS : Below (w.alloc (.cells #[.int .i64 (at_ : Nat), .string word, .string nm, .string ty, .int .u8 op, .string t, .slice ao m c] 234)).heap.size (w.alloc (.cells #[.int .i64 (at_ : Nat), .string word, .string nm, .string ty, .int .u8 op, .string t, .slice ao m c] 234)) (w.alloc (.cells #[.int .i64 (at_ : Nat), .string word, .string nm, .string ty, .int .u8 op, .string t, .slice ao m c] 234)) ∧ (w.alloc (.cells #[.int .i64 (at_ : Nat), .string word, .string nm, .string ty, .int .u8 op, .string t, .slice ao m c] 234)).cell? ⟨w.heap.size, 0, none⟩ = some (.int .i64 (at_ : Nat)) ∧ (w.alloc (.cells #[.int .i64 (at_ : Nat), .string word, .string nm, .string ty, .int .u8 op, .string t, .slice ao m c] 234)).cell? ⟨w.heap.size, 1, none⟩ = some (.string word) ∧ (w.alloc (.cells #[.int .i64 (at_ : Nat), .string word, .string nm, .string ty, .int .u8 op, .string t, .slice ao m c] 234)).cell? ⟨w.heap.size, 2, none⟩ = some (.string nm) ∧ (w.alloc (.cells #[.int .i64 (at_ : Nat), .string word, .string nm, .string ty, .int .u8 op, .string t, .slice ao m c] 234)).cell? ⟨w.heap.size, 3, none⟩ = some (.string ty) ∧ (w.alloc (.cells #[.int .i64 (at_ : Nat), .string word, .string nm, .string ty, .int .u8 op, .string t, .slice ao m c] 234)).cell? ⟨w.heap.size, 4, none⟩ = some (.int .u8 op) ∧ (w.alloc (.cells #[.int .i64 (at_ : Nat), .string word, .string nm, .string ty, .int .u8 op, .string t, .slice ao m c] 234)).cell? ⟨w.heap.size, 5, none⟩ = some (.string t) ∧ (w.alloc (.cells #[.int .i64 (at_ : Nat), .string word, .string nm, .string ty, .int .u8 op, .string t, .slice ao m c] 234)).cell? ⟨w.heap.size, 6, none⟩ = some (.slice ao m c) := ⟨Below.refl _ _, k0, k1, k2, k3, k4, k5, k6⟩
  clear hN
  go_enter Tryz.func146, Tryz.ntmps146
  go_wp2
  go_region_held3 (fun wx => Below (w.alloc (.cells #[.int .i64 (at_ : Nat), .string word, .string nm, .string ty, .int .u8 op, .string t, .slice ao m c] 234)).heap.size (w.alloc (.cells #[.int .i64 (at_ : Nat), .string word, .string nm, .string ty, .int .u8 op, .string t, .slice ao m c] 234)) wx ∧ wx.cell? ⟨w.heap.size, 0, none⟩ = some (.int .i64 (at_ : Nat)) ∧ wx.cell? ⟨w.heap.size, 1, none⟩ = some (.string word) ∧ wx.cell? ⟨w.heap.size, 2, none⟩ = some (.string nm) ∧ wx.cell? ⟨w.heap.size, 3, none⟩ = some (.string ty) ∧ wx.cell? ⟨w.heap.size, 4, none⟩ = some (.int .u8 op) ∧ wx.cell? ⟨w.heap.size, 5, none⟩ = some (.string t) ∧ wx.cell? ⟨w.heap.size, 6, none⟩ = some (.slice ao m c))
    (first
      | exact keepb7 (by assumption) (below_drew _)
      | exact keepb7 (by assumption) (by assumption)
      | exact keepb7 (by assumption) (Below.refl _ _)
      | exact keepb7 hS (below_drew _))
    (first
      | (go_at_call 133; refine (decimal_any at_ (by omega) _).mono ?_; rintro e w2 ⟨rfl, rfl⟩))
  all_goals
    go_wp2
    go_ret
    exact ⟨rfl, below_seq HBL.out (And.left (by assumption : Below (w.alloc (.cells #[.int .i64 (at_ : Nat), .string word, .string nm, .string ty, .int .u8 op, .string t, .slice ao m c] 234)).heap.size (w.alloc (.cells #[.int .i64 (at_ : Nat), .string word, .string nm, .string ty, .int .u8 op, .string t, .slice ao m c] 234)) _ ∧ _))⟩

set_option maxRecDepth 100000 in
set_option maxHeartbeats 4000000 in
theorem shown_let (K : Nat → Prop) (at_ : Nat) (hat : at_ ≤ 1000) (word nm ty : ByteArray) (op : Int) (t : ByteArray) (ao : Option Addr) (m c : Nat) (sx : ByteArray) (w : World) (hx : Shows K w (.agg #[.int .u8 op, .string t, .slice ao m c]) sx) (hu : (word.toList == [117, 115, 101]) = false) (h1 : word.size ≤ 8) (h2 : nm.size ≤ 8) (h3 : ty.size ≤ 8) (h4 : sx.size ≤ 200000) :
    Calls Tryz.prog 146 #[.agg #[.int .i64 (at_ : Nat), .string word, .string nm, .string ty, .int .u8 op, .string t, .slice ao m c]] w fun e w' => e = .returned (.string (((((((((decT at_ ++ ⟨#[58]⟩) ++ word) ++ ⟨#[32]⟩) ++ nm) ++ ⟨#[58]⟩) ++ ty) ++ ⟨#[61]⟩) ++ sx) ++ ⟨#[10]⟩)) ∧ Below w.heap.size w w' := by
  have hN := new_heap w (.cells #[.int .i64 (at_ : Nat), .string word, .string nm, .string ty, .int .u8 op, .string t, .slice ao m c] 234)
  have k0 : World.cell? _ ⟨w.heap.size, 0, none⟩ = some (.int .i64 (at_ : Nat)) := heap_cell (i := 0) hN
  have k1 : World.cell? _ ⟨w.heap.size, 1, none⟩ = some (.string word) := heap_cell (i := 1) hN
  have k2 : World.cell? _ ⟨w.heap.size, 2, none⟩ = some (.string nm) := heap_cell (i := 2) hN
  have k3 : World.cell? _ ⟨w.heap.size, 3, none⟩ = some (.string ty) := heap_cell (i := 3) hN
  have k4 : World.cell? _ ⟨w.heap.size, 4, none⟩ = some (.int .u8 op) := heap_cell (i := 4) hN
  have k5 : World.cell? _ ⟨w.heap.size, 5, none⟩ = some (.string t) := heap_cell (i := 5) hN
  have k6 : World.cell? _ ⟨w.heap.size, 6, none⟩ = some (.slice ao m c) := heap_cell (i := 6) hN
  have HBL := hid (below_new w (.cells #[.int .i64 (at_ : Nat), .string word, .string nm, .string ty, .int .u8 op, .string t, .slice ao m c] 234))
  have hz1 : (decT at_).size ≤ 19 := decT_len 19 at_ (by omega) (by omega)
  have hzz0 : ¬ (9223372036854775807 < (decT at_).size + 1) := by omega
  have hzz1 : ¬ (9223372036854775807 < (decT at_).size + 1 + word.size) := by omega
  have hzz2 : ¬ (9223372036854775807 < (decT at_).size + 1 + word.size + 1) := by omega
  have hzz3 : ¬ (9223372036854775807 < (decT at_).size + 1 + word.size + 1 + nm.size) := by omega
  have hzz4 : ¬ (9223372036854775807 < (decT at_).size + 1 + word.size + 1 + nm.size + 1) := by omega
  have hzz5 : ¬ (9223372036854775807 < (decT at_).size + 1 + word.size + 1 + nm.size + 1 + ty.size) := by omega
  have hzz6 : ¬ (9223372036854775807 < (decT at_).size + 1 + word.size + 1 + nm.size + 1 + ty.size + 1) := by omega
  have hzz7 : ¬ (9223372036854775807 < (decT at_).size + 1 + word.size + 1 + nm.size + 1 + ty.size + 1 + sx.size) := by omega
  have hzz8 : ¬ (9223372036854775807 < (decT at_).size + 1 + word.size + 1 + nm.size + 1 + ty.size + 1 + sx.size + 1) := by omega
  have hS : Below (w.alloc (.cells #[.int .i64 (at_ : Nat), .string word, .string nm, .string ty, .int .u8 op, .string t, .slice ao m c] 234)).heap.size (w.alloc (.cells #[.int .i64 (at_ : Nat), .string word, .string nm, .string ty, .int .u8 op, .string t, .slice ao m c] 234)) (w.alloc (.cells #[.int .i64 (at_ : Nat), .string word, .string nm, .string ty, .int .u8 op, .string t, .slice ao m c] 234)) ∧ (w.alloc (.cells #[.int .i64 (at_ : Nat), .string word, .string nm, .string ty, .int .u8 op, .string t, .slice ao m c] 234)).cell? ⟨w.heap.size, 0, none⟩ = some (.int .i64 (at_ : Nat)) ∧ (w.alloc (.cells #[.int .i64 (at_ : Nat), .string word, .string nm, .string ty, .int .u8 op, .string t, .slice ao m c] 234)).cell? ⟨w.heap.size, 1, none⟩ = some (.string word) ∧ (w.alloc (.cells #[.int .i64 (at_ : Nat), .string word, .string nm, .string ty, .int .u8 op, .string t, .slice ao m c] 234)).cell? ⟨w.heap.size, 2, none⟩ = some (.string nm) ∧ (w.alloc (.cells #[.int .i64 (at_ : Nat), .string word, .string nm, .string ty, .int .u8 op, .string t, .slice ao m c] 234)).cell? ⟨w.heap.size, 3, none⟩ = some (.string ty) ∧ (w.alloc (.cells #[.int .i64 (at_ : Nat), .string word, .string nm, .string ty, .int .u8 op, .string t, .slice ao m c] 234)).cell? ⟨w.heap.size, 4, none⟩ = some (.int .u8 op) ∧ (w.alloc (.cells #[.int .i64 (at_ : Nat), .string word, .string nm, .string ty, .int .u8 op, .string t, .slice ao m c] 234)).cell? ⟨w.heap.size, 5, none⟩ = some (.string t) ∧ (w.alloc (.cells #[.int .i64 (at_ : Nat), .string word, .string nm, .string ty, .int .u8 op, .string t, .slice ao m c] 234)).cell? ⟨w.heap.size, 6, none⟩ = some (.slice ao m c) := ⟨Below.refl _ _, k0, k1, k2, k3, k4, k5, k6⟩
  clear hN
  have HX := hid hx
  clear hx
  go_enter Tryz.func146, Tryz.ntmps146
  go_wp2
  go_region_held3 (fun wx => Below (w.alloc (.cells #[.int .i64 (at_ : Nat), .string word, .string nm, .string ty, .int .u8 op, .string t, .slice ao m c] 234)).heap.size (w.alloc (.cells #[.int .i64 (at_ : Nat), .string word, .string nm, .string ty, .int .u8 op, .string t, .slice ao m c] 234)) wx ∧ wx.cell? ⟨w.heap.size, 0, none⟩ = some (.int .i64 (at_ : Nat)) ∧ wx.cell? ⟨w.heap.size, 1, none⟩ = some (.string word) ∧ wx.cell? ⟨w.heap.size, 2, none⟩ = some (.string nm) ∧ wx.cell? ⟨w.heap.size, 3, none⟩ = some (.string ty) ∧ wx.cell? ⟨w.heap.size, 4, none⟩ = some (.int .u8 op) ∧ wx.cell? ⟨w.heap.size, 5, none⟩ = some (.string t) ∧ wx.cell? ⟨w.heap.size, 6, none⟩ = some (.slice ao m c))
    (first
      | exact keepb7 (by assumption) (below_drew _)
      | exact keepb7 (by assumption) (by assumption)
      | exact keepb7 (by assumption) (Below.refl _ _)
      | exact keepb7 hS (below_drew _))
    (first
      | (go_at_call 133; refine (decimal_any at_ (by omega) _).mono ?_; rintro e w2 ⟨rfl, rfl⟩))
  all_goals
    go_wp2
    go_region_held3 (fun wx => Below (w.alloc (.cells #[.int .i64 (at_ : Nat), .string word, .string nm, .string ty, .int .u8 op, .string t, .slice ao m c] 234)).heap.size (w.alloc (.cells #[.int .i64 (at_ : Nat), .string word, .string nm, .string ty, .int .u8 op, .string t, .slice ao m c] 234)) wx ∧ wx.cell? ⟨w.heap.size, 0, none⟩ = some (.int .i64 (at_ : Nat)) ∧ wx.cell? ⟨w.heap.size, 1, none⟩ = some (.string word) ∧ wx.cell? ⟨w.heap.size, 2, none⟩ = some (.string nm) ∧ wx.cell? ⟨w.heap.size, 3, none⟩ = some (.string ty) ∧ wx.cell? ⟨w.heap.size, 4, none⟩ = some (.int .u8 op) ∧ wx.cell? ⟨w.heap.size, 5, none⟩ = some (.string t) ∧ wx.cell? ⟨w.heap.size, 6, none⟩ = some (.slice ao m c))
      (first
        | exact keepb7 (by assumption) (below_drew _)
        | exact keepb7 (by assumption) (by assumption)
        | exact keepb7 (by assumption) (Below.refl _ _))
      (first
        | (go_at_call 174; refine (HX.out _ ?_).mono ?_; exact Later.of_below (below_seq HBL.out (And.left (by assumption : Below (w.alloc (.cells #[.int .i64 (at_ : Nat), .string word, .string nm, .string ty, .int .u8 op, .string t, .slice ao m c] 234)).heap.size (w.alloc (.cells #[.int .i64 (at_ : Nat), .string word, .string nm, .string ty, .int .u8 op, .string t, .slice ao m c] 234)) _ ∧ _))); rintro e w3 ⟨rfl, hb3⟩))
    all_goals
      go_wp2
      go_ret
      exact ⟨rfl, below_seq HBL.out (And.left (by assumption : Below (w.alloc (.cells #[.int .i64 (at_ : Nat), .string word, .string nm, .string ty, .int .u8 op, .string t, .slice ao m c] 234)).heap.size (w.alloc (.cells #[.int .i64 (at_ : Nat), .string word, .string nm, .string ty, .int .u8 op, .string t, .slice ao m c] 234)) _ ∧ _))⟩

end Go.Proofs.YtfekglokoafpiaaGreatDoor

namespace Go.Proofs.YtfekglokoafpiaaGreatDoor
open Go.RowKit

set_option maxRecDepth 100000 in
set_option maxHeartbeats 1000000 in
theorem len64_0 (w : World) : Calls Tryz.prog 180 #[.int .u64 0] w fun e w' => e = .returned (.int .i64 0) ∧ w' = w := by
  go_enter Tryz.func180, Tryz.ntmps180
  go_wp2
  go_ret
  refine ⟨ret_int ?_, rfl⟩
  have h8 : Lib.len8 0 = 0 := by decide +kernel
  rw [h8]; simp [wrap64]

set_option maxRecDepth 100000 in
set_option maxHeartbeats 1000000 in
theorem len_0 (w : World) : Calls Tryz.prog 165 #[.int .u64 0] w fun e w' => e = .returned (.int .i64 0) ∧ w' = w := by
  go_enter Tryz.func165, Tryz.ntmps165
  go_wp2_with fail
  refine (len64_0 _).mono ?_
  rintro e w1 ⟨rfl, rfl⟩
  go_wp2
  go_ret
  exact ⟨rfl, rfl⟩

set_option maxRecDepth 100000 in
set_option maxHeartbeats 1000000 in
theorem ins_0 (w : World) : Calls Tryz.prog 189 #[.slice none 0 0, .int .i64 0, .int .i64 0] w fun e w' => e = .returned (.tuple #[]) ∧ w' = w := by
  go_enter Tryz.func189, Tryz.ntmps189
  go_wp2
  refine wp_loop_rounds 1 ?_
  rw [rounds_succ]
  go_wp2
  go_end0
  exact ⟨rfl, rfl⟩

set_option maxRecDepth 100000 in
set_option maxHeartbeats 1000000 in
theorem pdq_0 (w : World) : Calls Tryz.prog 164 #[.slice none 0 0, .int .i64 0, .int .i64 0, .int .i64 0] w fun e w' => e = .returned (.tuple #[]) ∧ w' = w := by
  go_enter Tryz.func164, Tryz.ntmps164
  go_wp2
  refine wp_loop_rounds 1 ?_
  rw [rounds_succ]
  go_wp2_with fail
  refine (ins_0 _).mono ?_
  rintro e w1 ⟨rfl, rfl⟩
  go_wp2
  refine bodyPost_ret (results_none rfl _ _ _) rfl ?_
  exact ⟨rfl, rfl⟩

set_option maxRecDepth 100000 in
set_option maxHeartbeats 1000000 in
theorem sort_nil (w : World) : Calls Tryz.prog 124 #[.slice none 0 0] w fun e w' => e = .returned (.tuple #[]) ∧ w' = w := by
  go_enter Tryz.func124, Tryz.ntmps124
  go_wp2_with fail
  refine (len_0 _).mono ?_
  rintro e w1 ⟨rfl, rfl⟩
  go_wp2_with fail
  refine (pdq_0 _).mono ?_
  rintro e w1 ⟨rfl, rfl⟩
  go_wp2
  go_end0
  exact ⟨rfl, rfl⟩

end Go.Proofs.YtfekglokoafpiaaGreatDoor

namespace Go.Proofs.YtfekglokoafpiaaGreatDoor
open Go.RowKit Go.Sort

/-- The names of the pub items. -/
def pubs (items : List It) : List (List UInt8) := (items.filter fun i => i.kind == 2).map fun i => i.name.data.toList

def expL (items : List It) : List (List UInt8) := Lib.compact ((pubs items).mergeSort fun x y => decide (x ≤ y))

theorem pubs_snoc (l : List It) (i : It) : pubs (l ++ [i]) = pubs l ++ (if i.kind == 2 then [i.name.data.toList] else []) := by
  unfold pubs
  rw [List.filter_append, List.map_append]
  congr 1
  cases h : i.kind == 2 <;> simp [h]

theorem pubs_len (l : List It) : (pubs l).length ≤ l.length := by
  unfold pubs
  rw [List.length_map]
  exact List.length_filter_le _ _

theorem encStr_name (s : ByteArray) : encStr s.data.toList = .string s := by
  simp [encStr]

theorem infoStr : (Tryz.prog.info? 9).map (fun i => (i.zero, i.size, i.bytes)) = some (some (.string ⟨#[]⟩), 1, 16) := by kernel_rfl

theorem one_cell (w : World) (b : Nat) (hb : b = w.heap.size) (x : Value) (T : TypeId) : ∀ j u, [x][j]? = some u → (w.alloc (.cells #[x] T)).cell? ((⟨b, 0, none⟩ : Addr).add j) = some u := by
  subst hb; exact cell_one_new w x T

/-- What Exports' loop holds. -/
structure EX (items : List It) (ao : Option Addr) (c : Nat) (fault : Value) (w wr : World) (k : Nat) (v : Value) : Prop where
  bl : Below w.heap.size w wr
  pr : wr.heap[w.heap.size]? = some (.cells #[.slice ao items.length c, fault] 86)
  own : wr.ownsRow (w.heap.size + 1) 9 1 v (pubs (items.take k)).length ((pubs (items.take k)).map encStr)

theorem EX.lt {items : List It} {ao : Option Addr} {c : Nat} {fault : Value} {w wr : World} {k : Nat} {v : Value} (h : EX items ao c fault w wr k v) : w.heap.size < wr.heap.size := heap_lt h.pr

theorem EX.shape {items : List It} {ao : Option Addr} {c : Nat} {fault : Value} {w wr : World} {k : Nat} {v : Value} (h : EX items ao c fault w wr k v) : ∃ ao m c, v = .slice ao m c := by
  obtain ⟨_, ⟨h, _⟩ | ⟨g, c, _, h, _⟩⟩ := h.own
  · exact ⟨none, 0, 0, h⟩
  · exact ⟨_, _, _, h⟩

theorem EX.cell {items : List It} {ao : Option Addr} {c g : Nat} {fault : Value} {w wr : World} {k : Nat} {v : Value} (h : EX items ao c fault w wr k v) {cur : Array Value} (hg : w.heap[g]? = some (.cells cur 135 (0, 0))) (hc : cur.toList.take (items.length * 5) = items.flatMap itCells) {i : It} (hi : items[k]? = some i) {j : Nat} {u : Value} (hj : (itCells i)[j]? = some u) :
    wr.cell? ⟨g, k * 5 + j, none⟩ = some u := by
  have h1 := below_heap h.bl (heap_lt hg) hg
  have hj5 : j < 5 := by
    rcases Nat.lt_or_ge j 5 with h5 | h5
    · exact h5
    · simp [itCells, List.getElem?_eq_none (show [Value.int .i64 i.kind, .int .i64 i.num, .string i.name, .string i.typ, i.ex].length ≤ j by simpa using h5)] at hj
  have h2 := flat5 items k j i hi hj5
  rw [hj] at h2
  have h3 := take_get hc h2
  rw [heap_cell h1, ← Array.getElem?_toList, h3]

theorem EX.skip {items : List It} {ao : Option Addr} {c : Nat} {fault : Value} {w wr : World} {k : Nat} {v : Value} (h : EX items ao c fault w wr k v) (hk : k < items.length) {i : It} (hi : items[k]? = some i) (hn : (i.kind == 2) = false) (o : Obj) : EX items ao c fault w (wr.alloc o) (k + 1) v := by
  have e : items.take (k + 1) = items.take k ++ [i] := by rw [List.take_add_one, hi]; rfl
  refine ⟨h.bl.alloc (Nat.le_of_lt h.lt) _, old_heap _ h.pr, ?_⟩
  rw [e, pubs_snoc, hn]
  simpa using h.own.alloc o

theorem EX.put {items : List It} {ao : Option Addr} {c : Nat} {fault : Value} {w wr w' : World} {k : Nat} {v v' : Value} (h : EX items ao c fault w wr k v) (hk : k < items.length) {i : It} (hi : items[k]? = some i) (hn : (i.kind == 2) = true)
    (hown : w'.ownsRow (w.heap.size + 1) 9 1 v' ((pubs (items.take k)).length + 1) ((pubs (items.take k)).map encStr ++ [.string i.name])) (hg : wr.grownBy w' v.ownBlock) : EX items ao c fault w w' (k + 1) v' := by
  have e : items.take (k + 1) = items.take k ++ [i] := by rw [List.take_add_one, hi]; rfl
  have hlt := fun k hk => (h.own.lt k hk).1
  refine ⟨h.bl.grown hg (Nat.le_of_lt h.lt) (fun k hk => by have := hlt k hk; omega), ?_, ?_⟩
  · exact (hg.block _ h.lt fun e => by have := hlt _ e.symm; omega).trans h.pr
  · rw [e, pubs_snoc, hn]
    simpa [encStr_name] using hown

theorem EX.alloc {items : List It} {ao : Option Addr} {c : Nat} {fault : Value} {w wr : World} {k : Nat} {v : Value} (h : EX items ao c fault w wr k v) (o : Obj) : EX items ao c fault w (wr.alloc o) k v :=
  ⟨h.bl.alloc (Nat.le_of_lt h.lt) _, old_heap _ h.pr, h.own.alloc _⟩

/-- What Exports hands on. -/
def ExpPost (E : List (List UInt8)) (w : World) : Ending → World → Prop := fun e w' =>
  Below w.heap.size w w' ∧ ∃ c, (E = [] ∧ e = .returned (.slice none 0 c)) ∨ (∃ g, e = .returned (.slice (some ⟨g, 0, none⟩) E.length c) ∧ E.length ≤ c ∧ (w.heap.size ≤ g ∧ ∃ cs fr, w'.heap[g]? = some (.cells cs 9 fr)) ∧ ∀ (j : Nat) x, E[j]? = some x → w'.cell? ⟨g, j, none⟩ = some (.string ⟨x.toArray⟩))

theorem below_grownSome {B g : Nat} {a w w' : World} (h : Below B a w) (hg : w.grownBy w' (some g)) (hB : B ≤ w.heap.size) (hr : B ≤ g) : Below B a w' := h.grown hg hB (fun k hk => by cases hk; exact hr)

theorem below_putRow {B g : Nat} {a w : World} (h : Below B a w) (hg : B ≤ g) (q off : Nat) (d : Array (List UInt8)) : Below B a (putRow encStr (Sort.ahead w q) g off d) := by
  refine ⟨h.os, h.tape, h.output, by simpa [Sort.ahead] using h.size, fun k hk => ?_⟩
  rw [← h.block k hk]
  have : g ≠ k := by omega
  simp [putRow, mapBlock, Sort.ahead, Array.getElem?_modify, this]

theorem mapBlock_at {w : World} {b : Nat} {cs : Array Value} {T : TypeId} {fr : Nat × Nat} (h : w.heap[b]? = some (.cells cs T fr)) (F : Array Value → Array Value) : ∃ cs2 fr2, (mapBlock w b F).heap[b]? = some (.cells cs2 T fr2) := by
  have hl := heap_lt h
  refine ⟨F cs, fr, ?_⟩
  simp [mapBlock, Array.getElem?_modify, h, onCells]

set_option maxRecDepth 100000 in
set_option maxHeartbeats 2000000 in
theorem exports_ao (items : List It) (hn : items.length ≤ 401) (hex : ∀ i ∈ items, i.ex = .nilIface ∨ ∃ T v, i.ex = .iface T v) (fault : Value) (ao : Option Addr) (c : Nat) (w : World)
    (hao : 0 < items.length → ∃ g cur, ao = some ⟨g, 0, none⟩ ∧ w.heap[g]? = some (.cells cur 135 (0, 0)) ∧ cur.toList.take (items.length * 5) = items.flatMap itCells) :
    Calls Tryz.prog 97 #[.agg #[.slice ao items.length c, fault]] w (ExpPost (expL items) w) := by
  obtain ⟨i0, hi0, hz0, hz1, hz2⟩ := info_parts infoStr
  have k0 : (w.alloc (.cells #[.slice ao items.length c, fault] 86)).cell? ⟨w.heap.size, 0, none⟩ = some (.slice ao items.length c) := heap_cell (i := 0) (new_heap w _)
  have HAO := hid hao
  have HEX := hid hex
  have HE0 : Hid (EX items ao c (fault) w (w.alloc (.cells #[.slice ao items.length c, fault] 86)) 0 (.slice none 0 0)) := hid
    ⟨(Below.refl _ _).alloc (Nat.le_refl _) _, new_heap _ _, World.ownsRow_nil _ _ _ _⟩
  clear hao hex
  go_enter Tryz.func97, Tryz.ntmps97
  go_wp2
  go_loopg [3, 9] items.length (fun f v v8 wr => ∃ k, k + f = items.length ∧ v8 = .int .i64 (k : Nat) ∧ EX items ao c (fault) w wr k v)
  case atStart => exact ⟨0, by omega, rfl, HE0.out⟩
  case round =>
    clear HE0 k0
    obtain ⟨k, hk, rfl, hext⟩ := hrel
    obtain ⟨no, nm, nc, rfl⟩ := hext.shape
    have HT := hid hext
    clear hext
    by_cases hlt : k < items.length
    · obtain ⟨g, cur, rfl, hg, hc⟩ := HAO.out (by omega)
      have hi := List.getElem?_eq_getElem hlt
      have hexi := HEX.out items[k] (List.getElem_mem hlt)
      generalize hii : items[k] = i at hi hexi
      obtain ⟨ik, inum, inm, ity, iex⟩ := i
      simp only at hexi
      have z0 := HT.out.cell hg hc hi (j := 0) rfl
      have z1 := HT.out.cell hg hc hi (j := 1) rfl
      have z2 := HT.out.cell hg hc hi (j := 2) rfl
      have z3 := HT.out.cell hg hc hi (j := 3) rfl
      have z4 := HT.out.cell hg hc hi (j := 4) rfl
      rw [Nat.add_zero] at z0
      have hlt2 : (k : Int) < (items.length : Int) := by omega
      have hkc : (0 : Int) ≤ (k : Int) := by omega
      have HI := hid hi
      clear hg hc hi hii
      have hown0 := HT.out.own
      have HLEN := hid (pubs_len (items.take k))
      rcases hexi with rfl | ⟨T, u, rfl⟩
      all_goals
        cases h2 : (ik == 2) with
        | false =>
          have hi2 : ¬ ((ik : Int) = 2) := by
            rw [beq_eq_false_iff_ne] at h2; omega
          have hb2 : ((ik : Int) == 2) = false := by rw [beq_eq_false_iff_ne]; exact hi2
          have HN2 := hid h2
          clear h2 hown0
          go_wp2
          go_roundg (items.length - (k + 1))
          case rel => exact ⟨k + 1, by omega, by go_num, HT.out.skip hlt HI.out HN2.out _⟩
          case measure => omega
        | true =>
          have hi2 : ((ik : Int) = 2) := by
            rw [beq_iff_eq] at h2; omega
          have hb2 : ((ik : Int) == 2) = true := by rw [beq_iff_eq]; exact hi2
          have HN2 := hid h2
          have HOB := HT.out.lt
          clear h2
          go_wp2_with (at_builtin; go_must (refine wpList_append_own _ rfl _ _ 24 rfl (w.heap.size + 1) 9 i0 (.string ⟨#[]⟩) 1 16 Tryz.underlying24 hi0 hz0 hz1 hz2 rfl (by decide) _ _ _ rfl ((hown0.alloc _).alloc _) ⟨_, 0, none⟩ 1 1 [.string inm] rfl rfl (one_cell _ _ (by simp) _ _) ?c2 ?c3 ?c4 ?c5 ?_))
          case c2 => rfl
          case c3 => have := HLEN.out; simp only [List.length_take] at this; unfold maxLen; omega
          case c4 => have := HLEN.out; simp only [List.length_take] at this; omega
          case c5 => first | omega | (simp; omega)
          intro v' w4 hown' hgrow _
          have ht4 := ((HT.out.alloc _).alloc _).put hlt HI.out HN2.out hown' hgrow
          obtain ⟨ao', m', c', rfl⟩ := ht4.shape
          have HT4 := hid ht4
          clear ht4 hown' hgrow hown0
          go_wp2
          go_roundg (items.length - (k + 1))
          case rel => exact ⟨k + 1, by omega, by go_num, HT4.out⟩
          case measure => omega
    · have hke : k = items.length := by omega
      subst hke
      have hown := HT.out.own
      rw [List.take_length] at hown
      have HBL := hid HT.out.bl
      have HLT := HT.out.lt
      have HPL := hid (pubs_len items)
      obtain ⟨hl, ⟨hv, h0⟩ | ⟨g, cap, cur, hv, hB, hg, h1, h2, h3, h4⟩⟩ := hown
      · have e1 := (Value.slice.inj hv).1
        have e2 := (Value.slice.inj hv).2.1
        have e3 := (Value.slice.inj hv).2.2
        subst e1; subst e2; subst e3
        have hE : expL items = [] := by
          have : pubs items = [] := List.eq_nil_of_length_eq_zero h0
          unfold expL; rw [this, List.mergeSort_nil]; rfl
        have HEE := hid hE
        clear hv hl h0 hE HT
        go_wp2_with fail
        refine (sort_nil _).mono ?_
        rintro e w1 ⟨rfl, rfl⟩
        go_wp2_with fail
        refine (Tryz.slices_Compact_string_empty none 0 _).mono ?_
        rintro e w2 ⟨rfl, rfl⟩
        go_wp2
        go_ret
        exact ⟨HBL.out, 0, .inl ⟨HEE.out, rfl⟩⟩
      · have e1 := (Value.slice.inj hv).1
        have e2 := (Value.slice.inj hv).2.1
        have e3 := (Value.slice.inj hv).2.2
        subst e1; subst e2; subst e3
        have hH := holds_of_block (ss := pubs items) hg (by simpa using h4)
        have HH := hid hH
        have HG := hid hg
        have HOS := hid (fun (n : Nat) (os : Array Obj) (ts : List (List UInt8)) (hts : ts.length = (pubs items).length) => ownsRow_sorted (w := wr) (base := w.heap.size + 1) (n := n) (os := os) (ts := ts) hts hB hg h1 h2 h3)
        have hglt := heap_lt hg
        have hle : (pubs items).length ≤ nc := h1
        have HGB := hid hB
        clear hv hl h2 h3 h4 hH hg hB HT h1
        go_wp2_with fail
        refine (Tryz.slices_Sort_string g 0 nc (pubs items) _ HH.out hglt (by have := HPL.out; omega)).mono ?_
        rintro e w1 ⟨rfl, n, os, hw1⟩
        have hSl : ((pubs items).mergeSort fun x y => decide (x ≤ y)).length = (pubs items).length := List.length_mergeSort _
        have hown1 := HOS.out n os _ hSl
        rw [← hw1] at hown1
        have hgb1 : wr.grownBy w1 (some g) := by rw [hw1]; exact grownBy_sorted _
        have HB1 := hid (below_grownSome HBL.out hgb1 (Nat.le_of_lt HLT) (by have := HGB.out; omega))
        obtain ⟨S, hS⟩ : ∃ S, S = (pubs items).mergeSort fun x y => decide (x ≤ y) := ⟨_, rfl⟩
        rw [← hS] at hown1 hSl
        have hE : expL items = Lib.compact S := by rw [hS]; rfl
        obtain ⟨_, ⟨hv1, _⟩ | ⟨g1, cap1, cur1, hv1, _, hg1, _, _, _, h41⟩⟩ := hown1
        · cases hv1
        · have q1 := (Addr.mk.inj (Option.some.inj (Value.slice.inj hv1).1)).1
          have q2 := (Value.slice.inj hv1).2.2
          subst q1; subst q2
          have HH1 := hid (holds_of_block (ss := S) hg1 (by rw [hSl]; simpa using h41))
          have hglt1 := heap_lt hg1
          have HG1 := hid hg1
          have HEE := hid hE
          clear hw1 hgb1 hv1 hg1 h41 hE hS HH HG HOS
          rw [← hSl] at hle
          go_wp2_with fail
          rw [← hSl]
          refine (Tryz.slices_Compact_string g 0 nc S _ HH1.out (by have := HPL.out; omega) hle).mono ?_
          rintro e w2 ⟨rfl, q, hw2⟩
          have hcl := Lib.compact_length_le S
          have HW2 := hid hw2
          clear hw2
          go_wp2
          go_ret
          rw [HEE.out]
          refine ⟨?_, nc, .inr ⟨g, rfl, by omega, ?_, ?_⟩⟩
          · rw [HW2.out]
            exact below_putRow HB1.out (by have := HGB.out; omega) _ _ _
          · refine ⟨by have := HGB.out; omega, ?_⟩
            rw [HW2.out]
            exact mapBlock_at (w := Sort.ahead w1 q) HG1.out _
          · intro j x hx
            have hj : j < (Lib.compact S).length := (List.getElem?_eq_some_iff.1 hx).1
            have hxe := (List.getElem?_eq_some_iff.1 hx).2
            have hsize : (Lib.compact S ++ List.replicate (S.length - (Lib.compact S).length) []).toArray.size = S.toArray.size := by simp; omega
            have := cell?_putRow encStr (Sort.ahead w1 q) g 0 S.toArray (Lib.compact S ++ List.replicate (S.length - (Lib.compact S).length) []).toArray HH1.out hsize j (by rw [hsize]; simp; omega)
            rw [HW2.out]
            rw [Nat.zero_add] at this
            rw [this, getElem!_pos _ j (by rw [hsize]; simp; omega)]
            simp [encStr, List.getElem_append_left hj, hxe]

end Go.Proofs.YtfekglokoafpiaaGreatDoor

namespace Go.Proofs.YtfekglokoafpiaaGreatDoor
open Go.RowKit

theorem itemU_doc (d nm : ByteArray) : ((((d ++ ⟨#[58]⟩) ++ ⟨#[117, 115, 101]⟩) ++ ⟨#[32]⟩) ++ nm) ++ ⟨#[10]⟩ = itemU d ⟨#[58, 117, 115, 101, 32]⟩ nm := by
  apply ByteArray.ext
  simp [itemU, ByteArray.data_append, Array.append_assoc]

theorem itemL_doc1 (d nm ty sx : ByteArray) : ((((((((d ++ ⟨#[58]⟩) ++ ⟨#[108, 101, 116]⟩) ++ ⟨#[32]⟩) ++ nm) ++ ⟨#[58]⟩) ++ ty) ++ ⟨#[61]⟩) ++ sx) ++ ⟨#[10]⟩ = itemL d ⟨#[58, 108, 101, 116, 32]⟩ nm ty sx := by
  apply ByteArray.ext
  simp [itemL, ByteArray.data_append, Array.append_assoc]

theorem itemL_doc2 (d nm ty sx : ByteArray) : ((((((((d ++ ⟨#[58]⟩) ++ ⟨#[112, 117, 98]⟩) ++ ⟨#[32]⟩) ++ nm) ++ ⟨#[58]⟩) ++ ty) ++ ⟨#[61]⟩) ++ sx) ++ ⟨#[10]⟩ = itemL d ⟨#[58, 112, 117, 98, 32]⟩ nm ty sx := by
  apply ByteArray.ext
  simp [itemL, ByteArray.data_append, Array.append_assoc]

/-- The document's line of an item, in whatever later world. -/
def ShowsI (K : Nat → Prop) (w : World) (v : Value) (s : ByteArray) : Prop :=
  ∀ w', Later K w w' → Calls Tryz.prog 146 #[v] w' fun e w'' => e = .returned (.string s) ∧ Below w'.heap.size w' w''

theorem shown_any {K : Nat → Prop} {w : World} {at_ : Nat} {word nm ty : ByteArray} {op : Int} {t : ByteArray} {ao : Option Addr} {m c : Nat} {i : It} (h : RI K w at_ word nm ty (.agg #[.int .u8 op, .string t, .slice ao m c]) i) (hn : i.num ≤ 1000) :
    ∃ s, ITx i s ∧ ShowsI K w (.agg #[.int .i64 at_, .string word, .string nm, .string ty, .int .u8 op, .string t, .slice ao m c]) s := by
  obtain ⟨h1, rfl, h3, h⟩ := h
  have hat : at_ = i.num := by omega
  subst hat
  have hd := decT_len 19 i.num (by omega) (by omega)
  rcases h with ⟨hk, rfl, hex⟩ | ⟨hk, rfl, hty, n, hn401, hr⟩
  · refine ⟨itemU (decT i.num) ⟨#[58, 117, 115, 101, 32]⟩ i.name, ⟨hn, ?_, .inl ⟨hk, hex, rfl⟩⟩, fun w' hl => ?_⟩
    · simp only [itemU, ByteArray.size_append, bsz1, sz1, List.length_cons, List.length_nil]; omega
    · have := shown_use i.num hn ⟨#[117, 115, 101]⟩ i.name ty op t ao m c w' (by simp [ByteArray.toList_eq]) (by decide) h3
      rw [itemU_doc] at this
      exact this
  · obtain ⟨sx, hs, hw, hz⟩ := rep_text hr hn401
    have htz : i.typ.size ≤ 8 := by rcases hty with e | e <;> rw [e] <;> decide
    have hx : ∀ w', Later K w w' → Shows K w' _ sx := fun w' hl => hs.later hl
    rcases hk with ⟨hk, rfl⟩ | ⟨hk, rfl⟩
    · refine ⟨itemL (decT i.num) ⟨#[58, 108, 101, 116, 32]⟩ i.name i.typ sx, ⟨hn, ?_, .inr ⟨sx, hw, .inl ⟨hk, rfl⟩⟩⟩, fun w' hl => ?_⟩
      · simp only [itemL, ByteArray.size_append, bsz1, sz1, List.length_cons, List.length_nil]; omega
      · have := shown_let K i.num hn ⟨#[108, 101, 116]⟩ i.name i.typ op t ao m c sx w' (hx w' hl) (by simp [ByteArray.toList_eq]) (by decide) h3 htz (by omega)
        rw [itemL_doc1] at this
        exact this
    · refine ⟨itemL (decT i.num) ⟨#[58, 112, 117, 98, 32]⟩ i.name i.typ sx, ⟨hn, ?_, .inr ⟨sx, hw, .inr ⟨hk, rfl⟩⟩⟩, fun w' hl => ?_⟩
      · simp only [itemL, ByteArray.size_append, bsz1, sz1, List.length_cons, List.length_nil]; omega
      · have := shown_let K i.num hn ⟨#[112, 117, 98]⟩ i.name i.typ op t ao m c sx w' (hx w' hl) (by simp [ByteArray.toList_eq]) (by decide) h3 htz (by omega)
        rw [itemL_doc2] at this
        exact this

/-- The document's items' values. -/
def DocV (at_ : Nat) (word nm ty : ByteArray) (op : Int) (t : ByteArray) (ao : Option Addr) (m c : Nat) : List Value := [.int .i64 at_, .string word, .string nm, .string ty, .int .u8 op, .string t, .slice ao m c]

/-- Item by item: the document's cells, its line, the program's line. -/
def Lines (K : Nat → Prop) (w : World) : List It → List Value → List ByteArray → Prop
  | [], xs, ss => xs = [] ∧ ss = []
  | i :: is, xs, ss => ∃ (at_ : Nat) (word nm ty : ByteArray) (op : Int) (t : ByteArray) (ao : Option Addr) (m c : Nat) (ys : List Value) (s : ByteArray) (rs : List ByteArray),
      xs = DocV at_ word nm ty op t ao m c ++ ys ∧ ss = s :: rs ∧ ITx i s ∧ ShowsI K w (.agg #[.int .i64 at_, .string word, .string nm, .string ty, .int .u8 op, .string t, .slice ao m c]) s ∧
      nm = i.name ∧ ((i.kind == 2) = (word.toList == [112, 117, 98])) ∧ Lines K w is ys rs

theorem lines_of {K : Nat → Prop} {w : World} : ∀ {l : List It} {xs : List Value}, Its K w l xs → (∀ i ∈ l, i.num ≤ 1000) → ∃ ss, Lines K w l xs ss
  | [], xs, h, _ => ⟨[], h, rfl⟩
  | i :: is, xs, h, hn => by
    obtain ⟨at_, word, nm, ty, op, t, ao, m, c, ys, rfl, h2, h3⟩ := h
    obtain ⟨rs, hrs⟩ := lines_of h3 fun j hj => hn j (by simp [hj])
    obtain ⟨s, hs1, hs2⟩ := shown_any h2 (hn i (by simp))
    refine ⟨s :: rs, at_, word, nm, ty, op, t, ao, m, c, ys, s, rs, rfl, rfl, hs1, hs2, h2.2.1, ?_, hrs⟩
    rcases h2.2.2.2 with ⟨hk, rfl, _⟩ | ⟨⟨hk, rfl⟩ | ⟨hk, rfl⟩, _⟩ <;> rw [hk] <;> simp [ByteArray.toList_eq]

theorem Lines.len {K : Nat → Prop} {w : World} : ∀ {l : List It} {xs : List Value} {ss : List ByteArray}, Lines K w l xs ss → ss.length = l.length
  | [], _, _, h => by rw [h.2]; rfl
  | _ :: _, _, _, h => by
    obtain ⟨at_, word, nm, ty, op, t, ao, m, c, ys, s, rs, h1, rfl, h3, h4, h5, h6, h7⟩ := h
    simp [Lines.len h7]

theorem Lines.itx {K : Nat → Prop} {w : World} : ∀ {l : List It} {xs : List Value} {ss : List ByteArray}, Lines K w l xs ss → ∀ (k : Nat) (i : It) (s : ByteArray), l[k]? = some i → ss[k]? = some s → ITx i s
  | [], _, _, _, k, i, s, hi, _ => by simp at hi
  | _ :: _, _, _, h, k, i, s, hi, hs => by
    obtain ⟨at_, word, nm, ty, op, t, ao, m, c, ys, s1, rs, h1, rfl, h3, h4, h5, h6, h7⟩ := h
    cases k with
    | zero => simp at hi hs; subst hi; subst hs; exact h3
    | succ k => simp at hi hs; exact Lines.itx h7 k i s hi hs

/-- The k-th item. -/
theorem Lines.get {K : Nat → Prop} {w : World} : ∀ {l : List It} {xs : List Value} {ss : List ByteArray}, Lines K w l xs ss → ∀ (k : Nat) (i : It), l[k]? = some i → ∃ (at_ : Nat) (word nm ty : ByteArray) (op : Int) (t : ByteArray) (ao : Option Addr) (m c : Nat) (s : ByteArray),
      ss[k]? = some s ∧ (∀ j u, (DocV at_ word nm ty op t ao m c)[j]? = some u → xs[k * 7 + j]? = some u) ∧ ShowsI K w (.agg #[.int .i64 at_, .string word, .string nm, .string ty, .int .u8 op, .string t, .slice ao m c]) s ∧ nm = i.name ∧ ((i.kind == 2) = (word.toList == [112, 117, 98])) ∧ s.size ≤ 200000
  | [], _, _, _, k, i, hi => by simp at hi
  | _ :: _, _, _, h, k, i, hi => by
    obtain ⟨at_, word, nm, ty, op, t, ao, m, c, ys, s1, rs, rfl, rfl, h3, h4, h5, h6, h7⟩ := h
    cases k with
    | zero =>
      simp at hi; subst hi
      refine ⟨at_, word, nm, ty, op, t, ao, m, c, s1, rfl, fun j u hj => ?_, h4, h5, h6, h3.2.1⟩
      have hj7 : j < 7 := by
        rcases Nat.lt_or_ge j 7 with h | h
        · exact h
        · rw [List.getElem?_eq_none (by simp [DocV]; omega)] at hj; cases hj
      rw [List.getElem?_append_left (by simp [DocV]; omega)]; simpa using hj
    | succ k =>
      simp at hi
      obtain ⟨at2, word2, nm2, ty2, op2, t2, ao2, m2, c2, s2, g1, g2, g3, g4, g5, g6⟩ := Lines.get h7 k i hi
      refine ⟨at2, word2, nm2, ty2, op2, t2, ao2, m2, c2, s2, by simpa using g1, fun j u hj => ?_, g3, g4, g5, g6⟩
      rw [List.getElem?_append_right (by simp [DocV]; omega)]
      have := g2 j u hj
      rw [← this]
      congr 1
      simp [DocV]; omega

theorem ShowsI.later {K : Nat → Prop} {w w' : World} {v : Value} {s : ByteArray} (h : ShowsI K w v s) (hl : Later K w w') : ShowsI K w' v s := fun w'' h2 => h w'' (hl.trans h2)

/-- The numbers of the items. -/
theorem itemP_num {toks : List Tok} {a b : Nat} {i : It} (h : itemP toks a = (b, some i)) : i.num ≤ a + 2 := by
  unfold itemP at h
  split at h
  · unfold useP at h
    split at h
    · split at h
      · cases h; simp
      · cases h
    · cases h
  · have key : ∀ k a, letP toks k a = (b, some i) → i.num = a + 1 := by
      intro k a h
      unfold letP at h
      split at h
      · split at h
        · split at h
          · split at h
            · split at h
              · split at h
                · cases h
                · split at h
                  · cases h; rfl
                  · cases h
              · cases h
            · cases h
          · cases h
        · cases h
      · cases h
    split at h
    · have := key _ _ h; omega
    · have := key _ _ h; omega

theorem treeP_num {toks : List Tok} : ∀ (f a : Nat), ∀ i ∈ (treeP toks f a).1, i.num ≤ toks.length + 2
  | 0, a, i, h => by simp [treeP] at h
  | f + 1, a, i, h => by
    unfold treeP at h
    split at h
    · simp at h
    · rename_i he
      have ha : a < toks.length := by
        rcases Nat.lt_or_ge a toks.length with h1 | h1
        · exact h1
        · exact absurd (by rw [tx, List.getElem?_eq_none h1]; simp [eqB]) he
      split at h
      · simp at h
      · rename_i b i1 hip
        simp only [List.mem_cons] at h
        rcases h with rfl | h
        · have := itemP_num hip; omega
        · exact treeP_num f b i h

end Go.Proofs.YtfekglokoafpiaaGreatDoor

namespace Go.Proofs.YtfekglokoafpiaaGreatDoor
open Go.RowKit

theorem beqN {a b : Nat} (h : ((a : Int) == (b : Int)) = true) : (a == b) = true := by rw [beq_iff_eq] at h ⊢; omega
theorem beqN' {a b : Nat} (h : ((a : Int) == (b : Int)) = false) : (a == b) = false := by rw [beq_eq_false_iff_ne] at h ⊢; omega

set_option maxRecDepth 100000 in
set_option maxHeartbeats 1000000 in
theorem rLen_let (s : ByteArray) (a : Nat) (w : World) (hs : s.size ≤ 400) (ha : a < s.size) (hL : isLetB s[a].toNat = true) :
    Calls Tryz.prog 172 #[.string s, .int .i64 a] w fun e w' => e = .returned (.int .i64 (tokP s a)) ∧ w' = w := by
  obtain ⟨hD, hE⟩ := digit_not_letter hL
  have HE' := hid (beqN' hE)
  go_enter Tryz.func172, Tryz.ntmps172
  go_wp2_with (first
    | (go_at_call 47; go_must (refine (rLetter_any _ _).mono ?_; rintro e w ⟨rfl, rfl⟩))
    | (go_at_call 205; go_must (refine (rDigit_any _ _).mono ?_; rintro e w ⟨rfl, rfl⟩)))
  go_loopw [7] (fun n wr => wr = w ∧ ∃ k : Nat, 1 ≤ k ∧ a + k ≤ s.size ∧ n = .int .i64 k ∧ ∀ j, 1 ≤ j → j < k → contC s a j = true) (fun n _ => s.size - (intOf n).toNat)
  case atStart => exact ⟨rfl, 1, by omega, by omega, rfl, fun j h1 h2 => by omega⟩
  case round =>
    obtain ⟨rfl, k, h1, hk, rfl, hc⟩ := hrel
    have HC := hid hc
    clear hc
    by_cases hlt : a + k < s.size
    · have hx := contC_lt hlt
      rw [hL, hD, HE'.out] at hx
      by_cases hX : isLetB s[a + k].toNat = true
      · have HK : Hid (contC s a k = true) := hid (by rw [hx, hX]; simp)
        clear hx
        go_wp2_with (first
            | (go_at_call 47; go_must (refine (rLetter_any _ _).mono ?_; rintro e w ⟨rfl, rfl⟩))
            | (go_at_call 205; go_must (refine (rDigit_any _ _).mono ?_; rintro e w ⟨rfl, rfl⟩)))
        go_roundw
        case rel =>
          refine ⟨trivial, k + 1, by omega, by omega, by go_num, fun j hj hjk => ?_⟩
          by_cases e : j = k
          · subst e; exact HK.out
          · exact HC.out j hj (by omega)
        case measure => simp [intOf]; omega
      · have hX' : isLetB s[a + k].toNat = false := by simpa using hX
        have HK : Hid (contC s a k = false) := hid (by rw [hx, hX']; simp)
        clear hx hX
        go_wp2_with (first
            | (go_at_call 47; go_must (refine (rLetter_any _ _).mono ?_; rintro e w ⟨rfl, rfl⟩))
            | (go_at_call 205; go_must (refine (rDigit_any _ _).mono ?_; rintro e w ⟨rfl, rfl⟩)))
        go_ret
        exact ⟨ret_int (by rw [tokP_of s a k ha h1 (by omega) HC.out HK.out]), rfl⟩
    · have HK : Hid (contC s a k = false) := hid (by rw [contC, dif_neg hlt])
      go_wp2
      go_ret
      exact ⟨ret_int (by rw [tokP_of s a k ha h1 (by omega) HC.out HK.out]), rfl⟩

set_option maxRecDepth 100000 in
set_option maxHeartbeats 1000000 in
theorem rLen_dig (s : ByteArray) (a : Nat) (w : World) (hs : s.size ≤ 400) (ha : a < s.size) (hL : isLetB s[a].toNat = false) (hD : isDigB s[a].toNat = true) :
    Calls Tryz.prog 172 #[.string s, .int .i64 a] w fun e w' => e = .returned (.int .i64 (tokP s a)) ∧ w' = w := by
  have hE := eq_not_digit hD
  have HE' := hid (beqN' hE)
  go_enter Tryz.func172, Tryz.ntmps172
  go_wp2_with (first
    | (go_at_call 47; go_must (refine (rLetter_any _ _).mono ?_; rintro e w ⟨rfl, rfl⟩))
    | (go_at_call 205; go_must (refine (rDigit_any _ _).mono ?_; rintro e w ⟨rfl, rfl⟩)))
  go_loopw [7] (fun n wr => wr = w ∧ ∃ k : Nat, 1 ≤ k ∧ a + k ≤ s.size ∧ n = .int .i64 k ∧ ∀ j, 1 ≤ j → j < k → contC s a j = true) (fun n _ => s.size - (intOf n).toNat)
  case atStart => exact ⟨rfl, 1, by omega, by omega, rfl, fun j h1 h2 => by omega⟩
  case round =>
    obtain ⟨rfl, k, h1, hk, rfl, hc⟩ := hrel
    have HC := hid hc
    clear hc
    by_cases hlt : a + k < s.size
    · have hx := contC_lt hlt
      rw [hL, hD, HE'.out] at hx
      by_cases hX : isDigB s[a + k].toNat = true
      · have HK : Hid (contC s a k = true) := hid (by rw [hx, hX]; simp)
        clear hx
        go_wp2_with (first
            | (go_at_call 47; go_must (refine (rLetter_any _ _).mono ?_; rintro e w ⟨rfl, rfl⟩))
            | (go_at_call 205; go_must (refine (rDigit_any _ _).mono ?_; rintro e w ⟨rfl, rfl⟩)))
        go_roundw
        case rel =>
          refine ⟨trivial, k + 1, by omega, by omega, by go_num, fun j hj hjk => ?_⟩
          by_cases e : j = k
          · subst e; exact HK.out
          · exact HC.out j hj (by omega)
        case measure => simp [intOf]; omega
      · have hX' : isDigB s[a + k].toNat = false := by simpa using hX
        have HK : Hid (contC s a k = false) := hid (by rw [hx, hX']; simp)
        clear hx hX
        go_wp2_with (first
            | (go_at_call 47; go_must (refine (rLetter_any _ _).mono ?_; rintro e w ⟨rfl, rfl⟩))
            | (go_at_call 205; go_must (refine (rDigit_any _ _).mono ?_; rintro e w ⟨rfl, rfl⟩)))
        go_ret
        exact ⟨ret_int (by rw [tokP_of s a k ha h1 (by omega) HC.out HK.out]), rfl⟩
    · have HK : Hid (contC s a k = false) := hid (by rw [contC, dif_neg hlt])
      go_wp2
      go_ret
      exact ⟨ret_int (by rw [tokP_of s a k ha h1 (by omega) HC.out HK.out]), rfl⟩

set_option maxRecDepth 100000 in
set_option maxHeartbeats 1000000 in
theorem rLen_eq (s : ByteArray) (a : Nat) (w : World) (hs : s.size ≤ 400) (ha : a < s.size) (hL : isLetB s[a].toNat = false) (hD : isDigB s[a].toNat = false) (hE : ((s[a].toNat : Int) == 61) = true) :
    Calls Tryz.prog 172 #[.string s, .int .i64 a] w fun e w' => e = .returned (.int .i64 (tokP s a)) ∧ w' = w := by
  have HE' := hid (beqN hE)
  go_enter Tryz.func172, Tryz.ntmps172
  go_wp2_with (first
    | (go_at_call 47; go_must (refine (rLetter_any _ _).mono ?_; rintro e w ⟨rfl, rfl⟩))
    | (go_at_call 205; go_must (refine (rDigit_any _ _).mono ?_; rintro e w ⟨rfl, rfl⟩)))
  go_loopw [7] (fun n wr => wr = w ∧ ∃ k : Nat, 1 ≤ k ∧ a + k ≤ s.size ∧ n = .int .i64 k ∧ ∀ j, 1 ≤ j → j < k → contC s a j = true) (fun n _ => s.size - (intOf n).toNat)
  case atStart => exact ⟨rfl, 1, by omega, by omega, rfl, fun j h1 h2 => by omega⟩
  case round =>
    obtain ⟨rfl, k, h1, hk, rfl, hc⟩ := hrel
    have HC := hid hc
    clear hc
    by_cases hlt : a + k < s.size
    · have hx := contC_lt hlt
      rw [hL, hD, HE'.out] at hx
      by_cases hF : ((s[a + k].toNat : Int) == 61) = true
      · have hF' := beqN hF
        rw [hF'] at hx
        by_cases hk1 : k = 1
        · subst hk1
          have HK : Hid (contC s a 1 = true) := hid (by rw [hx]; simp)
          clear hx hF'
          go_wp2_with (first
              | (go_at_call 47; go_must (refine (rLetter_any _ _).mono ?_; rintro e w ⟨rfl, rfl⟩))
              | (go_at_call 205; go_must (refine (rDigit_any _ _).mono ?_; rintro e w ⟨rfl, rfl⟩)))
          go_roundw
          case rel =>
            refine ⟨trivial, 1 + 1, by omega, by omega, by go_num, fun j hj hjk => ?_⟩
            by_cases e : j = 1
            · subst e; exact HK.out
            · exact HC.out j hj (by omega)
          case measure => simp [intOf]; omega
        · have hk1' := beqF (show (k : Int) ≠ 1 by omega)
          have HK : Hid (contC s a k = false) := hid (by rw [hx]; simp [hk1])
          clear hx hF' hk1
          go_wp2_with (first
              | (go_at_call 47; go_must (refine (rLetter_any _ _).mono ?_; rintro e w ⟨rfl, rfl⟩))
              | (go_at_call 205; go_must (refine (rDigit_any _ _).mono ?_; rintro e w ⟨rfl, rfl⟩)))
          go_ret
          exact ⟨ret_int (by rw [tokP_of s a k ha h1 (by omega) HC.out HK.out]), rfl⟩
      · have hF2 : ((s[a + k].toNat : Int) == 61) = false := by simpa using hF
        have hF' := beqN' hF2
        have HK : Hid (contC s a k = false) := hid (by rw [hx, hF']; simp)
        clear hx hF hF'
        go_wp2_with (first
            | (go_at_call 47; go_must (refine (rLetter_any _ _).mono ?_; rintro e w ⟨rfl, rfl⟩))
            | (go_at_call 205; go_must (refine (rDigit_any _ _).mono ?_; rintro e w ⟨rfl, rfl⟩)))
        go_ret
        exact ⟨ret_int (by rw [tokP_of s a k ha h1 (by omega) HC.out HK.out]), rfl⟩
    · have HK : Hid (contC s a k = false) := hid (by rw [contC, dif_neg hlt])
      go_wp2
      go_ret
      exact ⟨ret_int (by rw [tokP_of s a k ha h1 (by omega) HC.out HK.out]), rfl⟩

set_option maxRecDepth 100000 in
set_option maxHeartbeats 1000000 in
theorem rLen_other (s : ByteArray) (a : Nat) (w : World) (hs : s.size ≤ 400) (ha : a < s.size) (hL : isLetB s[a].toNat = false) (hD : isDigB s[a].toNat = false) (hE : ((s[a].toNat : Int) == 61) = false) :
    Calls Tryz.prog 172 #[.string s, .int .i64 a] w fun e w' => e = .returned (.int .i64 (tokP s a)) ∧ w' = w := by
  have HE' := hid (beqN' hE)
  go_enter Tryz.func172, Tryz.ntmps172
  go_wp2_with (first
    | (go_at_call 47; go_must (refine (rLetter_any _ _).mono ?_; rintro e w ⟨rfl, rfl⟩))
    | (go_at_call 205; go_must (refine (rDigit_any _ _).mono ?_; rintro e w ⟨rfl, rfl⟩)))
  go_loopw [7] (fun n wr => wr = w ∧ ∃ k : Nat, 1 ≤ k ∧ a + k ≤ s.size ∧ n = .int .i64 k ∧ ∀ j, 1 ≤ j → j < k → contC s a j = true) (fun n _ => s.size - (intOf n).toNat)
  case atStart => exact ⟨rfl, 1, by omega, by omega, rfl, fun j h1 h2 => by omega⟩
  case round =>
    obtain ⟨rfl, k, h1, hk, rfl, hc⟩ := hrel
    have HC := hid hc
    clear hc
    by_cases hlt : a + k < s.size
    · have hx := contC_lt hlt
      have HK : Hid (contC s a k = false) := hid (by rw [hx, hL, hD, HE'.out]; simp)
      clear hx
      go_wp2_with (first
          | (go_at_call 47; go_must (refine (rLetter_any _ _).mono ?_; rintro e w ⟨rfl, rfl⟩))
          | (go_at_call 205; go_must (refine (rDigit_any _ _).mono ?_; rintro e w ⟨rfl, rfl⟩)))
      go_ret
      exact ⟨ret_int (by rw [tokP_of s a k ha h1 (by omega) HC.out HK.out]), rfl⟩
    · have HK : Hid (contC s a k = false) := hid (by rw [contC, dif_neg hlt])
      go_wp2
      go_ret
      exact ⟨ret_int (by rw [tokP_of s a k ha h1 (by omega) HC.out HK.out]), rfl⟩

theorem rLength_any (s : ByteArray) (a : Nat) (w : World) (hs : s.size ≤ 400) (ha : a < s.size) :
    Calls Tryz.prog 172 #[.string s, .int .i64 a] w fun e w' => e = .returned (.int .i64 (tokP s a)) ∧ w' = w := by
  cases hL : isLetB s[a].toNat with
  | true => exact rLen_let s a w hs ha hL
  | false =>
    cases hD : isDigB s[a].toNat with
    | true => exact rLen_dig s a w hs ha hL hD
    | false =>
      cases hE : ((s[a].toNat : Int) == 61) with
      | true => exact rLen_eq s a w hs ha hL hD hE
      | false => exact rLen_other s a w hs ha hL hD hE

end Go.Proofs.YtfekglokoafpiaaGreatDoor
