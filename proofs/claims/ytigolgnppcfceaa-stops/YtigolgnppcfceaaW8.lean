/-
  The program's session: its map with one file or none.
-/
import Derived.Test.YtigolgnppcfceaaW7
import Derived.Test.YtigolgnppcfceaaShelf
import Derived.Maps.OwnSet
namespace Go.Proofs.Ytigolgnppcfceaa
open Go.RowKit

def mEs (t : ByteArray) : Array MapEntry := #[{ key := .string ⟨#[97]⟩, val := .agg #[.string t], born := 0 }]
def mBlk (t : ByteArray) : Obj := .map (mEs t) 1
theorem isKA : MapKept.IsKey .string (.string ⟨#[97]⟩) := by simp [MapKept.IsKey]
theorem zero56 (w : World) : (zeroValue 65).run Try.prog w = .ok (.agg #[.string ⟨#[]⟩]) w := by kernel_rfl
theorem findA (t : ByteArray) : Instr.findNow .string (.string ⟨#[97]⟩) (mEs t).toList 0 = some (some (0, .agg #[.string t])) := rfl

theorem look_nil (w : World) : (Instr.lookup 42 (.map none) (.string ⟨#[97]⟩) true).run Try.prog w = .ok (.tuple #[.agg #[.string ⟨#[]⟩], .bool false]) w := by
  kernel_rfl

theorem look_one (w : World) (b : Nat) (t : ByteArray) (h : w.heap[b]? = some (mBlk t)) :
    (Instr.lookup 42 (.map (some b)) (.string ⟨#[97]⟩) true).run Try.prog w = .ok (.tuple #[.agg #[.string t], .bool true]) w := by
  simp [Instr.lookup, run_underlying Try.underlying42, MapKept.run_getObj_map h, MapKept.run_checkKey Try.underlying9 isKA, MapKept.run_findKey Try.underlying9 (findA t), Result.andThen]

theorem store_new (w : World) (b : Nat) (t : ByteArray) (h : w.heap[b]? = some (.map #[] 0)) :
    (Instr.mapUpdate 42 (.map (some b)) (.string ⟨#[97]⟩) (.agg #[.string t])).run Try.prog w = .ok () { w with heap := w.heap.setIfInBounds b (mBlk t) } := by
  have hf : Instr.findNow .string (.string ⟨#[97]⟩) ([] : List MapEntry) 0 = some none := rfl
  simp [Instr.mapUpdate, run_underlying Try.underlying42, MapKept.run_getObj_map h, MapKept.run_checkKey Try.underlying9 isKA, MapKept.run_findKey Try.underlying9 hf, MapKept.run_setObj_map _ h, Result.andThen, mBlk, mEs]

theorem store_old (w : World) (b : Nat) (t t0 : ByteArray) (h : w.heap[b]? = some (mBlk t0)) :
    (Instr.mapUpdate 42 (.map (some b)) (.string ⟨#[97]⟩) (.agg #[.string t])).run Try.prog w = .ok () { w with heap := w.heap.setIfInBounds b (mBlk t) } := by
  have hk : (Instr.keyThatStays (.string ⟨#[97]⟩) (.string ⟨#[97]⟩)).run Try.prog w = .ok (.string ⟨#[97]⟩) w := MapKept.run_keyThatStays isKA
  have hj : (mEs t0)[0]? = some { key := .string ⟨#[97]⟩, val := .agg #[.string t0], born := 0 } := rfl
  simp [Instr.mapUpdate, run_underlying Try.underlying42, MapKept.run_getObj_map h, MapKept.run_checkKey Try.underlying9 isKA, MapKept.run_findKey Try.underlying9 (findA t0), hj, hk, MapKept.run_setObj_map _ h, Result.andThen, mBlk]
  simp [mEs]

theorem delete_one (w : World) (b : Nat) (t : ByteArray) (ty : TypeId) (h : w.heap[b]? = some (mBlk t)) :
    (Builtin.delete_ #[42, 9] ty #[.map (some b), .string ⟨#[97]⟩]).run Try.prog w = .ok (.tuple #[]) { w with heap := w.heap.setIfInBounds b (.map #[] 1) } := by
  simp [Builtin.delete_, run_underlying Try.underlying42, MapKept.run_getObj_map h, MapKept.run_checkKey Try.underlying9 isKA, MapKept.run_findKey Try.underlying9 (findA t), MapKept.run_setObj_map _ h, Result.andThen]
  simp [mEs]

/-- The table's sources: the file a, at the block bc. -/
def qEs (bc : Nat) : Array MapEntry := #[{ key := .string ⟨#[97]⟩, val := .pointer (some ⟨bc, 0, none⟩), born := 0 }]
def qBlk (bc : Nat) : Obj := .map (qEs bc) 1
theorem zeroP (w : World) : (zeroValue 71).run Try.prog w = .ok (.pointer none) w := by kernel_rfl
theorem findQ (bc : Nat) : Instr.findNow .string (.string ⟨#[97]⟩) (qEs bc).toList 0 = some (some (0, .pointer (some ⟨bc, 0, none⟩))) := rfl

theorem lookq_nil (w : World) : (Instr.lookup 43 (.map none) (.string ⟨#[97]⟩) true).run Try.prog w = .ok (.tuple #[.pointer none, .bool false]) w := by
  kernel_rfl

theorem lookq_one (w : World) (b bc : Nat) (h : w.heap[b]? = some (qBlk bc)) :
    (Instr.lookup 43 (.map (some b)) (.string ⟨#[97]⟩) true).run Try.prog w = .ok (.tuple #[.pointer (some ⟨bc, 0, none⟩), .bool true]) w := by
  simp [Instr.lookup, run_underlying Try.underlying43, MapKept.run_getObj_map h, MapKept.run_checkKey Try.underlying9 isKA, MapKept.run_findKey Try.underlying9 (findQ bc), Result.andThen]

theorem storeq_new (w : World) (b bc : Nat) (h : w.heap[b]? = some (.map #[] 0)) :
    (Instr.mapUpdate 43 (.map (some b)) (.string ⟨#[97]⟩) (.pointer (some ⟨bc, 0, none⟩))).run Try.prog w = .ok () { w with heap := w.heap.setIfInBounds b (qBlk bc) } := by
  have hf : Instr.findNow .string (.string ⟨#[97]⟩) ([] : List MapEntry) 0 = some none := rfl
  simp [Instr.mapUpdate, run_underlying Try.underlying43, MapKept.run_getObj_map h, MapKept.run_checkKey Try.underlying9 isKA, MapKept.run_findKey Try.underlying9 hf, MapKept.run_setObj_map _ h, Result.andThen, qBlk, qEs]
end Go.Proofs.Ytigolgnppcfceaa
