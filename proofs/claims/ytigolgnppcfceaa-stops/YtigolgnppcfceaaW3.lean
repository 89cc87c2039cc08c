/-
  The document's session: find, count, Kept at no file and at one.
-/
import Derived.Test.YtigolgnppcfceaaW2
namespace Go.Proofs.Ytigolgnppcfceaa
open Go.RowKit

set_option maxHeartbeats 400000 in
theorem find_nil (s : ByteArray) (w : World) :
    Calls Try.prog 18 #[.slice none 0 0, .string s] w fun e w' => e = .returned (.int .i64 (-1)) ∧ w' = w := by
  go_enter Try.func18, Try.ntmps18
  go_wp2
  go_rounds 1
  go_ret
  exact ⟨rfl, rfl⟩

set_option maxHeartbeats 400000 in
theorem find_one (s : ByteArray) (b cap : Nat) (w : World) (hc : w.cell? ⟨b, 0, none⟩ = some (.string s)) :
    Calls Try.prog 18 #[.slice (some ⟨b, 0, none⟩) 1 cap, .string s] w fun e w' => e = .returned (.int .i64 0) ∧ w' = w := by
  go_enter Try.func18, Try.ntmps18
  go_wp2
  go_rounds 1
  go_ret
  exact ⟨rfl, rfl⟩

set_option maxHeartbeats 400000 in
theorem count_nil (br : Nat) (w : World) (hF : w.cell? ⟨br, 0, none⟩ = some (.slice none 0 0)) :
    Calls Try.prog 19 #[.pointer (some ⟨br, 0, none⟩)] w fun e w' => e = .returned (.int .i64 0) ∧ w' = w := by
  go_enter Try.func19, Try.ntmps19
  go_wp2
  go_rounds 1
  go_ret
  exact ⟨rfl, rfl⟩

set_option maxHeartbeats 400000 in
theorem count_one (br bf cap : Nat) (t : Bool) (w : World) (hF : w.cell? ⟨br, 0, none⟩ = some (.slice (some ⟨bf, 0, none⟩) 1 cap)) (hc : w.cell? ⟨bf, 2, none⟩ = some (.bool t)) :
    Calls Try.prog 19 #[.pointer (some ⟨br, 0, none⟩)] w fun e w' => e = .returned (.int .i64 (if t then 1 else 0)) ∧ w' = w := by
  cases t
  all_goals
    go_enter Try.func19, Try.ntmps19
    go_wp2
    go_rounds 2
    go_ret
    exact ⟨rfl, rfl⟩

set_option maxHeartbeats 400000 in
theorem kept_nil (br : Nat) (w : World) (hF : w.cell? ⟨br, 1, none⟩ = some (.slice none 0 0)) :
    Calls Try.prog 29 #[.pointer (some ⟨br, 0, none⟩)] w fun e w' => e = .returned (.int .i64 0) ∧ w' = w := by
  go_enter Try.func29, Try.ntmps29
  go_wp2
  go_rounds 1
  go_ret
  exact ⟨rfl, rfl⟩

end Go.Proofs.Ytigolgnppcfceaa
