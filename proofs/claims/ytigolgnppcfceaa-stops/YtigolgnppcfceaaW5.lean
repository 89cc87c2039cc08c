/-
  The document's session: Set, with no file as yet.
-/
import Derived.Test.YtigolgnppcfceaaW4
namespace Go.Proofs.Ytigolgnppcfceaa
open Go.RowKit

theorem info50x : (Try.prog.info? 59).map (fun i => (i.zero, i.size, i.bytes)) = some (some (.agg #[.string ⟨#[]⟩, .string ⟨#[]⟩, .bool false, .int .i64 0]), 4, 48) := by kernel_rfl

theorem cell_take {w : World} {g n i : Nat} {cur : Array Value} {xs : List Value} {T : TypeId} (hg : w.heap[g]? = some (.cells cur T)) (h : cur.toList.take n = xs) (hi : i < n) (v : Value) (hv : xs[i]? = some v) : w.cell? ⟨g, i, none⟩ = some v := by
  rw [heap_cell hg, ← hv, ← h, List.getElem?_take, if_pos hi]; simp

set_option maxHeartbeats 400000 in
theorem rset_first (t : ByteArray) (br : Nat) (w : World) (hl : t.size ≤ 400) (h : w.heap[br]? = some (rBlk (.slice none 0 0) 0)) :
    Calls Try.prog 7 #[.pointer (some ⟨br, 0, none⟩), .string ⟨#[97]⟩, .string t] w fun e w' => e = .returned (.int .i64 0) ∧
      ∃ bf cap, w.heap.size ≤ bf ∧ RefS w' br (some (t, bf, cap)) 1 ∧ Fr [br] w w' := by
  obtain ⟨i0, hi, hz0, hz1, hz2⟩ := info_parts info50x
  obtain ⟨c0, c1, c2, c3, c4, f⟩ := rc_of h
  have hs := setCell_same c4
  have f4 := f 4
  clear c0 c1 c2 c3 f
  have hH : Hid (w.heap[br]? = some (rBlk (.slice none 0 0) 0)) := h
  clear h
  go_enter Try.func7, Try.ntmps7
  go_wp2_with (first
    | (go_at_call 17; refine (called_a _).mono ?_; rintro e w' ⟨rfl, hb⟩; have h1 := below_heap hb hH.out; clear f4 hs c4; obtain ⟨c0, c1, c2, c3, c4, f⟩ := rc_of h1; have f0 := f 0; have f2 := f 2; have f4 := f 4; clear f h1)
    | (go_at_call 18; refine (find_nil _ _).mono ?_; rintro e w' ⟨rfl, rfl⟩)
    | (go_at_call 19; refine (count_nil _ _ c0).mono ?_; rintro e w' ⟨rfl, rfl⟩)
    | (at_builtin; refine wpList_append_own_at _ rfl _ _ 27 rfl 0 59 i0 (.agg #[.string ⟨#[]⟩, .string ⟨#[]⟩, .bool false, .int .i64 0]) 4 48 Try.underlying27 hi hz0 hz1 hz2 rfl (by decide) _ _ _ rfl (World.ownsRow_nil _ _ _ _) ⟨w'.heap.size, 0, none⟩ 1 1 [.string ⟨#[97]⟩, .string ⟨#[]⟩, .bool false, .int .i64 0] rfl rfl ?c1 ?c2 ?c3 ?c4 ?c5 ?_))
  case c1 =>
    intro j u hj
    match j, hj with
    | 0, hj | 1, hj | 2, hj | 3, hj => simp at hj; subst hj; simp [Addr.add]
    | (n + 4), hj => simp at hj
  case c2 => intro u hu; simp at hu; rcases hu with rfl | rfl | rfl | rfl <;> rfl
  case c3 => unfold maxLen; omega
  case c4 => omega
  case c5 => omega
  · intro v' w2 hown hgrow hnil hloc
    rcases hown.2 with ⟨hv, h0⟩ | ⟨g, cap, cur, rfl, _, hg, hcap, _, hsz, htk⟩
    · cases h0
    have hgs : g = w'.heap.size + 1 := by
      rcases hloc with hloc | hloc <;> simp [Value.ownBlock] at hloc; exact hloc
    have hbr : br < w'.heap.size := heap_lt (below_heap hb hH.out)
    have h2 : w2.heap[br]? = some (rBlk (.slice none 0 0) 0) := by
      rw [hgrow.block br (by simp; omega) (by simp [Value.ownBlock]), Below.heap_alloc _ _ _ (by omega)]
      exact below_heap hb hH.out
    have hne : br ≠ g := by omega
    obtain ⟨d0, d1, d2, d3, d4, e⟩ := rc_of h2
    have e0 := e 0
    have e2 := e 2
    clear e c0 c1 c2 c3 c4 f0 f2 f4 hi hz0 hz1 hz2 hnil hloc
    have k0 : w2.cell? ⟨g, 0, none⟩ = some (.string ⟨#[97]⟩) := cell_take hg htk (by omega) _ rfl
    have k1 : w2.cell? ⟨g, 1, none⟩ = some (.string ⟨#[]⟩) := cell_take hg htk (by omega) _ rfl
    have k2 : w2.cell? ⟨g, 2, none⟩ = some (.bool false) := cell_take hg htk (by omega) _ rfl
    have k3 : w2.cell? ⟨g, 3, none⟩ = some (.int .i64 0) := cell_take hg htk (by omega) _ rfl
    have kf : ∀ i, w2.frozen? ⟨g, i, none⟩ = false := fun i => heap_frozen hg
    have kf0 := kf 0
    have kf1 := kf 1
    have kf2 := kf 2
    have kf3 := kf 3
    clear kf
    have HG : Hid (w2.heap[g]? = some (.cells cur 59)) := hg
    have HT : Hid (List.take (1 * 4) cur.toList = [.string ⟨#[97]⟩, .string ⟨#[]⟩, .bool false, .int .i64 0]) := htk
    have H2 : Hid (w2.heap[br]? = some (rBlk (.slice none 0 0) 0)) := h2
    have HGS : Hid (g = w'.heap.size + 1) := hgs
    have HW : Hid (∀ t : ByteArray, w.heap.size ≤ g ∧ RefS ((((((w2.setCell ⟨br, 0, none⟩ (.slice (some ⟨g, 0, none⟩) 1 cap)).setCell ⟨br, 2, none⟩ (.int .i64 1)).setCell ⟨g, 0, none⟩ (.string ⟨#[97]⟩)).setCell ⟨g, 1, none⟩ (.string t)).setCell ⟨g, 2, none⟩ (.bool true)).setCell ⟨g, 3, none⟩ (.int .i64 1)).drew br (some (t, g, cap)) 1 ∧
        Fr [br] w ((((((w2.setCell ⟨br, 0, none⟩ (.slice (some ⟨g, 0, none⟩) 1 cap)).setCell ⟨br, 2, none⟩ (.int .i64 1)).setCell ⟨g, 0, none⟩ (.string ⟨#[97]⟩)).setCell ⟨g, 1, none⟩ (.string t)).setCell ⟨g, 2, none⟩ (.bool true)).setCell ⟨g, 3, none⟩ (.int .i64 1)).drew) := fun t => by
      have hsz1 : w.heap.size ≤ g := by have := hb.size; omega
      have h12 : Fr [br] w w2 := (Fr.of_below hb).trans (((Fr.refl _ _).alloc _).trans ⟨hgrow.os, hgrow.tape, hgrow.output, hgrow.size, fun k hk _ => hgrow.block k hk (by simp [Value.ownBlock])⟩)
      obtain ⟨rest, rfl⟩ := four_cut (by simpa using htk)
      obtain ⟨s1, s2, s3⟩ := set_world hne.symm (heap_setCell_lit (i := 0) h2 (.slice (some ⟨g, 0, none⟩) 1 cap)) (by rw [heap_setCell_ne hne.symm]; exact hg) t 1
      refine ⟨hsz1, ⟨hne.symm, s1, rest, s2⟩, ?_⟩
      exact (h12.setCell _ (.inl (by simp)) _).trans_new s3 hsz1
    clear hg htk h2 hown hgs
    go_wp2
    go_region
    go_wp2
    go_ret
    exact ⟨rfl, g, cap, HW.out t⟩
end Go.Proofs.Ytigolgnppcfceaa
