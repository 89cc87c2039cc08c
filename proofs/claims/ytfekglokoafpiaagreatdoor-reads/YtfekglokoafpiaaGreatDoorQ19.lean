/-
  The document's engine: a slot that is new.
  The document's engine: a cell of a slot, the clock, use.
  The document's engine: Kept, drop.
  The document's engine: set, of a slot whose value isn't kept.
  The document's engine: refresh and fetch, of a slot that is verified.
  The document's engine: work, of a slot that is new.
  The document's engine: work, of a slot that is new.
-/
import Derived.Test.YtfekglokoafpiaaGreatDoorQ18
import Derived.Deep.AppendLies

set_option linter.unusedVariables false
set_option linter.unusedSimpArgs false

namespace Go.Proofs.YtfekglokoafpiaaGreatDoor
open Go.RowKit

theorem YS.grown {w w1 w5 : World} {sb B : Nat} {fv slv ranv : Value} {n n' g cap : Nat} {xs ns rs : List Value} {rev clk : Int} (h : YS w sb B fv slv ranv n xs rs rev clk) (hb : Below w.heap.size w w1) (hg : w1.grownBy w5 slv.ownBlock) (hown : w5.ownsRow B 70 12 (.slice (some ⟨g, 0, none⟩) n' cap) n' ns) (hat : slv.ownBlock = some g ∨ g = w1.heap.size) :
    YS (w5.setCell ⟨sb, 1, none⟩ (.slice (some ⟨g, 0, none⟩) n' cap)) sb B fv (.slice (some ⟨g, 0, none⟩) n' cap) ranv n' ns rs rev clk := by
  have hs1 := below_heap hb (heap_lt h.s) h.s
  have hs2 := (hg.block sb (heap_lt hs1) (fun e => by have := (h.own.lt sb e.symm).1; have := h.lt; omega)).trans hs1
  refine ⟨?_, h.lt, ownsRow_setCell_below hown (a := ⟨sb, 1, none⟩) h.lt _, ?_, ?_⟩
  · exact heap_setCell_lit hs2 _
  · refine ownsRow_setCell_below ?_ (a := ⟨sb, 1, none⟩) h.lt _
    have hr := h.ran
    obtain ⟨hl, h1 | ⟨q, cp, cur, hv, hq, hh, h1, h2, h3, h4⟩⟩ := hr
    · exact ⟨hl, .inl h1⟩
    · have hq1 := below_heap hb (heap_lt hh) hh
      exact ⟨hl, .inr ⟨q, cp, cur, hv, hq, (hg.block q (heap_lt hq1) (fun e => h.ne q (by rw [hv]; rfl) e.symm)).trans hq1, h1, h2, h3, h4⟩⟩
  · intro b hbo e
    rcases hat with h1 | h1
    · exact h.ne b hbo (by rw [h1]; exact e)
    · have h2 := (h.ran.lt b hbo).2
      have h3 := hb.size
      have : g = b := by simpa [Value.ownBlock] using e
      omega

/-- All blocks but the session's own and the slots' stay. -/
structure Stay (sb : Nat) (slv : Value) (w w' : World) : Prop where
  size : w.heap.size ≤ w'.heap.size
  block : ∀ q, q < w.heap.size → q ≠ sb → slv.ownBlock ≠ some q → w'.heap[q]? = w.heap[q]?
  env : w'.os = w.os ∧ w'.tape = w.tape ∧ w'.output = w.output

theorem Stay.below {sb : Nat} {slv : Value} {w w' : World} (h : Below w.heap.size w w') : Stay sb slv w w' := ⟨h.size, fun q hq _ _ => h.block q hq, h.os, h.tape, h.output⟩

theorem Stay.seq {sb : Nat} {slv : Value} {w w' w'' : World} (h : Stay sb slv w w') (h' : Stay sb slv w' w'') : Stay sb slv w w'' :=
  ⟨Nat.le_trans h.1 h'.1, fun q hq h1 h2 => (h'.2 q (Nat.lt_of_lt_of_le hq h.1) h1 h2).trans (h.2 q hq h1 h2), h'.env.1.trans h.env.1, h'.env.2.1.trans h.env.2.1, h'.env.2.2.trans h.env.2.2⟩

theorem Stay.setS {sb : Nat} {slv : Value} (w : World) (i : Nat) (u : Value) : Stay sb slv w (w.setCell ⟨sb, i, none⟩ u) :=
  ⟨by simp, fun _ _ h1 _ => heap_setCell_ne h1 u, rfl, rfl, rfl⟩

theorem Stay.setG {sb g n c : Nat} (w : World) (i : Nat) (u : Value) : Stay sb (.slice (some ⟨g, 0, none⟩) n c) w (w.setCell ⟨g, i, none⟩ u) :=
  ⟨by simp, fun _ _ _ h2 => heap_setCell_ne (fun e => h2 (by rw [e]; rfl)) u, rfl, rfl, rfl⟩

theorem Stay.grown {sb : Nat} {slv : Value} {w w' : World} (h : w.grownBy w' slv.ownBlock) : Stay sb slv w w' :=
  ⟨h.size, fun q hq _ h2 => h.block q hq (fun e => h2 e.symm), h.os, h.tape, h.output⟩

theorem Stay.grownNew {sb : Nat} {slv : Value} {w w' : World} (h : w.grownBy w' none) : Stay sb slv w w' :=
  ⟨h.size, fun q hq _ _ => h.block q hq (by simp), h.os, h.tape, h.output⟩

theorem Stay.seqNew {sb : Nat} {slv slv1 : Value} {w w1 w2 : World} (h : Stay sb slv w w1) (hn : ∀ q, slv1.ownBlock = some q → slv.ownBlock = some q ∨ w.heap.size ≤ q) (h' : Stay sb slv1 w1 w2) : Stay sb slv w w2 :=
  ⟨Nat.le_trans h.1 h'.1, fun q hq h1 h2 => (h'.2 q (Nat.lt_of_lt_of_le hq h.1) h1 (fun e => by
    rcases hn q e with h3 | h3
    · exact h2 h3
    · omega)).trans (h.2 q hq h1 h2), h'.env.1.trans h.env.1, h'.env.2.1.trans h.env.2.1, h'.env.2.2.trans h.env.2.2⟩

theorem newSlot_one (k : Nat) : ∀ u ∈ newSlot k, u.oneCell' = true := by
  intro u hu
  simp only [newSlot, List.mem_cons, List.not_mem_nil, or_false] at hu
  rcases hu with rfl | rfl | rfl | rfl | rfl | rfl | rfl | rfl | rfl | rfl | rfl | rfl <;> rfl

set_option maxRecDepth 100000 in
set_option maxHeartbeats 2000000 in
theorem slot_new {w : World} {sb B : Nat} {fv ranv : Value} {n : Nat} {ao : Option Addr} {c : Nat} {xs rs : List Value} {rev clk : Int} (h : YS w sb B fv (.slice ao n c) ranv n xs rs rev clk) (hk : Kinds n xs) (hn : n ≤ 3) (hB : B ≤ w.heap.size) (k : Nat) (hkn : k = n + 1) :
    Calls Tryz.prog 28 #[.pointer (some ⟨sb, 0, none⟩), .agg #[.int .i64 (k : Nat), .string ⟨#[97]⟩, .string ⟨#[]⟩]] w fun e w' => e = .returned (.int .i64 (n : Nat)) ∧ ∃ slv', YS w' sb B fv slv' ranv (n + 1) (xs ++ newSlot k) rs rev clk ∧ Stay sb (Value.slice ao n c) w w' ∧ (∀ q, slv'.ownBlock = some q → (Value.slice ao n c).ownBlock = some q ∨ w.heap.size ≤ q) := by
  have H := hid h
  have HK := hid hk
  have hbl := below_new w (.cells #[.int .i64 (k : Nat), .string ⟨#[97]⟩, .string ⟨#[]⟩] 66)
  have HBL := hid hbl
  have s1 : w.cell? ⟨sb, 1, none⟩ = some (.slice ao n c) := heap_cell (i := 1) h.s
  have HS1 := hid s1
  have hN := new_heap w (.cells #[.int .i64 (k : Nat), .string ⟨#[97]⟩, .string ⟨#[]⟩] 66)
  have HN := hid hN
  clear h hk hbl hN
  go_enter Tryz.func28, Tryz.ntmps28
  go_wp2
  go_loopg [5] n (fun f i wr => ∃ j : Nat, j + f = n ∧ i = .int .i64 (j : Nat) ∧ Below (w.alloc (.cells #[.int .i64 (k : Nat), .string ⟨#[97]⟩, .string ⟨#[]⟩] 66)).heap.size (w.alloc (.cells #[.int .i64 (k : Nat), .string ⟨#[97]⟩, .string ⟨#[]⟩] 66)) wr)
  case atStart => subst hkn; exact ⟨0, by omega, rfl, Below.refl _ _⟩
  case round =>
    obtain ⟨j, hj, rfl, hbl⟩ := hrel
    have HB := hid hbl
    have s1 : wr.cell? ⟨sb, 1, none⟩ = some (.slice ao n c) := cell_kept hbl (cell_kept HBL.out HS1.out)
    by_cases hlt : j < n
    · obtain ⟨g, c2, hslv, hc⟩ := H.out.cell (by omega)
      have e1 := (Value.slice.inj hslv).1
      have e2 := (Value.slice.inj hslv).2.2
      subst e1; subst e2
      obtain ⟨q0, q1, q2⟩ := HK.out j (by omega)
      have z0 : wr.cell? ⟨g, j * 12, none⟩ = some (.int .i64 ((j + 1 : Nat) : Int)) := cell_kept hbl (cell_kept HBL.out (hc _ _ q0))
      have z1 : wr.cell? ⟨g, j * 12 + 1, none⟩ = some (.string ⟨#[97]⟩) := cell_kept hbl (cell_kept HBL.out (hc _ _ q1))
      have z2 : wr.cell? ⟨g, j * 12 + 2, none⟩ = some (.string ⟨#[]⟩) := cell_kept hbl (cell_kept HBL.out (hc _ _ q2))
      have hN := below_heap hbl (heap_lt HN.out) HN.out
      have y0 : wr.cell? ⟨w.heap.size, 0, none⟩ = some (.int .i64 (k : Nat)) := heap_cell (i := 0) hN
      have y1 : wr.cell? ⟨w.heap.size, 1, none⟩ = some (.string ⟨#[97]⟩) := heap_cell (i := 1) hN
      have y2 : wr.cell? ⟨w.heap.size, 2, none⟩ = some (.string ⟨#[]⟩) := heap_cell (i := 2) hN
      have hjn : (j : Int) < (n : Int) := by omega
      have hjc : (0 : Int) ≤ (j : Int) := by omega
      have hne : (((j + 1 : Nat) : Int) == (k : Int)) = false := by rw [beq_eq_false_iff_ne]; omega
      have hne2 : ((j : Int) + 1 == (k : Int)) = false := by rw [beq_eq_false_iff_ne]; omega
      clear hN q0 q1 q2 hbl hc hslv
      go_wp2_with fail
      go_quiet (fail)
      go_wp2
      go_roundg (n - (j + 1))
      case rel => exact ⟨j + 1, by omega, by go_num, below_seq HB.out (below_drewN _ _)⟩
      case measure => omega
    · have hje : j = n := by omega
      subst hje
      obtain ⟨i0, hi0, hz0, hz1, hz2⟩ := info_parts infoSlot
      have hS := below_heap hbl (heap_lt (below_heap HBL.out (heap_lt H.out.s) H.out.s)) (below_heap HBL.out (heap_lt H.out.s) H.out.s)
      have hsf : wr.frozen? ⟨sb, 1, none⟩ = false := frozen_of_row _ _ _ _ _ hS
      have hN := below_heap hbl (heap_lt HN.out) HN.out
      have y0 : wr.cell? ⟨w.heap.size, 0, none⟩ = some (.int .i64 (k : Nat)) := heap_cell (i := 0) hN
      have y1 : wr.cell? ⟨w.heap.size, 1, none⟩ = some (.string ⟨#[97]⟩) := heap_cell (i := 1) hN
      have y2 : wr.cell? ⟨w.heap.size, 2, none⟩ = some (.string ⟨#[]⟩) := heap_cell (i := 2) hN
      have hown := (H.out.below (below_seq HBL.out hbl)).own
      have hsz : w.heap.size + 1 ≤ wr.heap.size := by have := hbl.size; simpa using this
      have hsc : wr.cell? ⟨sb, 1, none⟩ = some (.slice ao j c) := s1
      have hrow : ∀ g, (Value.slice ao j c).ownBlock = some g → ¬ g = sb := fun g hg e => by have := (hown.lt g hg).1; have := H.out.lt; omega
      have hnews : ∀ (q : Nat) u, (newSlot k)[q]? = some u → ((wr.alloc (.cells #[.int .i64 ((j : Int) + 1), .string ⟨#[97]⟩, .string ⟨#[]⟩, .slice none 0 0, .int .i64 0, .int .i64 0, .bool false, .bool false, .bool false, .bool false, .int .i64 0, .string ⟨#[]⟩] 70)).drew).cell? ((⟨wr.heap.size, 0, none⟩ : Addr).add q) = some u := by
        have e : ((j : Int) + 1) = ((k : Nat) : Int) := by omega
        rw [e]
        exact World.news_of_block (w := (wr.alloc (.cells (newSlot k).toArray 70)).drew) (cs := (newSlot k).toArray) (heap_alloc_new wr _)
      have hsl : sb < wr.heap.size := heap_lt hS
      have hsB := H.out.lt
      have hsc2 : ∀ o, (wr.alloc o).drew.cell? ⟨sb, 1, none⟩ = some (.slice ao j c) := fun o => cell_kept (w' := wr.alloc o) (below_new wr o) hsc
      have hsf2 : ∀ o, (wr.alloc o).drew.frozen? ⟨sb, 1, none⟩ = false := fun o => frozen_of_row (wr.alloc o) _ _ _ _ (below_heap (below_new wr o) (heap_lt hS) hS)
      clear hN hbl hS
      go_wp2
      go_region_law? (refine wp_append_lies _ _ _ 30 rfl B 70 i0 _ 12 112 Tryz.underlying30 hi0 hz0 hz1 hz2 (by decide) (by decide) (.slice ao j c) j xs (by rfl) ((hown.alloc _).drew) ⟨wr.heap.size, 0, none⟩ 1 1 (newSlot k) (by rfl) (by rfl) hnews (newSlot_one k) (by omega) (by unfold maxLen; omega) (by omega) (by simp; omega) (wr.heap.size + 1) (by simp) ?_; intro g' c' w5 hown' hgrow hat hlt; have hc5 := (hgrow.cell_far ⟨sb, 1, none⟩ (by simp; omega) (fun e => hrow sb e.symm rfl)).trans (hsc2 _); have hf5 := (hgrow.frozen_far ⟨sb, 1, none⟩ (by simp; omega) (fun e => hrow sb e.symm rfl)).trans (hsf2 _))
      all_goals
        have HY := hid ((H.out.below (below_seq HBL.out HB.out)).grown (below_seq (below_new wr _) (below_drew _)) hgrow hown' (by simpa using hat))
        have HF := hid (show Stay sb (Value.slice ao j c) w w5 from (Stay.below (below_seq HBL.out HB.out)).seq ((Stay.below (below_seq (below_new wr _) (below_drew _))).seq (Stay.grown hgrow)))
        have HNEW := hid (show ∀ q, (Value.slice (some ⟨g', 0, none⟩) (j + 1) c').ownBlock = some q → (Value.slice ao j c).ownBlock = some q ∨ w.heap.size ≤ q from fun q hq => by
          have hq' : g' = q := by simpa [Value.ownBlock] using hq
          subst hq'
          rcases hat with h1 | h1
          · exact .inl h1
          · refine .inr ?_
            have h2 : g' = wr.heap.size + 1 := by simpa using h1
            omega)
        clear hown' hgrow hat
        go_wp2
        go_ret
        exact ⟨ret_int (by omega), _, HY.out, HF.out.seq (Stay.setS _ _ _), HNEW.out⟩

theorem Kinds.more {n : Nat} {xs : List Value} (hl : xs.length = n * 12) (h : Kinds n xs) : Kinds (n + 1) (xs ++ newSlot (n + 1)) := by
  intro j hj
  by_cases h1 : j < n
  · obtain ⟨a, b, c⟩ := h j h1
    exact ⟨by rw [List.getElem?_append_left (by omega)]; exact a, by rw [List.getElem?_append_left (by omega)]; exact b, by rw [List.getElem?_append_left (by omega)]; exact c⟩
  · have e : j = n := by omega
    subst e
    exact ⟨by rw [List.getElem?_append_right (by omega), hl]; simp [newSlot], by rw [List.getElem?_append_right (by omega), hl, show j * 12 + 1 - j * 12 = 1 by omega]; rfl, by rw [List.getElem?_append_right (by omega), hl, show j * 12 + 2 - j * 12 = 2 by omega]; rfl⟩

end Go.Proofs.YtfekglokoafpiaaGreatDoor

namespace Go.Proofs.YtfekglokoafpiaaGreatDoor
open Go.RowKit

/-- A cell of the slots is written. -/
theorem YS.put {w : World} {sb B : Nat} {fv ranv : Value} {n g c : Nat} {xs rs : List Value} {rev clk : Int} (h : YS w sb B fv (.slice (some ⟨g, 0, none⟩) n c) ranv n xs rs rev clk) (j : Nat) (u : Value) :
    YS (w.setCell ⟨g, j, none⟩ u) sb B fv (.slice (some ⟨g, 0, none⟩) n c) ranv n (xs.set j u) rs rev clk := by
  have hg := h.own.lt g rfl
  have hlt := h.lt
  obtain ⟨h1, h2⟩ := h.own.stored j u
  refine ⟨(heap_setCell_ne (by omega) _).trans h.s, h.lt, h1, ?_, h.ne⟩
  obtain ⟨hl, hr | ⟨q, cp, cur, hv, hq, hh, r1, r2, r3, r4⟩⟩ := h.ran
  · exact ⟨hl, .inl hr⟩
  · exact ⟨hl, .inr ⟨q, cp, cur, hv, hq, (heap_setCell_ne (fun e => h.ne q (by rw [hv]; rfl) (by rw [e]; rfl)) _).trans hh, r1, r2, r3, r4⟩⟩

/-- The clock is written. -/
theorem YS.tick {w : World} {sb B : Nat} {fv slv ranv : Value} {n : Nat} {xs rs : List Value} {rev clk : Int} (h : YS w sb B fv slv ranv n xs rs rev clk) (clk' : Int) :
    YS (w.setCell ⟨sb, 3, none⟩ (.int .i64 clk')) sb B fv slv ranv n xs rs rev clk' :=
  ⟨heap_setCell_lit h.s _, h.lt, ownsRow_setCell_below h.own (a := ⟨sb, 3, none⟩) h.lt _, ownsRow_setCell_below h.ran (a := ⟨sb, 3, none⟩) h.lt _, h.ne⟩

theorem YS.slots {w : World} {sb B : Nat} {fv slv ranv : Value} {n : Nat} {xs rs : List Value} {rev clk : Int} (h : YS w sb B fv slv ranv n xs rs rev clk) (hn : 0 < n) : ∃ g c, slv = .slice (some ⟨g, 0, none⟩) n c ∧ g ≠ sb ∧ (∀ j, w.cell? ⟨g, j, none⟩ = xs[j]? ∨ n * 12 ≤ j) ∧ (∀ j, w.frozen? ⟨g, j, none⟩ = false) := by
  obtain ⟨g, c, rfl, _⟩ := h.cell hn
  have := (h.own.lt g rfl).1
  have := h.lt
  exact ⟨g, c, rfl, by omega, fun j => by
    by_cases hj : j < n * 12
    · exact .inl (h.own.cellAt j hj)
    · exact .inr (by omega), h.own.frozenAt⟩

set_option maxRecDepth 100000 in
set_option maxHeartbeats 1000000 in
theorem yuse_any {w : World} {sb B : Nat} {fv slv ranv : Value} {n : Nat} {xs rs : List Value} {rev clk : Int} (h : YS w sb B fv slv ranv n xs rs rev clk) (i : Nat) (hi : i < n) (hn : n ≤ 4) (hc0 : 0 ≤ clk) (hc : clk ≤ 1000) (u : Value) (hu : xs[i * 12 + 10]? = some u) :
    Calls Tryz.prog 51 #[.pointer (some ⟨sb, 0, none⟩), .int .i64 (i : Nat)] w fun e w' => e = .returned (.tuple #[]) ∧ YS w' sb B fv slv ranv n (xs.set (i * 12 + 10) (.int .i64 (clk + 1))) rs rev (clk + 1) ∧ Stay sb slv w w' := by
  obtain ⟨g, c, rfl, hne, hcell, hfz⟩ := h.slots (by omega)
  have H := hid h
  have s1 : w.cell? ⟨sb, 1, none⟩ = some (.slice (some ⟨g, 0, none⟩) n c) := heap_cell (i := 1) h.s
  have s3 : w.cell? ⟨sb, 3, none⟩ = some (.int .i64 clk) := heap_cell (i := 3) h.s
  have f3 : w.frozen? ⟨sb, 3, none⟩ = false := frozen_of_row _ _ _ _ _ h.s
  have z : w.cell? ⟨g, i * 12 + 10, none⟩ = some u := (h.own.cellAt (i * 12 + 10) (by omega)).trans hu
  have fz := hfz (i * 12 + 10)
  have hi0 : (0 : Int) ≤ (i : Int) := by omega
  have hin : (i : Int) < (n : Int) := by omega
  clear h hcell hfz hu
  go_enter Tryz.func51, Tryz.ntmps51
  go_wp2
  go_region_law (fail)
  all_goals go_wp2
  all_goals go_end0
  all_goals exact ⟨rfl, ((H.out.tick (clk + 1)).put (i * 12 + 10) _).below (below_drew _), (Stay.setS _ _ _).seq ((Stay.setG _ _ _).seq (Stay.below (below_drew _)))⟩

end Go.Proofs.YtfekglokoafpiaaGreatDoor

namespace Go.Proofs.YtfekglokoafpiaaGreatDoor
open Go.RowKit

/-- The values of all slots are kept. -/
def AllKept (n : Nat) (xs : List Value) : Prop := ∀ j, j < n → xs[j * 12 + 7]? = some (.bool true)

set_option maxRecDepth 100000 in
set_option maxHeartbeats 1000000 in
theorem kept_all {w : World} {sb B : Nat} {fv slv ranv : Value} {n : Nat} {xs rs : List Value} {rev clk : Int} (h : YS w sb B fv slv ranv n xs rs rev clk) (hk : AllKept n xs) (hn0 : 0 < n) (hn : n ≤ 4) :
    Calls Tryz.prog 52 #[.pointer (some ⟨sb, 0, none⟩)] w fun e w' => e = .returned (.int .i64 (n : Nat)) ∧ Below w.heap.size w w' := by
  obtain ⟨g, c, rfl, hc⟩ := h.cell hn0
  have HC := hid hc
  have HK := hid hk
  have s1 : w.cell? ⟨sb, 1, none⟩ = some (.slice (some ⟨g, 0, none⟩) n c) := heap_cell (i := 1) h.s
  have HS1 := hid s1
  clear h hk hc
  go_enter Tryz.func52, Tryz.ntmps52
  go_wp2
  go_loopg [3, 4] n (fun f a i wr => ∃ j : Nat, j + f = n ∧ a = .int .i64 (j : Nat) ∧ i = .int .i64 (j : Nat) ∧ Below w.heap.size w wr)
  case atStart => exact ⟨0, by omega, rfl, rfl, Below.refl _ _⟩
  case round =>
    obtain ⟨j, hj, rfl, rfl, hbl⟩ := hrel
    have HB := hid hbl
    have s1 : wr.cell? ⟨sb, 1, none⟩ = some (.slice (some ⟨g, 0, none⟩) n c) := cell_kept hbl HS1.out
    by_cases hlt : j < n
    · have z0 : wr.cell? ⟨g, j * 12 + 7, none⟩ = some (.bool true) := cell_kept hbl (HC.out _ _ (HK.out j hlt))
      have hjn : (j : Int) < (n : Int) := by omega
      have hjc : (0 : Int) ≤ (j : Int) := by omega
      clear hbl
      go_wp2
      go_roundg (n - (j + 1))
      case rel => exact ⟨j + 1, by omega, by go_num, by go_num, HB.out⟩
      case measure => omega
    · have hje : j = n := by omega
      subst hje
      clear hbl
      go_wp2
      go_ret
      exact ⟨rfl, HB.out⟩

set_option maxRecDepth 100000 in
set_option maxHeartbeats 1000000 in
theorem drop_none {w : World} {sb B : Nat} {fv slv ranv : Value} {n : Nat} {xs rs : List Value} {rev clk : Int} (h : YS w sb B fv slv ranv n xs rs rev clk) (hk : AllKept n xs) (hn0 : 0 < n) (hn : n ≤ 4) :
    Calls Tryz.prog 27 #[.pointer (some ⟨sb, 0, none⟩)] w fun e w' => e = .returned (.tuple #[]) ∧ Below w.heap.size w w' := by
  have HQ := hid (kept_all h hk hn0 hn)
  clear h hk
  go_enter Tryz.func27, Tryz.ntmps27
  go_wp2_with fail
  refine (HQ.out).mono ?_
  rintro e w1 ⟨rfl, hb⟩
  have HB := hid hb
  clear hb
  have hlt : ¬ ((40 : Int) < (n : Int)) := by omega
  go_wp2
  go_loopg [2] 0 (fun f a wr => a = .int .i64 (n : Nat) ∧ wr = w1)
  case atStart => exact ⟨rfl, rfl⟩
  case round =>
    obtain ⟨rfl, rfl⟩ := hrel
    go_wp2
    go_end0
    exact ⟨rfl, HB.out⟩

end Go.Proofs.YtfekglokoafpiaaGreatDoor

namespace Go.Proofs.YtfekglokoafpiaaGreatDoor
open Go.RowKit

/-- A slot that is being worked out: the cells from the place p on. -/
structure Raw (p : Nat) (xs : List Value) : Prop where
  z3 : xs[p + 3]? = some (.slice none 0 0)
  z4 : xs[p + 4]? = some (.int .i64 0)
  z5 : xs[p + 5]? = some (.int .i64 0)
  z6 : xs[p + 6]? = some (.bool false)
  z7 : xs[p + 7]? = some (.bool false)
  z8 : xs[p + 8]? = some (.bool false)
  z9 : xs[p + 9]? = some (.bool true)
  z10 : xs[p + 10]? = some (.int .i64 0)
  z11 : xs[p + 11]? = some (.string ⟨#[]⟩)

/-- The slots behind set. -/
def setXs (p : Nat) (v : ByteArray) (lk : Value) (rev clk : Int) (xs : List Value) : List Value :=
  (((((((xs.set (p + 5) (.int .i64 rev)).set (p + 11) (.string v)).set (p + 3) lk).set (p + 8) (.bool false)).set (p + 6) (.bool true)).set (p + 4) (.int .i64 rev)).set (p + 7) (.bool true)).set (p + 10) (.int .i64 (clk + 1))

set_option maxRecDepth 100000 in
set_option maxHeartbeats 2000000 in
theorem set_any {w : World} {sb B : Nat} {fv slv ranv : Value} {n : Nat} {xs rs : List Value} {rev clk : Int} (h : YS w sb B fv slv ranv n xs rs rev clk) (i : Nat) (hi : i < n) (hn : n ≤ 4) (hr : Raw (i * 12) xs) (hc0 : 0 ≤ clk) (hc : clk ≤ 1000) (v : ByteArray) (la : Option Addr) (ll lc : Nat) :
    Calls Tryz.prog 50 #[.pointer (some ⟨sb, 0, none⟩), .int .i64 (i : Nat), .string v, .slice la ll lc, .bool false] w fun e w' => e = .returned (.tuple #[]) ∧ YS w' sb B fv slv ranv n (setXs (i * 12) v (.slice la ll lc) rev clk xs) rs rev (clk + 1) ∧ Stay sb slv w w' := by
  obtain ⟨g, c, rfl, hne, hcell, hfz⟩ := h.slots (by omega)
  have H := hid h
  have s1 : w.cell? ⟨sb, 1, none⟩ = some (.slice (some ⟨g, 0, none⟩) n c) := heap_cell (i := 1) h.s
  have s2 : w.cell? ⟨sb, 2, none⟩ = some (.int .i64 rev) := heap_cell (i := 2) h.s
  have s3 : w.cell? ⟨sb, 3, none⟩ = some (.int .i64 clk) := heap_cell (i := 3) h.s
  have z : ∀ q u, q < 12 → xs[i * 12 + q]? = some u → w.cell? ⟨g, i * 12 + q, none⟩ = some u := fun q u hq hu => (h.own.cellAt (i * 12 + q) (by omega)).trans hu
  have z3 := z 3 _ (by omega) hr.z3
  have z4 := z 4 _ (by omega) hr.z4
  have z5 := z 5 _ (by omega) hr.z5
  have z6 := z 6 _ (by omega) hr.z6
  have z7 := z 7 _ (by omega) hr.z7
  have z8 := z 8 _ (by omega) hr.z8
  have z11 := z 11 _ (by omega) hr.z11
  have f3 := hfz (i * 12 + 3)
  have f4 := hfz (i * 12 + 4)
  have f5 := hfz (i * 12 + 5)
  have f6 := hfz (i * 12 + 6)
  have f7 := hfz (i * 12 + 7)
  have f8 := hfz (i * 12 + 8)
  have f11 := hfz (i * 12 + 11)
  have hi0 : (0 : Int) ≤ (i : Int) := by omega
  have hin : (i : Int) < (n : Int) := by omega
  have HR := hid hr
  clear h hcell hfz z hr
  go_enter Tryz.func50, Tryz.ntmps50
  go_wp2_with fail
  have HY := (((((((H.out.put (i * 12 + 5) (.int .i64 rev)).put (i * 12 + 11) (.string v)).put (i * 12 + 3) (.slice la ll lc)).put (i * 12 + 8) (.bool false)).put (i * 12 + 6) (.bool true)).put (i * 12 + 4) (.int .i64 rev)).put (i * 12 + 7) (.bool true))
  refine (yuse_any HY i hi hn hc0 hc (.int .i64 0) (by
    rw [List.getElem?_set_ne (by omega), List.getElem?_set_ne (by omega), List.getElem?_set_ne (by omega), List.getElem?_set_ne (by omega), List.getElem?_set_ne (by omega), List.getElem?_set_ne (by omega), List.getElem?_set_ne (by omega)]
    exact HR.out.z10)).mono ?_
  rintro e w1 ⟨rfl, hy, hf⟩
  have HY2 := hid hy
  have HF := hid hf
  clear hy hf HY
  go_wp2
  go_end0
  exact ⟨rfl, HY2.out, (Stay.setG _ _ _).seq ((Stay.setG _ _ _).seq ((Stay.setG _ _ _).seq ((Stay.setG _ _ _).seq ((Stay.setG _ _ _).seq ((Stay.setG _ _ _).seq ((Stay.setG _ _ _).seq HF.out))))))⟩

end Go.Proofs.YtfekglokoafpiaaGreatDoor

namespace Go.Proofs.YtfekglokoafpiaaGreatDoor
open Go.RowKit

/-- A slot that is verified: the cells from the place p on. -/
structure Done (p : Nat) (k : Nat) (act : Bool) (rev : Int) (xs : List Value) (la : Option Addr) (ll lc : Nat) (ch us : Int) (v : ByteArray) : Prop where
  z0 : xs[p]? = some (.int .i64 (k : Nat))
  z1 : xs[p + 1]? = some (.string ⟨#[97]⟩)
  z2 : xs[p + 2]? = some (.string ⟨#[]⟩)
  z3 : xs[p + 3]? = some (.slice la ll lc)
  z4 : xs[p + 4]? = some (.int .i64 rev)
  z5 : xs[p + 5]? = some (.int .i64 ch)
  z6 : xs[p + 6]? = some (.bool true)
  z7 : xs[p + 7]? = some (.bool true)
  z8 : xs[p + 8]? = some (.bool false)
  z9 : xs[p + 9]? = some (.bool act)
  z10 : xs[p + 10]? = some (.int .i64 us)
  z11 : xs[p + 11]? = some (.string v)

set_option maxRecDepth 100000 in
set_option maxHeartbeats 2000000 in
theorem refresh_done {w : World} {sb B : Nat} {fv slv ranv : Value} {n : Nat} {xs rs : List Value} {rev clk : Int} (h : YS w sb B fv slv ranv n xs rs rev clk) (i : Nat) (hi : i < n) (hn : n ≤ 4) {k : Nat} {act : Bool} {la : Option Addr} {ll lc : Nat} {ch us : Int} {v : ByteArray} (hd : Done (i * 12) k act rev xs la ll lc ch us v) :
    Calls Tryz.prog 49 #[.pointer (some ⟨sb, 0, none⟩), .int .i64 (i : Nat), .bool true] w fun e w' => e = .returned (.int .i64 (-1)) ∧ Below w.heap.size w w' := by
  obtain ⟨g, c, rfl, hne, hcell, hfz⟩ := h.slots (by omega)
  have s1 : w.cell? ⟨sb, 1, none⟩ = some (.slice (some ⟨g, 0, none⟩) n c) := heap_cell (i := 1) h.s
  have s2 : w.cell? ⟨sb, 2, none⟩ = some (.int .i64 rev) := heap_cell (i := 2) h.s
  have z : ∀ q u, q < 12 → xs[i * 12 + q]? = some u → w.cell? ⟨g, i * 12 + q, none⟩ = some u := fun q u hq hu => (h.own.cellAt (i * 12 + q) (by omega)).trans hu
  have z0 := z 0 _ (by omega) hd.z0
  have z1 := z 1 _ (by omega) hd.z1
  have z2 := z 2 _ (by omega) hd.z2
  have z3 := z 3 _ (by omega) hd.z3
  have z4 := z 4 _ (by omega) hd.z4
  have z5 := z 5 _ (by omega) hd.z5
  have z6 := z 6 _ (by omega) hd.z6
  have z7 := z 7 _ (by omega) hd.z7
  have z8 := z 8 _ (by omega) hd.z8
  have z9 := z 9 _ (by omega) hd.z9
  have z10 := z 10 _ (by omega) hd.z10
  have z11 := z 11 _ (by omega) hd.z11
  simp only [Nat.add_zero] at z0
  have hi0 : (0 : Int) ≤ (i : Int) := by omega
  have hin : (i : Int) < (n : Int) := by omega
  have hrr : ¬ (rev < rev) := by omega
  clear h hcell hfz z hd
  go_enter Tryz.func49, Tryz.ntmps49
  go_wp2
  have hN := new_heap w (.cells #[.int .i64 (k : Nat), .string ⟨#[97]⟩, .string ⟨#[]⟩, .slice la ll lc, .int .i64 rev, .int .i64 ch, .bool true, .bool true, .bool false, .bool act, .int .i64 us, .string v] 70)
  have hbl := below_new w (.cells #[.int .i64 (k : Nat), .string ⟨#[97]⟩, .string ⟨#[]⟩, .slice la ll lc, .int .i64 rev, .int .i64 ch, .bool true, .bool true, .bool false, .bool act, .int .i64 us, .string v] 70)
  generalize w.alloc (.cells #[.int .i64 (k : Nat), .string ⟨#[97]⟩, .string ⟨#[]⟩, .slice la ll lc, .int .i64 rev, .int .i64 ch, .bool true, .bool true, .bool false, .bool act, .int .i64 us, .string v] 70) = W at hN hbl ⊢
  have y4 : W.cell? ⟨w.heap.size, 4, none⟩ = some (.int .i64 rev) := heap_cell (i := 4) hN
  have y6 : W.cell? ⟨w.heap.size, 6, none⟩ = some (.bool true) := heap_cell (i := 6) hN
  have y8 : W.cell? ⟨w.heap.size, 8, none⟩ = some (.bool false) := heap_cell (i := 8) hN
  have r1 := cell_kept hbl s1
  have r2 := cell_kept hbl s2
  have r7 := cell_kept hbl z7
  have HB := hid hbl
  clear hN hbl s1 s2 z0 z1 z2 z3 z4 z5 z6 z7 z8 z9 z10 z11
  go_quiet (fail)
  go_wp2
  go_quiet (fail)
  go_wp2
  go_ret
  exact ⟨rfl, below_seq HB.out (below_drewN _ _)⟩

/-- The slots behind a fetch of a verified slot. -/
def useXs (p : Nat) (clk : Int) (xs : List Value) : List Value :=
  ((xs.set (p + 9) (.bool true)).set (p + 10) (.int .i64 (clk + 1))).set (p + 9) (.bool false)

theorem Done.active {p k : Nat} {act : Bool} {rev : Int} {xs : List Value} {la : Option Addr} {ll lc : Nat} {ch us : Int} {v : ByteArray} (h : Done p k act rev xs la ll lc ch us v) (b : Bool) : Done p k b rev (xs.set (p + 9) (.bool b)) la ll lc ch us v := by
  have hl : p + 9 < xs.length := (List.getElem?_eq_some_iff.1 h.z9).1
  constructor
  · rw [List.getElem?_set_ne (by omega)]; exact h.z0
  · rw [List.getElem?_set_ne (by omega)]; exact h.z1
  · rw [List.getElem?_set_ne (by omega)]; exact h.z2
  · rw [List.getElem?_set_ne (by omega)]; exact h.z3
  · rw [List.getElem?_set_ne (by omega)]; exact h.z4
  · rw [List.getElem?_set_ne (by omega)]; exact h.z5
  · rw [List.getElem?_set_ne (by omega)]; exact h.z6
  · rw [List.getElem?_set_ne (by omega)]; exact h.z7
  · rw [List.getElem?_set_ne (by omega)]; exact h.z8
  · rw [List.getElem?_set_self hl]
  · rw [List.getElem?_set_ne (by omega)]; exact h.z10
  · rw [List.getElem?_set_ne (by omega)]; exact h.z11

set_option maxRecDepth 100000 in
set_option maxHeartbeats 2000000 in
theorem fetch_done {w : World} {sb B : Nat} {fv slv ranv : Value} {n : Nat} {xs rs : List Value} {rev clk : Int} (h : YS w sb B fv slv ranv n xs rs rev clk) (hB : B ≤ w.heap.size) (hk : Kinds n xs) (hn : n ≤ 4) (hc0 : 0 ≤ clk) (hc : clk ≤ 1000) (k i : Nat) (hi : i < n) (hik : k = i + 1) {la : Option Addr} {ll lc : Nat} {ch us : Int} {v : ByteArray} (hd : Done (i * 12) k false rev xs la ll lc ch us v) :
    Calls Tryz.prog 26 #[.pointer (some ⟨sb, 0, none⟩), .agg #[.int .i64 (k : Nat), .string ⟨#[97]⟩, .string ⟨#[]⟩], .bool true] w fun e w' => e = .returned (.int .i64 (-1)) ∧ YS w' sb B fv slv ranv n (useXs (i * 12) clk xs) rs rev (clk + 1) ∧ Stay sb slv w w' := by
  obtain ⟨g, c, rfl, hne, hcell, hfz⟩ := h.slots (by omega)
  have hbl := below_new w (.cells #[.int .i64 (k : Nat), .string ⟨#[97]⟩, .string ⟨#[]⟩] 66)
  have HQ := hid (slot_old (h.below hbl) hk hn k (by omega) (by omega))
  have H := hid h
  have HD := hid hd
  have HBL := hid hbl
  have hk0 : ((k : Int) == 0) = false := by rw [beq_eq_false_iff_ne]; omega
  have hk0' : ¬ ((k : Int) = 0) := by omega
  have hki : ((k - 1 : Nat) : Int) = (i : Int) := by omega
  have HKI := hid hki
  have HIK := hid hik
  clear h hd hcell hfz hbl hki hik
  go_enter Tryz.func26, Tryz.ntmps26
  go_wp2_with fail
  refine (HQ.out).mono ?_
  rintro e w1 ⟨rfl, hb⟩
  rw [HKI.out]
  have H1 := hid ((H.out.below HBL.out).below hb)
  have HF1 := hid (show Stay sb (.slice (some ⟨g, 0, none⟩) n c) w w1 from Stay.below (below_seq HBL.out hb))
  obtain ⟨g', c', hv', hne', hcell, hfz⟩ := H1.out.slots (by omega)
  have e1 := (Option.some.inj (Value.slice.inj hv').1)
  have e2 := (Addr.mk.inj e1).1
  subst e2
  have s1 : w1.cell? ⟨sb, 1, none⟩ = some (.slice (some ⟨g, 0, none⟩) n c) := heap_cell (i := 1) H1.out.s
  have z9 : w1.cell? ⟨g, i * 12 + 9, none⟩ = some (.bool false) := (H1.out.own.cellAt (i * 12 + 9) (by omega)).trans HD.out.z9
  have f9 := hfz (i * 12 + 9)
  have hi0 : (0 : Int) ≤ (i : Int) := by omega
  have hin : (i : Int) < (n : Int) := by omega
  clear hb hcell hfz hv' e1
  go_wp2_with fail
  have H2 := hid (H1.out.put (i * 12 + 9) (.bool true))
  refine (refresh_done H2.out i hi hn (HD.out.active true)).mono ?_
  rintro e w2 ⟨rfl, hb2⟩
  have HB2 := hid hb2
  have H3 := hid (H2.out.below hb2)
  clear hb2
  have h0 : ¬ ((-1 : Int) = (i : Int)) := by omega
  have h0' : ((-1 : Int) == (i : Int)) = false := by rw [beq_eq_false_iff_ne]; omega
  go_wp2_with fail
  refine (yuse_any H3.out i hi hn hc0 hc (.int .i64 us) (by rw [List.getElem?_set_ne (by omega)]; exact HD.out.z10)).mono ?_
  rintro e w3 ⟨rfl, hy, hf3⟩
  have H4 := hid hy
  have HF3 := hid hf3
  have t1 : w3.cell? ⟨sb, 1, none⟩ = some (.slice (some ⟨g, 0, none⟩) n c) := heap_cell (i := 1) hy.s
  have tl : i * 12 + 9 < xs.length := (List.getElem?_eq_some_iff.1 HD.out.z9).1
  have t9 : w3.cell? ⟨g, i * 12 + 9, none⟩ = some (.bool true) := (hy.own.cellAt (i * 12 + 9) (by omega)).trans (by rw [List.getElem?_set_ne (by omega), List.getElem?_set_self (by omega)])
  have tf := hy.own.frozenAt (i * 12 + 9)
  clear hy hf3
  go_wp2
  go_ret
  exact ⟨rfl, H4.out.put _ _, HF1.out.seq ((Stay.setG _ _ _).seq ((Stay.below HB2.out).seq (HF3.out.seq (Stay.setG _ _ _))))⟩

end Go.Proofs.YtfekglokoafpiaaGreatDoor

namespace Go.Proofs.YtfekglokoafpiaaGreatDoor
open Go.RowKit

/-- Ran's first row. -/
theorem YS.ranned {w w1 w5 : World} {sb B : Nat} {fv slv : Value} {n g cap : Nat} {xs rs : List Value} {rev clk : Int} (h : YS w sb B fv slv (.slice none 0 0) n xs [] rev clk) (hb : Below w.heap.size w w1) (hg : w1.grownBy w5 none) (hown : w5.ownsRow B 9 1 (.slice (some ⟨g, 0, none⟩) rs.length cap) rs.length rs) (hat : g = w1.heap.size) :
    YS (w5.setCell ⟨sb, 4, none⟩ (.slice (some ⟨g, 0, none⟩) rs.length cap)) sb B fv slv (.slice (some ⟨g, 0, none⟩) rs.length cap) n xs rs rev clk := by
  have hs1 := below_heap hb (heap_lt h.s) h.s
  have hs2 := (hg.block sb (heap_lt hs1) (by simp)).trans hs1
  refine ⟨heap_setCell_lit hs2 _, h.lt, ownsRow_setCell_below (a := ⟨sb, 4, none⟩) (own_block h.own fun q _ hq => ?_) h.lt _, ownsRow_setCell_below hown (a := ⟨sb, 4, none⟩) h.lt _, ?_⟩
  · exact (hg.block q (by have := hb.size; omega) (by simp)).trans (hb.block q hq)
  · intro b hbo e
    have h2 := (h.own.lt b e).2
    have h3 := hb.size
    have : g = b := by simpa [Value.ownBlock] using hbo
    omega

end Go.Proofs.YtfekglokoafpiaaGreatDoor

namespace Go.Proofs.YtfekglokoafpiaaGreatDoor
open Go.RowKit

theorem keepd4 {w2 w w' : World} {p0 p1 p2 p3 : Addr} {v0 v1 v2 v3 : Value} (h : Below w2.heap.size w2 w ∧ w.cell? p0 = some v0 ∧ w.cell? p1 = some v1 ∧ w.cell? p2 = some v2 ∧ w.cell? p3 = some v3) (hb : Below w.heap.size w w') :
    Below w2.heap.size w2 w' ∧ w'.cell? p0 = some v0 ∧ w'.cell? p1 = some v1 ∧ w'.cell? p2 = some v2 ∧ w'.cell? p3 = some v3 := ⟨below_seq h.1 hb, cell_kept hb h.2.1, cell_kept hb h.2.2.1, cell_kept hb h.2.2.2.1, cell_kept hb h.2.2.2.2⟩

theorem keepe4 {w w' : World} {p0 p1 p2 p3 : Addr} {v0 v1 v2 v3 : Value} (h : w.cell? p0 = some v0 ∧ w.cell? p1 = some v1 ∧ w.cell? p2 = some v2 ∧ w.cell? p3 = some v3) (hb : Below w.heap.size w w') :
    w'.cell? p0 = some v0 ∧ w'.cell? p1 = some v1 ∧ w'.cell? p2 = some v2 ∧ w'.cell? p3 = some v3 := ⟨cell_kept hb h.1, cell_kept hb h.2.1, cell_kept hb h.2.2.1, cell_kept hb h.2.2.2⟩

theorem setKeeps {w8 w9 w10 : World} {sb B q : Nat} {fv slv ranv : Value} {n : Nat} {xs rs : List Value} {rev clk : Int} {v0 v1 v2 : Value} {T : TypeId} {fr : Nat × Nat} (hb : Below w8.heap.size w8 w9) (hq : w8.heap[q]? = some (.cells #[v0, v1, v2] T fr)) (h1 : q ≠ sb) (h2 : slv.ownBlock ≠ some q)
    (hy : YS w10 sb B fv slv ranv n xs rs rev clk) (hf : Stay sb slv w9 w10) :
    w10.cell? ⟨sb, 0, none⟩ = some fv ∧ w10.cell? ⟨q, 0, none⟩ = some v0 ∧ w10.cell? ⟨q, 1, none⟩ = some v1 ∧ w10.cell? ⟨q, 2, none⟩ = some v2 := by
  have h9 := below_heap hb (heap_lt hq) hq
  have h10 := (hf.2 q (heap_lt h9) h1 h2).trans h9
  exact ⟨heap_cell (i := 0) hy.s, heap_cell (i := 0) h10, heap_cell (i := 1) h10, heap_cell (i := 2) h10⟩

set_option maxRecDepth 100000 in
set_option maxHeartbeats 2000000 in
theorem work_new {w : World} {sb B : Nat} {fv slv : Value} {n : Nat} {xs : List Value} {rev clk : Int} (h : YS w sb B fv slv (.slice none 0 0) n xs [] rev clk) (hB : B ≤ w.heap.size) (hn : n ≤ 4) (hc0 : 0 ≤ clk) (hc : clk ≤ 1000) (k i : Nat) (hi : i < n) (hk : k ≤ 4)
    (q0 : xs[i * 12]? = some (.int .i64 (k : Nat))) (q1 : xs[i * 12 + 1]? = some (.string ⟨#[97]⟩)) (q2 : xs[i * 12 + 2]? = some (.string ⟨#[]⟩)) (hr : Raw (i * 12) xs)
    (k0 : Nat) (ans : ByteArray)
    (HL : ∀ wx : World, Calls Tryz.prog 111 #[fv, .agg #[.int .i64 (k : Nat), .string ⟨#[97]⟩, .string ⟨#[]⟩]] wx fun e w' => ∃ g c, e = .returned (.slice (some ⟨g, 0, none⟩) 1 c) ∧ wx.heap.size ≤ g ∧ w'.heap[g]? = some (.cells #[.int .i64 (k0 : Nat), .string ⟨#[97]⟩, .string ⟨#[]⟩] 66) ∧ Below wx.heap.size wx w')
    (R : List Value → Int → Prop) (hR : ∀ xs' c', R xs' c' → Raw (i * 12) xs' ∧ 0 ≤ c' ∧ c' ≤ 1000)
    (HFe : ∀ (wx : World) (ranv : Value) (rs : List Value), YS wx sb B fv slv ranv n xs rs rev clk → B ≤ wx.heap.size → Calls Tryz.prog 26 #[.pointer (some ⟨sb, 0, none⟩), .agg #[.int .i64 (k0 : Nat), .string ⟨#[97]⟩, .string ⟨#[]⟩], .bool true] wx fun e w' => e = .returned (.int .i64 (-1)) ∧ ∃ xs' c', R xs' c' ∧ YS w' sb B fv slv ranv n xs' rs rev c' ∧ Stay sb slv wx w')
    (HA : ∀ wx : World, Stay sb slv w wx → Calls Tryz.prog 112 #[fv, .int .i64 (k : Nat), .string ⟨#[97]⟩, .string ⟨#[]⟩] wx fun e w' => e = .returned (.string ans) ∧ Below wx.heap.size wx w') :
    Calls Tryz.prog 81 #[.pointer (some ⟨sb, 0, none⟩), .int .i64 (i : Nat)] w fun e w' => e = .returned (.int .i64 (-1)) ∧ ∃ xs' c' ranv la ll lc t, R xs' c' ∧ YS w' sb B fv slv ranv n (setXs (i * 12) ans (.slice la ll lc) rev c' xs') [.string t] rev (c' + 1) ∧ Stay sb slv w w' := by
  obtain ⟨g, c, rfl, hne, hcell, hfz⟩ := h.slots (by omega)
  have H := hid h
  have HR := hid hr
  have s0 : w.cell? ⟨sb, 0, none⟩ = some fv := heap_cell (i := 0) h.s
  have s1 : w.cell? ⟨sb, 1, none⟩ = some (.slice (some ⟨g, 0, none⟩) n c) := heap_cell (i := 1) h.s
  have s4 : w.cell? ⟨sb, 4, none⟩ = some (.slice none 0 0) := heap_cell (i := 4) h.s
  have z : ∀ q u, q < 12 → xs[i * 12 + q]? = some u → w.cell? ⟨g, i * 12 + q, none⟩ = some u := fun q u hq hu => (h.own.cellAt (i * 12 + q) (by omega)).trans hu
  have z0 := z 0 _ (by omega) q0
  have z1 := z 1 _ (by omega) q1
  have z2 := z 2 _ (by omega) q2
  simp only [Nat.add_zero] at z0
  have hi0 : (0 : Int) ≤ (i : Int) := by omega
  have hin : (i : Int) < (n : Int) := by omega
  clear h hr hcell hfz z q0 q1 q2
  go_enter Tryz.func81, Tryz.ntmps81
  go_wp2
  have hN := new_heap w (.cells #[.int .i64 (k : Nat), .string ⟨#[97]⟩, .string ⟨#[]⟩] 66)
  have hbl := below_new w (.cells #[.int .i64 (k : Nat), .string ⟨#[97]⟩, .string ⟨#[]⟩] 66)
  generalize w.alloc (.cells #[.int .i64 (k : Nat), .string ⟨#[97]⟩, .string ⟨#[]⟩] 66) = W at hN hbl ⊢
  have HBL := hid hbl
  have HN := hid hN
  obtain ⟨i0, hi0', hz0, hz1, hz2⟩ := info_parts infoStr
  have hS := below_heap hbl (heap_lt H.out.s) H.out.s
  have r4 : W.cell? ⟨sb, 4, none⟩ = some (.slice none 0 0) := heap_cell (i := 4) hS
  have y0 : W.cell? ⟨w.heap.size, 0, none⟩ = some (.int .i64 (k : Nat)) := heap_cell (i := 0) hN
  have y1 : W.cell? ⟨w.heap.size, 1, none⟩ = some (.string ⟨#[97]⟩) := heap_cell (i := 1) hN
  have y2 : W.cell? ⟨w.heap.size, 2, none⟩ = some (.string ⟨#[]⟩) := heap_cell (i := 2) hN
  have hsW : sb < W.heap.size := heap_lt hS
  have hBW : B ≤ W.heap.size := by have := hbl.size; omega
  have HS := hid hS
  have hsa : ∀ w2 o, Below W.heap.size W w2 → (w2.alloc o).cell? ⟨sb, 4, none⟩ = some (.slice none 0 0) := fun w2 o hb => cell_kept (below_seq hb (below_new _ _)) (heap_cell (i := 4) HS.out)
  have hsf : ∀ w2 o, Below W.heap.size W w2 → (w2.alloc o).frozen? ⟨sb, 4, none⟩ = false := fun w2 o hb => frozen_of_row _ _ _ _ _ (below_heap (below_seq hb (below_new _ _)) (heap_lt HS.out) HS.out)
  have hHSA := hid hsa
  have hHSF := hid hsf
  have hnil : ∀ w2 : World, w2.ownsRow B 9 1 (.slice none 0 0) 0 [] := fun w2 => ⟨rfl, .inl ⟨rfl, rfl⟩⟩
  clear hN hbl hS s0 s1 s4 z0 z1 z2 hsa hsf
  go_region_law? (first
    | (go_simp; go_at_call 110; refine (keyShown_small k hk _).mono ?_; rintro e w2 ⟨⟨t, rfl⟩, hb2⟩; have hb2' : Below W.heap.size W w2 := below_seq (below_drew W) hb2; have c2 := cell_kept hb2' r4; have c3 := hHSA.out w2 (.cells #[.string t] 9) hb2')
    | (refine wp_append_lies _ _ _ 24 (by rfl) B 9 i0 (.string ⟨#[]⟩) 1 16 Tryz.underlying24 hi0' hz0 hz1 hz2 (by decide) (by decide) (.slice none 0 0) 0 [] (by rfl) (hnil _) ⟨w2.heap.size, 0, none⟩ 1 1 [.string t] (by rfl) (by rfl) (one_cell _ _ rfl _ _) (by intro u hu; simp at hu; subst hu; rfl) (by omega) (by unfold maxLen; omega) (by omega) (by have := hb2'.size; simp; omega) (w2.heap.size + 1) (by simp) ?_; intro g' c' w5 hown' hgrow hat hlt; have c5 := (hgrow.cell_far ⟨sb, 4, none⟩ (by have := hb2'.size; simp; omega) (by simp [Value.ownBlock])).trans (hHSA.out w2 _ hb2'); have f5 := (hgrow.frozen_far ⟨sb, 4, none⟩ (by have := hb2'.size; simp; omega) (by simp [Value.ownBlock])).trans (hHSF.out w2 _ hb2')))
  all_goals
    have H5 := hid ((H.out.below HBL.out).ranned (w1 := w2.alloc (.cells #[.string t] 9)) (rs := [.string t]) (below_seq hb2' (below_new _ _)) hgrow hown' (by simpa [Value.ownBlock] using hat))
    have HF5 := hid (show Stay sb (.slice (some ⟨g, 0, none⟩) n c) W (w5.setCell ⟨sb, 4, none⟩ (.slice (some ⟨g', 0, none⟩) 1 c')) from (Stay.below (below_seq hb2' (below_new _ _))).seq (Stay.seq (Stay.grownNew hgrow) (Stay.setS _ _ _)))
    simp only [List.length_cons, List.length_nil, Nat.zero_add] at H5
    clear hown' hgrow hat c5 f5 hlt c2 c3 hb2 hb2' r4 y0 y1 y2 hHSA hHSF hnil
    generalize w5.setCell ⟨sb, 4, none⟩ (.slice (some ⟨g', 0, none⟩) 1 c') = W6 at H5 HF5 ⊢
    have s0 : W6.cell? ⟨sb, 0, none⟩ = some fv := heap_cell (i := 0) H5.out.s
    have hK := (HF5.out.2 w.heap.size (heap_lt HN.out) (by have := heap_lt H.out.s; omega) (by have := (H.out.own.lt g rfl).2; simp [Value.ownBlock]; omega)).trans HN.out
    have y0 : W6.cell? ⟨w.heap.size, 0, none⟩ = some (.int .i64 (k : Nat)) := heap_cell (i := 0) hK
    have y1 : W6.cell? ⟨w.heap.size, 1, none⟩ = some (.string ⟨#[97]⟩) := heap_cell (i := 1) hK
    have y2 : W6.cell? ⟨w.heap.size, 2, none⟩ = some (.string ⟨#[]⟩) := heap_cell (i := 2) hK
    have HK6 := hid hK
    clear hK
    have hSB : sb < W6.heap.size := heap_lt H5.out.s
    have hS6 : Below W6.heap.size W6 W6 ∧ W6.cell? ⟨sb, 0, none⟩ = some fv ∧ W6.cell? ⟨w.heap.size, 0, none⟩ = some (.int .i64 (k : Nat)) ∧ W6.cell? ⟨w.heap.size, 1, none⟩ = some (.string ⟨#[97]⟩) ∧ W6.cell? ⟨w.heap.size, 2, none⟩ = some (.string ⟨#[]⟩) := ⟨Below.refl _ _, s0, y0, y1, y2⟩
    go_wp2
    go_region_held3 (fun wx => Below W6.heap.size W6 wx ∧ wx.cell? ⟨sb, 0, none⟩ = some fv ∧ wx.cell? ⟨w.heap.size, 0, none⟩ = some (.int .i64 (k : Nat)) ∧ wx.cell? ⟨w.heap.size, 1, none⟩ = some (.string ⟨#[97]⟩) ∧ wx.cell? ⟨w.heap.size, 2, none⟩ = some (.string ⟨#[]⟩))
      (first
        | exact keepd4 (by assumption) (below_drew _)
        | exact keepd4 (by assumption) (by assumption)
        | exact keepd4 (by assumption) (Below.refl _ _)
        | exact keepd4 hS6 (below_drew _))
      (first
        | (go_at_call 111; refine (HL _).mono ?_; rintro e w7 ⟨lg, lc, rfl, hlg, hlh, hb7⟩))
  all_goals
    have hHeld := (by assumption : Below W6.heap.size W6 w7 ∧ w7.cell? ⟨sb, 0, none⟩ = some fv ∧ w7.cell? ⟨w.heap.size, 0, none⟩ = some (.int .i64 (k : Nat)) ∧ w7.cell? ⟨w.heap.size, 1, none⟩ = some (.string ⟨#[97]⟩) ∧ w7.cell? ⟨w.heap.size, 2, none⟩ = some (.string ⟨#[]⟩))
    have HB7 := hid hHeld.1
    have H7 := hid (H5.out.below hHeld.1)
    have hK7 := below_heap hHeld.1 (heap_lt HK6.out) HK6.out
    have HK7 := hid hK7
    have hlw : W6.heap.size ≤ lg := hlg
    have HLW := hid hlw
    have HW6 := hid (show w.heap.size < W6.heap.size from heap_lt HK6.out)
    have l0 : w7.cell? ⟨lg, 0, none⟩ = some (.int .i64 (k0 : Nat)) := heap_cell (i := 0) hlh
    have l1 : w7.cell? ⟨lg, 1, none⟩ = some (.string ⟨#[97]⟩) := heap_cell (i := 1) hlh
    have l2 : w7.cell? ⟨lg, 2, none⟩ = some (.string ⟨#[]⟩) := heap_cell (i := 2) hlh
    have hB7 : B ≤ w7.heap.size := by have := hHeld.1.size; have := HW6.out; omega
    have HB7' := hid hB7
    clear hHeld hK7 hlw hlh hb7 hlg hS6 s0 y0 y1 y2 hB7
    go_wp2
    refine wp_loop_rounds 2 ?_
    rw [rounds_succ]
    go_wp2_with fail
    refine (HFe w7 _ _ H7.out HB7'.out).mono ?_
    rintro e w8 ⟨rfl, xs', c1, hR1, hy8, hf8⟩
    have H8 := hid hy8
    have HF8 := hid hf8
    have HR8 := hid hR1
    clear hy8 hf8 hR1 l0 l1 l2
    go_wp2
    rw [rounds_succ]
    go_wp2
  all_goals
    have hst : Stay sb (.slice (some ⟨g, 0, none⟩) n c) w w8 := (Stay.below HBL.out).seq (HF5.out.seq ((Stay.below HB7.out).seq HF8.out))
    have HST := hid hst
    have hK8 := (HF8.out.2 w.heap.size (heap_lt HK7.out) (by have := heap_lt H.out.s; omega) (by have := (H.out.own.lt g rfl).2; simp [Value.ownBlock]; omega)).trans HK7.out
    have s0 : w8.cell? ⟨sb, 0, none⟩ = some fv := heap_cell (i := 0) H8.out.s
    have y0 : w8.cell? ⟨w.heap.size, 0, none⟩ = some (.int .i64 (k : Nat)) := heap_cell (i := 0) hK8
    have y1 : w8.cell? ⟨w.heap.size, 1, none⟩ = some (.string ⟨#[97]⟩) := heap_cell (i := 1) hK8
    have y2 : w8.cell? ⟨w.heap.size, 2, none⟩ = some (.string ⟨#[]⟩) := heap_cell (i := 2) hK8
    have HRAW := hid (hR _ _ HR8.out)
    have hq0 := HRAW.out.2.1
    have hq1 := HRAW.out.2.2
    clear hst
    have hS8 : w8.cell? ⟨sb, 0, none⟩ = some fv ∧ w8.cell? ⟨w.heap.size, 0, none⟩ = some (.int .i64 (k : Nat)) ∧ w8.cell? ⟨w.heap.size, 1, none⟩ = some (.string ⟨#[97]⟩) ∧ w8.cell? ⟨w.heap.size, 2, none⟩ = some (.string ⟨#[]⟩) := ⟨s0, y0, y1, y2⟩
    have HN8 := hid hK8
    have HNE1 := hid (show w.heap.size ≠ sb from by have := heap_lt H.out.s; omega)
    have HNE2 := hid (show (Value.slice (some ⟨g, 0, none⟩) n c).ownBlock ≠ some w.heap.size from by have := (H.out.own.lt g rfl).2; simp [Value.ownBlock]; omega)
    clear hK8
    go_region_held3 (fun wx => wx.cell? ⟨sb, 0, none⟩ = some fv ∧ wx.cell? ⟨w.heap.size, 0, none⟩ = some (.int .i64 (k : Nat)) ∧ wx.cell? ⟨w.heap.size, 1, none⟩ = some (.string ⟨#[97]⟩) ∧ wx.cell? ⟨w.heap.size, 2, none⟩ = some (.string ⟨#[]⟩))
      (first
        | assumption
        | exact keepe4 (by assumption) (below_drew _)
        | exact keepe4 (by assumption) (by assumption)
        | exact keepe4 (by assumption) (Below.refl _ _)
        | exact keepe4 hS8 (below_drew _))
      (first
        | (go_at_call 112; refine (HA _ (HST.out.seq (Stay.below (below_drew _)))).mono ?_; rintro e w9 ⟨rfl, hb9⟩; have HB9 := hid (below_seq (below_drew w8) hb9))
        | (go_at_call 50; refine (set_any (H8.out.below HB9.out) i hi hn HRAW.out.1 hq0 hq1 ans (some ⟨lg, 0, none⟩) 1 lc).mono ?_; rintro e w10 ⟨rfl, hy10, hf10⟩; have H10 := hid hy10; have HF10 := hid hf10; have hS10 := setKeeps HB9.out HN8.out HNE1.out HNE2.out hy10 hf10; clear hy10 hf10))
  all_goals go_wp2
  all_goals go_ret
  all_goals exact ⟨rfl, xs', c1, _, _, _, _, t, HR8.out, H10.out, HST.out.seq ((Stay.below HB9.out).seq HF10.out)⟩

end Go.Proofs.YtfekglokoafpiaaGreatDoor
