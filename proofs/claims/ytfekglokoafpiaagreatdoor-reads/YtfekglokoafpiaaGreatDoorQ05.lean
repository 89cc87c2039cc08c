/-
  The document's text of an expr: sums, products, choices.
-/
import Derived.Test.YtfekglokoafpiaaGreatDoorQ04
import Derived.Deep.RegionHeld3
import Derived.Laws.IdiomStrings

set_option linter.unusedVariables false
set_option linter.unusedSimpArgs false

namespace Go.Proofs.YtfekglokoafpiaaGreatDoor
open Go.RowKit

theorem cell_kept {w w' : World} {p : Addr} {v : Value} (hb : Below w.heap.size w w') (h : w.cell? p = some v) : w'.cell? p = some v := by
  have hlt : p.block < w.heap.size := by
    rcases Nat.lt_or_ge p.block w.heap.size with h1 | h1
    · exact h1
    · simp [World.cell?, Array.getElem?_eq_none h1] at h
  rw [← h]; simp [World.cell?, hb.block _ hlt]

theorem below_cells {w w' : World} (hb : Below w.heap.size w w') : ∀ p : Addr, p.block < w.heap.size → w'.cell? p = w.cell? p := fun p hp => by simp [World.cell?, hb.block _ hp]

theorem conv1 (c : UInt8) : ∀ (w : World) (b : Nat), w.cell? ⟨b, 0, none⟩ = some (.int .u8 c.toNat) → (convert 114 9 (.slice (some ⟨b, 0, none⟩) 1 1)).run Tryz.prog w = .ok (.string ⟨#[c]⟩) w := fun w b h =>
  run_convert_bytes_back w 114 9 5 ⟨b, 0, none⟩ 1 [c] Tryz.underlying114 Tryz.underlying5 Tryz.underlying9 (fun j hj => by
    simp only [List.length_cons, List.length_nil] at hj
    obtain rfl : j = 0 := by omega
    exact h)

theorem below_drew (w : World) : Below w.heap.size w w.drew := ⟨rfl, rfl, rfl, Nat.le_refl _, fun _ _ => rfl⟩
theorem below_new (w : World) (o : Obj) : Below w.heap.size w (w.alloc o) := (Below.refl _ _).alloc (Nat.le_refl _) _

theorem below_new_drew (w : World) (o : Obj) : Below w.heap.size w (w.alloc o).drew := ⟨(below_new w o).os, (below_new w o).tape, (below_new w o).output, (below_new w o).size, (below_new w o).block⟩

theorem keep5 {K : Nat → Prop} {w0 w1 w w' : World} {p1 p2 p3 p4 p5 : Addr} {v1 v2 v3 v4 v5 : Value}
    (h : (Below w1.heap.size w1 w ∧ Later K w0 w) ∧ w.cell? p1 = some v1 ∧ w.cell? p2 = some v2 ∧ w.cell? p3 = some v3 ∧ w.cell? p4 = some v4 ∧ w.cell? p5 = some v5) (hb : Below w.heap.size w w') :
    (Below w1.heap.size w1 w' ∧ Later K w0 w') ∧ w'.cell? p1 = some v1 ∧ w'.cell? p2 = some v2 ∧ w'.cell? p3 = some v3 ∧ w'.cell? p4 = some v4 ∧ w'.cell? p5 = some v5 :=
  ⟨⟨below_seq h.1.1 hb, h.1.2.below hb⟩, cell_kept hb h.2.1, cell_kept hb h.2.2.1, cell_kept hb h.2.2.2.1, cell_kept hb h.2.2.2.2.1, cell_kept hb h.2.2.2.2.2⟩

theorem keep7 {K : Nat → Prop} {w0 w1 w w' : World} {p1 p2 p3 p4 p5 p6 p7 : Addr} {v1 v2 v3 v4 v5 v6 v7 : Value}
    (h : (Below w1.heap.size w1 w ∧ Later K w0 w) ∧ w.cell? p1 = some v1 ∧ w.cell? p2 = some v2 ∧ w.cell? p3 = some v3 ∧ w.cell? p4 = some v4 ∧ w.cell? p5 = some v5 ∧ w.cell? p6 = some v6 ∧ w.cell? p7 = some v7) (hb : Below w.heap.size w w') :
    (Below w1.heap.size w1 w' ∧ Later K w0 w') ∧ w'.cell? p1 = some v1 ∧ w'.cell? p2 = some v2 ∧ w'.cell? p3 = some v3 ∧ w'.cell? p4 = some v4 ∧ w'.cell? p5 = some v5 ∧ w'.cell? p6 = some v6 ∧ w'.cell? p7 = some v7 :=
  ⟨⟨below_seq h.1.1 hb, h.1.2.below hb⟩, cell_kept hb h.2.1, cell_kept hb h.2.2.1, cell_kept hb h.2.2.2.1, cell_kept hb h.2.2.2.2.1, cell_kept hb h.2.2.2.2.2.1, cell_kept hb h.2.2.2.2.2.2.1, cell_kept hb h.2.2.2.2.2.2.2⟩

set_option maxRecDepth 100000 in
set_option maxHeartbeats 4000000 in
theorem shows_plus (K : Nat → Prop) (w : World) (pb : Nat) (t1 t2 : ByteArray) (o1 o2 : Int) (s1 s2 : ByteArray) (a1 a2 : Option Addr) (m1 c1 m2 c2 : Nat)
    (hb : w.heap[pb]? = some (.cells #[.int .u8 o1, .string t1, .slice a1 m1 c1, .int .u8 o2, .string t2, .slice a2 m2 c2] 232)) (hne : K pb)
    (h1 : Shows K w (.agg #[.int .u8 o1, .string t1, .slice a1 m1 c1]) s1) (h2 : Shows K w (.agg #[.int .u8 o2, .string t2, .slice a2 m2 c2]) s2) (l1 : s1.size ≤ 200000) (l2 : s2.size ≤ 200000) :
    Shows K w (.agg #[.int .u8 43, .string ⟨#[]⟩, .slice (some ⟨pb, 0, none⟩) 2 2]) (pairT [43] s1 s2) := by
  intro w' hl
  have hzz0 : ¬ (9223372036854775807 < 1 + s1.size) := by omega
  have hzz1 : ¬ (9223372036854775807 < 1 + s1.size + 1) := by omega
  have hzz2 : ¬ (9223372036854775807 < 1 + s1.size + 1 + s2.size) := by omega
  have hzz3 : ¬ (9223372036854775807 < 1 + s1.size + 1 + s2.size + 1) := by omega
  have hbl := below_new w' (.cells #[.int .u8 43, .string ⟨#[]⟩, .slice (some ⟨pb, 0, none⟩) 2 2] 232)
  have HL := hid (hl.below hbl)
  have HBL := hid hbl
  have HB := hid ((HL.out.block pb (heap_lt hb) hne).trans hb)
  have HE := hid (new_heap w' (.cells #[.int .u8 43, .string ⟨#[]⟩, .slice (some ⟨pb, 0, none⟩) 2 2] 232))
  have H1 := hid h1
  have H2 := hid h2
  have e0 := heap_cell (i := 0) HB.out
  have e1 := heap_cell (i := 1) HB.out
  have e2 := heap_cell (i := 2) HB.out
  simp only [List.getElem?_toArray, List.getElem?_cons_zero, List.getElem?_cons_succ] at e0 e1 e2
  clear h1 h2 hl hb hbl
  have hconv : ∀ (wx : World) (b : Nat), wx.cell? ⟨b, 0, none⟩ = some (.int .u8 43) → (convert 114 9 (.slice (some ⟨b, 0, none⟩) 1 1)).run Tryz.prog wx = .ok (.string ⟨#[43]⟩) wx := conv1 43
  go_enter Tryz.func174, Tryz.ntmps174
  go_wp2_with fail
  refine (H1.out _ HL.out).mono ?_
  rintro e w1 ⟨rfl, hb1⟩
  have HB1 := hid hb1
  have HP1 := hid (below_heap hb1 (heap_lt HB.out) HB.out)
  have HE1 := hid (below_heap hb1 (heap_lt HE.out) HE.out)
  have g3 : w1.cell? ⟨pb, 3, none⟩ = some (.int .u8 o2) := heap_cell (i := 3) HP1.out
  have g4 : w1.cell? ⟨pb, 4, none⟩ = some (.string t2) := heap_cell (i := 4) HP1.out
  have g5 : w1.cell? ⟨pb, 5, none⟩ = some (.slice a2 m2 c2) := heap_cell (i := 5) HP1.out
  have k0 : w1.cell? ⟨w'.heap.size, 0, none⟩ = some (.int .u8 43) := heap_cell (i := 0) HE1.out
  have k2 : w1.cell? ⟨w'.heap.size, 2, none⟩ = some (.slice (some ⟨pb, 0, none⟩) 2 2) := heap_cell (i := 2) HE1.out
  have hS : (Below w1.heap.size w1 w1 ∧ Later K w w1) ∧ w1.cell? ⟨pb, 3, none⟩ = some (.int .u8 o2) ∧ w1.cell? ⟨pb, 4, none⟩ = some (.string t2) ∧ w1.cell? ⟨pb, 5, none⟩ = some (.slice a2 m2 c2) ∧ w1.cell? ⟨w'.heap.size, 0, none⟩ = some (.int .u8 43) ∧ w1.cell? ⟨w'.heap.size, 2, none⟩ = some (.slice (some ⟨pb, 0, none⟩) 2 2) :=
    ⟨⟨Below.refl _ _, HL.out.below hb1⟩, g3, g4, g5, k0, k2⟩
  clear hb1
  go_wp2
  refine wp_region_noPanic ?_
  refine wp_region_held_drew (S := (fun wx => (Below w1.heap.size w1 wx ∧ Later K w wx) ∧ wx.cell? ⟨pb, 3, none⟩ = some (.int .u8 o2) ∧ wx.cell? ⟨pb, 4, none⟩ = some (.string t2) ∧ wx.cell? ⟨pb, 5, none⟩ = some (.slice a2 m2 c2) ∧ wx.cell? ⟨w'.heap.size, 0, none⟩ = some (.int .u8 43) ∧ wx.cell? ⟨w'.heap.size, 2, none⟩ = some (.slice (some ⟨pb, 0, none⟩) 2 2))) (by kernel_rfl) (keep5 hS (below_drew _)) (fun hHeld => ?_)
  refine wpAnyH_take (i := 0) (oi := _) (v := ?_) rfl (by kernel_rfl) (by kernel_rfl) (by kernel_rfl) (fun _ _ _ h => h) (Or.inl ⟨by rfl, ?_⟩) (by assumption) ?_
  rotate_left
  · intro w hSw; (try dsimp only at hSw); go_simp; try rfl
  try simp only [Act.put, List.setIfInBounds_toArray, List.set_cons_zero, List.set_cons_succ, List.getElem_toArray, List.getElem_cons_zero, List.getElem_cons_succ, Array.getInternal_eq_getElem]
  refine wpAnyH_take (i := 1) (oi := _) (v := ?_) rfl (by kernel_rfl) (by kernel_rfl) (by kernel_rfl) (fun _ _ _ h => h) (Or.inl ⟨by rfl, ?_⟩) (by assumption) ?_
  rotate_left
  · intro w hSw; (try dsimp only at hSw); go_simp; try rfl
  try simp only [Act.put, List.setIfInBounds_toArray, List.set_cons_zero, List.set_cons_succ, List.getElem_toArray, List.getElem_cons_zero, List.getElem_cons_succ, Array.getInternal_eq_getElem]
  refine wpAnyH_take (i := 2) (oi := _) (v := ?_) rfl (by kernel_rfl) (by kernel_rfl) (by kernel_rfl) (fun _ _ _ h => h) (Or.inl ⟨by rfl, ?_⟩) (by assumption) ?_
  rotate_left
  · intro w hSw; (try dsimp only at hSw); go_simp; try rfl
  try simp only [Act.put, List.setIfInBounds_toArray, List.set_cons_zero, List.set_cons_succ, List.getElem_toArray, List.getElem_cons_zero, List.getElem_cons_succ, Array.getInternal_eq_getElem]
  refine wpAnyH_take (i := 6) (oi := _) (v := ?_) rfl (by kernel_rfl) (by kernel_rfl) (by kernel_rfl) (fun _ _ _ h => h) (Or.inl ⟨by rfl, ?_⟩) (by assumption) ?_
  rotate_left
  · intro w hSw; (try dsimp only at hSw); go_simp; try rfl
  try simp only [Act.put, List.setIfInBounds_toArray, List.set_cons_zero, List.set_cons_succ, List.getElem_toArray, List.getElem_cons_zero, List.getElem_cons_succ, Array.getInternal_eq_getElem]
  refine wpAnyH_take (i := 7) (oi := _) (v := ?_) rfl (by kernel_rfl) (by kernel_rfl) (by kernel_rfl) (fun _ _ _ h => h) (Or.inl ⟨by rfl, ?_⟩) (by assumption) ?_
  rotate_left
  · intro w hSw; (try dsimp only at hSw); go_simp; try rfl
  try simp only [Act.put, List.setIfInBounds_toArray, List.set_cons_zero, List.set_cons_succ, List.getElem_toArray, List.getElem_cons_zero, List.getElem_cons_succ, Array.getInternal_eq_getElem]
  refine wpAnyH_take (i := 8) (oi := _) (v := ?_) rfl (by kernel_rfl) (by kernel_rfl) (by kernel_rfl) (fun _ _ _ h => h) (Or.inl ⟨by rfl, ?_⟩) (by assumption) ?_
  rotate_left
  · intro w hSw; (try dsimp only at hSw); go_simp; try rfl
  try simp only [Act.put, List.setIfInBounds_toArray, List.set_cons_zero, List.set_cons_succ, List.getElem_toArray, List.getElem_cons_zero, List.getElem_cons_succ, Array.getInternal_eq_getElem]
  refine wpAnyH_take (i := 9) (oi := _) (v := ?_) rfl (by kernel_rfl) (by kernel_rfl) (by kernel_rfl) (fun _ _ _ h => h) (Or.inl ⟨by rfl, ?_⟩) (by assumption) ?_
  rotate_left
  · intro w hSw; (try dsimp only at hSw); go_simp; try rfl
  try simp only [Act.put, List.setIfInBounds_toArray, List.set_cons_zero, List.set_cons_succ, List.getElem_toArray, List.getElem_cons_zero, List.getElem_cons_succ, Array.getInternal_eq_getElem]
  refine wpAnyH_ready (rs := [3, 10]) (by kernel_rfl) (by simp) ?_
  refine AllReadyH.cons (o := _) rfl (fun KK hK => ?_) ?_
  · go_simp
    refine hK.out _ _ ?_ (fun hNew => ?_)
    · (try dsimp only); (first | exact keep5 hHeld (below_drew _) | exact keep5 hHeld (below_new _ _) | exact keep5 hHeld (below_new_drew _ _) | exact keep5 hHeld (Below.refl _ _) | exact keep5 hHeld hb2)
    clear hK KK hHeld
    have hHeld := hNew
    clear hNew
    try simp only [Act.put, List.setIfInBounds_toArray, List.set_cons_zero, List.set_cons_succ, List.getElem_toArray, List.getElem_cons_zero, List.getElem_cons_succ, Array.getInternal_eq_getElem]
    refine wpAnyH_ready (rs := [4, 10]) (by kernel_rfl) (by simp) ?_
    refine AllReadyH.cons (o := _) rfl (fun KK hK => ?_) ?_
    · go_simp
      refine hK.out _ _ ?_ (fun hNew => ?_)
      · (try dsimp only); (first | exact keep5 hHeld (below_drew _) | exact keep5 hHeld (below_new _ _) | exact keep5 hHeld (below_new_drew _ _) | exact keep5 hHeld (Below.refl _ _) | exact keep5 hHeld hb2)
      clear hK KK hHeld
      have hHeld := hNew
      clear hNew
      try simp only [Act.put, List.setIfInBounds_toArray, List.set_cons_zero, List.set_cons_succ, List.getElem_toArray, List.getElem_cons_zero, List.getElem_cons_succ, Array.getInternal_eq_getElem]
      refine wpAnyH_take (i := 5) (oi := _) (v := ?_) rfl (by kernel_rfl) (by kernel_rfl) (by kernel_rfl) (fun _ _ _ h => h) (Or.inl ⟨by rfl, ?_⟩) (by assumption) ?_
      rotate_left
      · intro w hSw; (try dsimp only at hSw); go_simp; try rfl
      try simp only [Act.put, List.setIfInBounds_toArray, List.set_cons_zero, List.set_cons_succ, List.getElem_toArray, List.getElem_cons_zero, List.getElem_cons_succ, Array.getInternal_eq_getElem]
      refine wpAnyH_ready (rs := [10]) (by kernel_rfl) (by simp) ?_
      refine AllReadyH.cons (o := _) rfl (fun KK hK => ?_) ?_
      · go_simp
        go_at_call 174
        refine (H2.out _ hHeld.1.2).mono ?_
        rintro e w2 ⟨rfl, hb2⟩
        have hck := below_cells hb2
        go_wp2_with fail
        refine hK.out _ _ ?_ (fun hNew => ?_)
        · (try dsimp only); (first | exact keep5 hHeld (below_drew _) | exact keep5 hHeld (below_new _ _) | exact keep5 hHeld (below_new_drew _ _) | exact keep5 hHeld (Below.refl _ _) | exact keep5 hHeld hb2)
        clear hK KK hHeld
        have hHeld := hNew
        clear hNew
        try simp only [Act.put, List.setIfInBounds_toArray, List.set_cons_zero, List.set_cons_succ, List.getElem_toArray, List.getElem_cons_zero, List.getElem_cons_succ, Array.getInternal_eq_getElem]
        refine wpAnyH_take (i := 11) (oi := _) (v := ?_) rfl (by kernel_rfl) (by kernel_rfl) (by kernel_rfl) (fun _ _ _ h => h) (Or.inl ⟨by rfl, ?_⟩) (by assumption) ?_
        rotate_left
        · intro w hSw; (try dsimp only at hSw); go_simp; try rfl
        try simp only [Act.put, List.setIfInBounds_toArray, List.set_cons_zero, List.set_cons_succ, List.getElem_toArray, List.getElem_cons_zero, List.getElem_cons_succ, Array.getInternal_eq_getElem]
        refine wpAnyH_take (i := 12) (oi := _) (v := ?_) rfl (by kernel_rfl) (by kernel_rfl) (by kernel_rfl) (fun _ _ _ h => h) (Or.inl ⟨by rfl, ?_⟩) (by assumption) ?_
        rotate_left
        · intro w hSw; (try dsimp only at hSw); go_simp; try rfl
        try simp only [Act.put, List.setIfInBounds_toArray, List.set_cons_zero, List.set_cons_succ, List.getElem_toArray, List.getElem_cons_zero, List.getElem_cons_succ, Array.getInternal_eq_getElem]
        refine wpAnyH_take (i := 13) (oi := _) (v := ?_) rfl (by kernel_rfl) (by kernel_rfl) (by kernel_rfl) (fun _ _ _ h => h) (Or.inl ⟨by rfl, ?_⟩) (by assumption) ?_
        rotate_left
        · intro w hSw; (try dsimp only at hSw); go_simp; try rfl
        try simp only [Act.put, List.setIfInBounds_toArray, List.set_cons_zero, List.set_cons_succ, List.getElem_toArray, List.getElem_cons_zero, List.getElem_cons_succ, Array.getInternal_eq_getElem]
        refine wpAnyH_done (by kernel_rfl) ?_ _
        dsimp only [NoPanic]
        go_wp2
        go_ret
        exact ⟨by rfl, below_seq (below_seq HBL.out HB1.out) hHeld.1.1⟩
      exact AllReadyH.nil
    refine AllReadyH.cons (o := _) rfl (fun KK hK => ?_) ?_
    · go_simp
      go_at_call 174
      refine (H2.out _ hHeld.1.2).mono ?_
      rintro e w2 ⟨rfl, hb2⟩
      have hck := below_cells hb2
      go_wp2_with fail
      refine hK.out _ _ ?_ (fun hNew => ?_)
      · (try dsimp only); (first | exact keep5 hHeld (below_drew _) | exact keep5 hHeld (below_new _ _) | exact keep5 hHeld (below_new_drew _ _) | exact keep5 hHeld (Below.refl _ _) | exact keep5 hHeld hb2)
      clear hK KK hHeld
      have hHeld := hNew
      clear hNew
      try simp only [Act.put, List.setIfInBounds_toArray, List.set_cons_zero, List.set_cons_succ, List.getElem_toArray, List.getElem_cons_zero, List.getElem_cons_succ, Array.getInternal_eq_getElem]
      refine wpAnyH_ready (rs := [4]) (by kernel_rfl) (by simp) ?_
      refine AllReadyH.cons (o := _) rfl (fun KK hK => ?_) ?_
      · go_simp
        refine hK.out _ _ ?_ (fun hNew => ?_)
        · (try dsimp only); (first | exact keep5 hHeld (below_drew _) | exact keep5 hHeld (below_new _ _) | exact keep5 hHeld (below_new_drew _ _) | exact keep5 hHeld (Below.refl _ _) | exact keep5 hHeld hb2)
        clear hK KK hHeld
        have hHeld := hNew
        clear hNew
        try simp only [Act.put, List.setIfInBounds_toArray, List.set_cons_zero, List.set_cons_succ, List.getElem_toArray, List.getElem_cons_zero, List.getElem_cons_succ, Array.getInternal_eq_getElem]
        refine wpAnyH_take (i := 5) (oi := _) (v := ?_) rfl (by kernel_rfl) (by kernel_rfl) (by kernel_rfl) (fun _ _ _ h => h) (Or.inl ⟨by rfl, ?_⟩) (by assumption) ?_
        rotate_left
        · intro w hSw; (try dsimp only at hSw); go_simp; try rfl
        try simp only [Act.put, List.setIfInBounds_toArray, List.set_cons_zero, List.set_cons_succ, List.getElem_toArray, List.getElem_cons_zero, List.getElem_cons_succ, Array.getInternal_eq_getElem]
        refine wpAnyH_take (i := 11) (oi := _) (v := ?_) rfl (by kernel_rfl) (by kernel_rfl) (by kernel_rfl) (fun _ _ _ h => h) (Or.inl ⟨by rfl, ?_⟩) (by assumption) ?_
        rotate_left
        · intro w hSw; (try dsimp only at hSw); go_simp; try rfl
        try simp only [Act.put, List.setIfInBounds_toArray, List.set_cons_zero, List.set_cons_succ, List.getElem_toArray, List.getElem_cons_zero, List.getElem_cons_succ, Array.getInternal_eq_getElem]
        refine wpAnyH_take (i := 12) (oi := _) (v := ?_) rfl (by kernel_rfl) (by kernel_rfl) (by kernel_rfl) (fun _ _ _ h => h) (Or.inl ⟨by rfl, ?_⟩) (by assumption) ?_
        rotate_left
        · intro w hSw; (try dsimp only at hSw); go_simp; try rfl
        try simp only [Act.put, List.setIfInBounds_toArray, List.set_cons_zero, List.set_cons_succ, List.getElem_toArray, List.getElem_cons_zero, List.getElem_cons_succ, Array.getInternal_eq_getElem]
        refine wpAnyH_take (i := 13) (oi := _) (v := ?_) rfl (by kernel_rfl) (by kernel_rfl) (by kernel_rfl) (fun _ _ _ h => h) (Or.inl ⟨by rfl, ?_⟩) (by assumption) ?_
        rotate_left
        · intro w hSw; (try dsimp only at hSw); go_simp; try rfl
        try simp only [Act.put, List.setIfInBounds_toArray, List.set_cons_zero, List.set_cons_succ, List.getElem_toArray, List.getElem_cons_zero, List.getElem_cons_succ, Array.getInternal_eq_getElem]
        refine wpAnyH_done (by kernel_rfl) ?_ _
        dsimp only [NoPanic]
        go_wp2
        go_ret
        exact ⟨by rfl, below_seq (below_seq HBL.out HB1.out) hHeld.1.1⟩
      exact AllReadyH.nil
    exact AllReadyH.nil
  refine AllReadyH.cons (o := _) rfl (fun KK hK => ?_) ?_
  · go_simp
    go_at_call 174
    refine (H2.out _ hHeld.1.2).mono ?_
    rintro e w2 ⟨rfl, hb2⟩
    have hck := below_cells hb2
    go_wp2_with fail
    refine hK.out _ _ ?_ (fun hNew => ?_)
    · (try dsimp only); (first | exact keep5 hHeld (below_drew _) | exact keep5 hHeld (below_new _ _) | exact keep5 hHeld (below_new_drew _ _) | exact keep5 hHeld (Below.refl _ _) | exact keep5 hHeld hb2)
    clear hK KK hHeld
    have hHeld := hNew
    clear hNew
    try simp only [Act.put, List.setIfInBounds_toArray, List.set_cons_zero, List.set_cons_succ, List.getElem_toArray, List.getElem_cons_zero, List.getElem_cons_succ, Array.getInternal_eq_getElem]
    refine wpAnyH_ready (rs := [3]) (by kernel_rfl) (by simp) ?_
    refine AllReadyH.cons (o := _) rfl (fun KK hK => ?_) ?_
    · go_simp
      refine hK.out _ _ ?_ (fun hNew => ?_)
      · (try dsimp only); (first | exact keep5 hHeld (below_drew _) | exact keep5 hHeld (below_new _ _) | exact keep5 hHeld (below_new_drew _ _) | exact keep5 hHeld (Below.refl _ _) | exact keep5 hHeld hb2)
      clear hK KK hHeld
      have hHeld := hNew
      clear hNew
      try simp only [Act.put, List.setIfInBounds_toArray, List.set_cons_zero, List.set_cons_succ, List.getElem_toArray, List.getElem_cons_zero, List.getElem_cons_succ, Array.getInternal_eq_getElem]
      refine wpAnyH_ready (rs := [4]) (by kernel_rfl) (by simp) ?_
      refine AllReadyH.cons (o := _) rfl (fun KK hK => ?_) ?_
      · go_simp
        refine hK.out _ _ ?_ (fun hNew => ?_)
        · (try dsimp only); (first | exact keep5 hHeld (below_drew _) | exact keep5 hHeld (below_new _ _) | exact keep5 hHeld (below_new_drew _ _) | exact keep5 hHeld (Below.refl _ _) | exact keep5 hHeld hb2)
        clear hK KK hHeld
        have hHeld := hNew
        clear hNew
        try simp only [Act.put, List.setIfInBounds_toArray, List.set_cons_zero, List.set_cons_succ, List.getElem_toArray, List.getElem_cons_zero, List.getElem_cons_succ, Array.getInternal_eq_getElem]
        refine wpAnyH_take (i := 5) (oi := _) (v := ?_) rfl (by kernel_rfl) (by kernel_rfl) (by kernel_rfl) (fun _ _ _ h => h) (Or.inl ⟨by rfl, ?_⟩) (by assumption) ?_
        rotate_left
        · intro w hSw; (try dsimp only at hSw); go_simp; try rfl
        try simp only [Act.put, List.setIfInBounds_toArray, List.set_cons_zero, List.set_cons_succ, List.getElem_toArray, List.getElem_cons_zero, List.getElem_cons_succ, Array.getInternal_eq_getElem]
        refine wpAnyH_take (i := 11) (oi := _) (v := ?_) rfl (by kernel_rfl) (by kernel_rfl) (by kernel_rfl) (fun _ _ _ h => h) (Or.inl ⟨by rfl, ?_⟩) (by assumption) ?_
        rotate_left
        · intro w hSw; (try dsimp only at hSw); go_simp; try rfl
        try simp only [Act.put, List.setIfInBounds_toArray, List.set_cons_zero, List.set_cons_succ, List.getElem_toArray, List.getElem_cons_zero, List.getElem_cons_succ, Array.getInternal_eq_getElem]
        refine wpAnyH_take (i := 12) (oi := _) (v := ?_) rfl (by kernel_rfl) (by kernel_rfl) (by kernel_rfl) (fun _ _ _ h => h) (Or.inl ⟨by rfl, ?_⟩) (by assumption) ?_
        rotate_left
        · intro w hSw; (try dsimp only at hSw); go_simp; try rfl
        try simp only [Act.put, List.setIfInBounds_toArray, List.set_cons_zero, List.set_cons_succ, List.getElem_toArray, List.getElem_cons_zero, List.getElem_cons_succ, Array.getInternal_eq_getElem]
        refine wpAnyH_take (i := 13) (oi := _) (v := ?_) rfl (by kernel_rfl) (by kernel_rfl) (by kernel_rfl) (fun _ _ _ h => h) (Or.inl ⟨by rfl, ?_⟩) (by assumption) ?_
        rotate_left
        · intro w hSw; (try dsimp only at hSw); go_simp; try rfl
        try simp only [Act.put, List.setIfInBounds_toArray, List.set_cons_zero, List.set_cons_succ, List.getElem_toArray, List.getElem_cons_zero, List.getElem_cons_succ, Array.getInternal_eq_getElem]
        refine wpAnyH_done (by kernel_rfl) ?_ _
        dsimp only [NoPanic]
        go_wp2
        go_ret
        exact ⟨by rfl, below_seq (below_seq HBL.out HB1.out) hHeld.1.1⟩
      exact AllReadyH.nil
    exact AllReadyH.nil
  exact AllReadyH.nil

set_option maxRecDepth 100000 in
set_option maxHeartbeats 4000000 in
theorem shows_times (K : Nat → Prop) (w : World) (pb : Nat) (t1 t2 : ByteArray) (o1 o2 : Int) (s1 s2 : ByteArray) (a1 a2 : Option Addr) (m1 c1 m2 c2 : Nat)
    (hb : w.heap[pb]? = some (.cells #[.int .u8 o1, .string t1, .slice a1 m1 c1, .int .u8 o2, .string t2, .slice a2 m2 c2] 232)) (hne : K pb)
    (h1 : Shows K w (.agg #[.int .u8 o1, .string t1, .slice a1 m1 c1]) s1) (h2 : Shows K w (.agg #[.int .u8 o2, .string t2, .slice a2 m2 c2]) s2) (l1 : s1.size ≤ 200000) (l2 : s2.size ≤ 200000) :
    Shows K w (.agg #[.int .u8 42, .string ⟨#[]⟩, .slice (some ⟨pb, 0, none⟩) 2 2]) (pairT [42] s1 s2) := by
  intro w' hl
  have hzz0 : ¬ (9223372036854775807 < 1 + s1.size) := by omega
  have hzz1 : ¬ (9223372036854775807 < 1 + s1.size + 1) := by omega
  have hzz2 : ¬ (9223372036854775807 < 1 + s1.size + 1 + s2.size) := by omega
  have hzz3 : ¬ (9223372036854775807 < 1 + s1.size + 1 + s2.size + 1) := by omega
  have hbl := below_new w' (.cells #[.int .u8 42, .string ⟨#[]⟩, .slice (some ⟨pb, 0, none⟩) 2 2] 232)
  have HL := hid (hl.below hbl)
  have HBL := hid hbl
  have HB := hid ((HL.out.block pb (heap_lt hb) hne).trans hb)
  have HE := hid (new_heap w' (.cells #[.int .u8 42, .string ⟨#[]⟩, .slice (some ⟨pb, 0, none⟩) 2 2] 232))
  have H1 := hid h1
  have H2 := hid h2
  have e0 := heap_cell (i := 0) HB.out
  have e1 := heap_cell (i := 1) HB.out
  have e2 := heap_cell (i := 2) HB.out
  simp only [List.getElem?_toArray, List.getElem?_cons_zero, List.getElem?_cons_succ] at e0 e1 e2
  clear h1 h2 hl hb hbl
  have hconv : ∀ (wx : World) (b : Nat), wx.cell? ⟨b, 0, none⟩ = some (.int .u8 42) → (convert 114 9 (.slice (some ⟨b, 0, none⟩) 1 1)).run Tryz.prog wx = .ok (.string ⟨#[42]⟩) wx := conv1 42
  go_enter Tryz.func174, Tryz.ntmps174
  go_wp2_with fail
  refine (H1.out _ HL.out).mono ?_
  rintro e w1 ⟨rfl, hb1⟩
  have HB1 := hid hb1
  have HP1 := hid (below_heap hb1 (heap_lt HB.out) HB.out)
  have HE1 := hid (below_heap hb1 (heap_lt HE.out) HE.out)
  have g3 : w1.cell? ⟨pb, 3, none⟩ = some (.int .u8 o2) := heap_cell (i := 3) HP1.out
  have g4 : w1.cell? ⟨pb, 4, none⟩ = some (.string t2) := heap_cell (i := 4) HP1.out
  have g5 : w1.cell? ⟨pb, 5, none⟩ = some (.slice a2 m2 c2) := heap_cell (i := 5) HP1.out
  have k0 : w1.cell? ⟨w'.heap.size, 0, none⟩ = some (.int .u8 42) := heap_cell (i := 0) HE1.out
  have k2 : w1.cell? ⟨w'.heap.size, 2, none⟩ = some (.slice (some ⟨pb, 0, none⟩) 2 2) := heap_cell (i := 2) HE1.out
  have hS : (Below w1.heap.size w1 w1 ∧ Later K w w1) ∧ w1.cell? ⟨pb, 3, none⟩ = some (.int .u8 o2) ∧ w1.cell? ⟨pb, 4, none⟩ = some (.string t2) ∧ w1.cell? ⟨pb, 5, none⟩ = some (.slice a2 m2 c2) ∧ w1.cell? ⟨w'.heap.size, 0, none⟩ = some (.int .u8 42) ∧ w1.cell? ⟨w'.heap.size, 2, none⟩ = some (.slice (some ⟨pb, 0, none⟩) 2 2) :=
    ⟨⟨Below.refl _ _, HL.out.below hb1⟩, g3, g4, g5, k0, k2⟩
  clear hb1
  go_wp2
  refine wp_region_noPanic ?_
  refine wp_region_held_drew (S := (fun wx => (Below w1.heap.size w1 wx ∧ Later K w wx) ∧ wx.cell? ⟨pb, 3, none⟩ = some (.int .u8 o2) ∧ wx.cell? ⟨pb, 4, none⟩ = some (.string t2) ∧ wx.cell? ⟨pb, 5, none⟩ = some (.slice a2 m2 c2) ∧ wx.cell? ⟨w'.heap.size, 0, none⟩ = some (.int .u8 42) ∧ wx.cell? ⟨w'.heap.size, 2, none⟩ = some (.slice (some ⟨pb, 0, none⟩) 2 2))) (by kernel_rfl) (keep5 hS (below_drew _)) (fun hHeld => ?_)
  refine wpAnyH_take (i := 0) (oi := _) (v := ?_) rfl (by kernel_rfl) (by kernel_rfl) (by kernel_rfl) (fun _ _ _ h => h) (Or.inl ⟨by rfl, ?_⟩) (by assumption) ?_
  rotate_left
  · intro w hSw; (try dsimp only at hSw); go_simp; try rfl
  try simp only [Act.put, List.setIfInBounds_toArray, List.set_cons_zero, List.set_cons_succ, List.getElem_toArray, List.getElem_cons_zero, List.getElem_cons_succ, Array.getInternal_eq_getElem]
  refine wpAnyH_take (i := 1) (oi := _) (v := ?_) rfl (by kernel_rfl) (by kernel_rfl) (by kernel_rfl) (fun _ _ _ h => h) (Or.inl ⟨by rfl, ?_⟩) (by assumption) ?_
  rotate_left
  · intro w hSw; (try dsimp only at hSw); go_simp; try rfl
  try simp only [Act.put, List.setIfInBounds_toArray, List.set_cons_zero, List.set_cons_succ, List.getElem_toArray, List.getElem_cons_zero, List.getElem_cons_succ, Array.getInternal_eq_getElem]
  refine wpAnyH_take (i := 2) (oi := _) (v := ?_) rfl (by kernel_rfl) (by kernel_rfl) (by kernel_rfl) (fun _ _ _ h => h) (Or.inl ⟨by rfl, ?_⟩) (by assumption) ?_
  rotate_left
  · intro w hSw; (try dsimp only at hSw); go_simp; try rfl
  try simp only [Act.put, List.setIfInBounds_toArray, List.set_cons_zero, List.set_cons_succ, List.getElem_toArray, List.getElem_cons_zero, List.getElem_cons_succ, Array.getInternal_eq_getElem]
  refine wpAnyH_take (i := 6) (oi := _) (v := ?_) rfl (by kernel_rfl) (by kernel_rfl) (by kernel_rfl) (fun _ _ _ h => h) (Or.inl ⟨by rfl, ?_⟩) (by assumption) ?_
  rotate_left
  · intro w hSw; (try dsimp only at hSw); go_simp; try rfl
  try simp only [Act.put, List.setIfInBounds_toArray, List.set_cons_zero, List.set_cons_succ, List.getElem_toArray, List.getElem_cons_zero, List.getElem_cons_succ, Array.getInternal_eq_getElem]
  refine wpAnyH_take (i := 7) (oi := _) (v := ?_) rfl (by kernel_rfl) (by kernel_rfl) (by kernel_rfl) (fun _ _ _ h => h) (Or.inl ⟨by rfl, ?_⟩) (by assumption) ?_
  rotate_left
  · intro w hSw; (try dsimp only at hSw); go_simp; try rfl
  try simp only [Act.put, List.setIfInBounds_toArray, List.set_cons_zero, List.set_cons_succ, List.getElem_toArray, List.getElem_cons_zero, List.getElem_cons_succ, Array.getInternal_eq_getElem]
  refine wpAnyH_take (i := 8) (oi := _) (v := ?_) rfl (by kernel_rfl) (by kernel_rfl) (by kernel_rfl) (fun _ _ _ h => h) (Or.inl ⟨by rfl, ?_⟩) (by assumption) ?_
  rotate_left
  · intro w hSw; (try dsimp only at hSw); go_simp; try rfl
  try simp only [Act.put, List.setIfInBounds_toArray, List.set_cons_zero, List.set_cons_succ, List.getElem_toArray, List.getElem_cons_zero, List.getElem_cons_succ, Array.getInternal_eq_getElem]
  refine wpAnyH_take (i := 9) (oi := _) (v := ?_) rfl (by kernel_rfl) (by kernel_rfl) (by kernel_rfl) (fun _ _ _ h => h) (Or.inl ⟨by rfl, ?_⟩) (by assumption) ?_
  rotate_left
  · intro w hSw; (try dsimp only at hSw); go_simp; try rfl
  try simp only [Act.put, List.setIfInBounds_toArray, List.set_cons_zero, List.set_cons_succ, List.getElem_toArray, List.getElem_cons_zero, List.getElem_cons_succ, Array.getInternal_eq_getElem]
  refine wpAnyH_ready (rs := [3, 10]) (by kernel_rfl) (by simp) ?_
  refine AllReadyH.cons (o := _) rfl (fun KK hK => ?_) ?_
  · go_simp
    refine hK.out _ _ ?_ (fun hNew => ?_)
    · (try dsimp only); (first | exact keep5 hHeld (below_drew _) | exact keep5 hHeld (below_new _ _) | exact keep5 hHeld (below_new_drew _ _) | exact keep5 hHeld (Below.refl _ _) | exact keep5 hHeld hb2)
    clear hK KK hHeld
    have hHeld := hNew
    clear hNew
    try simp only [Act.put, List.setIfInBounds_toArray, List.set_cons_zero, List.set_cons_succ, List.getElem_toArray, List.getElem_cons_zero, List.getElem_cons_succ, Array.getInternal_eq_getElem]
    refine wpAnyH_ready (rs := [4, 10]) (by kernel_rfl) (by simp) ?_
    refine AllReadyH.cons (o := _) rfl (fun KK hK => ?_) ?_
    · go_simp
      refine hK.out _ _ ?_ (fun hNew => ?_)
      · (try dsimp only); (first | exact keep5 hHeld (below_drew _) | exact keep5 hHeld (below_new _ _) | exact keep5 hHeld (below_new_drew _ _) | exact keep5 hHeld (Below.refl _ _) | exact keep5 hHeld hb2)
      clear hK KK hHeld
      have hHeld := hNew
      clear hNew
      try simp only [Act.put, List.setIfInBounds_toArray, List.set_cons_zero, List.set_cons_succ, List.getElem_toArray, List.getElem_cons_zero, List.getElem_cons_succ, Array.getInternal_eq_getElem]
      refine wpAnyH_take (i := 5) (oi := _) (v := ?_) rfl (by kernel_rfl) (by kernel_rfl) (by kernel_rfl) (fun _ _ _ h => h) (Or.inl ⟨by rfl, ?_⟩) (by assumption) ?_
      rotate_left
      · intro w hSw; (try dsimp only at hSw); go_simp; try rfl
      try simp only [Act.put, List.setIfInBounds_toArray, List.set_cons_zero, List.set_cons_succ, List.getElem_toArray, List.getElem_cons_zero, List.getElem_cons_succ, Array.getInternal_eq_getElem]
      refine wpAnyH_ready (rs := [10]) (by kernel_rfl) (by simp) ?_
      refine AllReadyH.cons (o := _) rfl (fun KK hK => ?_) ?_
      · go_simp
        go_at_call 174
        refine (H2.out _ hHeld.1.2).mono ?_
        rintro e w2 ⟨rfl, hb2⟩
        have hck := below_cells hb2
        go_wp2_with fail
        refine hK.out _ _ ?_ (fun hNew => ?_)
        · (try dsimp only); (first | exact keep5 hHeld (below_drew _) | exact keep5 hHeld (below_new _ _) | exact keep5 hHeld (below_new_drew _ _) | exact keep5 hHeld (Below.refl _ _) | exact keep5 hHeld hb2)
        clear hK KK hHeld
        have hHeld := hNew
        clear hNew
        try simp only [Act.put, List.setIfInBounds_toArray, List.set_cons_zero, List.set_cons_succ, List.getElem_toArray, List.getElem_cons_zero, List.getElem_cons_succ, Array.getInternal_eq_getElem]
        refine wpAnyH_take (i := 11) (oi := _) (v := ?_) rfl (by kernel_rfl) (by kernel_rfl) (by kernel_rfl) (fun _ _ _ h => h) (Or.inl ⟨by rfl, ?_⟩) (by assumption) ?_
        rotate_left
        · intro w hSw; (try dsimp only at hSw); go_simp; try rfl
        try simp only [Act.put, List.setIfInBounds_toArray, List.set_cons_zero, List.set_cons_succ, List.getElem_toArray, List.getElem_cons_zero, List.getElem_cons_succ, Array.getInternal_eq_getElem]
        refine wpAnyH_take (i := 12) (oi := _) (v := ?_) rfl (by kernel_rfl) (by kernel_rfl) (by kernel_rfl) (fun _ _ _ h => h) (Or.inl ⟨by rfl, ?_⟩) (by assumption) ?_
        rotate_left
        · intro w hSw; (try dsimp only at hSw); go_simp; try rfl
        try simp only [Act.put, List.setIfInBounds_toArray, List.set_cons_zero, List.set_cons_succ, List.getElem_toArray, List.getElem_cons_zero, List.getElem_cons_succ, Array.getInternal_eq_getElem]
        refine wpAnyH_take (i := 13) (oi := _) (v := ?_) rfl (by kernel_rfl) (by kernel_rfl) (by kernel_rfl) (fun _ _ _ h => h) (Or.inl ⟨by rfl, ?_⟩) (by assumption) ?_
        rotate_left
        · intro w hSw; (try dsimp only at hSw); go_simp; try rfl
        try simp only [Act.put, List.setIfInBounds_toArray, List.set_cons_zero, List.set_cons_succ, List.getElem_toArray, List.getElem_cons_zero, List.getElem_cons_succ, Array.getInternal_eq_getElem]
        refine wpAnyH_done (by kernel_rfl) ?_ _
        dsimp only [NoPanic]
        go_wp2
        go_ret
        exact ⟨by rfl, below_seq (below_seq HBL.out HB1.out) hHeld.1.1⟩
      exact AllReadyH.nil
    refine AllReadyH.cons (o := _) rfl (fun KK hK => ?_) ?_
    · go_simp
      go_at_call 174
      refine (H2.out _ hHeld.1.2).mono ?_
      rintro e w2 ⟨rfl, hb2⟩
      have hck := below_cells hb2
      go_wp2_with fail
      refine hK.out _ _ ?_ (fun hNew => ?_)
      · (try dsimp only); (first | exact keep5 hHeld (below_drew _) | exact keep5 hHeld (below_new _ _) | exact keep5 hHeld (below_new_drew _ _) | exact keep5 hHeld (Below.refl _ _) | exact keep5 hHeld hb2)
      clear hK KK hHeld
      have hHeld := hNew
      clear hNew
      try simp only [Act.put, List.setIfInBounds_toArray, List.set_cons_zero, List.set_cons_succ, List.getElem_toArray, List.getElem_cons_zero, List.getElem_cons_succ, Array.getInternal_eq_getElem]
      refine wpAnyH_ready (rs := [4]) (by kernel_rfl) (by simp) ?_
      refine AllReadyH.cons (o := _) rfl (fun KK hK => ?_) ?_
      · go_simp
        refine hK.out _ _ ?_ (fun hNew => ?_)
        · (try dsimp only); (first | exact keep5 hHeld (below_drew _) | exact keep5 hHeld (below_new _ _) | exact keep5 hHeld (below_new_drew _ _) | exact keep5 hHeld (Below.refl _ _) | exact keep5 hHeld hb2)
        clear hK KK hHeld
        have hHeld := hNew
        clear hNew
        try simp only [Act.put, List.setIfInBounds_toArray, List.set_cons_zero, List.set_cons_succ, List.getElem_toArray, List.getElem_cons_zero, List.getElem_cons_succ, Array.getInternal_eq_getElem]
        refine wpAnyH_take (i := 5) (oi := _) (v := ?_) rfl (by kernel_rfl) (by kernel_rfl) (by kernel_rfl) (fun _ _ _ h => h) (Or.inl ⟨by rfl, ?_⟩) (by assumption) ?_
        rotate_left
        · intro w hSw; (try dsimp only at hSw); go_simp; try rfl
        try simp only [Act.put, List.setIfInBounds_toArray, List.set_cons_zero, List.set_cons_succ, List.getElem_toArray, List.getElem_cons_zero, List.getElem_cons_succ, Array.getInternal_eq_getElem]
        refine wpAnyH_take (i := 11) (oi := _) (v := ?_) rfl (by kernel_rfl) (by kernel_rfl) (by kernel_rfl) (fun _ _ _ h => h) (Or.inl ⟨by rfl, ?_⟩) (by assumption) ?_
        rotate_left
        · intro w hSw; (try dsimp only at hSw); go_simp; try rfl
        try simp only [Act.put, List.setIfInBounds_toArray, List.set_cons_zero, List.set_cons_succ, List.getElem_toArray, List.getElem_cons_zero, List.getElem_cons_succ, Array.getInternal_eq_getElem]
        refine wpAnyH_take (i := 12) (oi := _) (v := ?_) rfl (by kernel_rfl) (by kernel_rfl) (by kernel_rfl) (fun _ _ _ h => h) (Or.inl ⟨by rfl, ?_⟩) (by assumption) ?_
        rotate_left
        · intro w hSw; (try dsimp only at hSw); go_simp; try rfl
        try simp only [Act.put, List.setIfInBounds_toArray, List.set_cons_zero, List.set_cons_succ, List.getElem_toArray, List.getElem_cons_zero, List.getElem_cons_succ, Array.getInternal_eq_getElem]
        refine wpAnyH_take (i := 13) (oi := _) (v := ?_) rfl (by kernel_rfl) (by kernel_rfl) (by kernel_rfl) (fun _ _ _ h => h) (Or.inl ⟨by rfl, ?_⟩) (by assumption) ?_
        rotate_left
        · intro w hSw; (try dsimp only at hSw); go_simp; try rfl
        try simp only [Act.put, List.setIfInBounds_toArray, List.set_cons_zero, List.set_cons_succ, List.getElem_toArray, List.getElem_cons_zero, List.getElem_cons_succ, Array.getInternal_eq_getElem]
        refine wpAnyH_done (by kernel_rfl) ?_ _
        dsimp only [NoPanic]
        go_wp2
        go_ret
        exact ⟨by rfl, below_seq (below_seq HBL.out HB1.out) hHeld.1.1⟩
      exact AllReadyH.nil
    exact AllReadyH.nil
  refine AllReadyH.cons (o := _) rfl (fun KK hK => ?_) ?_
  · go_simp
    go_at_call 174
    refine (H2.out _ hHeld.1.2).mono ?_
    rintro e w2 ⟨rfl, hb2⟩
    have hck := below_cells hb2
    go_wp2_with fail
    refine hK.out _ _ ?_ (fun hNew => ?_)
    · (try dsimp only); (first | exact keep5 hHeld (below_drew _) | exact keep5 hHeld (below_new _ _) | exact keep5 hHeld (below_new_drew _ _) | exact keep5 hHeld (Below.refl _ _) | exact keep5 hHeld hb2)
    clear hK KK hHeld
    have hHeld := hNew
    clear hNew
    try simp only [Act.put, List.setIfInBounds_toArray, List.set_cons_zero, List.set_cons_succ, List.getElem_toArray, List.getElem_cons_zero, List.getElem_cons_succ, Array.getInternal_eq_getElem]
    refine wpAnyH_ready (rs := [3]) (by kernel_rfl) (by simp) ?_
    refine AllReadyH.cons (o := _) rfl (fun KK hK => ?_) ?_
    · go_simp
      refine hK.out _ _ ?_ (fun hNew => ?_)
      · (try dsimp only); (first | exact keep5 hHeld (below_drew _) | exact keep5 hHeld (below_new _ _) | exact keep5 hHeld (below_new_drew _ _) | exact keep5 hHeld (Below.refl _ _) | exact keep5 hHeld hb2)
      clear hK KK hHeld
      have hHeld := hNew
      clear hNew
      try simp only [Act.put, List.setIfInBounds_toArray, List.set_cons_zero, List.set_cons_succ, List.getElem_toArray, List.getElem_cons_zero, List.getElem_cons_succ, Array.getInternal_eq_getElem]
      refine wpAnyH_ready (rs := [4]) (by kernel_rfl) (by simp) ?_
      refine AllReadyH.cons (o := _) rfl (fun KK hK => ?_) ?_
      · go_simp
        refine hK.out _ _ ?_ (fun hNew => ?_)
        · (try dsimp only); (first | exact keep5 hHeld (below_drew _) | exact keep5 hHeld (below_new _ _) | exact keep5 hHeld (below_new_drew _ _) | exact keep5 hHeld (Below.refl _ _) | exact keep5 hHeld hb2)
        clear hK KK hHeld
        have hHeld := hNew
        clear hNew
        try simp only [Act.put, List.setIfInBounds_toArray, List.set_cons_zero, List.set_cons_succ, List.getElem_toArray, List.getElem_cons_zero, List.getElem_cons_succ, Array.getInternal_eq_getElem]
        refine wpAnyH_take (i := 5) (oi := _) (v := ?_) rfl (by kernel_rfl) (by kernel_rfl) (by kernel_rfl) (fun _ _ _ h => h) (Or.inl ⟨by rfl, ?_⟩) (by assumption) ?_
        rotate_left
        · intro w hSw; (try dsimp only at hSw); go_simp; try rfl
        try simp only [Act.put, List.setIfInBounds_toArray, List.set_cons_zero, List.set_cons_succ, List.getElem_toArray, List.getElem_cons_zero, List.getElem_cons_succ, Array.getInternal_eq_getElem]
        refine wpAnyH_take (i := 11) (oi := _) (v := ?_) rfl (by kernel_rfl) (by kernel_rfl) (by kernel_rfl) (fun _ _ _ h => h) (Or.inl ⟨by rfl, ?_⟩) (by assumption) ?_
        rotate_left
        · intro w hSw; (try dsimp only at hSw); go_simp; try rfl
        try simp only [Act.put, List.setIfInBounds_toArray, List.set_cons_zero, List.set_cons_succ, List.getElem_toArray, List.getElem_cons_zero, List.getElem_cons_succ, Array.getInternal_eq_getElem]
        refine wpAnyH_take (i := 12) (oi := _) (v := ?_) rfl (by kernel_rfl) (by kernel_rfl) (by kernel_rfl) (fun _ _ _ h => h) (Or.inl ⟨by rfl, ?_⟩) (by assumption) ?_
        rotate_left
        · intro w hSw; (try dsimp only at hSw); go_simp; try rfl
        try simp only [Act.put, List.setIfInBounds_toArray, List.set_cons_zero, List.set_cons_succ, List.getElem_toArray, List.getElem_cons_zero, List.getElem_cons_succ, Array.getInternal_eq_getElem]
        refine wpAnyH_take (i := 13) (oi := _) (v := ?_) rfl (by kernel_rfl) (by kernel_rfl) (by kernel_rfl) (fun _ _ _ h => h) (Or.inl ⟨by rfl, ?_⟩) (by assumption) ?_
        rotate_left
        · intro w hSw; (try dsimp only at hSw); go_simp; try rfl
        try simp only [Act.put, List.setIfInBounds_toArray, List.set_cons_zero, List.set_cons_succ, List.getElem_toArray, List.getElem_cons_zero, List.getElem_cons_succ, Array.getInternal_eq_getElem]
        refine wpAnyH_done (by kernel_rfl) ?_ _
        dsimp only [NoPanic]
        go_wp2
        go_ret
        exact ⟨by rfl, below_seq (below_seq HBL.out HB1.out) hHeld.1.1⟩
      exact AllReadyH.nil
    exact AllReadyH.nil
  exact AllReadyH.nil

def choiceT (x y z : ByteArray) : ByteArray := ((((⟨#[40]⟩ ++ x) ++ ⟨#[63]⟩ ++ y) ++ ⟨#[58]⟩) ++ z) ++ ⟨#[41]⟩

set_option maxRecDepth 100000 in
set_option maxHeartbeats 4000000 in
theorem shows_choice (K : Nat → Prop) (w : World) (pb : Nat) (t1 t2 t3 : ByteArray) (o1 o2 o3 : Int) (s1 s2 s3 : ByteArray) (a1 a2 a3 : Option Addr) (m1 c1 m2 c2 m3 c3 : Nat)
    (hb : w.heap[pb]? = some (.cells #[.int .u8 o1, .string t1, .slice a1 m1 c1, .int .u8 o2, .string t2, .slice a2 m2 c2, .int .u8 o3, .string t3, .slice a3 m3 c3] 232)) (hne : K pb)
    (h1 : Shows K w (.agg #[.int .u8 o1, .string t1, .slice a1 m1 c1]) s1) (h2 : Shows K w (.agg #[.int .u8 o2, .string t2, .slice a2 m2 c2]) s2) (h3 : Shows K w (.agg #[.int .u8 o3, .string t3, .slice a3 m3 c3]) s3) (l1 : s1.size ≤ 200000) (l2 : s2.size ≤ 200000) (l3 : s3.size ≤ 200000) :
    Shows K w (.agg #[.int .u8 63, .string ⟨#[]⟩, .slice (some ⟨pb, 0, none⟩) 3 3]) (choiceT s1 s2 s3) := by
  intro w' hl
  have hzz0 : ¬ (9223372036854775807 < 1 + s1.size) := by omega
  have hzz1 : ¬ (9223372036854775807 < 1 + s1.size + 1) := by omega
  have hzz2 : ¬ (9223372036854775807 < 1 + s1.size + 1 + s2.size) := by omega
  have hzz3 : ¬ (9223372036854775807 < 1 + s1.size + 1 + s2.size + 1) := by omega
  have hzz4 : ¬ (9223372036854775807 < 1 + s1.size + 1 + s2.size + 1 + s3.size) := by omega
  have hzz5 : ¬ (9223372036854775807 < 1 + s1.size + 1 + s2.size + 1 + s3.size + 1) := by omega
  have hbl := below_new w' (.cells #[.int .u8 63, .string ⟨#[]⟩, .slice (some ⟨pb, 0, none⟩) 3 3] 232)
  have HL := hid (hl.below hbl)
  have HBL := hid hbl
  have HB := hid ((HL.out.block pb (heap_lt hb) hne).trans hb)
  have HE := hid (new_heap w' (.cells #[.int .u8 63, .string ⟨#[]⟩, .slice (some ⟨pb, 0, none⟩) 3 3] 232))
  have H1 := hid h1
  have H2 := hid h2
  have H3 := hid h3
  have e0 := heap_cell (i := 0) HB.out
  have e1 := heap_cell (i := 1) HB.out
  have e2 := heap_cell (i := 2) HB.out
  simp only [List.getElem?_toArray, List.getElem?_cons_zero, List.getElem?_cons_succ] at e0 e1 e2
  clear h1 h2 h3 hl hb hbl
  go_enter Tryz.func174, Tryz.ntmps174
  go_wp2_with fail
  refine (H1.out _ HL.out).mono ?_
  rintro e w1 ⟨rfl, hb1⟩
  have HB1 := hid hb1
  have HP1 := hid (below_heap hb1 (heap_lt HB.out) HB.out)
  have HE1 := hid (below_heap hb1 (heap_lt HE.out) HE.out)
  have g0 : w1.cell? ⟨pb, 3, none⟩ = some (.int .u8 o2) := heap_cell (i := 3) HP1.out
  have g1 : w1.cell? ⟨pb, 4, none⟩ = some (.string t2) := heap_cell (i := 4) HP1.out
  have g2 : w1.cell? ⟨pb, 5, none⟩ = some (.slice a2 m2 c2) := heap_cell (i := 5) HP1.out
  have g3 : w1.cell? ⟨pb, 6, none⟩ = some (.int .u8 o3) := heap_cell (i := 6) HP1.out
  have g4 : w1.cell? ⟨pb, 7, none⟩ = some (.string t3) := heap_cell (i := 7) HP1.out
  have g5 : w1.cell? ⟨pb, 8, none⟩ = some (.slice a3 m3 c3) := heap_cell (i := 8) HP1.out
  have g6 : w1.cell? ⟨w'.heap.size, 2, none⟩ = some (.slice (some ⟨pb, 0, none⟩) 3 3) := heap_cell (i := 2) HE1.out
  have k0 : w1.cell? ⟨w'.heap.size, 0, none⟩ = some (.int .u8 63) := heap_cell (i := 0) HE1.out
  have hS : (Below w1.heap.size w1 w1 ∧ Later K w w1) ∧ w1.cell? ⟨pb, 3, none⟩ = some (.int .u8 o2) ∧ w1.cell? ⟨pb, 4, none⟩ = some (.string t2) ∧ w1.cell? ⟨pb, 5, none⟩ = some (.slice a2 m2 c2) ∧ w1.cell? ⟨pb, 6, none⟩ = some (.int .u8 o3) ∧ w1.cell? ⟨pb, 7, none⟩ = some (.string t3) ∧ w1.cell? ⟨pb, 8, none⟩ = some (.slice a3 m3 c3) ∧ w1.cell? ⟨w'.heap.size, 2, none⟩ = some (.slice (some ⟨pb, 0, none⟩) 3 3) :=
    ⟨⟨Below.refl _ _, HL.out.below hb1⟩, g0, g1, g2, g3, g4, g5, g6⟩
  clear hb1
  go_wp2
  go_region_held3 (fun wx => (Below w1.heap.size w1 wx ∧ Later K w wx) ∧ wx.cell? ⟨pb, 3, none⟩ = some (.int .u8 o2) ∧ wx.cell? ⟨pb, 4, none⟩ = some (.string t2) ∧ wx.cell? ⟨pb, 5, none⟩ = some (.slice a2 m2 c2) ∧ wx.cell? ⟨pb, 6, none⟩ = some (.int .u8 o3) ∧ wx.cell? ⟨pb, 7, none⟩ = some (.string t3) ∧ wx.cell? ⟨pb, 8, none⟩ = some (.slice a3 m3 c3) ∧ wx.cell? ⟨w'.heap.size, 2, none⟩ = some (.slice (some ⟨pb, 0, none⟩) 3 3))
    (first
      | exact keep7 (by assumption) (below_drew _)
      | exact keep7 (by assumption) (by assumption)
      | exact keep7 (by assumption) (Below.refl _ _)
      | exact keep7 hS (below_drew _))
    (first
      | (go_at_call_of 174 (Value.agg #[Value.int IntKind.u8 o2, Value.string t2, Value.slice a2 m2 c2]); refine (H2.out _ ?_).mono ?_; exact (And.left (by assumption : (Below w1.heap.size w1 _ ∧ Later K w _) ∧ _)).2; rintro e w2 ⟨rfl, hb2⟩)
      | (go_at_call_of 174 (Value.agg #[Value.int IntKind.u8 o3, Value.string t3, Value.slice a3 m3 c3]); refine (H3.out _ ?_).mono ?_; exact (And.left (by assumption : (Below w1.heap.size w1 _ ∧ Later K w _) ∧ _)).2; rintro e w3 ⟨rfl, hb3⟩))
  all_goals
    go_wp2
    go_ret
    exact ⟨by rfl, below_seq (below_seq HBL.out HB1.out) (And.left (by assumption : (Below w1.heap.size w1 _ ∧ Later K w _) ∧ _)).1⟩

end Go.Proofs.YtfekglokoafpiaaGreatDoor
