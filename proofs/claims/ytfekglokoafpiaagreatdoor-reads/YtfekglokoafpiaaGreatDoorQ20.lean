/-
  The document's engine: lists of slots that are verified.
  The document's engine: refresh and fetch, of a slot that is new.
  The sessions at a first Set of the file a: small functions, the document's Set.
-/
import Derived.Test.YtfekglokoafpiaaGreatDoorQ19
import Derived.WalkKit
import Derived.WalkSpells
import Derived.WalkLawsBesides
import Derived.Handy
import Derived.Deep.RegionWith

set_option linter.unusedVariables false
set_option linter.unusedSimpArgs false

namespace Go.Proofs.YtfekglokoafpiaaGreatDoor
open Go.RowKit

/-- The slots of the kinds 1 to n are there, verified and kept; each has its text. -/
def AllDone (n : Nat) (rev : Int) (xs : List Value) : Prop := ∀ j, j < n → ∃ la ll lc ch us v, Done (j * 12) (j + 1) false rev xs la ll lc ch us v

theorem AllDone.kinds {n : Nat} {rev : Int} {xs : List Value} (h : AllDone n rev xs) : Kinds n xs := fun j hj => by
  obtain ⟨_, _, _, _, _, _, d⟩ := h j hj
  exact ⟨d.z0, d.z1, d.z2⟩

theorem AllDone.kept {n : Nat} {rev : Int} {xs : List Value} (h : AllDone n rev xs) : AllKept n xs := fun j hj => by
  obtain ⟨_, _, _, _, _, _, d⟩ := h j hj
  exact d.z7

theorem Done.of {p k : Nat} {act : Bool} {rev : Int} {xs xs' : List Value} {la : Option Addr} {ll lc : Nat} {ch us : Int} {v : ByteArray} (h : Done p k act rev xs la ll lc ch us v) (hg : ∀ r, r < 12 → xs'[p + r]? = xs[p + r]?) : Done p k act rev xs' la ll lc ch us v := by
  have h0 := hg 0 (by omega)
  simp only [Nat.add_zero] at h0
  exact ⟨h0.trans h.z0, (hg 1 (by omega)).trans h.z1, (hg 2 (by omega)).trans h.z2, (hg 3 (by omega)).trans h.z3, (hg 4 (by omega)).trans h.z4, (hg 5 (by omega)).trans h.z5, (hg 6 (by omega)).trans h.z6, (hg 7 (by omega)).trans h.z7, (hg 8 (by omega)).trans h.z8, (hg 9 (by omega)).trans h.z9, (hg 10 (by omega)).trans h.z10, (hg 11 (by omega)).trans h.z11⟩

/-- The slots with a new one that is active. -/
def actXs (n k : Nat) (xs : List Value) : List Value := (xs ++ newSlot k).set (n * 12 + 9) (.bool true)

theorem actXs_old {n k : Nat} {xs : List Value} (hl : xs.length = n * 12) (q : Nat) (hq : q < n * 12) : (actXs n k xs)[q]? = xs[q]? := by
  rw [actXs, List.getElem?_set_ne (by omega), List.getElem?_append_left (by omega)]

theorem actXs_new {n k : Nat} {xs : List Value} (hl : xs.length = n * 12) (r : Nat) (hr : r < 12) (h9 : r ≠ 9) : (actXs n k xs)[n * 12 + r]? = (newSlot k)[r]? := by
  rw [actXs, List.getElem?_set_ne (by omega), List.getElem?_append_right (by omega), hl]
  congr 1
  omega

theorem actXs_9 {n k : Nat} {xs : List Value} (hl : xs.length = n * 12) : (actXs n k xs)[n * 12 + 9]? = some (.bool true) := by
  rw [actXs, List.getElem?_set_self (by simp [newSlot]; omega)]

theorem actXs_kinds {n k : Nat} {xs : List Value} (hl : xs.length = n * 12) (hk : k = n + 1) (h : Kinds n xs) : Kinds (n + 1) (actXs n k xs) := by
  subst hk
  have h1 := Kinds.more hl h
  intro j hj
  obtain ⟨a, b, c⟩ := h1 j hj
  exact ⟨by rw [actXs, List.getElem?_set_ne (by omega)]; exact a, by rw [actXs, List.getElem?_set_ne (by omega)]; exact b, by rw [actXs, List.getElem?_set_ne (by omega)]; exact c⟩

theorem actXs_done {n k : Nat} {rev : Int} {xs : List Value} (hl : xs.length = n * 12) (h : AllDone n rev xs) : AllDone n rev (actXs n k xs) := fun j hj => by
  obtain ⟨la, ll, lc, ch, us, v, d⟩ := h j hj
  exact ⟨la, ll, lc, ch, us, v, d.of fun r hr => actXs_old hl _ (by omega)⟩

theorem useXs_far {p : Nat} {clk : Int} {xs : List Value} (q : Nat) (hq : q < p ∨ p + 12 ≤ q) : (useXs p clk xs)[q]? = xs[q]? := by
  rw [useXs, List.getElem?_set_ne (by omega), List.getElem?_set_ne (by omega), List.getElem?_set_ne (by omega)]

theorem useXs_done {p k : Nat} {rev clk : Int} {xs : List Value} {la : Option Addr} {ll lc : Nat} {ch us : Int} {v : ByteArray} (h : Done p k false rev xs la ll lc ch us v) : Done p k false rev (useXs p clk xs) la ll lc ch (clk + 1) v := by
  have hl : p + 11 < xs.length := (List.getElem?_eq_some_iff.1 h.z11).1
  have g : ∀ q, q ≠ p + 9 → q ≠ p + 10 → (useXs p clk xs)[q]? = xs[q]? := fun q h1 h2 => by
    rw [useXs, List.getElem?_set_ne (by omega), List.getElem?_set_ne (by omega), List.getElem?_set_ne (by omega)]
  refine ⟨(g _ (by omega) (by omega)).trans h.z0, (g _ (by omega) (by omega)).trans h.z1, (g _ (by omega) (by omega)).trans h.z2, (g _ (by omega) (by omega)).trans h.z3, (g _ (by omega) (by omega)).trans h.z4, (g _ (by omega) (by omega)).trans h.z5, (g _ (by omega) (by omega)).trans h.z6, (g _ (by omega) (by omega)).trans h.z7, (g _ (by omega) (by omega)).trans h.z8, ?_, ?_, (g _ (by omega) (by omega)).trans h.z11⟩
  · rw [useXs, List.getElem?_set_self (by (try simp); omega)]
  · rw [useXs, List.getElem?_set_ne (by omega), List.getElem?_set_self (by (try simp); omega)]

theorem useXs_all {n q : Nat} {rev clk : Int} {xs : List Value} (h : AllDone n rev xs) : AllDone n rev (useXs (q * 12) clk xs) := fun j hj => by
  obtain ⟨la, ll, lc, ch, us, v, d⟩ := h j hj
  by_cases e : j = q
  · subst e
    exact ⟨la, ll, lc, ch, clk + 1, v, useXs_done d⟩
  · exact ⟨la, ll, lc, ch, us, v, d.of fun r hr => useXs_far _ (by omega)⟩

/-- The last slot, as it is while it is worked out. -/
def LastNew (n k : Nat) (xs : List Value) : Prop := ∀ r, r < 12 → xs[n * 12 + r]? = if r = 9 then some (.bool true) else (newSlot k)[r]?

theorem LastNew.act {n k : Nat} {xs : List Value} (hl : xs.length = n * 12) : LastNew n k (actXs n k xs) := fun r hr => by
  by_cases h : r = 9
  · subst h; rw [actXs_9 hl]; rfl
  · rw [actXs_new hl r hr h, if_neg h]

theorem LastNew.raw {n k : Nat} {xs : List Value} (h : LastNew n k xs) : Raw (n * 12) xs :=
  ⟨h 3 (by omega), h 4 (by omega), h 5 (by omega), h 6 (by omega), h 7 (by omega), h 8 (by omega), h 9 (by omega), h 10 (by omega), h 11 (by omega)⟩

theorem LastNew.used {n k q : Nat} {clk : Int} {xs : List Value} (h : LastNew n k xs) (hq : q < n) : LastNew n k (useXs (q * 12) clk xs) := fun r hr => by
  rw [useXs_far _ (by omega)]; exact h r hr

/-- The slots behind the fetch of a new one. -/
def fetXs (p : Nat) (v : ByteArray) (lk : Value) (rev clk : Int) (xs : List Value) : List Value :=
  ((setXs p v lk rev clk xs).set (p + 10) (.int .i64 (clk + 1 + 1))).set (p + 9) (.bool false)

theorem setXs_far {p : Nat} {v : ByteArray} {lk : Value} {rev clk : Int} {xs : List Value} (q : Nat) (hq : q < p ∨ p + 12 ≤ q) : (setXs p v lk rev clk xs)[q]? = xs[q]? := by
  rw [setXs, List.getElem?_set_ne (by omega), List.getElem?_set_ne (by omega), List.getElem?_set_ne (by omega), List.getElem?_set_ne (by omega), List.getElem?_set_ne (by omega), List.getElem?_set_ne (by omega), List.getElem?_set_ne (by omega), List.getElem?_set_ne (by omega)]

theorem fetXs_far {p : Nat} {v : ByteArray} {lk : Value} {rev clk : Int} {xs : List Value} (q : Nat) (hq : q < p ∨ p + 12 ≤ q) : (fetXs p v lk rev clk xs)[q]? = xs[q]? := by
  rw [fetXs, List.getElem?_set_ne (by omega), List.getElem?_set_ne (by omega), setXs_far q hq]

theorem fetXs_done {n k : Nat} {v : ByteArray} {la : Option Addr} {ll lc : Nat} {rev clk : Int} {xs : List Value} (h : LastNew n k xs) : Done (n * 12) k false rev (fetXs (n * 12) v (.slice la ll lc) rev clk xs) la ll lc rev (clk + 1 + 1) v := by
  have hl : n * 12 + 11 < xs.length := by
    have := h 11 (by omega)
    exact (List.getElem?_eq_some_iff.1 (this.trans (by rfl : _ = some (Value.string ⟨#[]⟩)))).1
  have h0 := h 0 (by omega)
  simp only [Nat.add_zero] at h0
  have h1 := h 1 (by omega)
  have h2 := h 2 (by omega)
  unfold fetXs setXs
  constructor
  · rw [List.getElem?_set_ne (by omega), List.getElem?_set_ne (by omega), List.getElem?_set_ne (by omega), List.getElem?_set_ne (by omega), List.getElem?_set_ne (by omega), List.getElem?_set_ne (by omega), List.getElem?_set_ne (by omega), List.getElem?_set_ne (by omega), List.getElem?_set_ne (by omega), List.getElem?_set_ne (by omega)]; exact h0
  · rw [List.getElem?_set_ne (by omega), List.getElem?_set_ne (by omega), List.getElem?_set_ne (by omega), List.getElem?_set_ne (by omega), List.getElem?_set_ne (by omega), List.getElem?_set_ne (by omega), List.getElem?_set_ne (by omega), List.getElem?_set_ne (by omega), List.getElem?_set_ne (by omega), List.getElem?_set_ne (by omega)]; exact h1
  · rw [List.getElem?_set_ne (by omega), List.getElem?_set_ne (by omega), List.getElem?_set_ne (by omega), List.getElem?_set_ne (by omega), List.getElem?_set_ne (by omega), List.getElem?_set_ne (by omega), List.getElem?_set_ne (by omega), List.getElem?_set_ne (by omega), List.getElem?_set_ne (by omega), List.getElem?_set_ne (by omega)]; exact h2
  · rw [List.getElem?_set_ne (by omega), List.getElem?_set_ne (by omega), List.getElem?_set_ne (by omega), List.getElem?_set_ne (by omega), List.getElem?_set_ne (by omega), List.getElem?_set_ne (by omega), List.getElem?_set_ne (by omega), List.getElem?_set_self (by (try simp); omega)]
  · rw [List.getElem?_set_ne (by omega), List.getElem?_set_ne (by omega), List.getElem?_set_ne (by omega), List.getElem?_set_ne (by omega), List.getElem?_set_self (by (try simp); omega)]
  · rw [List.getElem?_set_ne (by omega), List.getElem?_set_ne (by omega), List.getElem?_set_ne (by omega), List.getElem?_set_ne (by omega), List.getElem?_set_ne (by omega), List.getElem?_set_ne (by omega), List.getElem?_set_ne (by omega), List.getElem?_set_ne (by omega), List.getElem?_set_ne (by omega), List.getElem?_set_self (by (try simp); omega)]
  · rw [List.getElem?_set_ne (by omega), List.getElem?_set_ne (by omega), List.getElem?_set_ne (by omega), List.getElem?_set_ne (by omega), List.getElem?_set_ne (by omega), List.getElem?_set_self (by (try simp); omega)]
  · rw [List.getElem?_set_ne (by omega), List.getElem?_set_ne (by omega), List.getElem?_set_ne (by omega), List.getElem?_set_self (by (try simp); omega)]
  · rw [List.getElem?_set_ne (by omega), List.getElem?_set_ne (by omega), List.getElem?_set_ne (by omega), List.getElem?_set_ne (by omega), List.getElem?_set_ne (by omega), List.getElem?_set_ne (by omega), List.getElem?_set_self (by (try simp); omega)]
  · rw [List.getElem?_set_self (by (try simp); omega)]
  · rw [List.getElem?_set_ne (by omega), List.getElem?_set_self (by (try simp); omega)]
  · rw [List.getElem?_set_ne (by omega), List.getElem?_set_ne (by omega), List.getElem?_set_ne (by omega), List.getElem?_set_ne (by omega), List.getElem?_set_ne (by omega), List.getElem?_set_ne (by omega), List.getElem?_set_ne (by omega), List.getElem?_set_ne (by omega), List.getElem?_set_self (by (try simp); omega)]

theorem fetXs_all {n k : Nat} {v : ByteArray} {la : Option Addr} {ll lc : Nat} {rev clk : Int} {xs : List Value} (hk : k = n + 1) (h : LastNew n k xs) (hd : AllDone n rev xs) : AllDone (n + 1) rev (fetXs (n * 12) v (.slice la ll lc) rev clk xs) := fun j hj => by
  by_cases e : j = n
  · subst e; subst hk
    exact ⟨la, ll, lc, rev, _, v, fetXs_done h⟩
  · obtain ⟨la', ll', lc', ch, us, u, d⟩ := hd j (by omega)
    exact ⟨la', ll', lc', ch, us, u, d.of fun r hr => fetXs_far _ (by omega)⟩

end Go.Proofs.YtfekglokoafpiaaGreatDoor

namespace Go.Proofs.YtfekglokoafpiaaGreatDoor
open Go.RowKit

set_option maxRecDepth 100000 in
set_option maxHeartbeats 1000000 in
theorem refresh_new {w : World} {sb B : Nat} {fv slv ranv : Value} {n : Nat} {xs rs : List Value} {rev clk : Int} (h : YS w sb B fv slv ranv (n + 1) xs rs rev clk) (hn : n ≤ 3) (k : Nat) (hl : LastNew n k xs) (Q : World → Prop)
    (HW : ∀ wx, Below w.heap.size w wx → Calls Tryz.prog 81 #[.pointer (some ⟨sb, 0, none⟩), .int .i64 (n : Nat)] wx fun e w' => e = .returned (.int .i64 (-1)) ∧ Q w') :
    Calls Tryz.prog 49 #[.pointer (some ⟨sb, 0, none⟩), .int .i64 (n : Nat), .bool true] w fun e w' => e = .returned (.int .i64 (-1)) ∧ Q w' := by
  obtain ⟨g, c, rfl, hne, hcell, hfz⟩ := h.slots (by omega)
  have s1 : w.cell? ⟨sb, 1, none⟩ = some (.slice (some ⟨g, 0, none⟩) (n + 1) c) := heap_cell (i := 1) h.s
  have z : ∀ q u, q < 12 → (if q = 9 then some (.bool true) else (newSlot k)[q]?) = some u → w.cell? ⟨g, n * 12 + q, none⟩ = some u := fun q u hq hu => (h.own.cellAt (n * 12 + q) (by omega)).trans ((hl q hq).trans hu)
  have z0 := z 0 (.int .i64 (k : Nat)) (by omega) rfl
  have z1 := z 1 (.string ⟨#[97]⟩) (by omega) rfl
  have z2 := z 2 (.string ⟨#[]⟩) (by omega) rfl
  have z3 := z 3 (.slice none 0 0) (by omega) rfl
  have z4 := z 4 (.int .i64 0) (by omega) rfl
  have z5 := z 5 (.int .i64 0) (by omega) rfl
  have z6 := z 6 (.bool false) (by omega) rfl
  have z7 := z 7 (.bool false) (by omega) rfl
  have z8 := z 8 (.bool false) (by omega) rfl
  have z9 := z 9 (.bool true) (by omega) rfl
  have z10 := z 10 (.int .i64 0) (by omega) rfl
  have z11 := z 11 (.string ⟨#[]⟩) (by omega) rfl
  simp only [Nat.add_zero] at z0
  have hi0 : (0 : Int) ≤ (n : Int) := by omega
  have hin : (n : Int) < ((n + 1 : Nat) : Int) := by omega
  have hin2 : (n : Int) < (n : Int) + 1 := by omega
  have HWH := hid HW
  clear h hcell hfz z hl HW
  go_enter Tryz.func49, Tryz.ntmps49
  go_wp2
  have hN := new_heap w (.cells #[.int .i64 (k : Nat), .string ⟨#[97]⟩, .string ⟨#[]⟩, .slice none 0 0, .int .i64 0, .int .i64 0, .bool false, .bool false, .bool false, .bool true, .int .i64 0, .string ⟨#[]⟩] 70)
  have hbl := below_new w (.cells #[.int .i64 (k : Nat), .string ⟨#[97]⟩, .string ⟨#[]⟩, .slice none 0 0, .int .i64 0, .int .i64 0, .bool false, .bool false, .bool false, .bool true, .int .i64 0, .string ⟨#[]⟩] 70)
  generalize w.alloc (.cells #[.int .i64 (k : Nat), .string ⟨#[97]⟩, .string ⟨#[]⟩, .slice none 0 0, .int .i64 0, .int .i64 0, .bool false, .bool false, .bool false, .bool true, .int .i64 0, .string ⟨#[]⟩] 70) = W at hN hbl ⊢
  have y6 : W.cell? ⟨w.heap.size, 6, none⟩ = some (.bool false) := heap_cell (i := 6) hN
  have HB := hid hbl
  clear hN hbl s1 z0 z1 z2 z3 z4 z5 z6 z7 z8 z9 z10 z11
  go_quiet (fail)
  go_wp2_with fail
  refine (HWH.out _ (below_seq HB.out (below_drewN _ _))).mono ?_
  rintro e w1 ⟨rfl, hQ⟩
  go_wp2
  go_ret
  exact ⟨rfl, hQ⟩

/-- Of what lies below B all but the session's block stays. -/
structure Keep (B sb : Nat) (w w' : World) : Prop where
  size : w.heap.size ≤ w'.heap.size
  block : ∀ q, q < B → q ≠ sb → w'.heap[q]? = w.heap[q]?
  env : w'.os = w.os ∧ w'.tape = w.tape ∧ w'.output = w.output
  tag : ∀ q, q < w.heap.size → q ≠ sb → (∀ cs fr, w.heap[q]? ≠ some (.cells cs 70 fr)) → w'.heap[q]? = w.heap[q]?

theorem Keep.seq {B sb : Nat} {w w' w'' : World} (h : Keep B sb w w') (h' : Keep B sb w' w'') : Keep B sb w w'' :=
  ⟨Nat.le_trans h.1 h'.1, fun q hq h1 => (h'.2 q hq h1).trans (h.2 q hq h1), ⟨h'.env.1.trans h.env.1, h'.env.2.1.trans h.env.2.1, h'.env.2.2.trans h.env.2.2⟩,
    fun q hq h1 h2 => (h'.tag q (Nat.lt_of_lt_of_le hq h.1) h1 (fun cs fr e => h2 cs fr (by rw [← h.tag q hq h1 h2]; exact e))).trans (h.tag q hq h1 h2)⟩

theorem Keep.refl (B sb : Nat) (w : World) : Keep B sb w w := ⟨Nat.le_refl _, fun _ _ _ => rfl, ⟨rfl, rfl, rfl⟩, fun _ _ _ _ => rfl⟩

theorem Keep.below {B sb : Nat} {w w' : World} (hB : B ≤ w.heap.size) (h : Below w.heap.size w w') : Keep B sb w w' := ⟨h.size, fun q hq _ => h.block q (by omega), ⟨h.os, h.tape, h.output⟩, fun q hq _ _ => h.block q hq⟩

theorem Keep.stay {B sb n : Nat} {w w' : World} {slv : Value} {z : Nat} {xs : List Value} (hB : B ≤ w.heap.size) (hown : w.ownsRow B 70 z slv n xs) (h : Stay sb slv w w') : Keep B sb w w' :=
  ⟨h.size, fun q hq h1 => h.block q (by omega) h1 (fun e => by have := (hown.lt q e).1; omega), h.env, fun q hq h1 h2 => h.block q hq h1 (fun e => by
    obtain ⟨_, ⟨h3, _⟩ | ⟨g, c, cur, hv, _, hg, _⟩⟩ := hown
    · rw [h3] at e; simp [Value.ownBlock] at e
    · rw [hv] at e
      have e2 : g = q := by simpa [Value.ownBlock] using e
      rw [e2] at hg
      exact h2 _ _ hg)⟩

set_option maxRecDepth 100000 in
set_option maxHeartbeats 2000000 in
theorem fetch_new {w : World} {sb B : Nat} {fv slv : Value} {n : Nat} {xs : List Value} {rev clk : Int} (h : YS w sb B fv slv (.slice none 0 0) n xs [] rev clk) (hB : B ≤ w.heap.size) (hd : AllDone n rev xs) (hn : n ≤ 3) (hc0 : 0 ≤ clk) (hc : clk ≤ 100) (k : Nat) (hk : k = n + 1)
    (k0 : Nat) (ans : ByteArray)
    (HL : ∀ wx : World, Calls Tryz.prog 111 #[fv, .agg #[.int .i64 (k : Nat), .string ⟨#[97]⟩, .string ⟨#[]⟩]] wx fun e w' => ∃ g c, e = .returned (.slice (some ⟨g, 0, none⟩) 1 c) ∧ wx.heap.size ≤ g ∧ w'.heap[g]? = some (.cells #[.int .i64 (k0 : Nat), .string ⟨#[97]⟩, .string ⟨#[]⟩] 66) ∧ Below wx.heap.size wx w')
    (HFe : ∀ (wx : World) (slv' ranv : Value) (rs : List Value), YS wx sb B fv slv' ranv (n + 1) (actXs n k xs) rs rev clk → B ≤ wx.heap.size → Calls Tryz.prog 26 #[.pointer (some ⟨sb, 0, none⟩), .agg #[.int .i64 (k0 : Nat), .string ⟨#[97]⟩, .string ⟨#[]⟩], .bool true] wx fun e w' => e = .returned (.int .i64 (-1)) ∧ ∃ xs' c', (LastNew n k xs' ∧ AllDone n rev xs' ∧ clk ≤ c' ∧ c' ≤ clk + 1) ∧ YS w' sb B fv slv' ranv (n + 1) xs' rs rev c' ∧ Stay sb slv' wx w')
    (HA : ∀ wx : World, Keep B sb w wx → Calls Tryz.prog 112 #[fv, .int .i64 (k : Nat), .string ⟨#[97]⟩, .string ⟨#[]⟩] wx fun e w' => e = .returned (.string ans) ∧ Below wx.heap.size wx w') :
    Calls Tryz.prog 26 #[.pointer (some ⟨sb, 0, none⟩), .agg #[.int .i64 (k : Nat), .string ⟨#[97]⟩, .string ⟨#[]⟩], .bool true] w fun e w' => e = .returned (.int .i64 (-1)) ∧ ∃ slv' ranv' xs' rs' clk', YS w' sb B fv slv' ranv' (n + 1) xs' rs' rev clk' ∧ AllDone (n + 1) rev xs' ∧ xs'[n * 12 + 11]? = some (.string ans) ∧ clk ≤ clk' ∧ clk' ≤ clk + 3 ∧ Stay sb slv w w' := by
  have hl : xs.length = n * 12 := h.own.1
  obtain ⟨sao, sc, rfl⟩ := h.shape
  have hbl := below_new w (.cells #[.int .i64 (k : Nat), .string ⟨#[97]⟩, .string ⟨#[]⟩] 66)
  have HQ := hid (slot_new (h.below hbl) hd.kinds hn (by have := hbl.size; omega) k hk)
  have H := hid h
  have HD := hid hd
  have HBL := hid hbl
  have HK := hid hk
  have HLN := hid hl
  have hk0 : ((k : Int) == 0) = false := by rw [beq_eq_false_iff_ne]; omega
  have hk0' : ¬ ((k : Int) = 0) := by omega
  have HLO := hid HL
  have HFE := hid HFe
  have HAN := hid HA
  clear h hd hbl hk hl HL HFe HA
  go_enter Tryz.func26, Tryz.ntmps26
  go_wp2_with fail
  refine (HQ.out).mono ?_
  rintro e w1 ⟨rfl, slv1, hy1, hf1, hnw⟩
  have HF1 := hid ((Stay.below HBL.out).seq hf1)
  have HNW := hid (show ∀ q, slv1.ownBlock = some q → (Value.slice sao n sc).ownBlock = some q ∨ w.heap.size ≤ q from fun q hq => (hnw q hq).imp id (fun h => by have := HBL.out.size; omega))
  have H1 := hid hy1
  have HB1 := hid (show B ≤ w1.heap.size by have := hf1.size; have := HBL.out.size; omega)
  have HK1 := hid (show Keep B sb w w1 from (Keep.below hB HBL.out).seq (Keep.stay (by have := HBL.out.size; omega) (H.out.below HBL.out).own hf1))
  clear hf1 hy1 HQ hnw
  obtain ⟨g, c, rfl, hne, hcell, hfz⟩ := H1.out.slots (by omega)
  have s1 : w1.cell? ⟨sb, 1, none⟩ = some (.slice (some ⟨g, 0, none⟩) (n + 1) c) := heap_cell (i := 1) H1.out.s
  have z9 : w1.cell? ⟨g, n * 12 + 9, none⟩ = some (.bool false) := (H1.out.own.cellAt (n * 12 + 9) (by omega)).trans (by rw [List.getElem?_append_right (by have := HLN.out; omega), HLN.out, show n * 12 + 9 - n * 12 = 9 by omega]; rfl)
  have f9 := hfz (n * 12 + 9)
  have hi0 : (0 : Int) ≤ (n : Int) := by omega
  have hin : (n : Int) < ((n + 1 : Nat) : Int) := by omega
  have hin2 : (n : Int) < (n : Int) + 1 := by omega
  clear hcell hfz
  go_wp2_with fail
  have H2 := hid (show YS (w1.setCell ⟨g, n * 12 + 9, none⟩ (.bool true)) sb B fv (.slice (some ⟨g, 0, none⟩) (n + 1) c) (.slice none 0 0) (n + 1) (actXs n k xs) [] rev clk from H1.out.put (n * 12 + 9) (.bool true))
  have HB2 := hid (show B ≤ (w1.setCell ⟨g, n * 12 + 9, none⟩ (.bool true)).heap.size by have := HB1.out; simpa using this)
  have HK2 := hid (show Keep B sb w (w1.setCell ⟨g, n * 12 + 9, none⟩ (.bool true)) from HK1.out.seq (Keep.stay HB1.out H1.out.own (Stay.setG _ _ _)))
  have HT2 := hid (show Stay sb (.slice (some ⟨g, 0, none⟩) (n + 1) c) w1 (w1.setCell ⟨g, n * 12 + 9, none⟩ (.bool true)) from Stay.setG _ _ _)
  generalize w1.setCell ⟨g, n * 12 + 9, none⟩ (.bool true) = W2 at H2 HB2 HK2 HT2 ⊢
  clear z9 f9 s1
  have HL2 := hid (LastNew.act (k := k) HLN.out)
  have HD2 := hid (actXs_done (k := k) HLN.out HD.out)
  refine (refresh_new H2.out hn k HL2.out (fun w' => ∃ xs' c' ranv la ll lc t, (LastNew n k xs' ∧ AllDone n rev xs' ∧ clk ≤ c' ∧ c' ≤ clk + 1) ∧ YS w' sb B fv (.slice (some ⟨g, 0, none⟩) (n + 1) c) ranv (n + 1) (setXs (n * 12) ans (.slice la ll lc) rev c' xs') [.string t] rev (c' + 1) ∧ Stay sb (.slice (some ⟨g, 0, none⟩) (n + 1) c) W2 w') (fun wx hbx => ?_)).mono ?_
  · have hq0 := HL2.out 0 (by omega)
    simp only [Nat.add_zero] at hq0
    have hq1 := HL2.out 1 (by omega)
    have hq2 := HL2.out 2 (by omega)
    refine (work_new (H2.out.below hbx) (by have := HB2.out; have := hbx.size; omega) (by omega) hc0 (by omega) k n (by omega) (by have := HK.out; omega) hq0 hq1 hq2 HL2.out.raw k0 ans HLO.out (fun xs' c' => LastNew n k xs' ∧ AllDone n rev xs' ∧ clk ≤ c' ∧ c' ≤ clk + 1) (fun xs' c' hx => ⟨hx.1.raw, by omega, by omega⟩) (fun wy ranv rs hy hBy => HFE.out wy _ ranv rs hy hBy) (fun wy hs => HAN.out wy (HK2.out.seq ((Keep.below HB2.out hbx).seq (Keep.stay (by have := HB2.out; have := hbx.size; omega) (H2.out.below hbx).own hs))))).mono ?_
    rintro e w' ⟨rfl, xs', c', ranv, la, ll, lc, t, hr, hy, hs⟩
    exact ⟨rfl, xs', c', ranv, la, ll, lc, t, hr, hy, (Stay.below hbx).seq hs⟩
  rintro e w3 ⟨rfl, xs', c', ranv, la, ll, lc, t, ⟨hr1, hr2, hr3, hr4⟩, hy3, hs3⟩
  have H3 := hid hy3
  have HR1 := hid hr1
  have HR2 := hid hr2
  have HB3 := hid (show B ≤ w3.heap.size by have := hs3.size; have := HB2.out; omega)
  have HK3 := hid (HK2.out.seq (Keep.stay HB2.out H2.out.own hs3))
  have HT3 := hid (HT2.out.seq hs3)
  clear hy3 hs3 hr1 hr2
  have h0 : ¬ ((-1 : Int) = (n : Int)) := by omega
  have h0' : ((-1 : Int) == (n : Int)) = false := by rw [beq_eq_false_iff_ne]; omega
  go_wp2_with fail
  have hlx : n * 12 + 11 < xs'.length := by
    have := HR1.out 11 (by omega)
    exact (List.getElem?_eq_some_iff.1 (this.trans (by rfl : _ = some (Value.string ⟨#[]⟩)))).1
  have HLX := hid hlx
  refine (yuse_any H3.out n (by omega) (by omega) (by omega) (by omega) (.int .i64 (c' + 1)) (by unfold setXs; rw [List.getElem?_set_self (by (try simp); omega)])).mono ?_
  rintro e w4 ⟨rfl, hy4, hs4⟩
  have H4 := hid hy4
  have HB4 := hid (show B ≤ w4.heap.size by have := hs4.size; have := HB3.out; omega)
  have HK4 := hid (HK3.out.seq (Keep.stay HB3.out H3.out.own hs4))
  have t1 : w4.cell? ⟨sb, 1, none⟩ = some (.slice (some ⟨g, 0, none⟩) (n + 1) c) := heap_cell (i := 1) hy4.s
  have t9 : w4.cell? ⟨g, n * 12 + 9, none⟩ = some (.bool true) := (hy4.own.cellAt (n * 12 + 9) (by omega)).trans (by
    unfold setXs
    rw [List.getElem?_set_ne (by omega), List.getElem?_set_ne (by omega), List.getElem?_set_ne (by omega), List.getElem?_set_ne (by omega), List.getElem?_set_ne (by omega), List.getElem?_set_ne (by omega), List.getElem?_set_ne (by omega), List.getElem?_set_ne (by omega), List.getElem?_set_ne (by omega)]
    exact HR1.out 9 (by omega))
  have tf := hy4.own.frozenAt (n * 12 + 9)
  have HT4 := hid (HT3.out.seq hs4)
  clear hy4 hs4
  go_wp2
  go_ret
  refine ⟨rfl, _, _, fetXs (n * 12) ans (.slice la ll lc) rev c' xs', _, _, H4.out.put _ _, fetXs_all HK.out HR1.out HR2.out, (fetXs_done HR1.out).z11, by omega, by omega, HF1.out.seqNew HNW.out (HT4.out.seq (Stay.setG _ _ _))⟩

end Go.Proofs.YtfekglokoafpiaaGreatDoor

namespace Go.Proofs.YtfekglokoafpiaaGreatDoor.Ses
open Go.RowKit

set_option maxRecDepth 100000 in
set_option maxHeartbeats 400000 in
theorem letter_a (w : World) :
    Calls Tryz.prog 47 #[.int .u8 97] w fun e w' => e = .returned (.bool true) ∧ w' = w := by
  go_enter Tryz.func47, Tryz.ntmps47
  go_wp2
  go_ret
  exact ⟨rfl, rfl⟩

set_option maxRecDepth 100000 in
set_option maxHeartbeats 400000 in
theorem num_any (n : Int) (w : World) :
    Calls Tryz.prog 7 #[.int .i64 n] w fun e w' => e = .returned (.int .i64 n) ∧ w' = w := by
  go_enter Tryz.func7, Tryz.ntmps7
  go_wp2
  go_ret
  exact ⟨rfl, rfl⟩

set_option maxRecDepth 100000 in
set_option maxHeartbeats 400000 in
theorem isKeyword_a (w : World) :
    Calls Tryz.prog 55 #[.string ⟨#[97]⟩] w fun e w' => e = .returned (.bool false) ∧ w' = w := by
  go_enter Tryz.func55, Tryz.ntmps55
  go_wp2
  go_ret
  exact ⟨rfl, rfl⟩

set_option maxRecDepth 100000 in
set_option maxHeartbeats 400000 in
theorem new_any (w : World) :
    Calls Tryz.prog 5 #[] w fun e w' => e = .returned (.pointer (some ⟨w.heap.size, 0, none⟩)) ∧ w' = w.alloc (.cells #[.map none, .int .i64 0, .map none, .map none, .slice none 0 0, .slice none 0 0, .int .u64 0] 51) := by
  go_enter Tryz.func5, Tryz.ntmps5
  go_wp2
  go_ret
  exact ⟨rfl, rfl⟩

set_option maxRecDepth 100000 in
set_option maxHeartbeats 400000 in
theorem runOf_a (w : World) :
    Calls Tryz.prog 53 #[.string ⟨#[97]⟩, .func (Fn.func 54) #[] #[]] w fun e w' => e = .returned (.int .i64 1) ∧ w' = w := by
  go_enter Tryz.func53, Tryz.ntmps53
  go_wp2
  go_rounds 2
  go_ret
  exact ⟨rfl, rfl⟩

set_option maxRecDepth 100000 in
set_option maxHeartbeats 400000 in
theorem isName_a (w : World) :
    Calls Tryz.prog 30 #[.string ⟨#[97]⟩] w fun e w' => e = .returned (.bool true) ∧ w' = w := by
  go_enter Tryz.func30, Tryz.ntmps30
  go_wp2_with (first | (go_at_call 53; refine (runOf_a _).mono ?_; rintro e w' ⟨rfl, rfl⟩) | (go_at_call 55; refine (isKeyword_a _).mono ?_; rintro e w' ⟨rfl, rfl⟩))
  go_ret
  exact ⟨rfl, rfl⟩

set_option maxRecDepth 100000 in
set_option maxHeartbeats 400000 in
theorem isFile_a (w : World) :
    Calls Tryz.prog 12 #[.string ⟨#[97]⟩] w fun e w' => e = .returned (.bool true) ∧ w' = w := by
  go_enter Tryz.func12, Tryz.ntmps12
  go_wp2_with (first | (go_at_call 30; refine (isName_a _).mono ?_; rintro e w' ⟨rfl, rfl⟩))
  go_ret
  exact ⟨rfl, rfl⟩

def hasB (l : List ByteArray) (s : ByteArray) : Bool := l.any fun x => x.toList == s.toList

theorem hasB_yes (l : List ByteArray) (s : ByteArray) (k : Nat) (hk : k < l.length) (h : (l[k].toList == s.toList) = true) : hasB l s = true := by
  unfold hasB; rw [List.any_eq_true]; exact ⟨l[k], List.getElem_mem hk, h⟩

theorem hasB_no (l : List ByteArray) (s : ByteArray) (h : ∀ j, (hj : j < l.length) → (l[j].toList == s.toList) = false) : hasB l s = false := by
  unfold hasB; rw [List.any_eq_false]; intro x hx
  obtain ⟨j, hj, rfl⟩ := List.getElem_of_mem hx
  rw [h j hj]; simp

theorem ret_bool {a b : Bool} (h : a = b) : Ending.returned (.bool a) = .returned (.bool b) := by rw [h]
theorem ret_int {k : IntKind} {a b : Int} (h : a = b) : Ending.returned (.int k a) = .returned (.int k b) := by rw [h]

set_option maxRecDepth 100000 in
set_option maxHeartbeats 400000 in
theorem has_any (l : List ByteArray) (s : ByteArray) (b off cap : Nat) (w : World) (hl : l.length ≤ 9223372036854775807)
    (hc : ∀ i, i < l.length → w.cell? ⟨b, off + i, none⟩ = some (.string (l.getD i ByteArray.empty))) :
    Calls Tryz.prog 80 #[.slice (some ⟨b, off, none⟩) l.length cap, .string s] w fun e w' => e = .returned (.bool (hasB l s)) ∧ w' = w := by
  go_enter Tryz.func80, Tryz.ntmps80
  go_wp2
  go_loop [5] (fun i => ∃ k : Nat, k ≤ l.length ∧ i = .int .i64 k ∧ ∀ j, (hj : j < l.length) → j < k → (l[j].toList == s.toList) = false) (fun i => l.length - (intOf i).toNat)
  case atStart => exact ⟨0, Nat.zero_le _, rfl, fun j hj hk => by omega⟩
  case round =>
    obtain ⟨k, hk, rfl, hne⟩ := hrel
    have HN : Hid (∀ j, (hj : j < l.length) → j < k → (l[j].toList == s.toList) = false) := hne
    clear hne
    by_cases hlt : k < l.length
    · have hcx := hc k hlt
      clear hc
      go_wp2
      · go_ret
        exact ⟨ret_bool (hasB_yes l s k hlt ‹_›).symm, rfl⟩
      · go_round
        case rel =>
          refine ⟨k + 1, by omega, by go_num, fun j hj hjk => ?_⟩
          by_cases e : j = k
          · subst e; assumption
          · exact HN.out j hj (by omega)
        case measure => simp [intOf]; omega
    · clear hc
      go_wp2
      go_ret
      exact ⟨ret_bool (hasB_no l s fun j hj => HN.out j hj (by omega)).symm, rfl⟩

def kws : List ByteArray := [⟨#[117, 115, 101]⟩, ⟨#[112, 117, 98]⟩, ⟨#[108, 101, 116]⟩, ⟨#[105, 110, 116]⟩, ⟨#[98, 111, 111, 108]⟩, ⟨#[116, 114, 117, 101]⟩, ⟨#[102, 97, 108, 115, 101]⟩, ⟨#[105, 102]⟩, ⟨#[116, 104, 101, 110]⟩, ⟨#[101, 108, 115, 101]⟩, ⟨#[101, 110, 100]⟩]

set_option maxRecDepth 100000 in
set_option maxHeartbeats 400000 in
theorem keyword_any (s : ByteArray) (w : World) :
    Calls Tryz.prog 48 #[.string s] w fun e w' => e = .returned (.bool (hasB kws s)) ∧ Below w.heap.size w w' := by
  go_enter Tryz.func48, Tryz.ntmps48
  go_wp2_with fail
  refine (has_any kws s w.heap.size 0 11 _ (by decide) ?_).mono ?_
  · intro i hi
    simp only [kws, List.length_cons, List.length_nil] at hi
    match i, hi with
    | 0, _ | 1, _ | 2, _ | 3, _ | 4, _ | 5, _ | 6, _ | 7, _ | 8, _ | 9, _ | 10, _ => simp [kws, go_sem]
  · rintro e w' ⟨rfl, rfl⟩
    go_wp2
    go_ret
    exact ⟨rfl, (Below.refl _ _).alloc (Nat.le_refl _) _⟩

set_option maxRecDepth 100000 in
set_option maxHeartbeats 400000 in
theorem name_a (w : World) :
    Calls Tryz.prog 25 #[.string ⟨#[97]⟩] w fun e w' => e = .returned (.bool true) ∧ Below w.heap.size w w' := by
  go_enter Tryz.func25, Tryz.ntmps25
  go_wp2
  refine wp_loop_rounds 2 ?_
  rw [rounds_succ]
  go_wp2_with (go_at_call 47; refine (letter_a _).mono ?_; rintro e w' ⟨rfl, rfl⟩)
  rw [rounds_succ]
  go_wp2_with (go_at_call 48; refine (keyword_any _ _).mono ?_; rintro e w' ⟨rfl, hb⟩)
  have hk : hasB kws ⟨#[97]⟩ = false := by decide +kernel
  rw [hk]
  go_wp2
  go_ret
  exact ⟨rfl, hb⟩

set_option maxRecDepth 100000 in
set_option maxHeartbeats 400000 in
theorem called_a (w : World) :
    Calls Tryz.prog 17 #[.string ⟨#[97]⟩] w fun e w' => e = .returned (.bool true) ∧ Below w.heap.size w w' := by
  go_enter Tryz.func17, Tryz.ntmps17
  go_wp2_with (go_at_call 25; refine (name_a _).mono ?_; rintro e w' ⟨rfl, hb⟩)
  go_ret
  exact ⟨rfl, hb⟩

set_option maxRecDepth 100000 in
set_option maxHeartbeats 400000 in
theorem find_nil (s : ByteArray) (w : World) :
    Calls Tryz.prog 18 #[.slice none 0 0, .string s] w fun e w' => e = .returned (.int .i64 (-1)) ∧ w' = w := by
  go_enter Tryz.func18, Tryz.ntmps18
  go_wp2
  go_rounds 1
  go_ret
  exact ⟨rfl, rfl⟩

set_option maxRecDepth 100000 in
set_option maxHeartbeats 400000 in
theorem count_nil (br : Nat) (w : World) (hF : w.cell? ⟨br, 0, none⟩ = some (.slice none 0 0)) :
    Calls Tryz.prog 19 #[.pointer (some ⟨br, 0, none⟩)] w fun e w' => e = .returned (.int .i64 0) ∧ w' = w := by
  go_enter Tryz.func19, Tryz.ntmps19
  go_wp2
  go_rounds 1
  go_ret
  exact ⟨rfl, rfl⟩

/-- The world has new blocks, and may have turned the blocks of S; nothing else. -/
structure Fr (S : List Nat) (w w' : World) : Prop where
  os : w'.os = w.os
  tape : w'.tape = w.tape
  output : w'.output = w.output
  size : w.heap.size ≤ w'.heap.size
  block : ∀ k, k < w.heap.size → k ∉ S → w'.heap[k]? = w.heap[k]?

theorem Fr.refl (S : List Nat) (w : World) : Fr S w w := ⟨rfl, rfl, rfl, Nat.le_refl _, fun _ _ _ => rfl⟩
theorem Fr.drew {S : List Nat} {a w : World} (h : Fr S a w) : Fr S a w.drew := ⟨h.os, h.tape, h.output, h.size, h.block⟩
theorem Fr.alloc {S : List Nat} {a w : World} (h : Fr S a w) (o : Obj) : Fr S a (w.alloc o) :=
  ⟨h.os, h.tape, h.output, by have := h.size; simp; omega, fun k hk hn => by
    rw [Below.heap_alloc _ _ _ (by have := h.size; omega)]; exact h.block k hk hn⟩
theorem Fr.setCell {S : List Nat} {a w : World} (h : Fr S a w) (p : Addr) (hp : p.block ∈ S ∨ a.heap.size ≤ p.block) (u : Value) : Fr S a (w.setCell p u) :=
  ⟨h.os, h.tape, h.output, by have := h.size; simpa [World.setCell] using this, fun k hk hn => by
    have hne : k ≠ p.block := by
      rintro rfl
      rcases hp with hp | hp
      · exact hn hp
      · omega
    rw [Below.heap_setCell _ _ _ _ hne]; exact h.block k hk hn⟩
theorem Fr.trans {S : List Nat} {a b c : World} (h : Fr S a b) (k : Fr S b c) : Fr S a c :=
  ⟨k.os.trans h.os, k.tape.trans h.tape, k.output.trans h.output, Nat.le_trans h.size k.size, fun i hi hn =>
    (k.block i (Nat.lt_of_lt_of_le hi h.size) hn).trans (h.block i hi hn)⟩
theorem Fr.trans_new {a b c : World} {p q : Nat} (h : Fr [p] a b) (k : Fr [p, q] b c) (hq : a.heap.size ≤ q) : Fr [p] a c :=
  ⟨k.os.trans h.os, k.tape.trans h.tape, k.output.trans h.output, Nat.le_trans h.size k.size, fun i hi hn =>
    (k.block i (Nat.lt_of_lt_of_le hi h.size) (by simp at hn ⊢; omega)).trans (h.block i hi hn)⟩
theorem Fr.mono {S T : List Nat} {w w' : World} (h : Fr S w w') (hs : ∀ k, k ∈ S → k ∈ T ∨ w.heap.size ≤ k) : Fr T w w' :=
  ⟨h.os, h.tape, h.output, h.size, fun k hk hn => h.block k hk fun e => by
    rcases hs k e with h1 | h1
    · exact hn h1
    · omega⟩
theorem Fr.of_below {S : List Nat} {w w' : World} (h : Below w.heap.size w w') : Fr S w w' :=
  ⟨h.os, h.tape, h.output, h.size, fun k hk _ => h.block k hk⟩
theorem Fr.cell {S : List Nat} {w w' : World} (h : Fr S w w') {p : Addr} (hp : p.block < w.heap.size) (hn : p.block ∉ S) : w'.cell? p = w.cell? p :=
  World.cell?_of_block (w := w) (h.block p.block hp hn)
theorem Fr.frozen {S : List Nat} {w w' : World} (h : Fr S w w') {p : Addr} (hp : p.block < w.heap.size) (hn : p.block ∉ S) : w'.frozen? p = w.frozen? p :=
  World.frozen?_of_block (w := w) (h.block p.block hp hn)

/-- The document's session at block br: no file as yet, or one of the name a; the revision r. -/
def RefS (w : World) (br : Nat) (st : Option (ByteArray × Nat × Nat)) (r : Int) : Prop :=
  (match st with
   | none => w.heap[br]? = some (.cells #[.slice none 0 0, .slice none 0 0, .int .i64 r, .int .i64 0, .slice none 0 0] 32)
   | some (t, bf, cap) => bf ≠ br ∧ w.heap[br]? = some (.cells #[.slice (some ⟨bf, 0, none⟩) 1 cap, .slice none 0 0, .int .i64 r, .int .i64 0, .slice none 0 0] 32) ∧
      ∃ rest, w.heap[bf]? = some (.cells (#[.string ⟨#[97]⟩, .string t, .bool true, .int .i64 r] ++ rest) 59))

theorem heap_cell {w : World} {b i : Nat} {cs : Array Value} {T : TypeId} {fr : Nat × Nat} (h : w.heap[b]? = some (.cells cs T fr)) : w.cell? ⟨b, i, none⟩ = cs[i]? := by
  simp [World.cell?, h]
theorem heap_frozen {w : World} {b i : Nat} {cs : Array Value} {T : TypeId} (h : w.heap[b]? = some (.cells cs T)) : w.frozen? ⟨b, i, none⟩ = false := by
  simp [World.frozen?, h]

theorem setCell_same {w : World} {b i : Nat} {v : Value} (h : w.cell? ⟨b, i, none⟩ = some v) : w.setCell ⟨b, i, none⟩ v = w := by
  unfold World.cell? at h
  have : (w.setCell ⟨b, i, none⟩ v).heap = w.heap := by
    apply Array.ext_getElem?
    intro k
    simp only [World.setCell, Array.getElem?_modify]
    split
    · next e =>
      subst e
      revert h
      cases hb : w.heap[b]? with
      | none => simp
      | some o =>
        cases o with
        | cells c T fr =>
          intro h
          simp at h
          simp
          apply Array.ext_getElem?
          intro j
          rw [Array.getElem?_setIfInBounds]
          split
          · next e => subst e; rw [h]; split <;> simp_all
          · rfl
        | _ => simp
    · rfl
  show ({ w with heap := (w.setCell ⟨b, i, none⟩ v).heap } : World) = w
  rw [this]

theorem heap_setCell_lit {w : World} {b i : Nat} {cs : Array Value} {T : TypeId} {fr : Nat × Nat} (h : w.heap[b]? = some (.cells cs T fr)) (v : Value) :
    (w.setCell ⟨b, i, none⟩ v).heap[b]? = some (.cells (cs.setIfInBounds i v) T fr) := by
  simp [World.setCell, Array.getElem?_modify, h]

theorem heap_setCell_ne {w : World} {b k i : Nat} (h : k ≠ b) (v : Value) : (w.setCell ⟨b, i, none⟩ v).heap[k]? = w.heap[k]? := Below.heap_setCell _ _ _ _ h

theorem heap_lt {w : World} {b : Nat} {o : Obj} (h : w.heap[b]? = some o) : b < w.heap.size := (Array.getElem?_eq_some_iff.1 h).1

theorem below_heap {w w' : World} (hb : Below w.heap.size w w') {b : Nat} {o : Obj} (h : w.heap[b]? = some o) : w'.heap[b]? = some o := by
  rw [hb.block b (heap_lt h)]; exact h

def rBlk (F : Value) (r : Int) : Obj := .cells #[F, .slice none 0 0, .int .i64 r, .int .i64 0, .slice none 0 0] 32

structure RC (w : World) (br : Nat) (F : Value) (r : Int) : Prop where
  c0 : w.cell? ⟨br, 0, none⟩ = some F
  c1 : w.cell? ⟨br, 1, none⟩ = some (.slice none 0 0)
  c2 : w.cell? ⟨br, 2, none⟩ = some (.int .i64 r)
  c3 : w.cell? ⟨br, 3, none⟩ = some (.int .i64 0)
  c4 : w.cell? ⟨br, 4, none⟩ = some (.slice none 0 0)
  f : ∀ i, w.frozen? ⟨br, i, none⟩ = false

theorem rc_of {w : World} {br : Nat} {F : Value} {r : Int} (h : w.heap[br]? = some (rBlk F r)) : RC w br F r :=
  ⟨heap_cell h, heap_cell h, heap_cell h, heap_cell h, heap_cell h, fun _ => heap_frozen h⟩

def fBlk (t : ByteArray) (r : Int) (rest : Array Value) : Obj := .cells (#[.string ⟨#[97]⟩, .string t, .bool true, .int .i64 r] ++ rest) 59

theorem four_set (x0 x1 x2 x3 : Value) (rest : Array Value) (a b c d : Value) :
    ((((#[x0, x1, x2, x3] ++ rest).setIfInBounds 0 a).setIfInBounds 1 b).setIfInBounds 2 c).setIfInBounds 3 d = #[a, b, c, d] ++ rest := by
  obtain ⟨l⟩ := rest
  simp

theorem four_cut {cur : Array Value} {x0 x1 x2 x3 : Value} (h : cur.toList.take 4 = [x0, x1, x2, x3]) : ∃ rest, cur = #[x0, x1, x2, x3] ++ rest := by
  obtain ⟨l⟩ := cur
  refine ⟨⟨l.drop 4⟩, ?_⟩
  simp only at h
  have := List.take_append_drop 4 l
  rw [h] at this
  rw [← this]
  simp

theorem drew_heap (w : World) : w.drew.heap = w.heap := rfl

/-- The world behind a text that is set, the file being there. -/
theorem set_world {w : World} {br bf : Nat} {F : Value} {r : Int} {x0 x1 x2 x3 : Value} {rest : Array Value} (hne : bf ≠ br) (h1 : w.heap[br]? = some (rBlk F r)) (h2 : w.heap[bf]? = some (.cells (#[x0, x1, x2, x3] ++ rest) 59)) (t : ByteArray) (q : Int) :
    (((((w.setCell ⟨br, 2, none⟩ (.int .i64 q)).setCell ⟨bf, 0, none⟩ (.string ⟨#[97]⟩)).setCell ⟨bf, 1, none⟩ (.string t)).setCell ⟨bf, 2, none⟩ (.bool true)).setCell ⟨bf, 3, none⟩ (.int .i64 q)).drew.heap[br]? = some (rBlk F q) ∧
    (((((w.setCell ⟨br, 2, none⟩ (.int .i64 q)).setCell ⟨bf, 0, none⟩ (.string ⟨#[97]⟩)).setCell ⟨bf, 1, none⟩ (.string t)).setCell ⟨bf, 2, none⟩ (.bool true)).setCell ⟨bf, 3, none⟩ (.int .i64 q)).drew.heap[bf]? = some (fBlk t q rest) ∧
    Fr [br, bf] w (((((w.setCell ⟨br, 2, none⟩ (.int .i64 q)).setCell ⟨bf, 0, none⟩ (.string ⟨#[97]⟩)).setCell ⟨bf, 1, none⟩ (.string t)).setCell ⟨bf, 2, none⟩ (.bool true)).setCell ⟨bf, 3, none⟩ (.int .i64 q)).drew := by
  have a0 : (w.setCell ⟨br, 2, none⟩ (.int .i64 q)).heap[bf]? = some (.cells (#[x0, x1, x2, x3] ++ rest) 59) := (heap_setCell_ne hne _).trans h2
  have a1 := heap_setCell_lit (i := 0) a0 (.string ⟨#[97]⟩)
  have a2 := heap_setCell_lit (i := 1) a1 (.string t)
  have a3 := heap_setCell_lit (i := 2) a2 (.bool true)
  have a4 := heap_setCell_lit (i := 3) a3 (.int .i64 q)
  have b0 : (w.setCell ⟨br, 2, none⟩ (.int .i64 q)).heap[br]? = some (rBlk F q) := heap_setCell_lit (i := 2) h1 _
  refine ⟨?_, ?_, ?_⟩
  · rw [drew_heap, heap_setCell_ne hne.symm, heap_setCell_ne hne.symm, heap_setCell_ne hne.symm, heap_setCell_ne hne.symm]
    exact b0
  · rw [drew_heap, a4, four_set, fBlk]
  · exact Fr.drew ((((((Fr.refl _ _).setCell _ (.inl (by simp)) _).setCell _ (.inl (by simp)) _).setCell _ (.inl (by simp)) _).setCell _ (.inl (by simp)) _).setCell _ (.inl (by simp)) _)

set_option maxRecDepth 100000 in
set_option maxHeartbeats 400000 in
theorem rset_long (t : ByteArray) (br : Nat) (w : World) (F : Value) (r : Int) (hl : 400 < t.size) (hm : t.size ≤ maxLen) (h : w.heap[br]? = some (rBlk F r)) :
    Calls Tryz.prog 8 #[.pointer (some ⟨br, 0, none⟩), .string ⟨#[97]⟩, .string t] w fun e w' => e = .returned (.int .i64 2) ∧ Below w.heap.size w w' := by
  unfold maxLen at hm
  obtain ⟨c0, c1, c2, c3, c4, f⟩ := rc_of h
  have hs := setCell_same c4
  have f4 := f 4
  clear c0 c1 c2 c3 f h
  go_enter Tryz.func8, Tryz.ntmps8
  go_wp2_with (go_at_call 17; refine (called_a _).mono ?_; rintro e w' ⟨rfl, hb⟩)
  go_ret
  exact ⟨rfl, hb⟩

theorem info50x : (Tryz.prog.info? 59).map (fun i => (i.zero, i.size, i.bytes)) = some (some (.agg #[.string ⟨#[]⟩, .string ⟨#[]⟩, .bool false, .int .i64 0]), 4, 48) := by kernel_rfl

theorem cell_take {w : World} {g n i : Nat} {cur : Array Value} {xs : List Value} {T : TypeId} (hg : w.heap[g]? = some (.cells cur T)) (h : cur.toList.take n = xs) (hi : i < n) (v : Value) (hv : xs[i]? = some v) : w.cell? ⟨g, i, none⟩ = some v := by
  rw [heap_cell hg, ← hv, ← h, List.getElem?_take, if_pos hi]; simp

set_option maxRecDepth 100000 in
set_option maxHeartbeats 400000 in
theorem rset_first (t : ByteArray) (br : Nat) (w : World) (hl : t.size ≤ 400) (h : w.heap[br]? = some (rBlk (.slice none 0 0) 0)) :
    Calls Tryz.prog 8 #[.pointer (some ⟨br, 0, none⟩), .string ⟨#[97]⟩, .string t] w fun e w' => e = .returned (.int .i64 0) ∧
      ∃ bf cap, w.heap.size ≤ bf ∧ RefS w' br (some (t, bf, cap)) 1 ∧ Fr [br] w w' := by
  obtain ⟨i0, hi, hz0, hz1, hz2⟩ := info_parts info50x
  obtain ⟨c0, c1, c2, c3, c4, f⟩ := rc_of h
  have hs := setCell_same c4
  have f4 := f 4
  clear c0 c1 c2 c3 f
  have hH : Hid (w.heap[br]? = some (rBlk (.slice none 0 0) 0)) := h
  clear h
  go_enter Tryz.func8, Tryz.ntmps8
  go_wp2_with (first
    | (go_at_call 17; refine (called_a _).mono ?_; rintro e w' ⟨rfl, hb⟩; have h1 := below_heap hb hH.out; clear f4 hs c4; obtain ⟨c0, c1, c2, c3, c4, f⟩ := rc_of h1; have f0 := f 0; have f2 := f 2; have f4 := f 4; clear f h1)
    | (go_at_call 18; refine (find_nil _ _).mono ?_; rintro e w' ⟨rfl, rfl⟩)
    | (go_at_call 19; refine (count_nil _ _ c0).mono ?_; rintro e w' ⟨rfl, rfl⟩)
    | (at_builtin; refine wpList_append_own_at _ rfl _ _ 29 rfl 0 59 i0 (.agg #[.string ⟨#[]⟩, .string ⟨#[]⟩, .bool false, .int .i64 0]) 4 48 Tryz.underlying29 hi hz0 hz1 hz2 rfl (by decide) _ _ _ rfl (World.ownsRow_nil _ _ _ _) ⟨w'.heap.size, 0, none⟩ 1 1 [.string ⟨#[97]⟩, .string ⟨#[]⟩, .bool false, .int .i64 0] rfl rfl ?c1 ?c2 ?c3 ?c4 ?c5 ?_))
  case c1 =>
    intro j u hj
    match j, hj with
    | 0, hj | 1, hj | 2, hj | 3, hj => simp at hj; subst hj; simp [Addr.add]
    | (n + 4), hj => simp at hj
  case c2 => intro u hu; simp at hu; rcases hu with rfl | rfl | rfl | rfl <;> rfl
  case c3 => unfold maxLen; omega
  case c4 => omega
  case c5 => omega
  · intro v' w2 hown hgrow hnil hloc
    rcases hown.2 with ⟨hv, h0⟩ | ⟨g, cap, cur, rfl, _, hg, hcap, _, hsz, htk⟩
    · cases h0
    have hgs : g = w'.heap.size + 1 := by
      rcases hloc with hloc | hloc <;> simp [Value.ownBlock] at hloc; exact hloc
    have hbr : br < w'.heap.size := heap_lt (below_heap hb hH.out)
    have h2 : w2.heap[br]? = some (rBlk (.slice none 0 0) 0) := by
      rw [hgrow.block br (by simp; omega) (by simp [Value.ownBlock]), Below.heap_alloc _ _ _ (by omega)]
      exact below_heap hb hH.out
    have hne : br ≠ g := by omega
    obtain ⟨d0, d1, d2, d3, d4, e⟩ := rc_of h2
    have e0 := e 0
    have e2 := e 2
    clear e c0 c1 c2 c3 c4 f0 f2 f4 hi hz0 hz1 hz2 hnil hloc
    have k0 : w2.cell? ⟨g, 0, none⟩ = some (.string ⟨#[97]⟩) := cell_take hg htk (by omega) _ rfl
    have k1 : w2.cell? ⟨g, 1, none⟩ = some (.string ⟨#[]⟩) := cell_take hg htk (by omega) _ rfl
    have k2 : w2.cell? ⟨g, 2, none⟩ = some (.bool false) := cell_take hg htk (by omega) _ rfl
    have k3 : w2.cell? ⟨g, 3, none⟩ = some (.int .i64 0) := cell_take hg htk (by omega) _ rfl
    have kf : ∀ i, w2.frozen? ⟨g, i, none⟩ = false := fun i => heap_frozen hg
    have kf0 := kf 0
    have kf1 := kf 1
    have kf2 := kf 2
    have kf3 := kf 3
    clear kf
    have HG : Hid (w2.heap[g]? = some (.cells cur 59)) := hg
    have HT : Hid (List.take (1 * 4) cur.toList = [.string ⟨#[97]⟩, .string ⟨#[]⟩, .bool false, .int .i64 0]) := htk
    have H2 : Hid (w2.heap[br]? = some (rBlk (.slice none 0 0) 0)) := h2
    have HGS : Hid (g = w'.heap.size + 1) := hgs
    have HW : Hid (∀ t : ByteArray, w.heap.size ≤ g ∧ RefS ((((((w2.setCell ⟨br, 0, none⟩ (.slice (some ⟨g, 0, none⟩) 1 cap)).setCell ⟨br, 2, none⟩ (.int .i64 1)).setCell ⟨g, 0, none⟩ (.string ⟨#[97]⟩)).setCell ⟨g, 1, none⟩ (.string t)).setCell ⟨g, 2, none⟩ (.bool true)).setCell ⟨g, 3, none⟩ (.int .i64 1)).drew br (some (t, g, cap)) 1 ∧
        Fr [br] w ((((((w2.setCell ⟨br, 0, none⟩ (.slice (some ⟨g, 0, none⟩) 1 cap)).setCell ⟨br, 2, none⟩ (.int .i64 1)).setCell ⟨g, 0, none⟩ (.string ⟨#[97]⟩)).setCell ⟨g, 1, none⟩ (.string t)).setCell ⟨g, 2, none⟩ (.bool true)).setCell ⟨g, 3, none⟩ (.int .i64 1)).drew) := fun t => by
      have hsz1 : w.heap.size ≤ g := by have := hb.size; omega
      have h12 : Fr [br] w w2 := (Fr.of_below hb).trans (((Fr.refl _ _).alloc _).trans ⟨hgrow.os, hgrow.tape, hgrow.output, hgrow.size, fun k hk _ => hgrow.block k hk (by simp [Value.ownBlock])⟩)
      obtain ⟨rest, rfl⟩ := four_cut (by simpa using htk)
      obtain ⟨s1, s2, s3⟩ := set_world hne.symm (heap_setCell_lit (i := 0) h2 (.slice (some ⟨g, 0, none⟩) 1 cap)) (by rw [heap_setCell_ne hne.symm]; exact hg) t 1
      refine ⟨hsz1, ⟨hne.symm, s1, rest, s2⟩, ?_⟩
      exact (h12.setCell _ (.inl (by simp)) _).trans_new s3 hsz1
    clear hg htk h2 hown hgs
    go_wp2
    go_region
    go_wp2
    go_ret
    exact ⟨rfl, g, cap, HW.out t⟩

structure FC (w : World) (bf : Nat) (t : ByteArray) (r : Int) : Prop where
  k0 : w.cell? ⟨bf, 0, none⟩ = some (.string ⟨#[97]⟩)
  k1 : w.cell? ⟨bf, 1, none⟩ = some (.string t)
  k2 : w.cell? ⟨bf, 2, none⟩ = some (.bool true)
  k3 : w.cell? ⟨bf, 3, none⟩ = some (.int .i64 r)
  f : ∀ i, w.frozen? ⟨bf, i, none⟩ = false
theorem fc_of {w : World} {bf : Nat} {t : ByteArray} {r : Int} {rest : Array Value} (h : w.heap[bf]? = some (fBlk t r rest)) : FC w bf t r :=
  ⟨by rw [heap_cell h, Array.getElem?_append_left (by simp)]; rfl, by rw [heap_cell h, Array.getElem?_append_left (by simp)]; rfl, by rw [heap_cell h, Array.getElem?_append_left (by simp)]; rfl, by rw [heap_cell h, Array.getElem?_append_left (by simp)]; rfl, fun _ => heap_frozen h⟩

end Go.Proofs.YtfekglokoafpiaaGreatDoor.Ses
