/-
  
  The work of Tree.
  
  
  The work of Exports.
-/
import Derived.Test.YtfekglokoafpiaaGreatDoorQ25

set_option linter.unusedVariables false
set_option linter.unusedSimpArgs false

namespace Go.Proofs.YtfekglokoafpiaaGreatDoor
open Go.RowKit

/-- The blocks of trees stay. -/
def KeepT (W w' : World) : Prop := ∀ (b : Nat) cs, W.heap[b]? = some (.cells cs 86) → w'.heap[b]? = some (.cells cs 86)

/-- Blocks of trees alone change, none below N. -/
structure TreeF (N : Nat) (w w' : World) : Prop where
  os : w'.os = w.os
  tape : w'.tape = w.tape
  output : w'.output = w.output
  size : w.heap.size ≤ w'.heap.size
  block : ∀ b, b < w.heap.size → (b < N ∨ ∀ cs, w.heap[b]? ≠ some (.cells cs 86)) → w'.heap[b]? = w.heap[b]?

theorem TreeF.set {N : Nat} {w : World} {b : Nat} {cs : Array Value} (h : w.heap[b]? = some (.cells cs 86)) (hN : N ≤ b) (i : Nat) (v : Value) : TreeF N w (w.setCell ⟨b, i, none⟩ v) :=
  ⟨rfl, rfl, rfl, by simp, fun q _ hn => by
    have hq : q ≠ b := fun e => by
      rcases hn with hn | hn
      · omega
      · exact hn cs (by rw [e]; exact h)
    exact heap_setCell_ne hq v⟩
theorem TreeF.below {N : Nat} {w w' : World} (h : Below w.heap.size w w') : TreeF N w w' := ⟨h.os, h.tape, h.output, h.size, fun b hb _ => h.block b hb⟩

theorem WK.tset {W w' : World} {bs B p lb k : Nat} {TT : TypeId} {rest : List Value} {f q sm : Value} {rv us : Int} {bg kv lk : Value} {l : List (TypeId × Nat)} {ul : List Int} (h : WK W w' bs B p lb k TT rest f q sm rv us bg kv lk l ul) {vb : Nat} {xs : List Value} (hv : SB w' vb 86 xs) (h1 : bs ≠ vb) (h2 : p ≠ vb) (h3 : lb ≠ vb) (i : Nat) (hi : i ≠ 11) (v : Value) : WK W (w'.setCell ⟨vb, i, none⟩ v) bs B p lb k TT rest f q sm rv us bg kv lk l ul :=
  ⟨h.es.other i v h1 (hv.row h.es.own (by decide)) (.inl hi), h.sb.other h2 i v, (heap_setCell_ne h3 v).trans h.lb, h.lk, by simpa using h.size⟩
theorem WK.below {W w' w2 : World} {bs B p lb k : Nat} {TT : TypeId} {rest : List Value} {f q sm : Value} {rv us : Int} {bg kv lk : Value} {l : List (TypeId × Nat)} {ul : List Int} (h : WK W w' bs B p lb k TT rest f q sm rv us bg kv lk l ul) (hb : Below w'.heap.size w' w2) : WK W w2 bs B p lb k TT rest f q sm rv us bg kv lk l ul :=
  ⟨h.es.below hb, h.sb.below hb, below_heap hb (heap_lt h.lb) h.lb, h.lk, Nat.le_trans h.size hb.size⟩

theorem finA {PX : World → (Option Addr × Nat × Nat × Int) → World → Prop} {w W w8 : World} {bs B p lb k : Nat} {TT : TypeId} {rest : List Value} {f q sm : Value} {rv us : Int} {bg kv lk : Value} {l : List (TypeId × Nat)} {ul : List Int} {x : Option Addr × Nat × Nat × Int} (hPX : ∀ W x w8 w9, PX W x w8 → TreeF w.heap.size w8 w9 → PX W x w9) (h' : Hid (Ses.Fr [bs] w W ∧ WK W w8 bs B p lb k TT rest f q sm rv us bg kv lk l ul ∧ PX W x w8)) :
    ∃ W lk, Ses.Fr [bs] w W ∧ WK W (w8.alloc (.cells #[.slice x.1 x.2.1 x.2.2.1, .int .i64 x.2.2.2] 86)) bs B p lb k TT rest f q sm rv us bg kv lk l ul ∧ PX W x (w8.alloc (.cells #[.slice x.1 x.2.1 x.2.2.1, .int .i64 x.2.2.2] 86)) ∧ SB (w8.alloc (.cells #[.slice x.1 x.2.1 x.2.2.1, .int .i64 x.2.2.2] 86)) w8.heap.size 86 [.slice x.1 x.2.1 x.2.2.1, .int .i64 x.2.2.2] :=
  have h := h'.out
  ⟨W, lk, h.1, h.2.1.below (below_newE _ _), hPX _ _ _ _ h.2.2 (TreeF.below (below_newE _ _)), new_heap _ _⟩
theorem finB {PX : World → (Option Addr × Nat × Nat × Int) → World → Prop} {w W w8 : World} {bs B p lb k : Nat} {TT : TypeId} {rest : List Value} {f q sm : Value} {rv us : Int} {bg kv lk : Value} {l : List (TypeId × Nat)} {ul : List Int} {x : Option Addr × Nat × Nat × Int} (hPX : ∀ W x w8 w9, PX W x w8 → TreeF w.heap.size w8 w9 → PX W x w9) (h : Ses.Fr [bs] w W ∧ WK W w8 bs B p lb k TT rest f q sm rv us bg kv lk l ul ∧ PX W x w8) {vb : Nat} (hv : SB w8 vb 86 [.slice none 0 0, .int .i64 0]) (h1 : bs ≠ vb) (h2 : p ≠ vb) (h3 : lb ≠ vb) (h4 : w.heap.size ≤ vb) :
    ∃ W lk, Ses.Fr [bs] w W ∧ WK W ((w8.setCell ⟨vb, 0, none⟩ (.slice x.1 x.2.1 x.2.2.1)).setCell ⟨vb, 1, none⟩ (.int .i64 x.2.2.2)) bs B p lb k TT rest f q sm rv us bg kv lk l ul ∧ PX W x ((w8.setCell ⟨vb, 0, none⟩ (.slice x.1 x.2.1 x.2.2.1)).setCell ⟨vb, 1, none⟩ (.int .i64 x.2.2.2)) ∧ SB ((w8.setCell ⟨vb, 0, none⟩ (.slice x.1 x.2.1 x.2.2.1)).setCell ⟨vb, 1, none⟩ (.int .i64 x.2.2.2)) vb 86 [.slice x.1 x.2.1 x.2.2.1, .int .i64 x.2.2.2] := by
  have hv1 := hv.set 0 (.slice x.1 x.2.1 x.2.2.1)
  have hv2 := hv1.set 1 (.int .i64 x.2.2.2)
  exact ⟨W, lk, h.1, (h.2.1.tset hv h1 h2 h3 0 (by decide) _).tset hv1 h1 h2 h3 1 (by decide) _, hPX _ _ _ _ (hPX _ _ _ _ h.2.2 (TreeF.set hv h4 0 _)) (TreeF.set hv1 h4 1 _), hv2⟩

set_option maxRecDepth 100000 in
set_option maxHeartbeats 4000000 in
theorem workOutR {w : World} {bs B : Nat} {f q sm : Value} {rv us : Int} {kv : Value} {l : List (TypeId × Nat)} {ul : List Int} (h : ES w bs B f q sm rv us (.slice none 0 0) kv l ul) (hB : B ≤ w.heap.size) (hm : l.length ≤ 3) {p : Nat} {sam lo lo2 va va2 : Value} (hs : SB w p 179 (newL bs 3 [.func (.func 68) #[.pointer (some ⟨bs, 0, none⟩)] #[], sam, lo, lo2, va, va2])) (hpB : B ≤ p) (hpn : ∀ (i : Nat) T' p', l[i]? = some (T', p') → p' ≠ p)
    (hva : (∃ a m c, va = .slice a m c) ∧ ∃ z, va2 = .int .i64 z) (q' : Value) (us' : Int) (ul' : List Int) (hus : 0 ≤ us') (hus2 : us' ≤ 1000) (PX : World → (Option Addr × Nat × Nat × Int) → World → Prop)
    (HW : ∀ (W : World) (bg : Value) (lb : Nat), ES W bs B f q sm rv us bg kv l ul → SB W p 179 (newL bs 3 [.func (.func 68) #[.pointer (some ⟨bs, 0, none⟩)] #[], sam, lo, lo2, va, va2]) → W.heap[lb]? = some (.cells #[.pointer (some ⟨bs, 1, none⟩), .slice none 0 0] 105) → w.heap.size ≤ lb → Ses.Fr [bs] w W → Calls Tryz.prog 68 #[.pointer (some ⟨bs, 0, none⟩), .pointer (some ⟨lb, 0, none⟩), keyV 3] W fun e w' => ∃ x lk, e = .returned (.agg #[.slice x.1 x.2.1 x.2.2.1, .int .i64 x.2.2.2]) ∧ WK W w' bs B p lb 3 179 [.func (.func 68) #[.pointer (some ⟨bs, 0, none⟩)] #[], sam, lo, lo2, va, va2] f q' sm rv us' bg kv lk l ul' ∧ PX W x w' ∧ KeepT W w')
    (hPX : ∀ W x w8 w9, PX W x w8 → TreeF w.heap.size w8 w9 → PX W x w9) :
    Calls Tryz.prog 284 #[.pointer (some ⟨p, 0, none⟩)] w fun e w' => e = .returned (.tuple #[]) ∧ ∃ W w2 x bg lk, Ses.Fr [bs] w W ∧ W.heap.size ≤ w2.heap.size ∧ PX W x w2 ∧ AN w2 w' bs B p 3 179 lk [.func (.func 68) #[.pointer (some ⟨bs, 0, none⟩)] #[], sam, lo, lo2, .slice x.1 x.2.1 x.2.2.1, .int .i64 x.2.2.2] f q' sm rv us' bg kv l ul' 176 := by
  have hbs : bs < B := h.lt
  have hne : bs ≠ p := by omega
  have hpg := hs.row h.own (by decide)
  have c4 : w.cell? ⟨bs, 4, none⟩ = some (.slice none 0 0) := heap_cell (i := 4) h.s
  have g4 : w.frozen? ⟨bs, 4, none⟩ = false := heap_frozen h.s
  have d0 := hs.cell (i := 0) rfl
  have d1 := hs.cell (i := 1) rfl
  have d2 := hs.cell (i := 2) rfl
  have d3 := hs.cell (i := 3) rfl
  have hsc2 : ∀ o, (w.alloc o).drew.cell? ⟨bs, 4, none⟩ = some (.slice none 0 0) := fun o => cell_kept (w' := w.alloc o) (below_new w o) c4
  have hsf2 : ∀ o, (w.alloc o).drew.frozen? ⟨bs, 4, none⟩ = false := fun o => heap_frozen (old_heap o h.s)
  have hsc3 : ∀ o, (w.alloc o).drew.cell? ⟨p, 0, none⟩ = some (.pointer (some ⟨bs, 1, none⟩)) := fun o => cell_kept (w' := w.alloc o) (below_new w o) d0
  have hsc4 : ∀ o, (w.alloc o).cell? ⟨p, 0, none⟩ = some (.pointer (some ⟨bs, 1, none⟩)) := fun o => cell_kept (w' := w.alloc o) (below_new w o) d0
  have hsc5 : ∀ o, (w.alloc o).cell? ⟨bs, 4, none⟩ = some (.slice none 0 0) := fun o => cell_kept (w' := w.alloc o) (below_new w o) c4
  obtain ⟨i0, hi0, hz0, hz1, hz2⟩ := info_parts infoKeyE
  have hnews : ∀ (j : Nat) u, ([.int .i64 3, .string ⟨#[97]⟩, .string ⟨#[]⟩] : List Value)[j]? = some u → ((w.alloc (.cells #[.int .i64 3, .string ⟨#[97]⟩, .string ⟨#[]⟩] 107)).drew).cell? ((⟨w.heap.size, 0, none⟩ : Addr).add j) = some u := World.news_of_block (w := (w.alloc (.cells #[.int .i64 3, .string ⟨#[97]⟩, .string ⟨#[]⟩] 107)).drew) (cs := #[.int .i64 3, .string ⟨#[97]⟩, .string ⟨#[]⟩]) (heap_alloc_new w _)
  have h1c : ∀ u ∈ ([.int .i64 3, .string ⟨#[97]⟩, .string ⟨#[]⟩] : List Value), u.oneCell' = true := by simp [Value.oneCell']
  have hbl : bs < w.heap.size := heap_lt h.s
  have hpl : p < w.heap.size := hs.lt
  have HS := hid hs
  have HE := hid h
  have HPG := hid hpg
  have HN := hid hne
  have HBB := hid hB
  have HM := hid hm
  have HPN := hid hpn
  have HWW := hid HW
  have HVA := hid hva
  clear h hs hpg hne HW hva
  go_enter Tryz.func284, Tryz.ntmps284
  go_wp2_with fail
  apply share (F := fun (_ _ : Nat) (w5 : World) => Ses.Fr [] w w5)
  case main =>
    intro KEY
    go_region_law? (refine wp_append_lies _ _ _ 44 rfl B 107 i0 _ 3 40 Tryz.underlying44 hi0 hz0 hz1 hz2 (by decide) (by decide) (.slice none 0 0) 0 [] (by rfl) (World.ownsRow_nil _ _ _ _) ⟨w.heap.size, 0, none⟩ 1 1 [.int .i64 3, .string ⟨#[97]⟩, .string ⟨#[]⟩] (by rfl) (by rfl) hnews h1c (by omega) (by unfold maxLen; omega) (by omega) (by simp; omega) (w.heap.size + 1) (by simp) ?_; intro g' c' w5 hown' hgrow hat hlt; have hc5 := (hgrow.cell_far ⟨bs, 4, none⟩ (by simp; omega) (by simp [Value.ownBlock])).trans (hsc2 _); have hf5 := (hgrow.frozen_far ⟨bs, 4, none⟩ (by simp; omega) (by simp [Value.ownBlock])).trans (hsf2 _); have hp5 := (hgrow.cell_far ⟨p, 0, none⟩ (by simp; omega) (by simp [Value.ownBlock])).trans (hsc3 _))
    all_goals
      have HF5 := fr_grown (((Ses.Fr.refl [] w).alloc _).drew) hgrow rfl
      exact KEY g' c' w5 HF5
  case key =>
    intro g' c' w5 hf5
    have ld : p < w.heap.size := hpl
    have HS5 := hid (HS.out.fr' hf5 (by simp))
    have HE5 := hid (HE.out.fr hf5 (by simp) (fun g hg => by simp) (fun i T p hi => by simp))
    have HE6 := hid (HE5.out.setS 4 (.slice (some ⟨g', 0, none⟩) 1 c') rfl (Int.le_refl _))
    have HS6 := hid (HS5.out.other (b := bs) (Ne.symm HN.out) 4 (.slice (some ⟨g', 0, none⟩) 1 c'))
    have HF6 := hid ((hf5.mono (T := [bs]) (fun k hk => .inl (by simp at hk))).setCell ⟨bs, 4, none⟩ (.inl (by simp)) (.slice (some ⟨g', 0, none⟩) 1 c'))
    generalize w5.setCell ⟨bs, 4, none⟩ (.slice (some ⟨g', 0, none⟩) 1 c') = w6 at HE6 HS6 HF6 ⊢
    have e0 := HS6.out.cell (i := 0) rfl
    clear hsc2 hsf2 hsc3 hsc4 hsc5 hnews h1c hi0 hz0 hz1 hz2 c4 g4 d0 d1 d2 d3
    go_wp2_with fail
    refine (newLooks bs w6).mono ?_
    rintro e w7 ⟨rfl, rfl⟩
    have HL7 := hid (new_heap w6 (.cells #[.pointer (some ⟨bs, 1, none⟩), .slice none 0 0] 105))
    have HE7 := hid (HE6.out.below (below_newE w6 (.cells #[.pointer (some ⟨bs, 1, none⟩), .slice none 0 0] 105)))
    have HS7 := hid (HS6.out.below (below_newE w6 (.cells #[.pointer (some ⟨bs, 1, none⟩), .slice none 0 0] 105)))
    have HF7 := hid (HF6.out.alloc (.cells #[.pointer (some ⟨bs, 1, none⟩), .slice none 0 0] 105))
    have HLB := hid (show w.heap.size ≤ w6.heap.size from HF6.out.size)
    generalize w6.alloc (.cells #[.pointer (some ⟨bs, 1, none⟩), .slice none 0 0] 105) = w7 at HL7 HE7 HS7 HF7 ⊢
    generalize w6.heap.size = lb at HL7 HLB ⊢
    have HLV := hid (show lb ≠ w7.heap.size from Nat.ne_of_lt (heap_lt HL7.out))
    have HNV := hid (show w.heap.size ≤ w7.heap.size from HF7.out.size)
    have HPV := hid (show p ≠ w7.heap.size from Nat.ne_of_lt HS7.out.lt)
    have HBV := hid (show bs ≠ w7.heap.size from Nat.ne_of_lt (heap_lt HE7.out.s))
    have y0 := HS7.out.cell (i := 0) rfl
    have y1 := HS7.out.cell (i := 1) rfl
    have y2 := HS7.out.cell (i := 2) rfl
    have y3 := HS7.out.cell (i := 3) rfl
    have y12 := HS7.out.cell (i := 12) rfl
    have ya1 : ∀ o, (w7.alloc o).cell? ⟨p, 1, none⟩ = some (.int .i64 (3 : Nat)) := fun o => (HS7.out.below (below_newE w7 o)).cell (i := 1) rfl
    have yb1 : ∀ o, (w7.alloc o).drew.cell? ⟨p, 1, none⟩ = some (.int .i64 (3 : Nat)) := fun o => (HS7.out.below (below_newE w7 o)).cell (i := 1) rfl
    have yc1 : ∀ o, (w7.drew.alloc o).cell? ⟨p, 1, none⟩ = some (.int .i64 (3 : Nat)) := fun o => (HS7.out.below (below_seq (below_drew w7) (below_newE w7.drew o))).cell (i := 1) rfl
    have ya2 : ∀ o, (w7.alloc o).cell? ⟨p, 2, none⟩ = some (.string ⟨#[97]⟩) := fun o => (HS7.out.below (below_newE w7 o)).cell (i := 2) rfl
    have yb2 : ∀ o, (w7.alloc o).drew.cell? ⟨p, 2, none⟩ = some (.string ⟨#[97]⟩) := fun o => (HS7.out.below (below_newE w7 o)).cell (i := 2) rfl
    have yc2 : ∀ o, (w7.drew.alloc o).cell? ⟨p, 2, none⟩ = some (.string ⟨#[97]⟩) := fun o => (HS7.out.below (below_seq (below_drew w7) (below_newE w7.drew o))).cell (i := 2) rfl
    have ya3 : ∀ o, (w7.alloc o).cell? ⟨p, 3, none⟩ = some (.string ⟨#[]⟩) := fun o => (HS7.out.below (below_newE w7 o)).cell (i := 3) rfl
    have yb3 : ∀ o, (w7.alloc o).drew.cell? ⟨p, 3, none⟩ = some (.string ⟨#[]⟩) := fun o => (HS7.out.below (below_newE w7 o)).cell (i := 3) rfl
    have yc3 : ∀ o, (w7.drew.alloc o).cell? ⟨p, 3, none⟩ = some (.string ⟨#[]⟩) := fun o => (HS7.out.below (below_seq (below_drew w7) (below_newE w7.drew o))).cell (i := 3) rfl
    have ya12 : ∀ o, (w7.alloc o).cell? ⟨p, 12, none⟩ = some (.func (.func 68) #[.pointer (some ⟨bs, 0, none⟩)] #[]) := fun o => (HS7.out.below (below_newE w7 o)).cell (i := 12) rfl
    have yb12 : ∀ o, (w7.alloc o).drew.cell? ⟨p, 12, none⟩ = some (.func (.func 68) #[.pointer (some ⟨bs, 0, none⟩)] #[]) := fun o => (HS7.out.below (below_newE w7 o)).cell (i := 12) rfl
    have yc12 : ∀ o, (w7.drew.alloc o).cell? ⟨p, 12, none⟩ = some (.func (.func 68) #[.pointer (some ⟨bs, 0, none⟩)] #[]) := fun o => (HS7.out.below (below_seq (below_drew w7) (below_newE w7.drew o))).cell (i := 12) rfl
    go_wp2_with fail
    have HX : Hid (∀ (W : World), Below w7.heap.size w7 W → Calls Tryz.prog 68 #[.pointer (some ⟨bs, 0, none⟩), .pointer (some ⟨lb, 0, none⟩), keyV 3] W fun e w8 => ∃ x lk, e = .returned (.agg #[.slice x.1 x.2.1 x.2.2.1, .int .i64 x.2.2.2]) ∧ (Ses.Fr [bs] w W ∧ WK W w8 bs B p lb 3 179 [.func (.func 68) #[.pointer (some ⟨bs, 0, none⟩)] #[], sam, lo, lo2, va, va2] f q' sm rv us' (.slice (some ⟨g', 0, none⟩) 1 c') kv lk l ul' ∧ PX W x w8) ∧ KeepT W w8) := hid (fun W hb => (HWW.out W (.slice (some ⟨g', 0, none⟩) 1 c') lb (HE7.out.below hb) (HS7.out.below hb) (below_heap hb (heap_lt HL7.out) HL7.out) HLB.out (HF7.out.trans (Ses.Fr.of_below hb))).mono (by
      rintro e w8 ⟨x, lk, he, h1, h2, h3⟩
      exact ⟨x, lk, he, ⟨HF7.out.trans (Ses.Fr.of_below hb), h1, h2⟩, h3⟩))
    have hD1 := hid (below_drew w7)
    have hD2 := hid (below_seq (below_drew w7) (below_drew w7.drew))
    have hD3 := hid (fun o => below_newE w7 o)
    have hD4 := hid (fun o => below_seq (below_newE w7 o) (below_drew (w7.alloc o)))
    have hD5 := hid (fun o => below_seq (below_drew w7) (below_newE w7.drew o))
    clear hf5 HWW
    apply share (F := fun (x : (Option Addr × Nat × Nat × Int)) (vb : Nat) (w9 : World) => ∃ W lk, Ses.Fr [bs] w W ∧ WK W w9 bs B p lb 3 179 [.func (.func 68) #[.pointer (some ⟨bs, 0, none⟩)] #[], sam, lo, lo2, va, va2] f q' sm rv us' (.slice (some ⟨g', 0, none⟩) 1 c') kv lk l ul' ∧ PX W x w9 ∧ SB w9 vb 86 [.slice x.1 x.2.1 x.2.2.1, .int .i64 x.2.2.2])
    case main =>
      intro KEY
      go_region_with (go_at_call 68; go_must (refine (HX.out _ (by first | exact Below.refl _ _ | exact below_drew _ | exact hD3.out _ | exact hD4.out _ | exact hD5.out _ | exact hD2.out)).mono ?_; rintro e w8 ⟨x, lk, rfl, hwk, hkt⟩; try (have hvb := hkt _ _ (new_heap w7 (.cells #[.slice none 0 0, .int .i64 0] 86)); have v0 : w8.cell? ⟨w7.heap.size, 0, none⟩ = some (.slice none 0 0) := heap_cell (i := 0) hvb; have v1 : w8.cell? ⟨w7.heap.size, 1, none⟩ = some (.int .i64 0) := heap_cell (i := 1) hvb; have f0 : w8.frozen? ⟨w7.heap.size, 0, none⟩ = false := heap_frozen hvb; have f1 : w8.frozen? ⟨w7.heap.size, 1, none⟩ = false := heap_frozen hvb; have hvb2 := hid hvb; clear hvb); have hwk3 := hid hwk; clear hwk hkt))
      all_goals
        first
          | (have hf := finB hPX hwk3.out hvb2.out HBV.out HPV.out HLV.out HNV.out
             clear hvb2 hwk3 v0 v1 f0 f1
             generalize (w8.setCell ⟨w7.heap.size, 0, none⟩ (.slice x.1 x.2.1 x.2.2.1)).setCell ⟨w7.heap.size, 1, none⟩ (.int .i64 x.2.2.2) = w9 at hf ⊢
             generalize w7.heap.size = vb at hf ⊢
             exact KEY _ _ _ hf)
          | (have hf := finA hPX (by assumption)
             generalize w8.alloc (.cells #[.slice x.1 x.2.1 x.2.2.1, .int .i64 x.2.2.2] 86) = w9 at hf ⊢
             generalize w8.heap.size = vb at hf ⊢
             exact KEY _ _ _ hf)
    case key =>
      intro x vb w9 hwk
      obtain ⟨W, lk, hFW, hwk, hpx, hvb⟩ := hwk
      have hlk := hwk.lk
      obtain ⟨la, lm, lc, rfl⟩ := hlk
      have z1 : w9.cell? ⟨lb, 1, none⟩ = some (.slice la lm lc) := heap_cell (i := 1) hwk.lb
      have v0 := hvb.cell (i := 0) rfl
      have v1 := hvb.cell (i := 1) rfl
      have HWK := hid hwk
      have HPX := hid hpx
      have HFW := hid hFW
      clear hwk hpx hFW hvb y0 y1 y2 y3 y12 e0 ya1 ya2 ya3 ya12 yb1 yb2 yb3 yb12 yc1 yc2 yc3 yc12
      have hvb := HVA.out
      have HY : Hid (∀ W2 : World, Below w9.heap.size w9 W2 → Calls Tryz.prog 280 #[.pointer (some ⟨p, 0, none⟩), .agg #[.slice x.1 x.2.1 x.2.2.1, .int .i64 x.2.2.2], .slice la lm lc] W2 fun e w' => e = .returned (.tuple #[]) ∧ ∃ W w2 x bg lk, Ses.Fr [bs] w W ∧ W.heap.size ≤ w2.heap.size ∧ PX W x w2 ∧ AN w2 w' bs B p 3 179 lk [.func (.func 68) #[.pointer (some ⟨bs, 0, none⟩)] #[], sam, lo, lo2, .slice x.1 x.2.1 x.2.2.1, .int .i64 x.2.2.2] f q' sm rv us' bg kv l ul' 176) := hid (fun W2 hb => by
        have hwk := HWK.out.below hb
        have hbz : B ≤ W2.heap.size := by have := hwk.sb.lt; omega
        refine (answerR hwk.es hbz HM.out hwk.sb hpB HPN.out hus hus2 x.1 x.2.1 x.2.2.1 x.2.2.2 (.slice la lm lc) ⟨_, _, _, rfl⟩ hvb).mono ?_
        rintro e w10 ⟨he, han⟩
        exact ⟨he, W, W2, x, _, _, HFW.out, hwk.size, hPX _ _ _ _ HPX.out (TreeF.below hb), han⟩)
      have hE1 := hid (below_drew w9)
      have hE2 := hid (below_seq (below_drew w9) (below_drew w9.drew))
      clear HWK hvb hPX
      go_wp2_with fail
      go_region_with (go_at_call 280; go_must (refine (HY.out _ (by first | exact Below.refl _ _ | exact below_drew _ | exact hE2.out)).mono ?_; rintro e w10 ⟨rfl, hfin⟩; have hfin2 := hid hfin; clear hfin))
      all_goals
        go_wp2
        go_end0
        exact ⟨rfl, Hid.out (by assumption)⟩

end Go.Proofs.YtfekglokoafpiaaGreatDoor

namespace Go.Proofs.YtfekglokoafpiaaGreatDoor
open Go.RowKit

/-- The cells of the rule and the value of a slot of tokens. -/
abbrev cellsT (bs : Nat) (x : Option Addr × Nat × Nat) : List Value := [.func (.func 64) #[.pointer (some ⟨bs, 0, none⟩)] #[], .func (.func 65) #[] #[], .slice none 0 0, .slice x.1 x.2.1 x.2.2]

/-- Behind the work of Tree. -/
structure WTE (w w' : World) (bs B p lb : Nat) (lk : Value) (ch : Int) (x : Option Addr × Nat × Nat) (f q sm : Value) (rv us : Int) (bg kv : Value) (l : List (TypeId × Nat)) (ul : List Int) : Prop where
  fo : FO w w' bs B p lb 2 173 170 lk ch (cellsT bs x) f q sm rv us bg kv l ul
  kt : KeepT w w'

theorem FO.below {w w' w2 : World} {bs B p lb k : Nat} {TT TP : TypeId} {lk : Value} {ch : Int} {rest : List Value} {f q sm : Value} {rv us : Int} {bg kv : Value} {l : List (TypeId × Nat)} {ul : List Int} (h : FO w w' bs B p lb k TT TP lk ch rest f q sm rv us bg kv l ul) (hb : Below w'.heap.size w' w2) : FO w w2 bs B p lb k TT TP lk ch rest f q sm rv us bg kv l ul := by
  obtain ⟨a, m, c, hl⟩ := h.lo
  exact ⟨h.es.below hb, h.sb.below hb, ⟨a, m, c, below_heap hb (heap_lt hl) hl⟩, h.fr.trans (Ses.Fr.of_below hb)⟩

theorem own_notin {w : World} {N : Nat} {e : TypeId} {z n : Nat} {v : Value} {ys : List Value} (h : w.ownsRow N e z v n ys) {p1 p2 p3 : Nat} {T1 T2 T3 : TypeId} {x1 x2 x3 : List Value} (h1 : SB w p1 T1 x1) (n1 : T1 ≠ e) (h2 : SB w p2 T2 x2) (n2 : T2 ≠ e) (h3 : SB w p3 T3 x3) (n3 : T3 ≠ e) (g : Nat) (hg : v.ownBlock = some g) : ¬ (g = p3 ∨ g = p1 ∨ g = p2) := by
  rintro (e1 | e1 | e1)
  · exact h3.row h n3 (by rw [hg, e1])
  · exact h1.row h n1 (by rw [hg, e1])
  · exact h2.row h n2 (by rw [hg, e1])

theorem keepT_fo {w : World} {p lb bs : Nat} {T1 T2 T3 : TypeId} {x1 x2 x3 : List Value} (h1 : SB w p T1 x1) (n1 : T1 ≠ 86) (h2 : SB w lb T2 x2) (n2 : T2 ≠ 86) (h3 : SB w bs T3 x3) (n3 : T3 ≠ 86) (w' : World) (hf : Ses.Fr [bs, p, lb] w w') : KeepT w w' := by
  have key : ∀ (b q : Nat) (cs : Array Value) (T : TypeId) (x : List Value), w.heap[b]? = some (.cells cs 86) → SB w q T x → T ≠ 86 → b ≠ q := by
    intro b q cs T x hb hq hn e
    subst e
    have h := hq.symm.trans hb
    injection h with h
    injection h with _ h
    exact hn h
  intro b cs hb
  refine (hf.block b (heap_lt hb) ?_).trans hb
  simp only [List.mem_cons, List.not_mem_nil, or_false, not_or]
  exact ⟨key b bs cs _ _ hb h3 n3, key b p cs _ _ hb h1 n1, key b lb cs _ _ hb h2 n2⟩

set_option maxRecDepth 100000 in
set_option maxHeartbeats 1000000 in
theorem workTree_any {w : World} {bs B p lb ms n i : Nat} {es : Array MapEntry} {f q lk : Value} {rv us u0 ch : Int} {bg kv : Value} {l : List (TypeId × Nat)} {ul : List Int} {x : Option Addr × Nat × Nat} {toks : List Tok} {N : Nat} (hw : Wf toks)
    (h : ES w bs B f q (.map (some ms)) rv us bg kv (l ++ [(170, p)]) (ul ++ [u0])) (hm : l.length ≤ 3) (hpn : ∀ (i : Nat) T' p', l[i]? = some (T', p') → p' ≠ p)
    (hM : w.heap[ms]? = some (.map es n)) (hf : ∀ w, (Instr.findKey 107 (keyV 2) es.toList).run Tryz.prog w = .ok (some (i, .iface 170 (.pointer (some ⟨p, 0, none⟩)))) w) (hlb : w.heap[lb]? = some (.cells #[.pointer (some ⟨bs, 1, none⟩), .slice none 0 0] 105))
    (hs : SB w p 173 (slotL bs 2 false lk rv ch (l.length : Nat) u0 (cellsT bs x))) (hus : 0 ≤ us) (hus2 : us ≤ 1000)
    (hx : w.ownsRow N 118 3 (.slice x.1 x.2.1 x.2.2) toks.length (tokCells toks)) :
    Calls Tryz.prog 68 #[.pointer (some ⟨bs, 0, none⟩), .pointer (some ⟨lb, 0, none⟩), keyV 3] w fun e w' => ∃ y : Option Addr × Nat × Nat × Int, e = .returned (.agg #[.slice y.1 y.2.1 y.2.2.1, .int .i64 y.2.2.2]) ∧ WTE w w' bs B p lb lk ch x f q (.map (some ms)) rv us bg kv l ul ∧ (w'.ownsRow w.heap.size 135 5 (.slice y.1 y.2.1 y.2.2.1) (treeAll toks).1.length ((treeAll toks).1.flatMap itCells) ∧ .int .i64 y.2.2.2 = faultV (treeAll toks).2) := by
  obtain ⟨tb, cap, cur, hv, hg, hc⟩ := own_tok hx hw.pos
  obtain ⟨xa, xm, xc⟩ := x
  obtain ⟨rfl, rfl, rfl⟩ := Value.slice.inj hv
  have hn := es_nlb h hlb
  have hgn := own_notin hx (show SB w p _ _ from hs) (by decide) (show SB w lb 105 [_, _] from hlb) (by decide) (show SB w bs 51 [_, _, _, _, _, _, _] from h.s) (by decide) tb rfl
  have HGN := hid hgn
  have HG := hid hg
  have HC := hid hc
  have HW := hid hw
  have HPL := hid (show bs < w.heap.size ∧ p < w.heap.size ∧ lb < w.heap.size from ⟨heap_lt h.s, hs.lt, heap_lt hlb⟩)
  have HKT := hid (keepT_fo (w := w) (show SB w p _ _ from hs) (by decide) (show SB w lb 105 [_, _] from hlb) (by decide) (show SB w bs 51 [_, _, _, _, _, _, _] from h.s) (by decide))
  have hb0 := ((Below.refl w.heap.size w).alloc (Nat.le_refl _) (.cells #[.int .i64 3, .string ⟨#[97]⟩, .string ⟨#[]⟩] 107)).alloc (by simp) (.cells #[.slice none 0 0, .int .i64 0] 86)
  have hT := new_heap (w.alloc (.cells #[.int .i64 3, .string ⟨#[97]⟩, .string ⟨#[]⟩] 107)) (.cells #[.slice none 0 0, .int .i64 0] 86)
  rw [show (w.alloc (.cells #[.int .i64 3, .string ⟨#[97]⟩, .string ⟨#[]⟩] 107)).heap.size = w.heap.size + 1 from by simp] at hT
  have HTK : Hid (Calls Tryz.prog 36 #[.pointer (some ⟨bs, 0, none⟩), .pointer (some ⟨lb, 0, none⟩), .string ⟨#[97]⟩] ((w.alloc (.cells #[.int .i64 3, .string ⟨#[97]⟩, .string ⟨#[]⟩] 107)).alloc (.cells #[.slice none 0 0, .int .i64 0] 86)) fun e w' => ∃ y : Option Addr × Nat × Nat, e = .returned (.slice y.1 y.2.1 y.2.2) ∧ (y = (some ⟨tb, 0, none⟩, toks.length, xc) ∧ FO ((w.alloc (.cells #[.int .i64 3, .string ⟨#[97]⟩, .string ⟨#[]⟩] 107)).alloc (.cells #[.slice none 0 0, .int .i64 0] 86)) w' bs B p lb 2 173 170 lk ch (cellsT bs (some ⟨tb, 0, none⟩, toks.length, xc)) f q (.map (some ms)) rv us bg kv l ul)) := hid (tokensE (fun y w' => y = (some ⟨tb, 0, none⟩, toks.length, xc) ∧ FO ((w.alloc (.cells #[.int .i64 3, .string ⟨#[97]⟩, .string ⟨#[]⟩] 107)).alloc (.cells #[.slice none 0 0, .int .i64 0] 86)) w' bs B p lb 2 173 170 lk ch (cellsT bs (some ⟨tb, 0, none⟩, toks.length, xc)) f q (.map (some ms)) rv us bg kv l ul) (fun W hb => by
    have hbW := below_seq hb0 hb
    refine (fetchOldT (x := (some ⟨tb, 0, none⟩, toks.length, xc)) (F := 64) (G := 65) (h.below hbW) hm hpn (below_heap hbW (heap_lt hM) hM) hf (below_heap hbW (heap_lt hlb) hlb) (hs.below hbW) hus hus2).mono ?_
    rintro e w' ⟨he, hfo⟩
    exact ⟨_, he, rfl, hfo.lower hb⟩))
  have HB0 := hid hb0
  have HT := hid hT
  have HN := hid hn
  clear h hm hpn hM hf hlb hs hus hus2 hx hv hg hc hw hgn hn hb0 hT
  go_enter Tryz.func68, Tryz.ntmps68
  go_wp2_with fail
  refine HTK.out.mono ?_
  rintro e w1 ⟨y, rfl, rfl, hfo⟩
  have hg0 := below_heap HB0.out (heap_lt HG.out) HG.out
  have hg1 := (hfo.fr.block tb (heap_lt hg0) (by simpa using HGN.out)).trans hg0
  have hpl := HPL.out
  have ht1 := (hfo.fr.block (w.heap.size + 1) (heap_lt HT.out) (by simp only [List.mem_cons, List.not_mem_nil, or_false, not_or]; omega)).trans HT.out
  have HFO := hid hfo
  have HG1 := hid hg1
  have HT1 := hid ht1
  clear hfo hg0 hg1 hpl ht1 HTK
  go_wp2_with fail
  refine (readTree_any HW.out tb xc w1 ⟨cur, HG1.out, HC.out⟩).mono ?_
  rintro e w2 ⟨v, rfl, hown, hb⟩
  have hsh : ∃ ao m c, v = .slice ao m c := by
    obtain ⟨_, ⟨h, _⟩ | ⟨g, c, _, h, _⟩⟩ := hown
    · exact ⟨none, 0, 0, h⟩
    · exact ⟨_, _, _, h⟩
  obtain ⟨ao, m, c, rfl⟩ := hsh
  have HO := hid hown
  have HB2 := hid hb
  have HFV := hid (show ∃ z, faultV (treeAll toks).2 = .int .i64 z by cases (treeAll toks).2 with
    | none => exact ⟨_, rfl⟩
    | some b => exact ⟨_, rfl⟩)
  obtain ⟨z, hz⟩ := HFV.out
  rw [hz]
  have hR := below_heap hb (heap_lt HT1.out) HT1.out
  generalize hrb : w.heap.size + 1 = rb at hR ⊢
  have HRB := hid hrb
  have q0 : w2.cell? ⟨rb, 0, none⟩ = some (.slice none 0 0) := heap_cell (i := 0) hR
  have q1 : w2.cell? ⟨rb, 1, none⟩ = some (.int .i64 0) := heap_cell (i := 1) hR
  have f0 : w2.frozen? ⟨rb, 0, none⟩ = false := heap_frozen hR
  have f1 : w2.frozen? ⟨rb, 1, none⟩ = false := heap_frozen hR
  have HS := hid (heap_setCell_lit (i := 1) (heap_setCell_lit (i := 0) hR (.slice ao m c)) (.int .i64 z))
  have HR := hid hR
  have HZ := hid hz
  clear hown hb HFV hz hR hrb
  go_wp2
  have y0 := heap_cell (i := 0) HS.out
  have y1 := heap_cell (i := 1) HS.out
  refine bodyPost_ret (v := .agg #[.slice ao m c, .int .i64 z]) (by simp [results, Tryz.results68, go_sem, y0, y1]; try rfl) rfl ?_
  have hrb := HRB.out
  have hpl := HPL.out
  have ht1 := heap_lt HT1.out
  have hz1 := HFO.out.fr.size
  have hz0 := HB0.out.size
  have h2 : FO w ((w2.setCell ⟨rb, 0, none⟩ (.slice ao m c)).setCell ⟨rb, 1, none⟩ (.int .i64 z)) bs B p lb 2 173 170 lk ch (cellsT bs (some ⟨tb, 0, none⟩, toks.length, xc)) f q (.map (some ms)) rv us bg kv l ul := (HFO.out.below HB2.out).outR HB0.out (xs := [.slice none 0 0, .int .i64 0]) HR.out (by omega) (by omega) (by omega) (by omega) _ _
  refine ⟨(ao, m, c, z), rfl, ⟨h2, HKT.out _ h2.fr⟩, ?_, HZ.out.symm⟩
  exact own_down (ownsRow_setCell_below (a := ⟨rb, 1, none⟩) (ownsRow_setCell_below (a := ⟨rb, 0, none⟩) HO.out (by show rb < _; omega) _) (by show rb < _; omega) _) (by omega)

end Go.Proofs.YtfekglokoafpiaaGreatDoor

namespace Go.Proofs.YtfekglokoafpiaaGreatDoor
open Go.RowKit

theorem asOldR (p : Nat) (w : World) (xT : TypeId) : (Instr.typeAssert (.iface 176 (.pointer (some ⟨p, 0, none⟩))) xT 176 true).run Tryz.prog w = .ok (.tuple #[.pointer (some ⟨p, 0, none⟩), .bool true]) w := by kernel_rfl

set_option maxRecDepth 100000 in
set_option maxHeartbeats 400000 in
theorem findOldR (bs F G ms n p i : Nat) (es : Array MapEntry) (w : World) (hf : ∀ w, (Instr.findKey 107 (keyV 3) es.toList).run Tryz.prog w = .ok (some (i, .iface 176 (.pointer (some ⟨p, 0, none⟩)))) w) (hM : w.heap[ms]? = some (.map es n)) (h3 : w.cell? ⟨bs, 3, none⟩ = some (.map (some ms))) :
    Calls Tryz.prog 95 #[.pointer (some ⟨bs, 1, none⟩), .agg #[.int .i64 3, .string ⟨#[97]⟩, .string ⟨#[]⟩], .agg #[.func (.func F) #[.pointer (some ⟨bs, 0, none⟩)] #[], .func (.func G) #[] #[], .slice none 0 0, .int .i64 0]] w fun e w' => e = .returned (.pointer (some ⟨p, 0, none⟩)) ∧ Below w.heap.size w w' := by
  have m2 := asOldR p
  have hA := new_heap w (.cells #[.int .i64 3, .string ⟨#[97]⟩, .string ⟨#[]⟩] 107)
  have hA2 := old_heap (.cells #[.func (.func F) #[.pointer (some ⟨bs, 0, none⟩)] #[], .func (.func G) #[] #[], .slice none 0 0, .int .i64 0] 140) hA
  have h32 := cell_kept (below_newE (w.alloc (.cells #[.int .i64 3, .string ⟨#[97]⟩, .string ⟨#[]⟩] 107)) (.cells #[.func (.func F) #[.pointer (some ⟨bs, 0, none⟩)] #[], .func (.func G) #[] #[], .slice none 0 0, .int .i64 0] 140)) (cell_kept (below_newE w (.cells #[.int .i64 3, .string ⟨#[97]⟩, .string ⟨#[]⟩] 107)) h3)
  have HBL := hid (((Below.refl w.heap.size w).alloc (Nat.le_refl _) (.cells #[.int .i64 3, .string ⟨#[97]⟩, .string ⟨#[]⟩] 107)).alloc (by simp) (.cells #[.func (.func F) #[.pointer (some ⟨bs, 0, none⟩)] #[], .func (.func G) #[] #[], .slice none 0 0, .int .i64 0] 140))
  have HM1 := hid (old_heap (.cells #[.func (.func F) #[.pointer (some ⟨bs, 0, none⟩)] #[], .func (.func G) #[] #[], .slice none 0 0, .int .i64 0] 140) (old_heap (.cells #[.int .i64 3, .string ⟨#[97]⟩, .string ⟨#[]⟩] 107) hM))
  have HFK := hid hf
  clear hA hM hf h3
  go_enter Tryz.func95, Tryz.ntmps95
  go_wp2_with fail
  generalize (w.alloc (.cells #[.int .i64 3, .string ⟨#[97]⟩, .string ⟨#[]⟩] 107)).alloc (.cells #[.func (.func F) #[.pointer (some ⟨bs, 0, none⟩)] #[], .func (.func G) #[] #[], .slice none 0 0, .int .i64 0] 140) = W at hA2 HBL HM1 h32 ⊢
  generalize hkb : w.heap.size = kb at hA2 HBL ⊢
  have HKB := hid hkb
  clear hkb
  have k0 : W.cell? ⟨kb, 0, none⟩ = some (.int .i64 3) := heap_cell (i := 0) hA2
  have k1 : W.cell? ⟨kb, 1, none⟩ = some (.string ⟨#[97]⟩) := heap_cell (i := 1) hA2
  have k2 : W.cell? ⟨kb, 2, none⟩ = some (.string ⟨#[]⟩) := heap_cell (i := 2) hA2
  clear hA2
  have hS : Below W.heap.size W W ∧ W.cell? ⟨kb, 0, none⟩ = some (.int .i64 3) ∧ W.cell? ⟨kb, 1, none⟩ = some (.string ⟨#[97]⟩) ∧ W.cell? ⟨kb, 2, none⟩ = some (.string ⟨#[]⟩) ∧ W.cell? ⟨bs, 3, none⟩ = some (.map (some ms)) := ⟨Below.refl _ _, k0, k1, k2, h32⟩
  clear k0 k1 k2 h32
  have m10 := look_at (w := W) HM1.out (ck 3) HFK.out
  have m11 := look_at (w := W.drew) HM1.out (ck 3) HFK.out
  have m12 := look_at (w := W.drew.drew) HM1.out (ck 3) HFK.out
  have m13 := look_at (w := W.drew.drew.drew) HM1.out (ck 3) HFK.out
  go_region_held3 (fun wx => Below W.heap.size W wx ∧ wx.cell? ⟨kb, 0, none⟩ = some (.int .i64 3) ∧ wx.cell? ⟨kb, 1, none⟩ = some (.string ⟨#[97]⟩) ∧ wx.cell? ⟨kb, 2, none⟩ = some (.string ⟨#[]⟩) ∧ wx.cell? ⟨bs, 3, none⟩ = some (.map (some ms)))
    (first
      | exact keepX4 (by assumption) (below_drew _)
      | exact keepX4 (by assumption) (Below.refl _ _)
      | exact keepX4 hS (below_drew _))
    (first | fail)
  have hHeld := (by assumption : Below W.heap.size W _ ∧ _)
  have hb1 := hHeld.1
  clear hHeld hS m10 m11 m12 m13 m2
  go_wp2
  go_ret
  have h9 := HKB.out
  subst h9
  exact ⟨rfl, ⟨hb1.os.trans HBL.out.os, hb1.tape.trans HBL.out.tape, hb1.output.trans HBL.out.output, Nat.le_trans HBL.out.size hb1.size, fun q hq => (hb1.block q (Nat.lt_of_lt_of_le hq HBL.out.size)).trans (HBL.out.block q hq)⟩⟩

end Go.Proofs.YtfekglokoafpiaaGreatDoor

namespace Go.Proofs.YtfekglokoafpiaaGreatDoor
open Go.RowKit

set_option maxRecDepth 100000 in
set_option maxHeartbeats 1000000 in
theorem fetchOldR {wA : World} {bs B ms : Nat} {f q : Value} {rv us u0 ch : Int} {bg kv lk : Value} {l : List (TypeId × Nat)} {ul : List Int} {p lb F G n i : Nat} {es : Array MapEntry} {x : (Option Addr × Nat × Nat × Int)} (h : ES wA bs B f q (.map (some ms)) rv us bg kv (l ++ [(176, p)]) (ul ++ [u0])) (hm : l.length ≤ 3) (hpn : ∀ (i : Nat) T' p', l[i]? = some (T', p') → p' ≠ p)
    (hM : wA.heap[ms]? = some (.map es n)) (hf : ∀ w, (Instr.findKey 107 (keyV 3) es.toList).run Tryz.prog w = .ok (some (i, .iface 176 (.pointer (some ⟨p, 0, none⟩)))) w) (hlb : wA.heap[lb]? = some (.cells #[.pointer (some ⟨bs, 1, none⟩), .slice none 0 0] 105))
    (hs : SB wA p 179 (slotL bs 3 false lk rv ch (l.length : Nat) u0 [.func (.func F) #[.pointer (some ⟨bs, 0, none⟩)] #[], .func (.func G) #[] #[], .slice none 0 0, .int .i64 0, .slice x.1 x.2.1 x.2.2.1, .int .i64 x.2.2.2])) (hus : 0 ≤ us) (hus2 : us ≤ 1000) :
    Calls Tryz.prog 70 #[.pointer (some ⟨lb, 0, none⟩), keyV 3, .agg #[.func (.func F) #[.pointer (some ⟨bs, 0, none⟩)] #[], .func (.func G) #[] #[], .slice none 0 0, .int .i64 0]] wA fun e w' => e = .returned (.agg #[.slice x.1 x.2.1 x.2.2.1, .int .i64 x.2.2.2]) ∧ FO wA w' bs B p lb 3 179 176 lk ch [.func (.func F) #[.pointer (some ⟨bs, 0, none⟩)] #[], .func (.func G) #[] #[], .slice none 0 0, .int .i64 0, .slice x.1 x.2.1 x.2.2.1, .int .i64 x.2.2.2] f q (.map (some ms)) rv us bg kv l ul := by
  have l0 : wA.cell? ⟨lb, 0, none⟩ = some (.pointer (some ⟨bs, 1, none⟩)) := heap_cell (i := 0) hlb
  have HFK := hid hf
  have HUS := hid hus
  have HUS2 := hid hus2
  have HM := hid hm
  have HPN := hid hpn
  have HHA := hid h
  have HLA := hid hlb
  have HMA := hid hM
  have HSA := hid hs
  clear h hm hpn hM hf hlb hs hus hus2
  go_enter Tryz.func70, Tryz.ntmps70
  go_wp2_with fail
  have hA := new_heap wA (.cells #[.int .i64 3, .string ⟨#[97]⟩, .string ⟨#[]⟩] 107)
  have hA2 := old_heap (.cells #[.slice none 0 0, .int .i64 0] 86) (old_heap (.cells #[.func (.func F) #[.pointer (some ⟨bs, 0, none⟩)] #[], .func (.func G) #[] #[], .slice none 0 0, .int .i64 0] 140) hA)
  have hR := new_heap (wA.alloc (.cells #[.int .i64 3, .string ⟨#[97]⟩, .string ⟨#[]⟩] 107)) (.cells #[.func (.func F) #[.pointer (some ⟨bs, 0, none⟩)] #[], .func (.func G) #[] #[], .slice none 0 0, .int .i64 0] 140)
  rw [show (wA.alloc (.cells #[.int .i64 3, .string ⟨#[97]⟩, .string ⟨#[]⟩] 107)).heap.size = wA.heap.size + 1 from by simp] at hR
  have hR2 := old_heap (.cells #[.slice none 0 0, .int .i64 0] 86) hR
  have hT := new_heap ((wA.alloc (.cells #[.int .i64 3, .string ⟨#[97]⟩, .string ⟨#[]⟩] 107)).alloc (.cells #[.func (.func F) #[.pointer (some ⟨bs, 0, none⟩)] #[], .func (.func G) #[] #[], .slice none 0 0, .int .i64 0] 140)) (.cells #[.slice none 0 0, .int .i64 0] 86)
  rw [show ((wA.alloc (.cells #[.int .i64 3, .string ⟨#[97]⟩, .string ⟨#[]⟩] 107)).alloc (.cells #[.func (.func F) #[.pointer (some ⟨bs, 0, none⟩)] #[], .func (.func G) #[] #[], .slice none 0 0, .int .i64 0] 140)).heap.size = wA.heap.size + 1 + 1 from by simp] at hT
  have hb0 := (((Below.refl wA.heap.size wA).alloc (Nat.le_refl _) (.cells #[.int .i64 3, .string ⟨#[97]⟩, .string ⟨#[]⟩] 107)).alloc (by simp) (.cells #[.func (.func F) #[.pointer (some ⟨bs, 0, none⟩)] #[], .func (.func G) #[] #[], .slice none 0 0, .int .i64 0] 140)).alloc (by simp; omega) (.cells #[.slice none 0 0, .int .i64 0] 86)
  clear hA hR
  generalize ((wA.alloc (.cells #[.int .i64 3, .string ⟨#[97]⟩, .string ⟨#[]⟩] 107)).alloc (.cells #[.func (.func F) #[.pointer (some ⟨bs, 0, none⟩)] #[], .func (.func G) #[] #[], .slice none 0 0, .int .i64 0] 140)).alloc (.cells #[.slice none 0 0, .int .i64 0] 86) = w at hA2 hR2 hT hb0 ⊢
  have HRB := hid hT
  have HRB1 := hid (show wA.heap.size ≤ wA.heap.size + 1 + 1 by omega)
  have HRB2 := hid (show lb < wA.heap.size + 1 + 1 ∧ bs < wA.heap.size + 1 + 1 ∧ p < wA.heap.size + 1 + 1 from ⟨by have := heap_lt HLA.out; omega, by have := heap_lt HHA.out.s; omega, by have := HSA.out.lt; omega⟩)
  clear hT
  generalize wA.heap.size + 1 + 1 = rb at HRB HRB1 HRB2 ⊢
  have HB0 := hid hb0
  generalize hkb : wA.heap.size = kb at hA2 hR2 ⊢
  have HKB := hid hkb
  clear hkb
  have k0 : w.cell? ⟨kb, 0, none⟩ = some (.int .i64 3) := heap_cell (i := 0) hA2
  have k1 : w.cell? ⟨kb, 1, none⟩ = some (.string ⟨#[97]⟩) := heap_cell (i := 1) hA2
  have k2 : w.cell? ⟨kb, 2, none⟩ = some (.string ⟨#[]⟩) := heap_cell (i := 2) hA2
  have r0 : w.cell? ⟨kb + 1, 0, none⟩ = some _ := heap_cell (i := 0) hR2
  have r1 : w.cell? ⟨kb + 1, 1, none⟩ = some _ := heap_cell (i := 1) hR2
  have r2 : w.cell? ⟨kb + 1, 2, none⟩ = some _ := heap_cell (i := 2) hR2
  have r3 : w.cell? ⟨kb + 1, 3, none⟩ = some _ := heap_cell (i := 3) hR2
  have l2 : w.cell? ⟨lb, 0, none⟩ = some (.pointer (some ⟨bs, 1, none⟩)) := cell_kept HB0.out l0
  clear hA2 hR2 hb0 l0
  have HH := hid (HHA.out.below HB0.out)
  have HLB := hid (below_heap HB0.out (heap_lt HLA.out) HLA.out)
  have HMM := hid (below_heap HB0.out (heap_lt HMA.out) HMA.out)
  have HS := hid (HSA.out.below HB0.out)
  have HFD : Hid (∀ W : World, Below w.heap.size w W → Calls Tryz.prog 95 #[.pointer (some ⟨bs, 1, none⟩), keyV 3, .agg #[.func (.func F) #[.pointer (some ⟨bs, 0, none⟩)] #[], .func (.func G) #[] #[], .slice none 0 0, .int .i64 0]] W fun e w1 => e = .returned (.pointer (some ⟨p, 0, none⟩)) ∧ Below w.heap.size w w1) := hid (fun W hb => (findOldR bs F G ms n p i es W HFK.out (below_heap hb (heap_lt HMM.out) HMM.out) (heap_cell (i := 3) (below_heap hb (heap_lt HH.out.s) HH.out.s))).mono (by
    rintro e w1 ⟨he, h2⟩
    exact ⟨he, below_seq hb h2⟩))
  have hD1 := hid (below_drew w)
  have hD2 := hid (below_seq (below_drew w) (below_drew w.drew))
  have hD3 := hid (below_seq (below_seq (below_drew w) (below_drew w.drew)) (below_drew w.drew.drew))
  apply share3 (F := fun (w1 : World) => Below w.heap.size w w1)
  case main =>
    intro KEY
    go_region_with (go_at_call 95; go_must (refine (HFD.out _ (by first | exact Below.refl _ _ | exact hD1.out | exact hD2.out | exact hD3.out)).mono ?_; rintro e w1 ⟨rfl, hfn⟩; have hfn2 := hid hfn; clear hfn))
    all_goals
      exact KEY _ (Hid.out hfn2)
  case key =>
    intro w1 hfn
    have hlb1 := below_heap hfn (heap_lt HLB.out) HLB.out
    have z1 : w1.cell? ⟨lb, 1, none⟩ = some (.slice none 0 0) := heap_cell (i := 1) hlb1
    have HLB1 := hid hlb1
    have HFN := hid hfn
    have HN := hid (es_nlb HH.out HLB.out)
    have HS1 := hid (HS.out.below hfn)
    have HH1 := hid (HH.out.below hfn)
    clear hlb1 hfn HFD hD1 hD2 hD3 k0 k1 k2 r0 r1 r2 r3 l2
    go_wp2_with fail
    refine (contains_nil _ _).mono ?_
    rintro e w2 ⟨rfl, rfl⟩
    clear z1
    go_wp2_with fail
    refine (settledOld HH1.out HM.out mtR (by decide) HS1.out HPN.out HUS.out HUS2.out).mono ?_
    rintro e w3 ⟨rfl, hdo⟩
    have hpl : lb ≠ p := fun e => HN.out.2.2 l.length _ p (list_last _ _) e.symm
    have hlb3 := (hdo.fr.block lb (heap_lt HLB1.out) (by simp only [List.mem_cons, List.not_mem_nil, or_false, not_or]; exact ⟨HN.out.1.symm, hpl⟩)).trans HLB1.out
    have HDO := hid hdo
    have HLB3 := hid hlb3
    have HPL := hid hpl
    clear hdo hlb3 hpl
    go_wp2_with fail
    refine (add_any lb p _ _ w3 HLB3.out).mono ?_
    rintro e w4 ⟨rfl, hf4, la, lm, lc, hlb4⟩
    have hsb := HDO.out.sb.fr' hf4 (by simpa using HPL.out.symm)
    have d16 := hsb.cell (i := 16) rfl
    have d17 := hsb.cell (i := 17) rfl
    have hrb1 := below_heap HFN.out (heap_lt HRB.out) HRB.out
    have hr2 := HRB2.out
    have hrb3 := (HDO.out.fr.block rb (heap_lt hrb1) (by simp only [List.mem_cons, List.not_mem_nil, or_false, not_or]; omega)).trans hrb1
    have hrb4 := (hf4.block rb (heap_lt hrb3) (by simp only [List.mem_cons, List.not_mem_nil, or_false]; omega)).trans hrb3
    have q0 : w4.cell? ⟨rb, 0, none⟩ = some (.slice none 0 0) := heap_cell (i := 0) hrb4
    have q1 : w4.cell? ⟨rb, 1, none⟩ = some (.int .i64 0) := heap_cell (i := 1) hrb4
    have f0 : w4.frozen? ⟨rb, 0, none⟩ = false := heap_frozen hrb4
    have f1 : w4.frozen? ⟨rb, 1, none⟩ = false := heap_frozen hrb4
    have HR5 := hid (heap_setCell_lit (i := 1) (heap_setCell_lit (i := 0) hrb4 (.slice x.1 x.2.1 x.2.2.1)) (.int .i64 x.2.2.2))
    have HR4 := hid hrb4
    clear hrb1 hr2 hrb3 hrb4
    have HSB := hid hsb
    have HF4 := hid hf4
    have HLB4 := hid hlb4
    clear hsb hf4 hlb4
    go_wp2
    have y0 := heap_cell (i := 0) HR5.out
    have y1 := heap_cell (i := 1) HR5.out
    refine bodyPost_ret (v := .agg #[.slice x.1 x.2.1 x.2.2.1, .int .i64 x.2.2.2]) (by simp [results, Tryz.results70, go_sem, y0, y1]; try rfl) rfl ?_
    have hn := HN.out
    have hfo : FO w w4 bs B p lb 3 179 176 lk ch [.func (.func F) #[.pointer (some ⟨bs, 0, none⟩)] #[], .func (.func G) #[] #[], .slice none 0 0, .int .i64 0, .slice x.1 x.2.1 x.2.2.1, .int .i64 x.2.2.2] f q (.map (some ms)) rv us bg kv l ul := ⟨HDO.out.es.fr HF4.out (by simpa using hn.1) (fun g hg => by
      simp only [List.mem_cons, List.not_mem_nil, or_false]
      intro e
      subst e
      exact hn.2.1 hg) (fun i T' p' hi => by
      simp only [List.mem_cons, List.not_mem_nil, or_false]
      exact hn.2.2 i T' p' hi), HSB.out, ⟨la, lm, lc, HLB4.out⟩, (Ses.Fr.of_below HFN.out).trans ((HDO.out.fr.mono (T := [bs, p, lb]) (fun b hb => .inl (by simp at hb ⊢; rcases hb with h | h <;> simp [h]))).trans (HF4.out.mono (T := [bs, p, lb]) (fun b hb => .inl (by simp at hb ⊢; simp [hb]))))⟩
    have hr2 := HRB2.out
    exact ⟨rfl, hfo.outR HB0.out HR4.out (by omega) (by omega) (by omega) HRB1.out _ _⟩

end Go.Proofs.YtfekglokoafpiaaGreatDoor

namespace Go.Proofs.YtfekglokoafpiaaGreatDoor
open Go.RowKit

/-- The cells of the rule and the value of a slot of trees. -/
abbrev cellsR (bs : Nat) (x : Option Addr × Nat × Nat × Int) : List Value := [.func (.func 68) #[.pointer (some ⟨bs, 0, none⟩)] #[], .func (.func 69) #[] #[], .slice none 0 0, .int .i64 0, .slice x.1 x.2.1 x.2.2.1, .int .i64 x.2.2.2]

/-- The names that Exports hands on, in a row from N on. -/
def VX (items : List It) (N : Nat) (y : Option Addr × Nat × Nat) (w : World) : Prop :=
  (expL items = [] ∧ ∃ c, y = (none, 0, c)) ∨ ∃ g c, y = (some ⟨g, 0, none⟩, (expL items).length, c) ∧ (expL items).length ≤ c ∧ N ≤ g ∧ (∃ cs fr, w.heap[g]? = some (.cells cs 9 fr)) ∧ ∀ (j : Nat) x, (expL items)[j]? = some x → w.cell? ⟨g, j, none⟩ = some (.string ⟨x.toArray⟩)

theorem VX.st {items : List It} {S : List Nat} {N : Nat} {y : Option Addr × Nat × Nat} {w w' : World} (h : VX items N y w) (hs : St S N w w') : VX items N y w' := by
  rcases h with h | ⟨g, c, h1, h2, h3, ⟨cs, fr, h4⟩, h5⟩
  · exact .inl h
  · have hb := hs.block g h3 (heap_lt h4) (fun cs2 e => by
      have := h4.symm.trans e
      injection this with this
      injection this with _ this
      exact absurd this (by decide))
    exact .inr ⟨g, c, h1, h2, h3, ⟨cs, fr, hb.trans h4⟩, fun j x hj => (World.cell?_of_block (w := w) hb).trans (h5 j x hj)⟩

theorem VX.mono {items : List It} {N N' : Nat} {y : Option Addr × Nat × Nat} {w : World} (h : VX items N y w) (hN : N' ≤ N) : VX items N' y w := by
  rcases h with h | ⟨g, c, h1, h2, h3, h4, h5⟩
  · exact .inl h
  · exact .inr ⟨g, c, h1, h2, Nat.le_trans hN h3, h4, h5⟩

set_option maxRecDepth 100000 in
set_option maxHeartbeats 1000000 in
theorem workExports_any {w : World} {bs B p lb ms n i : Nat} {es : Array MapEntry} {f q lk : Value} {rv us u0 ch : Int} {bg kv : Value} {l : List (TypeId × Nat)} {ul : List Int} {x : Option Addr × Nat × Nat × Int} {items : List It} {N : Nat} (hn : items.length ≤ 401) (hex : ∀ i ∈ items, i.ex = .nilIface ∨ ∃ T v, i.ex = .iface T v)
    (h : ES w bs B f q (.map (some ms)) rv us bg kv (l ++ [(176, p)]) (ul ++ [u0])) (hm : l.length ≤ 3) (hpn : ∀ (i : Nat) T' p', l[i]? = some (T', p') → p' ≠ p)
    (hM : w.heap[ms]? = some (.map es n)) (hf : ∀ w, (Instr.findKey 107 (keyV 3) es.toList).run Tryz.prog w = .ok (some (i, .iface 176 (.pointer (some ⟨p, 0, none⟩)))) w) (hlb : w.heap[lb]? = some (.cells #[.pointer (some ⟨bs, 1, none⟩), .slice none 0 0] 105))
    (hs : SB w p 179 (slotL bs 3 false lk rv ch (l.length : Nat) u0 (cellsR bs x))) (hus : 0 ≤ us) (hus2 : us ≤ 1000)
    (hx : w.ownsRow N 135 5 (.slice x.1 x.2.1 x.2.2.1) items.length (items.flatMap itCells)) :
    Calls Tryz.prog 72 #[.pointer (some ⟨bs, 0, none⟩), .pointer (some ⟨lb, 0, none⟩), keyV 4] w fun e w' => ∃ y : Option Addr × Nat × Nat, e = .returned (.slice y.1 y.2.1 y.2.2) ∧ FO w w' bs B p lb 3 179 176 lk ch (cellsR bs x) f q (.map (some ms)) rv us bg kv l ul ∧ VX items w.heap.size y w' := by
  obtain ⟨xa, xm, xc, xz⟩ := x
  obtain ⟨rfl, hao⟩ : xm = items.length ∧ (0 < items.length → ∃ g cur, xa = some ⟨g, 0, none⟩ ∧ w.heap[g]? = some (.cells cur 135 (0, 0)) ∧ cur.toList.take (items.length * 5) = items.flatMap itCells) := by
    obtain ⟨hl, ⟨h, h0⟩ | ⟨g, c, cur, hv, hB, hg, h1, h2, h3, h4⟩⟩ := hx
    · obtain ⟨e1, e2, e3⟩ := Value.slice.inj h
      exact ⟨by rw [h0]; exact e2, fun hp => by omega⟩
    · obtain ⟨e1, e2, e3⟩ := Value.slice.inj hv
      exact ⟨e2, fun _ => ⟨g, cur, e1, hg, h4⟩⟩
  have hgn := own_notin hx (show SB w p _ _ from hs) (by decide) (show SB w lb 105 [_, _] from hlb) (by decide) (show SB w bs 51 [_, _, _, _, _, _, _] from h.s) (by decide)
  have HGN := hid hgn
  have HAO := hid hao
  have HPL := hid (show bs < w.heap.size ∧ p < w.heap.size ∧ lb < w.heap.size from ⟨heap_lt h.s, hs.lt, heap_lt hlb⟩)
  have hpl := HPL.out
  have hb0 := below_newE w (.cells #[.int .i64 4, .string ⟨#[97]⟩, .string ⟨#[]⟩] 107)
  have hz0 : (w.alloc (.cells #[.int .i64 4, .string ⟨#[97]⟩, .string ⟨#[]⟩] 107)).heap.size = w.heap.size + 1 := by simp
  obtain ⟨W0, hW0⟩ : ∃ W0, W0 = w.alloc (.cells #[.int .i64 4, .string ⟨#[97]⟩, .string ⟨#[]⟩] 107) := ⟨_, rfl⟩
  rw [← hW0] at hb0 hz0
  have HTK : Hid (Calls Tryz.prog 38 #[.pointer (some ⟨bs, 0, none⟩), .pointer (some ⟨lb, 0, none⟩), .string ⟨#[97]⟩] W0 fun e w' => ∃ y : Option Addr × Nat × Nat × Int, e = .returned (.agg #[.slice y.1 y.2.1 y.2.2.1, .int .i64 y.2.2.2]) ∧ (y = (xa, items.length, xc, xz) ∧ FO W0 w' bs B p lb 3 179 176 lk ch (cellsR bs (xa, items.length, xc, xz)) f q (.map (some ms)) rv us bg kv l ul)) := hid (treeE (fun W y w' => y = (xa, items.length, xc, xz) ∧ FO W w' bs B p lb 3 179 176 lk ch (cellsR bs (xa, items.length, xc, xz)) f q (.map (some ms)) rv us bg kv l ul) _ (fun W hb => by
    have hbW := below_seq hb0 hb
    refine (fetchOldR (x := (xa, items.length, xc, xz)) (F := 68) (G := 69) (h.below hbW) hm hpn (below_heap hbW (heap_lt hM) hM) hf (below_heap hbW (heap_lt hlb) hlb) (hs.below hbW) hus hus2).mono ?_
    rintro e w' ⟨he, hfo⟩
    exact ⟨_, he, rfl, hfo⟩) (by
    rintro W y w' rb hb ⟨_, hfo⟩ h1 h2
    exact hfo.fr.block rb h2 (by simp only [List.mem_cons, List.not_mem_nil, or_false, not_or]; omega)) (by
    rintro W y w' rb xs a b hb ⟨hy, hfo⟩ hsb h1 h2
    exact ⟨hy, hfo.outR hb hsb (by omega) (by omega) (by omega) h1 _ _⟩))
  have HB0 := hid hb0
  rw [hW0] at HTK HB0
  clear hW0 hz0 hb0 h hm hpn hM hf hlb hs hus hus2 hx hgn hao hpl
  have HEX := hid hex
  clear hex
  go_enter Tryz.func72, Tryz.ntmps72
  go_wp2_with fail
  refine HTK.out.mono ?_
  rintro e w1 ⟨y, rfl, rfl, hfo⟩
  have hao1 : 0 < items.length → ∃ g cur, xa = some ⟨g, 0, none⟩ ∧ w1.heap[g]? = some (.cells cur 135 (0, 0)) ∧ cur.toList.take (items.length * 5) = items.flatMap itCells := by
    intro hp
    obtain ⟨g, cur, h1, h2, h3⟩ := HAO.out hp
    have hg0 := below_heap HB0.out (heap_lt h2) h2
    exact ⟨g, cur, h1, (hfo.fr.block g (heap_lt hg0) (by simpa using HGN.out g (by rw [h1]; rfl))).trans hg0, h3⟩
  have HAO1 := hid hao1
  have HFO := hid hfo
  clear hao1 hfo HTK
  go_wp2_with fail
  refine (exports_ao items hn HEX.out (.int .i64 xz) xa xc w1 HAO1.out).mono ?_
  rintro e w2 ⟨hb, c2, h⟩
  have HB2 := hid hb
  have hz1 := HFO.out.fr.size
  have hz0 := HB0.out.size
  rcases h with ⟨hnil, rfl⟩ | ⟨g, rfl, hc2, ⟨hg, hg2⟩, hcell⟩
  · have HNIL := hid hnil
    clear hnil hb
    go_wp2
    go_ret
    exact ⟨(none, 0, c2), rfl, (HFO.out.below HB2.out).lower HB0.out, .inl ⟨HNIL.out, c2, rfl⟩⟩
  · have HV := hid (show VX items w.heap.size (some ⟨g, 0, none⟩, (expL items).length, c2) w2 from .inr ⟨g, c2, rfl, hc2, by omega, hg2, hcell⟩)
    clear hcell hb hc2 hg hg2
    go_wp2
    go_ret
    exact ⟨(some ⟨g, 0, none⟩, (expL items).length, c2), rfl, (HFO.out.below HB2.out).lower HB0.out, HV.out⟩

end Go.Proofs.YtfekglokoafpiaaGreatDoor
