/-
  
  
  
  
  The fourth question.
  The program's text of an item is one.
  Pure facts of a text's items.
-/
import Derived.Test.YtfekglokoafpiaaGreatDoorQ28

set_option linter.unusedVariables false
set_option linter.unusedSimpArgs false

namespace Go.Proofs.YtfekglokoafpiaaGreatDoor
open Go.RowKit

set_option maxRecDepth 100000 in
set_option maxHeartbeats 1000000 in
theorem answerX {w : World} {bs B : Nat} {f q sm : Value} {rv us : Int} {bg kv : Value} {l : List (TypeId × Nat)} {ul : List Int} (h : ES w bs B f q sm rv us bg kv l ul) (hB : B ≤ w.heap.size) (hm : l.length ≤ 3) {p k : Nat} {wk sam lo va : Value} (hs : SB w p 184 (newL bs k [wk, sam, lo, va])) (hpB : B ≤ p) (hpn : ∀ (i : Nat) T' p', l[i]? = some (T', p') → p' ≠ p)
    (hus : 0 ≤ us) (hus2 : us ≤ 1000) (xa : Option Addr) (xm xc : Nat) (lk : Value) (hlk : ∃ a m c, lk = .slice a m c) (hva : ∃ a m c, va = .slice a m c) :
    Calls Tryz.prog 285 #[.pointer (some ⟨p, 0, none⟩), .slice xa xm xc, lk] w fun e w' => e = .returned (.tuple #[]) ∧ AN w w' bs B p k 184 lk [wk, sam, lo, .slice xa xm xc] f q sm rv us bg kv l ul 181 := by
  obtain ⟨la, lm, lc, rfl⟩ := hlk
  obtain ⟨ya, ym, yc, rfl⟩ := hva
  have hbs : bs < B := h.lt
  have hne : bs ≠ p := by omega
  have hpg := hs.row h.own (by decide)
  have c1 : w.cell? ⟨bs, 1, none⟩ = some (.int .i64 rv) := heap_cell (i := 1) h.s
  have d0 := hs.cell (i := 0) rfl
  have d6 := hs.cell (i := 6) rfl
  have d7 := hs.cell (i := 7) rfl
  have d8 := hs.cell (i := 8) rfl
  have d9 := hs.cell (i := 9) rfl
  have d10 := hs.cell (i := 10) rfl
  have d15 := hs.cell (i := 15) rfl
  have g6 := hs.fr 6
  have g7 := hs.fr 7
  have g8 := hs.fr 8
  have g9 := hs.fr 9
  have g15 := hs.fr 15
  have HS := hid hs
  have HE := hid h
  have HPG := hid hpg
  have HN := hid hne
  clear h hs hpg hne
  go_enter Tryz.func285, Tryz.ntmps285
  go_wp2_with fail
  go_quiet ((go_at_call 268; refine Calls.quiet_of_same (dropped_new p _ d10)))
  go_wp2_with fail
  have HD := hid (below_drewN w nq)
  have HE1 := hid (HE.out.below HD.out)
  have HS1 := hid (HS.out.below HD.out)
  have HF1 := hid (Ses.Fr.of_below (S := [bs, p, kbk bs kv]) HD.out)
  have HZ := hid (show (w.drewN nq).heap.size = w.heap.size from rfl)
  generalize w.drewN nq = W at HE1 HS1 HF1 HZ ⊢
  have HE2 := hid (((((HE1.out.other 8 (.int .i64 rv) HN.out HPG.out (.inl (by decide))).other 15 (.slice xa xm xc) HN.out HPG.out (.inl (by decide))).other 6 (.slice la lm lc) HN.out HPG.out (.inl (by decide))).other 7 (.int .i64 rv) HN.out HPG.out (.inl (by decide))).other 9 (.bool false) HN.out HPG.out (.inl (by decide)))
  have HS2 := hid (((((HS1.out.set 8 (.int .i64 rv)).set 15 (.slice xa xm xc)).set 6 (.slice la lm lc)).set 7 (.int .i64 rv)).set 9 (.bool false))
  have HF2 := hid (((((HF1.out.setCell ⟨p, 8, none⟩ (.inl (by simp)) (.int .i64 rv)).setCell ⟨p, 15, none⟩ (.inl (by simp)) (.slice xa xm xc)).setCell ⟨p, 6, none⟩ (.inl (by simp)) (.slice la lm lc)).setCell ⟨p, 7, none⟩ (.inl (by simp)) (.int .i64 rv)).setCell ⟨p, 9, none⟩ (.inl (by simp)) (.bool false))
  have HZ2 := hid (show (((((W.setCell ⟨p, 8, none⟩ (.int .i64 rv)).setCell ⟨p, 15, none⟩ (.slice xa xm xc)).setCell ⟨p, 6, none⟩ (.slice la lm lc)).setCell ⟨p, 7, none⟩ (.int .i64 rv)).setCell ⟨p, 9, none⟩ (.bool false)).heap.size = w.heap.size by simpa using HZ.out)
  generalize ((((W.setCell ⟨p, 8, none⟩ (.int .i64 rv)).setCell ⟨p, 15, none⟩ (.slice xa xm xc)).setCell ⟨p, 6, none⟩ (.slice la lm lc)).setCell ⟨p, 7, none⟩ (.int .i64 rv)).setCell ⟨p, 9, none⟩ (.bool false) = W2 at HE2 HS2 HF2 HZ2 ⊢
  refine (use_new HE2.out (by have := HZ2.out; omega) hm mtX HS2.out (by decide) hpB hpn rfl rfl rfl hus hus2).mono ?_
  rintro e w3 ⟨rfl, hu⟩
  have HU := hid (an_of HF2.out HZ2.out hu)
  clear hu
  go_wp2
  go_end0
  exact ⟨rfl, HU.out⟩

end Go.Proofs.YtfekglokoafpiaaGreatDoor

namespace Go.Proofs.YtfekglokoafpiaaGreatDoor
open Go.RowKit

set_option maxRecDepth 100000 in
set_option maxHeartbeats 4000000 in
theorem workOutX {w : World} {bs B : Nat} {f q sm : Value} {rv us : Int} {kv : Value} {l : List (TypeId × Nat)} {ul : List Int} (h : ES w bs B f q sm rv us (.slice none 0 0) kv l ul) (hB : B ≤ w.heap.size) (hm : l.length ≤ 3) {p : Nat} {sam lo va : Value} (hs : SB w p 184 (newL bs 4 [.func (.func 72) #[.pointer (some ⟨bs, 0, none⟩)] #[], sam, lo, va])) (hpB : B ≤ p) (hpn : ∀ (i : Nat) T' p', l[i]? = some (T', p') → p' ≠ p)
    (hva : ∃ a m c, va = .slice a m c) (q' : Value) (us' : Int) (ul' : List Int) (hus : 0 ≤ us') (hus2 : us' ≤ 1000) (PX : World → (Option Addr × Nat × Nat) → World → Prop)
    (HW : ∀ (W : World) (bg : Value) (lb : Nat), ES W bs B f q sm rv us bg kv l ul → SB W p 184 (newL bs 4 [.func (.func 72) #[.pointer (some ⟨bs, 0, none⟩)] #[], sam, lo, va]) → W.heap[lb]? = some (.cells #[.pointer (some ⟨bs, 1, none⟩), .slice none 0 0] 105) → w.heap.size ≤ lb → Ses.Fr [bs] w W → Calls Tryz.prog 72 #[.pointer (some ⟨bs, 0, none⟩), .pointer (some ⟨lb, 0, none⟩), keyV 4] W fun e w' => ∃ x lk, e = .returned (.slice x.1 x.2.1 x.2.2) ∧ WK W w' bs B p lb 4 184 [.func (.func 72) #[.pointer (some ⟨bs, 0, none⟩)] #[], sam, lo, va] f q' sm rv us' bg kv lk l ul' ∧ PX W x w') :
    Calls Tryz.prog 289 #[.pointer (some ⟨p, 0, none⟩)] w fun e w' => e = .returned (.tuple #[]) ∧ ∃ W w2 x bg lk, Ses.Fr [bs] w W ∧ W.heap.size ≤ w2.heap.size ∧ PX W x w2 ∧ AN w2 w' bs B p 4 184 lk [.func (.func 72) #[.pointer (some ⟨bs, 0, none⟩)] #[], sam, lo, .slice x.1 x.2.1 x.2.2] f q' sm rv us' bg kv l ul' 181 := by
  have hbs : bs < B := h.lt
  have hne : bs ≠ p := by omega
  have hpg := hs.row h.own (by decide)
  have c4 : w.cell? ⟨bs, 4, none⟩ = some (.slice none 0 0) := heap_cell (i := 4) h.s
  have g4 : w.frozen? ⟨bs, 4, none⟩ = false := heap_frozen h.s
  have d0 := hs.cell (i := 0) rfl
  have d1 := hs.cell (i := 1) rfl
  have d2 := hs.cell (i := 2) rfl
  have d3 := hs.cell (i := 3) rfl
  have hsc2 : ∀ o, (w.alloc o).drew.cell? ⟨bs, 4, none⟩ = some (.slice none 0 0) := fun o => cell_kept (w' := w.alloc o) (below_new w o) c4
  have hsf2 : ∀ o, (w.alloc o).drew.frozen? ⟨bs, 4, none⟩ = false := fun o => heap_frozen (old_heap o h.s)
  have hsc3 : ∀ o, (w.alloc o).drew.cell? ⟨p, 0, none⟩ = some (.pointer (some ⟨bs, 1, none⟩)) := fun o => cell_kept (w' := w.alloc o) (below_new w o) d0
  have hsc4 : ∀ o, (w.alloc o).cell? ⟨p, 0, none⟩ = some (.pointer (some ⟨bs, 1, none⟩)) := fun o => cell_kept (w' := w.alloc o) (below_new w o) d0
  have hsc5 : ∀ o, (w.alloc o).cell? ⟨bs, 4, none⟩ = some (.slice none 0 0) := fun o => cell_kept (w' := w.alloc o) (below_new w o) c4
  obtain ⟨i0, hi0, hz0, hz1, hz2⟩ := info_parts infoKeyE
  have hnews : ∀ (j : Nat) u, ([.int .i64 4, .string ⟨#[97]⟩, .string ⟨#[]⟩] : List Value)[j]? = some u → ((w.alloc (.cells #[.int .i64 4, .string ⟨#[97]⟩, .string ⟨#[]⟩] 107)).drew).cell? ((⟨w.heap.size, 0, none⟩ : Addr).add j) = some u := World.news_of_block (w := (w.alloc (.cells #[.int .i64 4, .string ⟨#[97]⟩, .string ⟨#[]⟩] 107)).drew) (cs := #[.int .i64 4, .string ⟨#[97]⟩, .string ⟨#[]⟩]) (heap_alloc_new w _)
  have h1c : ∀ u ∈ ([.int .i64 4, .string ⟨#[97]⟩, .string ⟨#[]⟩] : List Value), u.oneCell' = true := by simp [Value.oneCell']
  have hbl : bs < w.heap.size := heap_lt h.s
  have hpl : p < w.heap.size := hs.lt
  have HS := hid hs
  have HE := hid h
  have HPG := hid hpg
  have HN := hid hne
  have HBB := hid hB
  have HM := hid hm
  have HPN := hid hpn
  have HWW := hid HW
  have HVA := hid hva
  clear h hs hpg hne HW hva
  go_enter Tryz.func289, Tryz.ntmps289
  go_wp2_with fail
  apply share (F := fun (_ _ : Nat) (w5 : World) => Ses.Fr [] w w5)
  case main =>
    intro KEY
    go_region_law? (refine wp_append_lies _ _ _ 44 rfl B 107 i0 _ 3 40 Tryz.underlying44 hi0 hz0 hz1 hz2 (by decide) (by decide) (.slice none 0 0) 0 [] (by rfl) (World.ownsRow_nil _ _ _ _) ⟨w.heap.size, 0, none⟩ 1 1 [.int .i64 4, .string ⟨#[97]⟩, .string ⟨#[]⟩] (by rfl) (by rfl) hnews h1c (by omega) (by unfold maxLen; omega) (by omega) (by simp; omega) (w.heap.size + 1) (by simp) ?_; intro g' c' w5 hown' hgrow hat hlt; have hc5 := (hgrow.cell_far ⟨bs, 4, none⟩ (by simp; omega) (by simp [Value.ownBlock])).trans (hsc2 _); have hf5 := (hgrow.frozen_far ⟨bs, 4, none⟩ (by simp; omega) (by simp [Value.ownBlock])).trans (hsf2 _); have hp5 := (hgrow.cell_far ⟨p, 0, none⟩ (by simp; omega) (by simp [Value.ownBlock])).trans (hsc3 _))
    all_goals
      have HF5 := fr_grown (((Ses.Fr.refl [] w).alloc _).drew) hgrow rfl
      exact KEY g' c' w5 HF5
  case key =>
    intro g' c' w5 hf5
    have ld : p < w.heap.size := hpl
    have HS5 := hid (HS.out.fr' hf5 (by simp))
    have HE5 := hid (HE.out.fr hf5 (by simp) (fun g hg => by simp) (fun i T p hi => by simp))
    have HE6 := hid (HE5.out.setS 4 (.slice (some ⟨g', 0, none⟩) 1 c') rfl (Int.le_refl _))
    have HS6 := hid (HS5.out.other (b := bs) (Ne.symm HN.out) 4 (.slice (some ⟨g', 0, none⟩) 1 c'))
    have HF6 := hid ((hf5.mono (T := [bs]) (fun k hk => .inl (by simp at hk))).setCell ⟨bs, 4, none⟩ (.inl (by simp)) (.slice (some ⟨g', 0, none⟩) 1 c'))
    generalize w5.setCell ⟨bs, 4, none⟩ (.slice (some ⟨g', 0, none⟩) 1 c') = w6 at HE6 HS6 HF6 ⊢
    have e0 := HS6.out.cell (i := 0) rfl
    clear hsc2 hsf2 hsc3 hsc4 hsc5 hnews h1c hi0 hz0 hz1 hz2 c4 g4 d0 d1 d2 d3
    go_wp2_with fail
    refine (newLooks bs w6).mono ?_
    rintro e w7 ⟨rfl, rfl⟩
    have HL7 := hid (new_heap w6 (.cells #[.pointer (some ⟨bs, 1, none⟩), .slice none 0 0] 105))
    have HE7 := hid (HE6.out.below (below_newE w6 (.cells #[.pointer (some ⟨bs, 1, none⟩), .slice none 0 0] 105)))
    have HS7 := hid (HS6.out.below (below_newE w6 (.cells #[.pointer (some ⟨bs, 1, none⟩), .slice none 0 0] 105)))
    have HF7 := hid (HF6.out.alloc (.cells #[.pointer (some ⟨bs, 1, none⟩), .slice none 0 0] 105))
    have HLB := hid (show w.heap.size ≤ w6.heap.size from HF6.out.size)
    generalize w6.alloc (.cells #[.pointer (some ⟨bs, 1, none⟩), .slice none 0 0] 105) = w7 at HL7 HE7 HS7 HF7 ⊢
    generalize w6.heap.size = lb at HL7 HLB ⊢
    have y0 := HS7.out.cell (i := 0) rfl
    have y1 := HS7.out.cell (i := 1) rfl
    have y2 := HS7.out.cell (i := 2) rfl
    have y3 := HS7.out.cell (i := 3) rfl
    have y12 := HS7.out.cell (i := 12) rfl
    go_wp2_with fail
    have HX := hid (fun (W : World) (hb : Below w7.heap.size w7 W) => HWW.out W (.slice (some ⟨g', 0, none⟩) 1 c') lb (HE7.out.below hb) (HS7.out.below hb) (below_heap hb (heap_lt HL7.out) HL7.out) HLB.out (HF7.out.trans (Ses.Fr.of_below hb)))
    have HFX := hid (fun (W : World) (hb : Below w7.heap.size w7 W) => HF7.out.trans (Ses.Fr.of_below hb))
    have hDR := hid (below_drew w7)
    have hDR2 := hid (below_seq (below_drew w7) (below_drew w7.drew))
    have hDR3 := hid (below_seq (below_seq (below_drew w7) (below_drew w7.drew)) (below_drew w7.drew.drew))
    clear hf5 HWW
    apply share (F := fun (x : (Option Addr × Nat × Nat)) (lk : Value) (w8 : World) => ∃ W, Ses.Fr [bs] w W ∧ WK W w8 bs B p lb 4 184 [.func (.func 72) #[.pointer (some ⟨bs, 0, none⟩)] #[], sam, lo, va] f q' sm rv us' (.slice (some ⟨g', 0, none⟩) 1 c') kv lk l ul' ∧ PX W x w8)
    case main =>
      intro KEY
      go_region_with (go_at_call 72; go_must (refine (HX.out _ (by first | exact Below.refl _ _ | exact below_drew _ | exact hDR2.out | exact hDR3.out)).mono ?_; rintro e w8 ⟨x, lk, rfl, hwk⟩; have hwk2 := (⟨_, HFX.out _ (by first | exact Below.refl _ _ | exact below_drew _ | exact hDR2.out | exact hDR3.out), hwk⟩ : ∃ W, Ses.Fr [bs] w W ∧ WK W w8 bs B p lb 4 184 [.func (.func 72) #[.pointer (some ⟨bs, 0, none⟩)] #[], sam, lo, va] f q' sm rv us' (.slice (some ⟨g', 0, none⟩) 1 c') kv lk l ul' ∧ PX W x w8); clear hwk; have hwk3 := hid hwk2; clear hwk2))
      all_goals
        exact KEY _ _ _ hwk3.out
    case key =>
      intro x lk w8 hwk
      obtain ⟨W, hFW, hwk, hpx⟩ := hwk
      have hlk := hwk.lk
      obtain ⟨la, lm, lc, rfl⟩ := hlk
      have z1 : w8.cell? ⟨lb, 1, none⟩ = some (.slice la lm lc) := heap_cell (i := 1) hwk.lb
      have HWK := hid hwk
      have HPX := hid hpx
      have HFW := hid hFW
      clear hwk hpx hFW y0 y1 y2 y3 y12 e0
      go_wp2_with fail
      have hvb := HVA.out
      have hbz : B ≤ w8.heap.size := by have := HWK.out.sb.lt; omega
      refine (answerX HWK.out.es hbz HM.out HWK.out.sb hpB HPN.out hus hus2 x.1 x.2.1 x.2.2 (.slice la lm lc) ⟨_, _, _, rfl⟩ hvb).mono ?_
      rintro e w9 ⟨rfl, han⟩
      have HAN := hid han
      clear han
      go_wp2
      go_end0
      exact ⟨rfl, W, w8, x, _, _, HFW.out, HWK.out.size, HPX.out, HAN.out⟩

end Go.Proofs.YtfekglokoafpiaaGreatDoor

namespace Go.Proofs.YtfekglokoafpiaaGreatDoor
open Go.RowKit

theorem asNoneX (w : World) (xT : TypeId) : (Instr.typeAssert .nilIface xT 181 true).run Tryz.prog w = .ok (.tuple #[.pointer none, .bool false]) w := by kernel_rfl

set_option maxRecDepth 100000 in
set_option maxHeartbeats 400000 in
theorem findNewX {f q bg kv : Value} {rv us : Int} (bs F G ms n : Nat) (es : Array MapEntry) (w : World) (hf : ∀ w, (Instr.findKey 107 (keyV 4) es.toList).run Tryz.prog w = .ok none w) (hM : w.heap[ms]? = some (.map es n)) (h3 : w.heap[bs]? = some (.cells #[f, .int .i64 rv, q, .map (some ms), bg, kv, .int .u64 us] 51)) :
    Calls Tryz.prog 98 #[.pointer (some ⟨bs, 1, none⟩), .agg #[.int .i64 4, .string ⟨#[97]⟩, .string ⟨#[]⟩], .agg #[.func (.func F) #[.pointer (some ⟨bs, 0, none⟩)] #[], .func (.func G) #[] #[], .slice none 0 0]] w fun e w' => ∃ p, e = .returned (.pointer (some ⟨p, 0, none⟩)) ∧ FN w w' bs p ms n es 184 181 f rv q bg kv us (slotL bs 4 false (.slice none 0 0) (-1) 0 (-1) 0 [.func (.func F) #[.pointer (some ⟨bs, 0, none⟩)] #[], .func (.func G) #[] #[], .slice none 0 0, .slice none 0 0]) 4 := by
  have hml := heap_lt hM
  have m2 := asNoneX
  have hA := new_heap w (.cells #[.int .i64 4, .string ⟨#[97]⟩, .string ⟨#[]⟩] 107)
  have hA2 := old_heap (.cells #[.func (.func F) #[.pointer (some ⟨bs, 0, none⟩)] #[], .func (.func G) #[] #[], .slice none 0 0] 145) hA
  have hR := new_heap (w.alloc (.cells #[.int .i64 4, .string ⟨#[97]⟩, .string ⟨#[]⟩] 107)) (.cells #[.func (.func F) #[.pointer (some ⟨bs, 0, none⟩)] #[], .func (.func G) #[] #[], .slice none 0 0] 145)
  rw [show (w.alloc (.cells #[.int .i64 4, .string ⟨#[97]⟩, .string ⟨#[]⟩] 107)).heap.size = w.heap.size + 1 from by simp] at hR
  have hS := old_heap (.cells #[.func (.func F) #[.pointer (some ⟨bs, 0, none⟩)] #[], .func (.func G) #[] #[], .slice none 0 0] 145) (old_heap (.cells #[.int .i64 4, .string ⟨#[97]⟩, .string ⟨#[]⟩] 107) h3)
  have HBL := hid (((Below.refl w.heap.size w).alloc (Nat.le_refl _) (.cells #[.int .i64 4, .string ⟨#[97]⟩, .string ⟨#[]⟩] 107)).alloc (by simp) (.cells #[.func (.func F) #[.pointer (some ⟨bs, 0, none⟩)] #[], .func (.func G) #[] #[], .slice none 0 0] 145))
  have HM1 := hid (old_heap (.cells #[.func (.func F) #[.pointer (some ⟨bs, 0, none⟩)] #[], .func (.func G) #[] #[], .slice none 0 0] 145) (old_heap (.cells #[.int .i64 4, .string ⟨#[97]⟩, .string ⟨#[]⟩] 107) hM))
  have HFK := hid hf
  clear hA hM hf
  go_enter Tryz.func98, Tryz.ntmps98
  go_wp2_with fail
  generalize (w.alloc (.cells #[.int .i64 4, .string ⟨#[97]⟩, .string ⟨#[]⟩] 107)).alloc (.cells #[.func (.func F) #[.pointer (some ⟨bs, 0, none⟩)] #[], .func (.func G) #[] #[], .slice none 0 0] 145) = W at hA2 hR hS HBL HM1 ⊢
  generalize hkb : w.heap.size = kb at hA2 hR ⊢
  have k0 : W.cell? ⟨kb, 0, none⟩ = some (.int .i64 4) := heap_cell (i := 0) hA2
  have k1 : W.cell? ⟨kb, 1, none⟩ = some (.string ⟨#[97]⟩) := heap_cell (i := 1) hA2
  have k2 : W.cell? ⟨kb, 2, none⟩ = some (.string ⟨#[]⟩) := heap_cell (i := 2) hA2
  have s3 : W.cell? ⟨bs, 3, none⟩ = some (.map (some ms)) := heap_cell (i := 3) hS
  have HS := hid hS
  have HA := hid hA2
  have HR := hid hR
  have HKB := hid hkb
  have hbk : bs < kb := by have := heap_lt h3; omega
  clear hA2 hR hS h3 hkb
  have hS : Below W.heap.size W W ∧ W.cell? ⟨kb, 0, none⟩ = some (.int .i64 4) ∧ W.cell? ⟨kb, 1, none⟩ = some (.string ⟨#[97]⟩) ∧ W.cell? ⟨kb, 2, none⟩ = some (.string ⟨#[]⟩) ∧ W.cell? ⟨bs, 3, none⟩ = some (.map (some ms)) := ⟨Below.refl _ _, k0, k1, k2, s3⟩
  clear k0 k1 k2 s3
  have m10 := look_by (w := W) HM1.out (ck 4) HFK.out
  have m11 := look_by (w := W.drew) HM1.out (ck 4) HFK.out
  have m12 := look_by (w := W.drew.drew) HM1.out (ck 4) HFK.out
  have m13 := look_by (w := W.drew.drew.drew) HM1.out (ck 4) HFK.out
  go_region_held3 (fun wx => Below W.heap.size W wx ∧ wx.cell? ⟨kb, 0, none⟩ = some (.int .i64 4) ∧ wx.cell? ⟨kb, 1, none⟩ = some (.string ⟨#[97]⟩) ∧ wx.cell? ⟨kb, 2, none⟩ = some (.string ⟨#[]⟩) ∧ wx.cell? ⟨bs, 3, none⟩ = some (.map (some ms)))
    (first
      | exact keepX4 (by assumption) (below_drew _)
      | exact keepX4 (by assumption) (Below.refl _ _)
      | exact keepX4 hS (below_drew _))
    (first | fail)
  have hHeld := (by assumption : Below W.heap.size W _ ∧ _)
  generalize W.drew = W1 at hHeld ⊢
  obtain ⟨hb1, k0, k1, k2, s3⟩ := hHeld
  have HS1 := hid (Ses.below_heap hb1 HS.out)
  have HA1 := hid (Ses.below_heap hb1 HA.out)
  have HR1 := hid (Ses.below_heap hb1 HR.out)
  have HB1 := hid hb1
  have g1 : W1.frozen? ⟨kb, 1, none⟩ = false := heap_frozen HA1.out
  have g2 : W1.frozen? ⟨kb, 2, none⟩ = false := heap_frozen HA1.out
  have hT : Inv5 W1 W1 kb bs (.int .i64 4) (.map (some ms)) := ⟨Below.refl _ _, k0, k1, k2, s3, g1, g2⟩
  have HM2 := hid (Ses.below_heap hb1 HM1.out)
  clear hb1 hS m10 m11 m12 m13 m2 k0 k1 k2 s3 g1 g2
  go_wp2
  go_region_held3 (fun wx => Below W1.heap.size W1 wx ∧ wx.cell? ⟨kb, 0, none⟩ = some (.int .i64 4) ∧ wx.cell? ⟨kb, 1, none⟩ = some (.string ⟨#[97]⟩) ∧ wx.cell? ⟨kb, 2, none⟩ = some (.string ⟨#[]⟩) ∧ wx.cell? ⟨bs, 3, none⟩ = some (.map (some ms)) ∧ wx.frozen? ⟨kb, 1, none⟩ = false ∧ wx.frozen? ⟨kb, 2, none⟩ = false)
    (first
      | exact keepX5 (by assumption) (below_drew _)
      | exact keepX5 (by assumption) (by assumption)
      | exact keepX5s1 (by assumption)
      | exact keepX5s2 (by assumption)
      | exact keepX5 (by assumption) (Below.refl _ _)
      | exact keepX5 hT (below_drew _))
    (first
      | (go_at_call 23; refine (Ses.clone_any _ _ (by decide)).mono ?_; rintro e w8 ⟨rfl, hb8⟩))
  have hHeld := (by assumption : Below W1.heap.size W1 _ ∧ _)
  generalize (w8.setCell ⟨kb, 1, none⟩ (.string ⟨#[97]⟩)).setCell ⟨kb, 2, none⟩ (.string ⟨#[]⟩) = W2 at hHeld ⊢
  obtain ⟨hb2, k0, k1, k2, s3, g1, g2⟩ := hHeld
  have HS2 := hid (Ses.below_heap hb2 HS1.out)
  have HA2 := hid (Ses.below_heap hb2 HA1.out)
  have hr2 := Ses.below_heap hb2 HR1.out
  have HB2 := hid hb2
  have HM3 := hid (Ses.below_heap hb2 HM2.out)
  have r0 : W2.cell? ⟨kb + 1, 0, none⟩ = some _ := heap_cell (i := 0) hr2
  have r1 : W2.cell? ⟨kb + 1, 1, none⟩ = some _ := heap_cell (i := 1) hr2
  have r2 : W2.cell? ⟨kb + 1, 2, none⟩ = some _ := heap_cell (i := 2) hr2
  have hs2 := HS2.out
  have ha2 := HA2.out
  have e3 : ∀ o, (W2.alloc o).cell? ⟨bs, 3, none⟩ = some (.map (some ms)) := fun o => heap_cell (i := 3) (old_heap o hs2)
  have f3 : ∀ o, (W2.alloc o).frozen? ⟨bs, 3, none⟩ = false := fun o => heap_frozen (old_heap o hs2)
  have e0 : ∀ o, (W2.alloc o).cell? ⟨kb, 0, none⟩ = some (.int .i64 4) := fun o => heap_cell (i := 0) (old_heap o ha2)
  have e1 : ∀ o, (W2.alloc o).cell? ⟨kb, 1, none⟩ = some (.string ⟨#[97]⟩) := fun o => heap_cell (i := 1) (old_heap o ha2)
  have e2 : ∀ o, (W2.alloc o).cell? ⟨kb, 2, none⟩ = some (.string ⟨#[]⟩) := fun o => heap_cell (i := 2) (old_heap o ha2)
  have e33 : ∀ o o', ((W2.alloc o).alloc o').cell? ⟨bs, 3, none⟩ = some (.map (some ms)) := fun o o' => heap_cell (i := 3) (old_heap o' (old_heap o hs2))
  have f33 : ∀ o o', ((W2.alloc o).alloc o').frozen? ⟨bs, 3, none⟩ = false := fun o o' => heap_frozen (old_heap o' (old_heap o hs2))
  have hmn : ∀ W : World, (binOp .eql 43 (.map (some ms)) (.map none)).run Tryz.prog W = .ok (.bool false) W := fun W => run_eql_map_nil W 43 107 92 (some ms) Tryz.underlying43
  clear hb2 hT hr2 g1 g2
  go_wp2
  have hsL := heap_lt hs2
  have haL := heap_lt ha2
  have hN := new_heap W2 (.cells #[.pointer (some ⟨bs, 1, none⟩), .int .i64 4, .string ⟨#[97]⟩, .string ⟨#[]⟩, .bool false, .bool false, .slice none 0 0, .int .i64 (-1), .int .i64 0, .bool false, .int .i64 (-1), .int .u64 0, .func (.func F) #[.pointer (some ⟨bs, 0, none⟩)] #[], .func (.func G) #[] #[], .slice none 0 0, .slice none 0 0] 184)
  have hP := hid (pre_old (f := f) (rv := rv) (q := q) (bg := bg) (kv := kv) (us := us) hs2 ha2 HM3.out hN)
  generalize hW3 : W2.alloc (.cells #[.pointer (some ⟨bs, 1, none⟩), .int .i64 4, .string ⟨#[97]⟩, .string ⟨#[]⟩, .bool false, .bool false, .slice none 0 0, .int .i64 (-1), .int .i64 0, .bool false, .int .i64 (-1), .int .u64 0, .func (.func F) #[.pointer (some ⟨bs, 0, none⟩)] #[], .func (.func G) #[] #[], .slice none 0 0, .slice none 0 0] 184) = W3 at hP ⊢
  clear hN hW3 e3 f3 e0 e1 e2 e33 f33 hmn k0 k1 k2 s3 r0 r1 r2 hs2 ha2
  have q3 : W3.cell? ⟨bs, 3, none⟩ = some (.map (some ms)) := heap_cell (i := 3) hP.out.s
  have k0 : W3.cell? ⟨kb, 0, none⟩ = some (.int .i64 4) := heap_cell (i := 0) hP.out.k
  have k1 : W3.cell? ⟨kb, 1, none⟩ = some (.string ⟨#[97]⟩) := heap_cell (i := 1) hP.out.k
  have k2 : W3.cell? ⟨kb, 2, none⟩ = some (.string ⟨#[]⟩) := heap_cell (i := 2) hP.out.k
  have hm3 := hP.out.m
  have hst : ∀ W : World, W.heap[ms]? = some (.map es n) → (Instr.mapUpdate 43 (.map (some ms)) (keyV 4) (.iface 181 (.pointer (some ⟨W2.heap.size, 0, none⟩)))).run Tryz.prog W = .ok () (Ses.setO W ms (.map (es.push (ent 4 (.iface 181 (.pointer (some ⟨W2.heap.size, 0, none⟩))) n)) (n + 1))) := fun W hW => store_by _ hW (ck 4) HFK.out
  have hst0 := hst W3 hm3
  have hst1 := hst W3.drew hm3
  have hst2 := hst W3.drew.drew hm3
  clear hst
  go_region_with fail
  all_goals
    go_wp2
    go_ret
    refine ⟨_, rfl, hP.out.fn ?_ (Nat.le_refl _) _⟩
    have hw : Below w.heap.size w W := HBL.out
    exact (Ses.Fr.of_below hw).trans ((Ses.Fr.of_below HB1.out).trans (Ses.Fr.of_below HB2.out))
end Go.Proofs.YtfekglokoafpiaaGreatDoor

namespace Go.Proofs.YtfekglokoafpiaaGreatDoor
open Go.RowKit

set_option maxRecDepth 100000 in
set_option maxHeartbeats 1000000 in
theorem fetchNewX {w : World} {bs B ms : Nat} {f q : Value} {rv us : Int} {kv : Value} {l : List (TypeId × Nat)} {ul : List Int} (h : ES w bs B f q (.map (some ms)) rv us (.slice none 0 0) kv l ul) (hB : B ≤ w.heap.size) (hm : l.length ≤ 3) (hrv : 0 ≤ rv)
    {lb G n : Nat} {es : Array MapEntry} (hM : w.heap[ms]? = some (.map es n)) (hf : ∀ w, (Instr.findKey 107 (keyV 4) es.toList).run Tryz.prog w = .ok none w) (hlb : w.heap[lb]? = some (.cells #[.pointer (some ⟨bs, 1, none⟩), .slice none 0 0] 105))
    (q' : Value) (us' : Int) (ul' : List Int) (hul : ul'.length = l.length) (hus : 0 ≤ us') (hus2 : us' ≤ 1000) (S : List Nat) (hS : ∀ b, b ∈ S → b < w.heap.size ∧ b ≠ lb ∧ b ≠ bs ∧ b ≠ kbk bs kv ∧ b ≠ ms) (V : Nat → (Option Addr × Nat × Nat) → World → Prop)
    (hVs : ∀ N x wa wb, V N x wa → St S N wa wb → V N x wb) (hVm : ∀ N N' x wa, V N x wa → N' ≤ N → V N' x wa)
    (HW : ∀ (W : World) (bg : Value) (lb' p : Nat), ES W bs B f q (.map (some ms)) rv us bg kv l ul → SB W p 184 (newL bs 4 [.func (.func 72) #[.pointer (some ⟨bs, 0, none⟩)] #[], .func (.func G) #[] #[], .slice none 0 0, .slice none 0 0]) → W.heap[lb']? = some (.cells #[.pointer (some ⟨bs, 1, none⟩), .slice none 0 0] 105) →
      W.heap[ms]? = some (.map (es.push (ent 4 (.iface 181 (.pointer (some ⟨p, 0, none⟩))) n)) (n + 1)) → w.heap.size ≤ p → w.heap.size ≤ lb' → Ses.Fr [bs, ms] w W →
      Calls Tryz.prog 72 #[.pointer (some ⟨bs, 0, none⟩), .pointer (some ⟨lb', 0, none⟩), keyV 4] W fun e w' => ∃ x lk, e = .returned (.slice x.1 x.2.1 x.2.2) ∧ WK W w' bs B p lb' 4 184 [.func (.func 72) #[.pointer (some ⟨bs, 0, none⟩)] #[], .func (.func G) #[] #[], .slice none 0 0, .slice none 0 0] f q' (.map (some ms)) rv us' bg kv lk l ul' ∧ Ses.Fr (bs :: lb' :: S) W w' ∧ V W.heap.size x w') :
    Calls Tryz.prog 74 #[.pointer (some ⟨lb, 0, none⟩), keyV 4, .agg #[.func (.func 72) #[.pointer (some ⟨bs, 0, none⟩)] #[], .func (.func G) #[] #[], .slice none 0 0]] w fun e w' => ∃ x p bg lk kv', e = .returned (.slice x.1 x.2.1 x.2.2) ∧
      FD w w' bs B p ms lb 4 184 181 (.map (es.push (ent 4 (.iface 181 (.pointer (some ⟨p, 0, none⟩))) n)) (n + 1)) lk [.func (.func 72) #[.pointer (some ⟨bs, 0, none⟩)] #[], .func (.func G) #[] #[], .slice none 0 0, .slice x.1 x.2.1 x.2.2] f q' rv us' bg kv kv' l ul' S ∧ V w.heap.size x w' ∧ (∃ a m c, w'.heap[lb]? = some (.cells #[.pointer (some ⟨bs, 1, none⟩), .slice a m c] 105)) := by
  have HUL := hid hul
  have HFK := hid hf
  have HMM := hid hM
  have hml := heap_lt hM
  have hlm : lb ≠ ms := fun e => by
    subst e
    have := hlb.symm.trans hM
    simp at this
  have HLM := hid hlm
  clear hM hf hlm
  have HUS := hid hus
  have HUS2 := hid hus2
  have HRV := hid hrv
  have HBB := hid hB
  have HM := hid hm
  clear hul hus hus2 hrv hB hm
  have l0 : w.cell? ⟨lb, 0, none⟩ = some (.pointer (some ⟨bs, 1, none⟩)) := heap_cell (i := 0) hlb
  have hbs := h.lt
  have HH := hid h
  have HLB := hid hlb
  have HWW := hid HW
  have HSS := hid hS
  have HVS := hid hVs
  have HVM := hid hVm
  clear h hlb HW hS hVs hVm
  go_enter Tryz.func74, Tryz.ntmps74
  go_wp2_with fail
  have hA := new_heap w (.cells #[.int .i64 4, .string ⟨#[97]⟩, .string ⟨#[]⟩] 107)
  have hA2 := old_heap (.cells #[.func (.func 72) #[.pointer (some ⟨bs, 0, none⟩)] #[], .func (.func G) #[] #[], .slice none 0 0] 145) hA
  have hR := new_heap (w.alloc (.cells #[.int .i64 4, .string ⟨#[97]⟩, .string ⟨#[]⟩] 107)) (.cells #[.func (.func 72) #[.pointer (some ⟨bs, 0, none⟩)] #[], .func (.func G) #[] #[], .slice none 0 0] 145)
  rw [show (w.alloc (.cells #[.int .i64 4, .string ⟨#[97]⟩, .string ⟨#[]⟩] 107)).heap.size = w.heap.size + 1 from by simp] at hR
  have hb0 := ((Below.refl w.heap.size w).alloc (Nat.le_refl _) (.cells #[.int .i64 4, .string ⟨#[97]⟩, .string ⟨#[]⟩] 107)).alloc (by simp) (.cells #[.func (.func 72) #[.pointer (some ⟨bs, 0, none⟩)] #[], .func (.func G) #[] #[], .slice none 0 0] 145)
  clear hA
  generalize (w.alloc (.cells #[.int .i64 4, .string ⟨#[97]⟩, .string ⟨#[]⟩] 107)).alloc (.cells #[.func (.func 72) #[.pointer (some ⟨bs, 0, none⟩)] #[], .func (.func G) #[] #[], .slice none 0 0] 145) = W0 at hA2 hR hb0 ⊢
  generalize w.heap.size = kb at hA2 hR ⊢
  have k0 : W0.cell? ⟨kb, 0, none⟩ = some (.int .i64 4) := heap_cell (i := 0) hA2
  have k1 : W0.cell? ⟨kb, 1, none⟩ = some (.string ⟨#[97]⟩) := heap_cell (i := 1) hA2
  have k2 : W0.cell? ⟨kb, 2, none⟩ = some (.string ⟨#[]⟩) := heap_cell (i := 2) hA2
  have r0 : W0.cell? ⟨kb + 1, 0, none⟩ = some _ := heap_cell (i := 0) hR
  have r1 : W0.cell? ⟨kb + 1, 1, none⟩ = some _ := heap_cell (i := 1) hR
  have r2 : W0.cell? ⟨kb + 1, 2, none⟩ = some _ := heap_cell (i := 2) hR
  have l2 : W0.cell? ⟨lb, 0, none⟩ = some (.pointer (some ⟨bs, 1, none⟩)) := cell_kept hb0 l0
  have HB0 := hid hb0
  clear hA2 hR hb0 l0
  have HFD : Hid (∀ W : World, Below w.heap.size w W → Calls Tryz.prog 98 #[.pointer (some ⟨bs, 1, none⟩), keyV 4, .agg #[.func (.func 72) #[.pointer (some ⟨bs, 0, none⟩)] #[], .func (.func G) #[] #[], .slice none 0 0]] W fun e w1 => ∃ p, e = .returned (.pointer (some ⟨p, 0, none⟩)) ∧ (FN w w1 bs p ms n es 184 181 f rv q (.slice none 0 0) kv us (slotL bs 4 false (.slice none 0 0) (-1) 0 (-1) 0 [.func (.func 72) #[.pointer (some ⟨bs, 0, none⟩)] #[], .func (.func G) #[] #[], .slice none 0 0, .slice none 0 0]) 4)) := hid (fun W hb => (findNewX bs 72 G ms n es W HFK.out (below_heap hb (heap_lt HMM.out) HMM.out) (below_heap hb (heap_lt HH.out.s) HH.out.s)).mono (by
    rintro e w1 ⟨p, he, h2⟩
    exact ⟨p, he, h2.lower hb⟩))
  have hD2 := hid (below_seq HB0.out (below_drew W0))
  have hD3 := hid (below_seq HB0.out (below_seq (below_drew W0) (below_drew W0.drew)))
  have hD4 := hid (below_seq HB0.out (below_seq (below_seq (below_drew W0) (below_drew W0.drew)) (below_drew W0.drew.drew)))
  apply share2 (F := fun (p : Nat) (w1 : World) => FN w w1 bs p ms n es 184 181 f rv q (.slice none 0 0) kv us (slotL bs 4 false (.slice none 0 0) (-1) 0 (-1) 0 [.func (.func 72) #[.pointer (some ⟨bs, 0, none⟩)] #[], .func (.func G) #[] #[], .slice none 0 0, .slice none 0 0]) 4)
  case main =>
    intro KEY
    go_region_with (go_at_call 98; go_must (refine (HFD.out _ (by first | exact HB0.out | exact hD2.out | exact hD3.out | exact hD4.out)).mono ?_; rintro e w1 ⟨p, rfl, hfn⟩; have hfn2 := hid hfn; clear hfn))
    all_goals
      exact KEY _ _ (Hid.out hfn2)
  case key =>
    intro p w1 hfn
    have hn := es_nlb HH.out HLB.out
    have hlm := HLM.out
    have hlb1 : w1.heap[lb]? = some (.cells #[.pointer (some ⟨bs, 1, none⟩), .slice none 0 0] 105) := (hfn.fr.block lb (heap_lt HLB.out) (by simp only [List.mem_cons, List.not_mem_nil, or_false, not_or]; exact ⟨hn.1.symm, hlm⟩)).trans HLB.out
    have z1 : w1.cell? ⟨lb, 1, none⟩ = some (.slice none 0 0) := heap_cell (i := 1) hlb1
    have HLB1 := hid hlb1
    have HFN := hid hfn
    have HN := hid hn
    clear hlb1 hfn hn hlm HFD hD2 hD3 hD4 k0 k2 r0 r1 r2 l2
    go_wp2_with fail
    refine (contains_nil _ _).mono ?_
    rintro e w2 ⟨rfl, rfl⟩
    have HSET : Hid (Calls Tryz.prog 85 #[.iface 181 (.pointer (some ⟨p, 0, none⟩)), .bool true] w2 fun e w' => e = .returned (.tuple #[]) ∧ ∃ rest' bg lk kv', DN w w' bs B p ms 4 184 181 (.map (es.push (ent 4 (.iface 181 (.pointer (some ⟨p, 0, none⟩))) n)) (n + 1)) lk rest' f q' rv us' bg kv kv' l ul' S ∧ (∃ x, rest' = [.func (.func 72) #[.pointer (some ⟨bs, 0, none⟩)] #[], .func (.func G) #[] #[], .slice none 0 0, .slice x.1 x.2.1 x.2.2] ∧ V w.heap.size x w')) := by
      have hms2 := es_nms HH.out (.inl HMM.out)
      have hmo := HFN.out.m
      have hmb : ms ≠ bs := fun e => by
        subst e
        have := hmo.symm.trans HFN.out.s
        simp at this
      refine settledNew (F := 289) (fun N r w => ∃ x, r = [.func (.func 72) #[.pointer (some ⟨bs, 0, none⟩)] #[], .func (.func G) #[] #[], .slice none 0 0, .slice x.1 x.2.1 x.2.2] ∧ V N x w) HH.out HRV.out mtX (by decide) HFN.out hmo (fun _ _ e => by simp at e) hms2.1 hms2.2 HUL.out (fun b hb => ⟨(HSS.out b hb).1, (HSS.out b hb).2.2.2.2, (HSS.out b hb).2.2.1, (HSS.out b hb).2.2.2.1⟩) ?_ ?_ ?_
      · rintro N r wa wb ⟨x, hr, hv⟩ hst
        exact ⟨x, hr, HVS.out _ _ _ _ hv hst⟩
      · rintro N N' r wa ⟨x, hr, hv⟩ hN
        exact ⟨x, hr, HVM.out _ _ _ _ hv hN⟩
      · intro wS heS hsS hmS hsz hfS
        have hwz := hfS.size
        have hlp := HFN.out.lp
        refine (workOutX heS (by have := HBB.out; omega) HM.out hsS (by have := HBB.out; omega) (fun i T' p' hi e => by have := (HH.out.blk i T' p' hi).2.2; omega) ⟨_, _, _, rfl⟩ q' us' ul' HUS.out HUS2.out (fun _ x w2 => Ses.Fr (bs :: S) wS w2 ∧ V wS.heap.size x w2) ?_).mono ?_
        · intro W bg lb' heW hsW hlW hlz hfW
          refine (HWW.out W bg lb' p heW hsW hlW ((hfW.block ms (heap_lt hmS) (by simpa using hmb)).trans hmS) hlp (by omega) (hfS.trans (hfW.mono (T := [bs, ms]) (fun b hb => .inl (by simp at hb ⊢; exact .inl hb))))).mono ?_
          rintro e w3 ⟨x, lk, he, hwk, hfr, hv⟩
          exact ⟨x, lk, he, hwk, frNew hfW hfr hlz, HVM.out _ _ _ _ hv hfW.size⟩
        · rintro e w3 ⟨he, W, w2, x, bg, lk, -, -, ⟨h1, h2⟩, han⟩
          exact ⟨he, w2, _, bg, lk, h1, ⟨x, rfl, h2⟩, han⟩
    clear z1
    go_wp2_with fail
    refine HSET.out.mono ?_
    rintro e w3 ⟨rfl, rest', bg, lk, kv', hdn, x, rfl, hv⟩
    have hn := HN.out
    have hlw := heap_lt HLB.out
    have hlm := HLM.out
    have hlS : lb ∉ bs :: ms :: kbk bs kv :: S := by
      simp only [List.mem_cons, not_or]
      exact ⟨hn.1.symm, by omega, kbk_mem hn.1.symm hn.2.1, fun e => (HSS.out lb e).2.1 rfl⟩
    have hlb3 := (hdn.fr.block lb hlw hlS).trans HLB.out
    have HDN := hid hdn
    have HV := hid hv
    have HLB3 := hid hlb3
    clear hdn hv hlb3 hlS HSET hlm hlw hn
    go_wp2_with fail
    refine (add_any lb p _ _ w3 HLB3.out).mono ?_
    rintro e w4 ⟨rfl, hf4, la, lm, lc, hlb4⟩
    have hpw := HFN.out.lp
    have hlw := heap_lt HLB.out
    have hpl : p ≠ lb := by omega
    have hsb := HDN.out.sb.fr' hf4 (by simpa using hpl)
    have d15 := hsb.cell (i := 15) rfl
    have HSB := hid hsb
    have HF4 := hid hf4
    have HLB4 := hid hlb4
    clear hsb hf4 hlb4 hpl hlw hpw
    go_wp2
    go_ret
    have hn := HN.out
    have hpw := HFN.out.lp
    have hlw := heap_lt HLB.out
    have hdn := HDN.out
    have hdz := hdn.fr.size
    refine ⟨x, p, bg, lk, kv', rfl, ⟨hdn.es.fr HF4.out (by simpa using hn.1) (fun g hg => ?_) (fun i T' p' hi => ?_), HSB.out, (HF4.out.block ms (heap_lt hdn.m) ?_).trans hdn.m, hpw, hdn.kb, ?_⟩, HVS.out _ _ _ _ HV.out ?_, la, lm, lc, HLB4.out⟩
    · simp only [List.mem_cons, List.not_mem_nil, or_false]
      intro e
      subst e
      rcases hdn.kb g hg with h1 | h1
      · exact hn.2.1 h1
      · omega
    · simp only [List.mem_cons, List.not_mem_nil, or_false]
      have hget : l[i]? = some (T', p') ∨ p' = p := by
        by_cases hil : i < l.length
        · rw [List.getElem?_append_left hil] at hi
          exact .inl hi
        · rw [List.getElem?_append_right (by omega)] at hi
          have h0 : i - l.length = 0 := by
            have := (List.getElem?_eq_some_iff.1 hi).1
            simp at this
            omega
          rw [h0] at hi
          simp at hi
          exact .inr hi.2.symm
      rcases hget with h1 | h1
      · exact hn.2.2 i T' p' h1
      · omega
    · have := HLM.out
      simp only [List.mem_cons, List.not_mem_nil, or_false]
      omega
    · refine (hdn.fr.mono (T := bs :: ms :: lb :: kbk bs kv :: S) (fun b hb => .inl ?_)).trans (HF4.out.mono (T := bs :: ms :: lb :: kbk bs kv :: S) (fun b hb => .inl ?_))
      · simp only [List.mem_cons] at hb ⊢
        rcases hb with h | h | h | h <;> simp [h]
      · simp at hb
        simp [hb]
    · exact St.of_fr HF4.out (fun b hb => by simp at hb; exact ⟨by omega, fun e => (HSS.out b e).2.1 hb⟩) (fun b hb => by have := (HSS.out b hb).1; omega)

end Go.Proofs.YtfekglokoafpiaaGreatDoor

namespace Go.Proofs.YtfekglokoafpiaaGreatDoor
open Go.RowKit Go.Sort

theorem expL_len (items : List It) : (expL items).length ≤ items.length :=
  Nat.le_trans (Lib.compact_length_le _) (by rw [List.length_mergeSort]; exact pubs_len items)

theorem expL_join (items : List It) (hn : items.length ≤ 401) (hz : ∀ i ∈ items, i.name.size ≤ 8) : (Lib.join (expL items) [32]).length ≤ 140737488355328 := by
  have h1 := congrArg ByteArray.size (exports_same items)
  have h2 := joinT_size (docE items) 8 (docE_name items 8 hz)
  have h3 := docE_len items
  have h4 : (⟨(Lib.join (expL items) [32]).toArray⟩ : ByteArray).size = (Lib.join (expL items) [32]).length := by simp [ByteArray.size]
  rw [h4] at h1
  have h5 : (docE items).length * (8 + 1) ≤ 401 * 9 := Nat.mul_le_mul (Nat.le_trans h3 hn) (Nat.le_refl _)
  omega

theorem joinE_size (items : List It) (hn : items.length ≤ 401) (hz : ∀ i ∈ items, i.name.size ≤ 8) : (joinT (docE items)).size ≤ 281474976710656 := by
  have h2 := joinT_size (docE items) 8 (docE_name items 8 hz)
  have h3 := docE_len items
  have h5 : (docE items).length * (8 + 1) ≤ 401 * 9 := Nat.mul_le_mul (Nat.le_trans h3 hn) (Nat.le_refl _)
  omega

theorem joinX {items : List It} (hn : items.length ≤ 401) (hz : ∀ i ∈ items, i.name.size ≤ 8) {N : Nat} {y : Option Addr × Nat × Nat} {w : World} (h : VX items N y w) :
    Calls Tryz.prog 39 #[.slice y.1 y.2.1 y.2.2, .string ⟨#[32]⟩] w fun e w' => e = .returned (.string (joinT (docE items))) ∧ Below w.heap.size w w' := by
  rw [exports_same items]
  rcases h with ⟨hnil, c, rfl⟩ | ⟨g, c, rfl, hc2, hN, ⟨cs, fr, hg⟩, hcell⟩
  · rw [hnil]
    refine (Tryz.strings_Join_none none c ⟨#[32]⟩ w).mono ?_
    rintro e w' ⟨rfl, rfl⟩
    exact ⟨rfl, Below.refl _ _⟩
  · have hJ := expL_join items hn hz
    have hle := expL_len items
    obtain ⟨E, hE⟩ : ∃ E, E = expL items := ⟨_, rfl⟩
    rw [← hE] at hcell hJ hle hc2 ⊢
    obtain ⟨L, hL⟩ : ∃ L, L = E.map fun x => (⟨x.toArray⟩ : ByteArray) := ⟨_, rfl⟩
    have hel : E.length = L.length := by rw [hL]; simp
    have hmm : L.map (·.data.toList) = E := by rw [hL, List.map_map]; exact (List.map_congr_left (fun x _ => by simp)).trans (List.map_id _)
    have hget : ∀ (j : Nat) x, L[j]? = some x → w.cell? ⟨g, 0 + j, none⟩ = some (.string x) := by
      intro j x hj
      rw [hL, List.getElem?_map] at hj
      cases hx : E[j]? with
      | none => rw [hx] at hj; simp at hj
      | some y =>
        rw [hx] at hj
        simp at hj
        subst hj
        simpa using hcell j y hx
    show Calls Tryz.prog 39 #[.slice (some ⟨g, 0, none⟩) E.length c, .string ⟨#[32]⟩] w _
    rw [hel]
    refine (Tryz.strings_Join g 0 c L ⟨#[32]⟩ w hget (heap_lt hg) ?_ ?_ ?_).mono ?_
    · rw [← hel]; omega
    · rw [← hel]; exact hc2
    · rw [hmm]; exact hJ
    rintro e w' ⟨rfl, hb⟩
    rw [hmm]
    exact ⟨rfl, hb⟩

set_option maxHeartbeats 1000000 in
theorem ask4 {w : World} {bs B : Nat} {text : ByteArray} {there : Bool} {items : List It} (h : X3 w bs B text there items) (hB : B ≤ w.heap.size) (hnn : items.length ≤ 401) (hex : ∀ i ∈ items, i.ex = .nilIface ∨ ∃ T v, i.ex = .iface T v) (hz : ∀ i ∈ items, i.name.size ≤ 8) :
    Calls Tryz.prog 9 #[.pointer (some ⟨bs, 0, none⟩), .int .i64 (4 : Nat), .string ⟨#[97]⟩, .string ⟨#[]⟩] w fun e w' => e = .returned (.tuple #[.string (joinT (docE items)), .int .i64 0]) ∧ KX B bs w w' := by
  obtain ⟨f, q, rv, us, bg, kv, p1, u1, p2, u2, p3, u3, ms, lk3, x3, N3, hx, hq, hmB, hus, hM, hs3, hr3, hN3, hp13, hp23⟩ := h
  have hbs := hx.es.lt
  have hx0 := hx.begin
  have hf0 := (Ses.Fr.refl [bs] w).setCell ⟨bs, 4, none⟩ (.inl (by simp)) (.slice none 0 0)
  have hp0 : ∀ b, b ∈ [bs] → PB w B bs b := fun b hb => by simp at hb; subst hb; exact pbS hx.es
  have hq0 := hq.pb hf0 hp0
  have hk0 := KX.of hf0 hp0
  have hz0 : (w.setCell ⟨bs, 4, none⟩ (.slice none 0 0)).heap.size = w.heap.size := by simp
  have hM0 : (w.setCell ⟨bs, 4, none⟩ (.slice none 0 0)).heap[ms]? = some (.map #[ent 1 (v1E p1) 0, ent 2 (v2E p2) 1, ent 3 (v3E p3) 2] 3) := (heap_setCell_ne (fun e => by
    subst e
    have := hM.symm.trans hx.es.s
    simp at this) _).trans hM
  have hs30 := hs3.other (sb_ne hs3 (show SB w bs 51 [_, _, _, _, _, _, _] from hx.es.s) (by decide)) 4 (.slice none 0 0)
  have hr30 := own_setT hr3 (show SB w bs 51 [_, _, _, _, _, _, _] from hx.es.s) (by decide) 4 (.slice none 0 0)
  refine (askE (t := joinT (docE items)) (by decide) (by decide) (joinE_size items hnn hz) (heap_cell (i := 4) hx.es.s) (heap_frozen hx.es.s) (fun w' => (∃ a n c, n ≤ 4 ∧ w'.cell? ⟨bs, 5, none⟩ = some (.slice a n c)) ∧ KX B bs w w') ?_ ?_).mono ?_
  · generalize w.setCell ⟨bs, 4, none⟩ (.slice none 0 0) = w0 at hx0 hq0 hk0 hz0 hM0 hs30 hr30
    refine (write4 (t := joinT (docE items)) (fun x w' => (VX items B x w' ∧ (∃ a n c, n ≤ 4 ∧ w'.cell? ⟨bs, 5, none⟩ = some (.slice a n c))) ∧ KX B bs w w') ?_ ?_).mono ?_
    · refine exportsE _ (fun W hb => ?_)
      have hLn := new_heap w0 (LK bs)
      have hbW : Below w0.heap.size w0 W := below_seq (below_newE w0 (LK bs)) hb
      have hlb := below_heap hb (heap_lt hLn) hLn
      have hxW := hx0.below hbW
      have hqW := hq0.below hbW
      have hMW := below_heap hbW (heap_lt hM0) hM0
      have hsW := hs30.below hbW
      have hrW := own_below hr30 hbW
      have hzW := hbW.size
      have hlbB : B ≤ w0.heap.size := by omega
      have hkW := hk0.trans (KX.below hbW)
      clear hLn
      generalize w0.heap.size = lb at hlb hlbB hzW ⊢
      have hn := es_nlb hxW.es hlb
      have hnm := es_nms hxW.es (.inl hMW)
      have hp3 := hxW.es.blk 2 _ p3 rfl
      refine (fetchNewX (G := 73) hxW.es (by omega) (by simp) hxW.rv hMW (fun w => fk4 (v1E p1) (v2E p2) (v3E p3) w) hlb q (us + 1) ([u1, u2] ++ [us + 1]) rfl (by have := hxW.us.1; omega) (by have := hxW.us.2; omega) [p3] (fun b hb => by
        simp at hb
        subst hb
        exact ⟨hp3.2.2, hn.2.2 2 _ _ rfl, by omega, kbk_mem (by omega) hp3.2.1, hnm.2 2 _ _ rfl⟩) (VX items) ?_ ?_ ?_).mono ?_
      · exact fun N x wa wb h1 hst => h1.st hst
      · exact fun N N' x wa h1 hN => h1.mono hN
      · intro W' bg' lb' p he hs hl hm hlp hll hf
        have hs3' := hsW.fr' hf (by
          simp only [List.mem_cons, List.not_mem_nil, or_false, not_or]
          exact ⟨by omega, hnm.2 2 _ p3 rfl⟩)
        have hr3' := own_far hrW (fun g hg => hf.block g (hrW.lt g hg).2 (by
          simp only [List.mem_cons, List.not_mem_nil, or_false, not_or]
          refine ⟨fun e => (show SB W bs 51 [_, _, _, _, _, _, _] from hxW.es.s).row hrW (by decide) (by rw [← e]; exact hg), fun e => ?_⟩
          subst e
          obtain ⟨_, cs, fr, h3⟩ := own_tag hrW g hg
          have := h3.symm.trans hMW
          simp at this))
        refine (workExports_any (l := [(157, p1), (170, p2)]) (ul := [u1, u2]) (u0 := u3) (p := p3) (lk := lk3) (ch := rv) (x := x3) (i := 2) hnn hex he (by simp) (fun i T' p' hi => by
          match i, hi with
          | 0, hi => simp at hi; omega
          | 1, hi => simp at hi; omega
          | i + 2, hi => simp at hi) hm (fun w => fo3 (v1E p1) (v2E p2) (v3E p3) (.iface 181 (.pointer (some ⟨p, 0, none⟩))) w) hl hs3' hxW.us.1 (by have := hxW.us.2; omega) hr3').mono ?_
        rintro e w' ⟨y, he', hfo, hv⟩
        obtain ⟨la, lm, lc, hl'⟩ := hfo.lo
        have hpl : p ≠ lb' := sb_ne hs (show SB W' lb' 105 [_, _] from hl) (by decide)
        have hpb : p ≠ bs := sb_ne hs (show SB W' bs 51 [_, _, _, _, _, _, _] from he.s) (by decide)
        have hpp : p ≠ p3 := sb_ne hs hs3' (by decide)
        exact ⟨y, _, he', ⟨hfo.es, hs.fr' hfo.fr (by simp [hpb, hpl, hpp]), hl', ⟨la, lm, lc, rfl⟩, hfo.fr.size⟩, hfo.fr.mono (fun b hb => .inl (by simp at hb ⊢; rcases hb with h | h | h <;> simp [h])), hv⟩
      · rintro e w' ⟨x, p, bg', lk, kv', he, hfd, hv, hlo⟩
        have hS : ∀ b, b ∈ [bs, ms, lb, kbk bs kv, p3] → PB W B bs b := fun b hb => by
          simp only [List.mem_cons, List.not_mem_nil, or_false] at hb
          rcases hb with rfl | rfl | rfl | rfl | rfl
          · exact pbS hxW.es
          · exact pbM hmB hMW rfl
          · exact pbL hlbB hlb
          · exact pbK hxW.es
          · exact pbT hp3.1 hsW (.inr (.inr (.inl rfl)))
        obtain ⟨a, c, e1⟩ := hfd.es.shape
        exact ⟨x, he, ⟨hv.mono (by omega), a, 4, c, by decide, (heap_cell (i := 5) hfd.es.s).trans (congrArg some e1)⟩, hkW.trans (KX.of hfd.fr hS)⟩
    · rintro x w' ⟨⟨hv, _⟩, hk⟩
      exact joinX hnn hz hv
    · rintro e w' ⟨he, x, w1, ⟨⟨_, a, n, c, h0, h1⟩, h2⟩, hb⟩
      exact ⟨he, ⟨a, n, c, h0, cell_kept hb h1⟩, h2.trans (KX.below hb)⟩
  · rintro w' ⟨h1, _⟩
    exact h1
  · rintro e w' ⟨he, w1, ⟨_, h2⟩, hb⟩
    exact ⟨he, h2.trans (KX.below hb)⟩

end Go.Proofs.YtfekglokoafpiaaGreatDoor

namespace Go.Proofs.YtfekglokoafpiaaGreatDoor
open Go.RowKit Go.Sort

theorem Calls.ex {P : Program} {f : FuncId} {args : Array Value} {w : World} {R : Ending → World → Prop} (h : Calls P f args w R) : ∃ e w', R e w' := by
  obtain ⟨e, w', _, hr, _⟩ := h []
  exact ⟨e, w', hr⟩

/-- Two contracts of one call speak of one end. -/
theorem calls_agree {P : Program} {f : FuncId} {args : Array Value} {w : World} {R R' : Value → World → Prop}
    (h : Calls P f args w fun | .returned v, w' => R v w' | _, _ => False) (h' : Calls P f args w fun | .returned v, w' => R' v w' | _, _ => False) (hi : P.inits.idxOf? f = none) :
    ∃ v w', R v w' ∧ R' v w' := by
  obtain ⟨n, v, w1, e1, r1⟩ := h.done hi
  obtain ⟨m, v', w2, e2, r2⟩ := h'.done hi
  have a : runN P (n + m) (lone (Frame.enter P f args .normal) [] w) = .ended (.done v) w1 := by rw [runN_add, e1]
  have b : runN P (m + n) (lone (Frame.enter P f args .normal) [] w) = .ended (.done v') w2 := by rw [runN_add, e2]
  rw [Nat.add_comm, a] at b
  injection b with ho hw
  injection ho with hv
  subst hv hw
  exact ⟨_, _, r1, r2⟩

theorem own_same {w : World} {B : Nat} {T : TypeId} {v : Value} {xs ys : List Value} (h : w.ownsRow B T 1 v xs.length xs) (h' : w.ownsRow B T 1 v ys.length ys) : xs = ys := by
  obtain ⟨_, ⟨h1, h2⟩ | ⟨g, cap, cur, h1, _, h3, _, _, _, h4⟩⟩ := h
  · obtain ⟨_, ⟨k1, k2⟩ | ⟨g', cap', cur', k1, _⟩⟩ := h'
    · rw [List.length_eq_zero_iff.1 h2, List.length_eq_zero_iff.1 k2]
    · rw [h1] at k1; cases k1
  · obtain ⟨_, ⟨k1, k2⟩ | ⟨g', cap', cur', k1, _, k3, _, _, _, k4⟩⟩ := h'
    · rw [h1] at k1; cases k1
    · rw [h1] at k1
      injection k1 with e1 e2 e3
      injection e1 with e1
      injection e1 with e1
      subst e1
      rw [h3] at k3
      injection k3 with k3
      injection k3 with k3
      subst k3
      rw [← h4, ← k4, e2]

theorem isB_same {B b : Nat} {xs ys : List Value} {w : World} (h : IsB B b xs w) (h' : IsB B b ys w) : xs = ys := by
  have key : ∀ p q, BAt B b p xs w → BAt B b q ys w → xs = ys := by
    rintro p q ⟨_, v, h1, h2, _⟩ ⟨_, v', k1, k2, _⟩
    rw [h1] at k1
    injection k1 with k1
    injection k1 with k1
    have e : v = v' := by
      have := congrArg (fun a => a.toList) k1
      simp at this
      exact this.2
    subst e
    exact own_same h2 k2
  rcases h with h | h <;> rcases h' with h' | h' <;> exact key _ _ h h'

theorem strCells_inj {s t : ByteArray} (h : Lib.strCells s = Lib.strCells t) : s = t := by
  have h2 : s.data.toList = t.data.toList := by
    unfold Lib.strCells at h
    exact (List.map_inj_right (fun a b hab => by
      injection hab with _ h3
      exact UInt8.toNat_inj.1 (by omega))).1 h
  exact ByteArray.ext (Array.toList_inj.1 h2)

theorem writes_uniq {x : Value} {s t : ByteArray} (h : Writes x s) (h' : Writes x t) (hs : s.size ≤ LIM) (ht : t.size ≤ LIM) (w : World) (hp : PT w.heap.size w) : s = t := by
  obtain ⟨T, v, u, F, rfl, m, e, ni, c⟩ := h
  obtain ⟨T', v', u', F', hx, m', e', ni', c'⟩ := h'
  injection hx with e1 e2
  subst e1; subst e2
  have hm := (m w).symm.trans (m' w)
  injection hm with hm
  injection hm with e3 e4
  subst e3; subst e4
  obtain ⟨o, ho⟩ : ∃ o, o = Obj.cells #[.pointer none, .slice none 0 0] 116 (0, 0) := ⟨_, rfl⟩
  have hb : IsB w.heap.size w.heap.size [] (w.alloc o) := .inl ⟨Nat.le_refl _, .slice none 0 0, by rw [new_heap, ho], ⟨rfl, .inl ⟨rfl, rfl⟩⟩, by simp [Value.ownBlock]⟩
  have hp' := hp.on (below_new w o)
  have h1 := c w.heap.size w.heap.size [] (w.alloc o) hb (by simpa using hs) (by simp) hp'
  have h2 := c' w.heap.size w.heap.size [] (w.alloc o) hb (by simpa using ht) (by simp) hp'
  obtain ⟨_, w', a1, a2⟩ := calls_agree (R := fun _ w' => Adds w.heap.size w.heap.size [] s (w.alloc o) w') (R' := fun _ w' => Adds w.heap.size w.heap.size [] t (w.alloc o) w')
    (h1.mono fun e w' ⟨⟨r, hr⟩, hq⟩ => by subst hr; exact hq) (h2.mono fun e w' ⟨⟨r, hr⟩, hq⟩ => by subst hr; exact hq) ni
  exact strCells_inj (by simpa using isB_same a1.bd a2.bd)

theorem itemL_size (d pre nm ty sx : ByteArray) : sx.size ≤ (itemL d pre nm ty sx).size := by
  simp only [itemL, ByteArray.size_append]; omega

theorem itx_uniq {i : It} {s t : ByteArray} (h : ITx i s) (h' : ITx i t) (w : World) (hp : PT w.heap.size w) : s = t := by
  obtain ⟨_, hs, ⟨k1, e1, q1⟩ | ⟨sx, hw, ⟨k1, q1⟩ | ⟨k1, q1⟩⟩⟩ := h <;> obtain ⟨_, ht, ⟨k2, e2, q2⟩ | ⟨tx, hw2, ⟨k2, q2⟩ | ⟨k2, q2⟩⟩⟩ := h'
  all_goals first
    | (exfalso; omega)
    | (exact q1.trans q2.symm)
    | (have z1 := itemL_size (decT i.num) ⟨#[58, 108, 101, 116, 32]⟩ i.name i.typ sx
       have z2 := itemL_size (decT i.num) ⟨#[58, 108, 101, 116, 32]⟩ i.name i.typ tx
       rw [← q1] at z1; rw [← q2] at z2
       have e := writes_uniq hw hw2 (by unfold LIM; omega) (by unfold LIM; omega) w hp
       rw [q1, q2, e])
    | (have z1 := itemL_size (decT i.num) ⟨#[58, 112, 117, 98, 32]⟩ i.name i.typ sx
       have z2 := itemL_size (decT i.num) ⟨#[58, 112, 117, 98, 32]⟩ i.name i.typ tx
       rw [← q1] at z1; rw [← q2] at z2
       have e := writes_uniq hw hw2 (by unfold LIM; omega) (by unfold LIM; omega) w hp
       rw [q1, q2, e])

/-- Lines of items. -/
def LinesOf (items : List It) (ss : List ByteArray) : Prop := ss.length = items.length ∧ ∀ (k : Nat) (i : It) (s : ByteArray), items[k]? = some i → ss[k]? = some s → ITx i s

theorem lines_uniq {items : List It} {ss tt : List ByteArray} (h : LinesOf items ss) (h' : LinesOf items tt) (w : World) (hp : PT w.heap.size w) : ss = tt := by
  refine List.ext_getElem (h.1.trans h'.1.symm) fun k h1 h2 => ?_
  have hk : k < items.length := by rw [← h.1]; exact h1
  exact itx_uniq (h.2 k items[k] ss[k] (List.getElem?_eq_getElem hk) (List.getElem?_eq_getElem h1)) (h'.2 k items[k] tt[k] (List.getElem?_eq_getElem hk) (List.getElem?_eq_getElem h2)) w hp

end Go.Proofs.YtfekglokoafpiaaGreatDoor

namespace Go.Proofs.YtfekglokoafpiaaGreatDoor
open Go.RowKit

theorem itemP_lt {toks : List Tok} (hw : Wf toks) (w : World) {a : Nat} (ha : a < toks.length) : (itemP toks a).1 < toks.length := by
  have h1 := new_heap w (.cells (tokCells toks).toArray 118)
  have h2 := new_heap (w.alloc (.cells (tokCells toks).toArray 118)) (.cells #[.slice (some ⟨w.heap.size, 0, none⟩) toks.length toks.length, .int .i64 a, .int .i64 0] 210)
  have h3 := old_heap (.cells #[.slice (some ⟨w.heap.size, 0, none⟩) toks.length toks.length, .int .i64 a, .int .i64 0] 210) h1
  have hP : PS toks (w.alloc (.cells (tokCells toks).toArray 118)).heap.size w.heap.size toks.length a 0 ((w.alloc (.cells (tokCells toks).toArray 118)).alloc (.cells #[.slice (some ⟨w.heap.size, 0, none⟩) toks.length toks.length, .int .i64 a, .int .i64 0] 210)).heap :=
    ⟨by simp, by rw [h2]; rfl, _, h3, by
      have : (tokCells toks).length = 3 * toks.length := tokCells_length toks
      simp [← this]⟩
  obtain ⟨_, _, hx⟩ := Calls.ex (item_any hw _ _ _ a _ ha hP)
  exact hx.2.2.1

theorem treeP_len {toks : List Tok} : ∀ (f a : Nat), (treeP toks f a).1.length ≤ f
  | 0, _ => by simp [treeP]
  | f + 1, a => by
    unfold treeP
    split
    · simp
    · split
      · simp
      · rename_i b i _
        have := treeP_len (toks := toks) f b
        simp; omega

theorem treeP_fault {toks : List Tok} (hw : Wf toks) (w : World) : ∀ (f a b : Nat), a < toks.length → (treeP toks f a).2 = some b → b < toks.length
  | 0, _, _, _, h => by simp [treeP] at h
  | f + 1, a, b, ha, h => by
    have hlt := itemP_lt hw w ha
    unfold treeP at h
    split at h
    · simp at h
    · split at h
      · rename_i c hip
        rw [hip] at hlt
        simp at h
        subst h
        exact hlt
      · rename_i c i hip
        rw [hip] at hlt
        exact treeP_fault hw w f c b hlt h

theorem nameB_size8 {t : ByteArray} (h : nameB t = true) : t.size ≤ 8 := by
  unfold nameB at h
  simp only [Bool.and_eq_true, decide_eq_true_eq] at h
  exact h.1.1.2

theorem itemP_name {toks : List Tok} {a b : Nat} {i : It} (h : itemP toks a = (b, some i)) : i.name.size ≤ 8 := by
  unfold itemP at h
  split at h
  · unfold useP at h
    split at h
    · rename_i hn
      split at h
      · cases h; exact nameB_size8 hn
      · cases h
    · cases h
  · have key : ∀ k a, letP toks k a = (b, some i) → i.name.size ≤ 8 := by
      intro k a h
      unfold letP at h
      split at h
      · split at h
        · rename_i hn
          split at h
          · split at h
            · split at h
              · split at h
                · cases h
                · split at h
                  · cases h; exact nameB_size8 hn
                  · cases h
              · cases h
            · cases h
          · cases h
        · cases h
      · cases h
    split at h
    · exact key _ _ h
    · exact key _ _ h

theorem treeP_name {toks : List Tok} : ∀ (f a : Nat), ∀ i ∈ (treeP toks f a).1, i.name.size ≤ 8
  | 0, a, i, h => by simp [treeP] at h
  | f + 1, a, i, h => by
    unfold treeP at h
    split at h
    · simp at h
    · split at h
      · simp at h
      · rename_i b i1 hip
        simp only [List.mem_cons] at h
        rcases h with rfl | h
        · exact itemP_name hip
        · exact treeP_name f b i h

/-- What is asked of a text's items. -/
structure TreeOk (text : ByteArray) (items : List It) (fl : Option Nat) : Prop where
  tree : treeAll (lexAll text) = (items, fl)
  len : items.length ≤ 401
  num : ∀ i ∈ items, i.num ≤ 1000
  name : ∀ i ∈ items, i.name.size ≤ 8
  fault : ∀ b, fl = some b → b ≤ 1000

theorem treeOk {text : ByteArray} (hw : Wf (lexAll text)) (w : World) : TreeOk text (treeAll (lexAll text)).1 (treeAll (lexAll text)).2 := by
  have hle := hw.le
  refine ⟨rfl, Nat.le_trans (treeP_len _ _) hle, fun i hi => ?_, fun i hi => treeP_name _ _ i hi, fun b hb => ?_⟩
  · have := treeP_num _ _ i hi; omega
  · have := treeP_fault hw w _ _ b hw.pos hb; omega

end Go.Proofs.YtfekglokoafpiaaGreatDoor
