/-
  
  
  settle of the last slot, once more.
  
  
  
-/
import Derived.Test.YtfekglokoafpiaaGreatDoorQ24

set_option linter.unusedVariables false
set_option linter.unusedSimpArgs false

namespace Go.Proofs.YtfekglokoafpiaaGreatDoor
open Go.RowKit

set_option maxRecDepth 100000 in
set_option maxHeartbeats 4000000 in
theorem workOutS2 {w : World} {bs B : Nat} {f q sm : Value} {rv us : Int} {kv : Value} {l : List (TypeId × Nat)} {ul : List Int} (h : ES w bs B f q sm rv us (.slice none 0 0) kv l ul) (hB : B ≤ w.heap.size) (hm : l.length ≤ 3) {p : Nat} {sam lo va : Value} (hs : SB w p 167 (newL bs 1 [.func (.func 59) #[.pointer (some ⟨bs, 0, none⟩)] #[], sam, lo, va])) (hpB : B ≤ p) (hpn : ∀ (i : Nat) T' p', l[i]? = some (T', p') → p' ≠ p)
    (hva : ∃ y, va = .string y) (us' : Int) (ul' : List Int) (hus : 0 ≤ us') (hus2 : us' ≤ 1000) (PX : World → ByteArray → Value → World → Prop)
    (HW : ∀ (W : World) (bg : Value) (lb : Nat), ES W bs B f q sm rv us bg kv l ul → SB W p 167 (newL bs 1 [.func (.func 59) #[.pointer (some ⟨bs, 0, none⟩)] #[], sam, lo, va]) → W.heap[lb]? = some (.cells #[.pointer (some ⟨bs, 1, none⟩), .slice none 0 0] 105) → w.heap.size ≤ lb → Ses.Fr [bs] w W → Calls Tryz.prog 59 #[.pointer (some ⟨bs, 0, none⟩), .pointer (some ⟨lb, 0, none⟩), keyV 1] W fun e w' => ∃ x lk q', e = .returned (.string x) ∧ WK W w' bs B p lb 1 167 [.func (.func 59) #[.pointer (some ⟨bs, 0, none⟩)] #[], sam, lo, va] f q' sm rv us' bg kv lk l ul' ∧ PX W x q' w') :
    Calls Tryz.prog 273 #[.pointer (some ⟨p, 0, none⟩)] w fun e w' => e = .returned (.tuple #[]) ∧ ∃ W w2 x bg lk q', Ses.Fr [bs] w W ∧ W.heap.size ≤ w2.heap.size ∧ PX W x q' w2 ∧ AN w2 w' bs B p 1 167 lk [.func (.func 59) #[.pointer (some ⟨bs, 0, none⟩)] #[], sam, lo, .string x] f q' sm rv us' bg kv l ul' 157 := by
  have hbs : bs < B := h.lt
  have hne : bs ≠ p := by omega
  have hpg := hs.row h.own (by decide)
  have c4 : w.cell? ⟨bs, 4, none⟩ = some (.slice none 0 0) := heap_cell (i := 4) h.s
  have g4 : w.frozen? ⟨bs, 4, none⟩ = false := heap_frozen h.s
  have d0 := hs.cell (i := 0) rfl
  have d1 := hs.cell (i := 1) rfl
  have d2 := hs.cell (i := 2) rfl
  have d3 := hs.cell (i := 3) rfl
  have hsc2 : ∀ o, (w.alloc o).drew.cell? ⟨bs, 4, none⟩ = some (.slice none 0 0) := fun o => cell_kept (w' := w.alloc o) (below_new w o) c4
  have hsf2 : ∀ o, (w.alloc o).drew.frozen? ⟨bs, 4, none⟩ = false := fun o => heap_frozen (old_heap o h.s)
  have hsc3 : ∀ o, (w.alloc o).drew.cell? ⟨p, 0, none⟩ = some (.pointer (some ⟨bs, 1, none⟩)) := fun o => cell_kept (w' := w.alloc o) (below_new w o) d0
  have hsc4 : ∀ o, (w.alloc o).cell? ⟨p, 0, none⟩ = some (.pointer (some ⟨bs, 1, none⟩)) := fun o => cell_kept (w' := w.alloc o) (below_new w o) d0
  have hsc5 : ∀ o, (w.alloc o).cell? ⟨bs, 4, none⟩ = some (.slice none 0 0) := fun o => cell_kept (w' := w.alloc o) (below_new w o) c4
  obtain ⟨i0, hi0, hz0, hz1, hz2⟩ := info_parts infoKeyE
  have hnews : ∀ (j : Nat) u, ([.int .i64 1, .string ⟨#[97]⟩, .string ⟨#[]⟩] : List Value)[j]? = some u → ((w.alloc (.cells #[.int .i64 1, .string ⟨#[97]⟩, .string ⟨#[]⟩] 107)).drew).cell? ((⟨w.heap.size, 0, none⟩ : Addr).add j) = some u := World.news_of_block (w := (w.alloc (.cells #[.int .i64 1, .string ⟨#[97]⟩, .string ⟨#[]⟩] 107)).drew) (cs := #[.int .i64 1, .string ⟨#[97]⟩, .string ⟨#[]⟩]) (heap_alloc_new w _)
  have h1c : ∀ u ∈ ([.int .i64 1, .string ⟨#[97]⟩, .string ⟨#[]⟩] : List Value), u.oneCell' = true := by simp [Value.oneCell']
  have hbl : bs < w.heap.size := heap_lt h.s
  have hpl : p < w.heap.size := hs.lt
  have HS := hid hs
  have HE := hid h
  have HPG := hid hpg
  have HN := hid hne
  have HBB := hid hB
  have HM := hid hm
  have HPN := hid hpn
  have HWW := hid HW
  have HVA := hid hva
  clear h hs hpg hne HW hva
  go_enter Tryz.func273, Tryz.ntmps273
  go_wp2_with fail
  apply share (F := fun (_ _ : Nat) (w5 : World) => Ses.Fr [] w w5)
  case main =>
    intro KEY
    go_region_law? (refine wp_append_lies _ _ _ 44 rfl B 107 i0 _ 3 40 Tryz.underlying44 hi0 hz0 hz1 hz2 (by decide) (by decide) (.slice none 0 0) 0 [] (by rfl) (World.ownsRow_nil _ _ _ _) ⟨w.heap.size, 0, none⟩ 1 1 [.int .i64 1, .string ⟨#[97]⟩, .string ⟨#[]⟩] (by rfl) (by rfl) hnews h1c (by omega) (by unfold maxLen; omega) (by omega) (by simp; omega) (w.heap.size + 1) (by simp) ?_; intro g' c' w5 hown' hgrow hat hlt; have hc5 := (hgrow.cell_far ⟨bs, 4, none⟩ (by simp; omega) (by simp [Value.ownBlock])).trans (hsc2 _); have hf5 := (hgrow.frozen_far ⟨bs, 4, none⟩ (by simp; omega) (by simp [Value.ownBlock])).trans (hsf2 _); have hp5 := (hgrow.cell_far ⟨p, 0, none⟩ (by simp; omega) (by simp [Value.ownBlock])).trans (hsc3 _))
    all_goals
      have HF5 := fr_grown (((Ses.Fr.refl [] w).alloc _).drew) hgrow rfl
      exact KEY g' c' w5 HF5
  case key =>
    intro g' c' w5 hf5
    have ld : p < w.heap.size := hpl
    have HS5 := hid (HS.out.fr' hf5 (by simp))
    have HE5 := hid (HE.out.fr hf5 (by simp) (fun g hg => by simp) (fun i T p hi => by simp))
    have HE6 := hid (HE5.out.setS 4 (.slice (some ⟨g', 0, none⟩) 1 c') rfl (Int.le_refl _))
    have HS6 := hid (HS5.out.other (b := bs) (Ne.symm HN.out) 4 (.slice (some ⟨g', 0, none⟩) 1 c'))
    have HF6 := hid ((hf5.mono (T := [bs]) (fun k hk => .inl (by simp at hk))).setCell ⟨bs, 4, none⟩ (.inl (by simp)) (.slice (some ⟨g', 0, none⟩) 1 c'))
    generalize w5.setCell ⟨bs, 4, none⟩ (.slice (some ⟨g', 0, none⟩) 1 c') = w6 at HE6 HS6 HF6 ⊢
    have e0 := HS6.out.cell (i := 0) rfl
    clear hsc2 hsf2 hsc3 hsc4 hsc5 hnews h1c hi0 hz0 hz1 hz2 c4 g4 d0 d1 d2 d3
    go_wp2_with fail
    refine (newLooks bs w6).mono ?_
    rintro e w7 ⟨rfl, rfl⟩
    have HL7 := hid (new_heap w6 (.cells #[.pointer (some ⟨bs, 1, none⟩), .slice none 0 0] 105))
    have HE7 := hid (HE6.out.below (below_newE w6 (.cells #[.pointer (some ⟨bs, 1, none⟩), .slice none 0 0] 105)))
    have HS7 := hid (HS6.out.below (below_newE w6 (.cells #[.pointer (some ⟨bs, 1, none⟩), .slice none 0 0] 105)))
    have HF7 := hid (HF6.out.alloc (.cells #[.pointer (some ⟨bs, 1, none⟩), .slice none 0 0] 105))
    have HLB := hid (show w.heap.size ≤ w6.heap.size from HF6.out.size)
    generalize w6.alloc (.cells #[.pointer (some ⟨bs, 1, none⟩), .slice none 0 0] 105) = w7 at HL7 HE7 HS7 HF7 ⊢
    generalize w6.heap.size = lb at HL7 HLB ⊢
    have y0 := HS7.out.cell (i := 0) rfl
    have y1 := HS7.out.cell (i := 1) rfl
    have y2 := HS7.out.cell (i := 2) rfl
    have y3 := HS7.out.cell (i := 3) rfl
    have y12 := HS7.out.cell (i := 12) rfl
    go_wp2_with fail
    have HX := hid (fun (W : World) (hb : Below w7.heap.size w7 W) => HWW.out W (.slice (some ⟨g', 0, none⟩) 1 c') lb (HE7.out.below hb) (HS7.out.below hb) (below_heap hb (heap_lt HL7.out) HL7.out) HLB.out (HF7.out.trans (Ses.Fr.of_below hb)))
    have HFX := hid (fun (W : World) (hb : Below w7.heap.size w7 W) => HF7.out.trans (Ses.Fr.of_below hb))
    have hDR := hid (below_drew w7)
    have hDR2 := hid (below_seq (below_drew w7) (below_drew w7.drew))
    have hDR3 := hid (below_seq (below_seq (below_drew w7) (below_drew w7.drew)) (below_drew w7.drew.drew))
    clear hf5 HWW
    apply share (F := fun (x : ByteArray) (lk : Value) (w8 : World) => ∃ W q', Ses.Fr [bs] w W ∧ WK W w8 bs B p lb 1 167 [.func (.func 59) #[.pointer (some ⟨bs, 0, none⟩)] #[], sam, lo, va] f q' sm rv us' (.slice (some ⟨g', 0, none⟩) 1 c') kv lk l ul' ∧ PX W x q' w8)
    case main =>
      intro KEY
      go_region_with (go_at_call 59; go_must (refine (HX.out _ (by first | exact Below.refl _ _ | exact below_drew _ | exact hDR2.out | exact hDR3.out)).mono ?_; rintro e w8 ⟨x, lk, q', rfl, hwk⟩; have hwk2 := (⟨_, q', HFX.out _ (by first | exact Below.refl _ _ | exact below_drew _ | exact hDR2.out | exact hDR3.out), hwk⟩ : ∃ W q', Ses.Fr [bs] w W ∧ WK W w8 bs B p lb 1 167 [.func (.func 59) #[.pointer (some ⟨bs, 0, none⟩)] #[], sam, lo, va] f q' sm rv us' (.slice (some ⟨g', 0, none⟩) 1 c') kv lk l ul' ∧ PX W x q' w8); clear hwk; have hwk3 := hid hwk2; clear hwk2))
      all_goals
        exact KEY _ _ _ hwk3.out
    case key =>
      intro x lk w8 hwk
      obtain ⟨W, q', hFW, hwk, hpx⟩ := hwk
      have hlk := hwk.lk
      obtain ⟨la, lm, lc, rfl⟩ := hlk
      have z1 : w8.cell? ⟨lb, 1, none⟩ = some (.slice la lm lc) := heap_cell (i := 1) hwk.lb
      have HWK := hid hwk
      have HPX := hid hpx
      have HFW := hid hFW
      clear hwk hpx hFW y0 y1 y2 y3 y12 e0
      go_wp2_with fail
      have hvb := HVA.out
      have hbz : B ≤ w8.heap.size := by have := HWK.out.sb.lt; omega
      refine (answerS HWK.out.es hbz HM.out HWK.out.sb hpB HPN.out hus hus2 x (.slice la lm lc) ⟨_, _, _, rfl⟩ hvb).mono ?_
      rintro e w9 ⟨rfl, han⟩
      have HAN := hid han
      clear han
      go_wp2
      go_end0
      exact ⟨rfl, W, w8, x, _, _, q', HFW.out, HWK.out.size, HPX.out, HAN.out⟩

end Go.Proofs.YtfekglokoafpiaaGreatDoor

namespace Go.Proofs.YtfekglokoafpiaaGreatDoor
open Go.RowKit

set_option maxRecDepth 100000 in
set_option maxHeartbeats 1000000 in
theorem fetchNewS2 {w : World} {bs B : Nat} {f q : Value} {rv us : Int} {kv : Value} {l : List (TypeId × Nat)} {ul : List Int} (h : ES w bs B f q (.map none) rv us (.slice none 0 0) kv l ul) (hB : B ≤ w.heap.size) (hm : l.length ≤ 3) (hrv : 0 ≤ rv)
    {lb : Nat} (hlb : w.heap[lb]? = some (.cells #[.pointer (some ⟨bs, 1, none⟩), .slice none 0 0] 105))
    (us' : Int) (ul' : List Int) (hul : ul'.length = l.length) (hus : 0 ≤ us') (hus2 : us' ≤ 1000) (S : List Nat) (hS : ∀ b, b ∈ S → b < w.heap.size ∧ b ≠ lb ∧ b ≠ bs ∧ b ≠ kbk bs kv) (V : Nat → ByteArray → Value → World → Prop)
    (hVs : ∀ N x q' wa wb, V N x q' wa → St S N wa wb → V N x q' wb) (hVm : ∀ N N' x q' wa, V N x q' wa → N' ≤ N → V N' x q' wa)
    (HW : ∀ (W : World) (bg : Value) (lb' p ms : Nat), ES W bs B f q (.map (some ms)) rv us bg kv l ul → SB W p 167 (newL bs 1 [.func (.func 59) #[.pointer (some ⟨bs, 0, none⟩)] #[], .func (.func 87) #[] #[], .string ⟨#[]⟩, .string ⟨#[]⟩]) → W.heap[lb']? = some (.cells #[.pointer (some ⟨bs, 1, none⟩), .slice none 0 0] 105) →
      W.heap[ms]? = some (.map (#[].push (ent 1 (.iface 157 (.pointer (some ⟨p, 0, none⟩))) 0)) (0 + 1)) → w.heap.size ≤ p → w.heap.size ≤ lb' → w.heap.size ≤ ms → Ses.Fr [bs, ms] w W →
      Calls Tryz.prog 59 #[.pointer (some ⟨bs, 0, none⟩), .pointer (some ⟨lb', 0, none⟩), keyV 1] W fun e w' => ∃ x lk q', e = .returned (.string x) ∧ WK W w' bs B p lb' 1 167 [.func (.func 59) #[.pointer (some ⟨bs, 0, none⟩)] #[], .func (.func 87) #[] #[], .string ⟨#[]⟩, .string ⟨#[]⟩] f q' (.map (some ms)) rv us' bg kv lk l ul' ∧ Ses.Fr (bs :: lb' :: S) W w' ∧ V W.heap.size x q' w') :
    Calls Tryz.prog 57 #[.pointer (some ⟨lb, 0, none⟩), keyV 1, .agg #[.func (.func 59) #[.pointer (some ⟨bs, 0, none⟩)] #[], .func (.func 87) #[] #[], .string ⟨#[]⟩]] w fun e w' => ∃ x p ms bg lk kv' q', e = .returned (.string x) ∧ w.heap.size ≤ ms ∧
      FD w w' bs B p ms lb 1 167 157 (.map (#[].push (ent 1 (.iface 157 (.pointer (some ⟨p, 0, none⟩))) 0)) (0 + 1)) lk [.func (.func 59) #[.pointer (some ⟨bs, 0, none⟩)] #[], .func (.func 87) #[] #[], .string ⟨#[]⟩, .string x] f q' rv us' bg kv kv' l ul' S ∧ V w.heap.size x q' w' ∧ (∃ a m c, w'.heap[lb]? = some (.cells #[.pointer (some ⟨bs, 1, none⟩), .slice a m c] 105)) := by
  have HUL := hid hul
  have HUS := hid hus
  have HUS2 := hid hus2
  have HRV := hid hrv
  have HBB := hid hB
  have HM := hid hm
  clear hul hus hus2 hrv hB hm
  have l0 : w.cell? ⟨lb, 0, none⟩ = some (.pointer (some ⟨bs, 1, none⟩)) := heap_cell (i := 0) hlb
  have hbs := h.lt
  have HH := hid h
  have HLB := hid hlb
  have HWW := hid HW
  have HSS := hid hS
  have HVS := hid hVs
  have HVM := hid hVm
  clear h hlb HW hS hVs hVm
  go_enter Tryz.func57, Tryz.ntmps57
  go_wp2_with fail
  have hA := new_heap w (.cells #[.int .i64 1, .string ⟨#[97]⟩, .string ⟨#[]⟩] 107)
  have hA2 := old_heap (.cells #[.func (.func 59) #[.pointer (some ⟨bs, 0, none⟩)] #[], .func (.func 87) #[] #[], .string ⟨#[]⟩] 111) hA
  have hR := new_heap (w.alloc (.cells #[.int .i64 1, .string ⟨#[97]⟩, .string ⟨#[]⟩] 107)) (.cells #[.func (.func 59) #[.pointer (some ⟨bs, 0, none⟩)] #[], .func (.func 87) #[] #[], .string ⟨#[]⟩] 111)
  rw [show (w.alloc (.cells #[.int .i64 1, .string ⟨#[97]⟩, .string ⟨#[]⟩] 107)).heap.size = w.heap.size + 1 from by simp] at hR
  have hb0 := ((Below.refl w.heap.size w).alloc (Nat.le_refl _) (.cells #[.int .i64 1, .string ⟨#[97]⟩, .string ⟨#[]⟩] 107)).alloc (by simp) (.cells #[.func (.func 59) #[.pointer (some ⟨bs, 0, none⟩)] #[], .func (.func 87) #[] #[], .string ⟨#[]⟩] 111)
  clear hA
  generalize (w.alloc (.cells #[.int .i64 1, .string ⟨#[97]⟩, .string ⟨#[]⟩] 107)).alloc (.cells #[.func (.func 59) #[.pointer (some ⟨bs, 0, none⟩)] #[], .func (.func 87) #[] #[], .string ⟨#[]⟩] 111) = W0 at hA2 hR hb0 ⊢
  generalize w.heap.size = kb at hA2 hR ⊢
  have k0 : W0.cell? ⟨kb, 0, none⟩ = some (.int .i64 1) := heap_cell (i := 0) hA2
  have k1 : W0.cell? ⟨kb, 1, none⟩ = some (.string ⟨#[97]⟩) := heap_cell (i := 1) hA2
  have k2 : W0.cell? ⟨kb, 2, none⟩ = some (.string ⟨#[]⟩) := heap_cell (i := 2) hA2
  have r0 : W0.cell? ⟨kb + 1, 0, none⟩ = some _ := heap_cell (i := 0) hR
  have r1 : W0.cell? ⟨kb + 1, 1, none⟩ = some _ := heap_cell (i := 1) hR
  have r2 : W0.cell? ⟨kb + 1, 2, none⟩ = some _ := heap_cell (i := 2) hR
  have l2 : W0.cell? ⟨lb, 0, none⟩ = some (.pointer (some ⟨bs, 1, none⟩)) := cell_kept hb0 l0
  have HB0 := hid hb0
  clear hA2 hR hb0 l0
  have HFD : Hid (∀ W : World, Below w.heap.size w W → Calls Tryz.prog 83 #[.pointer (some ⟨bs, 1, none⟩), keyV 1, .agg #[.func (.func 59) #[.pointer (some ⟨bs, 0, none⟩)] #[], .func (.func 87) #[] #[], .string ⟨#[]⟩]] W fun e w1 => ∃ p ms, e = .returned (.pointer (some ⟨p, 0, none⟩)) ∧ (w.heap.size ≤ ms ∧ FN w w1 bs p ms 0 #[] 167 157 f rv q (.slice none 0 0) kv us (slotL bs 1 false (.slice none 0 0) (-1) 0 (-1) 0 [.func (.func 59) #[.pointer (some ⟨bs, 0, none⟩)] #[], .func (.func 87) #[] #[], .string ⟨#[]⟩, .string ⟨#[]⟩]) 1)) := hid (fun W hb => (findNewS bs 59 W (below_heap hb (heap_lt HH.out.s) HH.out.s)).mono (by
    rintro e w1 ⟨p, ms, he, h1, h2⟩
    exact ⟨p, ms, he, Nat.le_trans hb.size h1, h2.lower hb⟩))
  have hD2 := hid (below_seq HB0.out (below_drew W0))
  have hD3 := hid (below_seq HB0.out (below_seq (below_drew W0) (below_drew W0.drew)))
  have hD4 := hid (below_seq HB0.out (below_seq (below_seq (below_drew W0) (below_drew W0.drew)) (below_drew W0.drew.drew)))
  apply share (F := fun (p ms : Nat) (w1 : World) => w.heap.size ≤ ms ∧ FN w w1 bs p ms 0 #[] 167 157 f rv q (.slice none 0 0) kv us (slotL bs 1 false (.slice none 0 0) (-1) 0 (-1) 0 [.func (.func 59) #[.pointer (some ⟨bs, 0, none⟩)] #[], .func (.func 87) #[] #[], .string ⟨#[]⟩, .string ⟨#[]⟩]) 1)
  case main =>
    intro KEY
    go_region_with (go_at_call 83; go_must (refine (HFD.out _ (by first | exact HB0.out | exact hD2.out | exact hD3.out | exact hD4.out)).mono ?_; rintro e w1 ⟨p, ms, rfl, hfn⟩; have hfn2 := hid hfn; clear hfn))
    all_goals
      exact KEY _ _ _ (Hid.out hfn2)
  case key =>
    intro p ms w1 hfn
    obtain ⟨hms, hfn⟩ := hfn
    have hn := es_nlb HH.out HLB.out
    have hlm : lb ≠ ms := by have := heap_lt HLB.out; omega
    have hlb1 : w1.heap[lb]? = some (.cells #[.pointer (some ⟨bs, 1, none⟩), .slice none 0 0] 105) := (hfn.fr.block lb (heap_lt HLB.out) (by simp only [List.mem_cons, List.not_mem_nil, or_false, not_or]; exact ⟨hn.1.symm, hlm⟩)).trans HLB.out
    have z1 : w1.cell? ⟨lb, 1, none⟩ = some (.slice none 0 0) := heap_cell (i := 1) hlb1
    have HLB1 := hid hlb1
    have HFN := hid hfn
    have HMS := hid hms
    have HN := hid hn
    clear hlb1 hfn hms hn hlm HFD hD2 hD3 hD4 k0 k2 r0 r1 r2 l2
    go_wp2_with fail
    refine (contains_nil _ _).mono ?_
    rintro e w2 ⟨rfl, rfl⟩
    have HSET : Hid (Calls Tryz.prog 85 #[.iface 157 (.pointer (some ⟨p, 0, none⟩)), .bool true] w2 fun e w' => e = .returned (.tuple #[]) ∧ ∃ rest' bg lk kv' q', DN w w' bs B p ms 1 167 157 (.map (#[].push (ent 1 (.iface 157 (.pointer (some ⟨p, 0, none⟩))) 0)) (0 + 1)) lk rest' f q' rv us' bg kv kv' l ul' S ∧ (∃ x, rest' = [.func (.func 59) #[.pointer (some ⟨bs, 0, none⟩)] #[], .func (.func 87) #[] #[], .string ⟨#[]⟩, .string x] ∧ V w.heap.size x q' w')) := by
      have hms2 := es_nms (n := 0) (es := #[]) HH.out (.inr HMS.out)
      have hmo := HFN.out.m
      have hmb : ms ≠ bs := fun e => by
        subst e
        have := hmo.symm.trans HFN.out.s
        simp at this
      refine settledNew2 (F := 273) (fun N r q' w => ∃ x, r = [.func (.func 59) #[.pointer (some ⟨bs, 0, none⟩)] #[], .func (.func 87) #[] #[], .string ⟨#[]⟩, .string x] ∧ V N x q' w) HH.out HRV.out mtS (by decide) HFN.out hmo (fun _ _ e => by simp at e) hms2.1 hms2.2 HUL.out (fun b hb => ⟨(HSS.out b hb).1, by have := (HSS.out b hb).1; have := HMS.out; omega, (HSS.out b hb).2.2.1, (HSS.out b hb).2.2.2⟩) ?_ ?_ ?_
      · rintro N r q' wa wb ⟨x, hr, hv⟩ hst
        exact ⟨x, hr, HVS.out _ _ _ _ _ hv hst⟩
      · rintro N N' r q' wa ⟨x, hr, hv⟩ hN
        exact ⟨x, hr, HVM.out _ _ _ _ _ hv hN⟩
      · intro wS heS hsS hmS hsz hfS
        have hwz := hfS.size
        have hlp := HFN.out.lp
        refine (workOutS2 heS (by have := HBB.out; omega) HM.out hsS (by have := HBB.out; omega) (fun i T' p' hi e => by have := (HH.out.blk i T' p' hi).2.2; omega) ⟨_, rfl⟩ us' ul' HUS.out HUS2.out (fun _ x q' w2 => Ses.Fr (bs :: S) wS w2 ∧ V wS.heap.size x q' w2) ?_).mono ?_
        · intro W bg lb' heW hsW hlW hlz hfW
          refine (HWW.out W bg lb' p ms heW hsW hlW ((hfW.block ms (heap_lt hmS) (by simpa using hmb)).trans hmS) hlp (by omega) HMS.out (hfS.trans (hfW.mono (T := [bs, ms]) (fun b hb => .inl (by simp at hb ⊢; exact .inl hb))))).mono ?_
          rintro e w3 ⟨x, lk, q', he, hwk, hfr, hv⟩
          exact ⟨x, lk, q', he, hwk, frNew hfW hfr hlz, HVM.out _ _ _ _ _ hv hfW.size⟩
        · rintro e w3 ⟨he, W, w2, x, bg, lk, q', -, -, ⟨h1, h2⟩, han⟩
          exact ⟨he, w2, _, bg, lk, q', h1, ⟨x, rfl, h2⟩, han⟩
    clear z1
    go_wp2_with fail
    refine HSET.out.mono ?_
    rintro e w3 ⟨rfl, rest', bg, lk, kv', q', hdn, x, rfl, hv⟩
    have hn := HN.out
    have hlw := heap_lt HLB.out
    have hms := HMS.out
    have hlS : lb ∉ bs :: ms :: kbk bs kv :: S := by
      simp only [List.mem_cons, not_or]
      exact ⟨hn.1.symm, by omega, kbk_mem hn.1.symm hn.2.1, fun e => (HSS.out lb e).2.1 rfl⟩
    have hlb3 := (hdn.fr.block lb hlw hlS).trans HLB.out
    have HDN := hid hdn
    have HV := hid hv
    have HLB3 := hid hlb3
    clear hdn hv hlb3 hlS HSET hms hlw hn
    go_wp2_with fail
    refine (add_any lb p _ _ w3 HLB3.out).mono ?_
    rintro e w4 ⟨rfl, hf4, la, lm, lc, hlb4⟩
    have hpw := HFN.out.lp
    have hlw := heap_lt HLB.out
    have hpl : p ≠ lb := by omega
    have hsb := HDN.out.sb.fr' hf4 (by simpa using hpl)
    have d15 := hsb.cell (i := 15) rfl
    have HSB := hid hsb
    have HF4 := hid hf4
    have HLB4 := hid hlb4
    clear hsb hf4 hlb4 hpl hlw hpw
    go_wp2
    go_ret
    have hn := HN.out
    have hpw := HFN.out.lp
    have hlw := heap_lt HLB.out
    have hdn := HDN.out
    have hdz := hdn.fr.size
    refine ⟨x, p, ms, bg, lk, kv', q', rfl, HMS.out, ⟨hdn.es.fr HF4.out (by simpa using hn.1) (fun g hg => ?_) (fun i T' p' hi => ?_), HSB.out, (HF4.out.block ms (heap_lt hdn.m) ?_).trans hdn.m, hpw, hdn.kb, ?_⟩, HVS.out _ _ _ _ _ HV.out ?_, la, lm, lc, HLB4.out⟩
    · simp only [List.mem_cons, List.not_mem_nil, or_false]
      intro e
      subst e
      rcases hdn.kb g hg with h1 | h1
      · exact hn.2.1 h1
      · omega
    · simp only [List.mem_cons, List.not_mem_nil, or_false]
      have hget : l[i]? = some (T', p') ∨ p' = p := by
        by_cases hil : i < l.length
        · rw [List.getElem?_append_left hil] at hi
          exact .inl hi
        · rw [List.getElem?_append_right (by omega)] at hi
          have h0 : i - l.length = 0 := by
            have := (List.getElem?_eq_some_iff.1 hi).1
            simp at this
            omega
          rw [h0] at hi
          simp at hi
          exact .inr hi.2.symm
      rcases hget with h1 | h1
      · exact hn.2.2 i T' p' h1
      · omega
    · have := HMS.out
      simp only [List.mem_cons, List.not_mem_nil, or_false]
      omega
    · refine (hdn.fr.mono (T := bs :: ms :: lb :: kbk bs kv :: S) (fun b hb => .inl ?_)).trans (HF4.out.mono (T := bs :: ms :: lb :: kbk bs kv :: S) (fun b hb => .inl ?_))
      · simp only [List.mem_cons] at hb ⊢
        rcases hb with h | h | h | h <;> simp [h]
      · simp at hb
        simp [hb]
    · exact St.of_fr HF4.out (fun b hb => by simp at hb; exact ⟨by omega, fun e => (HSS.out b e).2.1 hb⟩) (fun b hb => by have := (HSS.out b hb).1; omega)

end Go.Proofs.YtfekglokoafpiaaGreatDoor

namespace Go.Proofs.YtfekglokoafpiaaGreatDoor
open Go.RowKit

theorem share3 {α : Type} {F : α → Prop} (T : α → Prop) {G : Prop} (main : (∀ a, F a → T a) → G) (key : ∀ a, F a → T a) : G := main key

/-- Behind settle of an old slot. -/
structure DO (w w' : World) (bs B p k : Nat) (TT TP : TypeId) (lk : Value) (ch : Int) (rest : List Value) (f q sm : Value) (rv us : Int) (bg kv : Value) (l : List (TypeId × Nat)) (ul : List Int) : Prop where
  es : ES w' bs B f q sm rv (us + 1) bg kv (l ++ [(TP, p)]) (ul ++ [us + 1])
  sb : SB w' p TT (slotL bs k false lk rv ch (l.length : Nat) (us + 1) rest)
  fr : Ses.Fr [bs, p] w w'

set_option maxHeartbeats 1000000 in
theorem settledOld {w : World} {bs B p k : Nat} {TT TP : TypeId} {F : FuncId} {f q sm lk : Value} {rv us u0 ch : Int} {bg kv : Value} {l : List (TypeId × Nat)} {ul : List Int} {rest : List Value}
    (h : ES w bs B f q sm rv us bg kv (l ++ [(TP, p)]) (ul ++ [u0])) (hm : l.length ≤ 3) (hM : MT TP F) (hTT : TT ≠ 92) (hs : SB w p TT (slotL bs k false lk rv ch (l.length : Nat) u0 rest)) (hpn : ∀ (i : Nat) T' p', l[i]? = some (T', p') → p' ≠ p) (hus : 0 ≤ us) (hus2 : us ≤ 1000) :
    Calls Tryz.prog 85 #[.iface TP (.pointer (some ⟨p, 0, none⟩)), .bool true] w fun e w' => e = .returned (.tuple #[]) ∧ DO w w' bs B p k TT TP lk ch rest f q sm rv us bg kv l ul := by
  have hbs := h.lt
  have hbw := heap_lt h.s
  obtain ⟨hpB, hpg, hpl⟩ := h.blk l.length TP p (list_last _ _)
  have hne : bs ≠ p := by omega
  have he2 := (h.other 4 (.bool true) hne hpg (.inl (by decide)))
  have hs2 : SB (w.setCell ⟨p, 4, none⟩ (.bool true)) p TT (slotL bs k true lk rv ch (l.length : Nat) u0 rest) := hs.set 4 (.bool true)
  have hf2 := (Ses.Fr.refl [bs, p] w).setCell ⟨p, 4, none⟩ (.inl (by simp)) (.bool true)
  have hz2 : (w.setCell ⟨p, 4, none⟩ (.bool true)).heap.size = w.heap.size := by simp
  have hN := new_heap (w.setCell ⟨p, 4, none⟩ (.bool true)) (.cells #[.iface TP (.pointer (some ⟨p, 0, none⟩))] 92)
  rw [hz2] at hN
  have hba := below_newE (w.setCell ⟨p, 4, none⟩ (.bool true)) (.cells #[.iface TP (.pointer (some ⟨p, 0, none⟩))] 92)
  have hf3 := hf2.alloc (.cells #[.iface TP (.pointer (some ⟨p, 0, none⟩))] 92)
  have he3 := he2.below hba
  have hs3 := hs2.below hba
  obtain ⟨wS, hwS⟩ : ∃ wS, wS = (w.setCell ⟨p, 4, none⟩ (.bool true)).alloc (.cells #[.iface TP (.pointer (some ⟨p, 0, none⟩))] 92) := ⟨_, rfl⟩
  rw [← hwS] at hN hf3 he3 hs3
  have key := use_old he3 hm hM hs3 hTT hpn rfl rfl rfl hus hus2
  refine (settle_old TP F hM p bs rv (l.length : Nat) (by rw [beq_eq_false_iff_ne]; omega) w ⟨hs.cell (i := 0) rfl, hs.cell (i := 4) rfl, hs.cell (i := 5) rfl, hs.cell (i := 7) rfl, fun i => hs.fr i⟩ (hs.cell (i := 10) rfl) (heap_cell (i := 1) h.s) hne hpl hbw
    (fun w' => UO wS w' bs B p TT (slotL bs k true lk rv ch (l.length : Nat) u0 rest) f q sm rv us bg kv l ul TP) ?_ (by rw [← hwS]; exact key)).mono ?_
  · rintro w' ⟨-, sb, fr⟩
    refine ⟨sb.cell (i := 4) rfl, sb.cell (i := 5) rfl, sb.fr 4, sb.fr 5, ?_⟩
    exact heap_cell (i := 0) ((fr.block w.heap.size (heap_lt hN) (fun e => by
      simp only [List.mem_cons, List.not_mem_nil, or_false] at e
      omega)).trans hN)
  · rintro e w' ⟨rfl, w3, ⟨es, sb, fr⟩, rfl⟩
    exact ⟨rfl, (es.other 4 (.bool false) hne hpg (.inl (by decide))).other 5 (.bool false) hne hpg (.inl (by decide)), (sb.set 4 (.bool false)).set 5 (.bool false), ((hf3.trans fr).setCell ⟨p, 4, none⟩ (.inl (by simp)) _).setCell ⟨p, 5, none⟩ (.inl (by simp)) _⟩

end Go.Proofs.YtfekglokoafpiaaGreatDoor

namespace Go.Proofs.YtfekglokoafpiaaGreatDoor
open Go.RowKit

theorem asOldT (p : Nat) (w : World) (xT : TypeId) : (Instr.typeAssert (.iface 170 (.pointer (some ⟨p, 0, none⟩))) xT 170 true).run Tryz.prog w = .ok (.tuple #[.pointer (some ⟨p, 0, none⟩), .bool true]) w := by kernel_rfl

set_option maxRecDepth 100000 in
set_option maxHeartbeats 400000 in
theorem findOldT (bs F G ms n p i : Nat) (es : Array MapEntry) (w : World) (hf : ∀ w, (Instr.findKey 107 (keyV 2) es.toList).run Tryz.prog w = .ok (some (i, .iface 170 (.pointer (some ⟨p, 0, none⟩)))) w) (hM : w.heap[ms]? = some (.map es n)) (h3 : w.cell? ⟨bs, 3, none⟩ = some (.map (some ms))) :
    Calls Tryz.prog 92 #[.pointer (some ⟨bs, 1, none⟩), .agg #[.int .i64 2, .string ⟨#[97]⟩, .string ⟨#[]⟩], .agg #[.func (.func F) #[.pointer (some ⟨bs, 0, none⟩)] #[], .func (.func G) #[] #[], .slice none 0 0]] w fun e w' => e = .returned (.pointer (some ⟨p, 0, none⟩)) ∧ Below w.heap.size w w' := by
  have m2 := asOldT p
  have hA := new_heap w (.cells #[.int .i64 2, .string ⟨#[97]⟩, .string ⟨#[]⟩] 107)
  have hA2 := old_heap (.cells #[.func (.func F) #[.pointer (some ⟨bs, 0, none⟩)] #[], .func (.func G) #[] #[], .slice none 0 0] 129) hA
  have h32 := cell_kept (below_newE (w.alloc (.cells #[.int .i64 2, .string ⟨#[97]⟩, .string ⟨#[]⟩] 107)) (.cells #[.func (.func F) #[.pointer (some ⟨bs, 0, none⟩)] #[], .func (.func G) #[] #[], .slice none 0 0] 129)) (cell_kept (below_newE w (.cells #[.int .i64 2, .string ⟨#[97]⟩, .string ⟨#[]⟩] 107)) h3)
  have HBL := hid (((Below.refl w.heap.size w).alloc (Nat.le_refl _) (.cells #[.int .i64 2, .string ⟨#[97]⟩, .string ⟨#[]⟩] 107)).alloc (by simp) (.cells #[.func (.func F) #[.pointer (some ⟨bs, 0, none⟩)] #[], .func (.func G) #[] #[], .slice none 0 0] 129))
  have HM1 := hid (old_heap (.cells #[.func (.func F) #[.pointer (some ⟨bs, 0, none⟩)] #[], .func (.func G) #[] #[], .slice none 0 0] 129) (old_heap (.cells #[.int .i64 2, .string ⟨#[97]⟩, .string ⟨#[]⟩] 107) hM))
  have HFK := hid hf
  clear hA hM hf h3
  go_enter Tryz.func92, Tryz.ntmps92
  go_wp2_with fail
  generalize (w.alloc (.cells #[.int .i64 2, .string ⟨#[97]⟩, .string ⟨#[]⟩] 107)).alloc (.cells #[.func (.func F) #[.pointer (some ⟨bs, 0, none⟩)] #[], .func (.func G) #[] #[], .slice none 0 0] 129) = W at hA2 HBL HM1 h32 ⊢
  generalize hkb : w.heap.size = kb at hA2 HBL ⊢
  have HKB := hid hkb
  clear hkb
  have k0 : W.cell? ⟨kb, 0, none⟩ = some (.int .i64 2) := heap_cell (i := 0) hA2
  have k1 : W.cell? ⟨kb, 1, none⟩ = some (.string ⟨#[97]⟩) := heap_cell (i := 1) hA2
  have k2 : W.cell? ⟨kb, 2, none⟩ = some (.string ⟨#[]⟩) := heap_cell (i := 2) hA2
  clear hA2
  have hS : Below W.heap.size W W ∧ W.cell? ⟨kb, 0, none⟩ = some (.int .i64 2) ∧ W.cell? ⟨kb, 1, none⟩ = some (.string ⟨#[97]⟩) ∧ W.cell? ⟨kb, 2, none⟩ = some (.string ⟨#[]⟩) ∧ W.cell? ⟨bs, 3, none⟩ = some (.map (some ms)) := ⟨Below.refl _ _, k0, k1, k2, h32⟩
  clear k0 k1 k2 h32
  have m10 := look_at (w := W) HM1.out (ck 2) HFK.out
  have m11 := look_at (w := W.drew) HM1.out (ck 2) HFK.out
  have m12 := look_at (w := W.drew.drew) HM1.out (ck 2) HFK.out
  have m13 := look_at (w := W.drew.drew.drew) HM1.out (ck 2) HFK.out
  go_region_held3 (fun wx => Below W.heap.size W wx ∧ wx.cell? ⟨kb, 0, none⟩ = some (.int .i64 2) ∧ wx.cell? ⟨kb, 1, none⟩ = some (.string ⟨#[97]⟩) ∧ wx.cell? ⟨kb, 2, none⟩ = some (.string ⟨#[]⟩) ∧ wx.cell? ⟨bs, 3, none⟩ = some (.map (some ms)))
    (first
      | exact keepX4 (by assumption) (below_drew _)
      | exact keepX4 (by assumption) (Below.refl _ _)
      | exact keepX4 hS (below_drew _))
    (first | fail)
  have hHeld := (by assumption : Below W.heap.size W _ ∧ _)
  have hb1 := hHeld.1
  clear hHeld hS m10 m11 m12 m13 m2
  go_wp2
  go_ret
  have h9 := HKB.out
  subst h9
  exact ⟨rfl, ⟨hb1.os.trans HBL.out.os, hb1.tape.trans HBL.out.tape, hb1.output.trans HBL.out.output, Nat.le_trans HBL.out.size hb1.size, fun q hq => (hb1.block q (Nat.lt_of_lt_of_le hq HBL.out.size)).trans (HBL.out.block q hq)⟩⟩

end Go.Proofs.YtfekglokoafpiaaGreatDoor

namespace Go.Proofs.YtfekglokoafpiaaGreatDoor
open Go.RowKit

/-- Behind a Fetch of an old slot. -/
structure FO (w w' : World) (bs B p lb k : Nat) (TT TP : TypeId) (lk : Value) (ch : Int) (rest : List Value) (f q sm : Value) (rv us : Int) (bg kv : Value) (l : List (TypeId × Nat)) (ul : List Int) : Prop where
  es : ES w' bs B f q sm rv (us + 1) bg kv (l ++ [(TP, p)]) (ul ++ [us + 1])
  sb : SB w' p TT (slotL bs k false lk rv ch (l.length : Nat) (us + 1) rest)
  lo : ∃ a m c, w'.heap[lb]? = some (.cells #[.pointer (some ⟨bs, 1, none⟩), .slice a m c] 105)
  fr : Ses.Fr [bs, p, lb] w w'

theorem FO.outR {wA w w' : World} {bs B p lb k : Nat} {TT TP : TypeId} {lk : Value} {ch : Int} {rest : List Value} {f q sm : Value} {rv us : Int} {bg kv : Value} {l : List (TypeId × Nat)} {ul : List Int} (h : FO w w' bs B p lb k TT TP lk ch rest f q sm rv us bg kv l ul) (hb : Below wA.heap.size wA w) {rb : Nat} {xs : List Value} (hr : SB w' rb 86 xs) (h1 : bs ≠ rb) (h2 : p ≠ rb) (h3 : lb ≠ rb) (hw : wA.heap.size ≤ rb) (a b : Value) : FO wA ((w'.setCell ⟨rb, 0, none⟩ a).setCell ⟨rb, 1, none⟩ b) bs B p lb k TT TP lk ch rest f q sm rv us bg kv l ul := by
  obtain ⟨la, lm, lc, hl⟩ := h.lo
  exact ⟨(h.es.other 0 a h1 (hr.row h.es.own (by decide)) (.inl (by decide))).other 1 b h1 (hr.row h.es.own (by decide)) (.inl (by decide)), (h.sb.other h2 0 a).other h2 1 b, ⟨la, lm, lc, (heap_setCell_ne h3 _).trans ((heap_setCell_ne h3 _).trans hl)⟩, (((Ses.Fr.of_below hb).trans h.fr).setCell ⟨rb, 0, none⟩ (.inr hw) _).setCell ⟨rb, 1, none⟩ (.inr hw) _⟩

theorem FO.lower {wA w w' : World} {bs B p lb k : Nat} {TT TP : TypeId} {lk : Value} {ch : Int} {rest : List Value} {f q sm : Value} {rv us : Int} {bg kv : Value} {l : List (TypeId × Nat)} {ul : List Int} (h : FO w w' bs B p lb k TT TP lk ch rest f q sm rv us bg kv l ul) (hb : Below wA.heap.size wA w) : FO wA w' bs B p lb k TT TP lk ch rest f q sm rv us bg kv l ul :=
  ⟨h.es, h.sb, h.lo, (Ses.Fr.of_below hb).trans h.fr⟩

set_option maxRecDepth 100000 in
set_option maxHeartbeats 1000000 in
theorem fetchOldT {wA : World} {bs B ms : Nat} {f q : Value} {rv us u0 ch : Int} {bg kv lk : Value} {l : List (TypeId × Nat)} {ul : List Int} {p lb F G n i : Nat} {es : Array MapEntry} {x : (Option Addr × Nat × Nat)} (h : ES wA bs B f q (.map (some ms)) rv us bg kv (l ++ [(170, p)]) (ul ++ [u0])) (hm : l.length ≤ 3) (hpn : ∀ (i : Nat) T' p', l[i]? = some (T', p') → p' ≠ p)
    (hM : wA.heap[ms]? = some (.map es n)) (hf : ∀ w, (Instr.findKey 107 (keyV 2) es.toList).run Tryz.prog w = .ok (some (i, .iface 170 (.pointer (some ⟨p, 0, none⟩)))) w) (hlb : wA.heap[lb]? = some (.cells #[.pointer (some ⟨bs, 1, none⟩), .slice none 0 0] 105))
    (hs : SB wA p 173 (slotL bs 2 false lk rv ch (l.length : Nat) u0 [.func (.func F) #[.pointer (some ⟨bs, 0, none⟩)] #[], .func (.func G) #[] #[], .slice none 0 0, .slice x.1 x.2.1 x.2.2])) (hus : 0 ≤ us) (hus2 : us ≤ 1000) :
    Calls Tryz.prog 66 #[.pointer (some ⟨lb, 0, none⟩), keyV 2, .agg #[.func (.func F) #[.pointer (some ⟨bs, 0, none⟩)] #[], .func (.func G) #[] #[], .slice none 0 0]] wA fun e w' => e = .returned (.slice x.1 x.2.1 x.2.2) ∧ FO wA w' bs B p lb 2 173 170 lk ch [.func (.func F) #[.pointer (some ⟨bs, 0, none⟩)] #[], .func (.func G) #[] #[], .slice none 0 0, .slice x.1 x.2.1 x.2.2] f q (.map (some ms)) rv us bg kv l ul := by
  have l0 : wA.cell? ⟨lb, 0, none⟩ = some (.pointer (some ⟨bs, 1, none⟩)) := heap_cell (i := 0) hlb
  have HFK := hid hf
  have HUS := hid hus
  have HUS2 := hid hus2
  have HM := hid hm
  have HPN := hid hpn
  have HHA := hid h
  have HLA := hid hlb
  have HMA := hid hM
  have HSA := hid hs
  clear h hm hpn hM hf hlb hs hus hus2
  go_enter Tryz.func66, Tryz.ntmps66
  go_wp2_with fail
  have hA := new_heap wA (.cells #[.int .i64 2, .string ⟨#[97]⟩, .string ⟨#[]⟩] 107)
  have hA2 := old_heap (.cells #[.func (.func F) #[.pointer (some ⟨bs, 0, none⟩)] #[], .func (.func G) #[] #[], .slice none 0 0] 129) hA
  have hR2 := new_heap (wA.alloc (.cells #[.int .i64 2, .string ⟨#[97]⟩, .string ⟨#[]⟩] 107)) (.cells #[.func (.func F) #[.pointer (some ⟨bs, 0, none⟩)] #[], .func (.func G) #[] #[], .slice none 0 0] 129)
  rw [show (wA.alloc (.cells #[.int .i64 2, .string ⟨#[97]⟩, .string ⟨#[]⟩] 107)).heap.size = wA.heap.size + 1 from by simp] at hR2
  have hb0 := ((Below.refl wA.heap.size wA).alloc (Nat.le_refl _) (.cells #[.int .i64 2, .string ⟨#[97]⟩, .string ⟨#[]⟩] 107)).alloc (by simp) (.cells #[.func (.func F) #[.pointer (some ⟨bs, 0, none⟩)] #[], .func (.func G) #[] #[], .slice none 0 0] 129)
  clear hA
  generalize (wA.alloc (.cells #[.int .i64 2, .string ⟨#[97]⟩, .string ⟨#[]⟩] 107)).alloc (.cells #[.func (.func F) #[.pointer (some ⟨bs, 0, none⟩)] #[], .func (.func G) #[] #[], .slice none 0 0] 129) = w at hA2 hR2 hb0 ⊢
  have HB0 := hid hb0
  generalize hkb : wA.heap.size = kb at hA2 hR2 ⊢
  have HKB := hid hkb
  clear hkb
  have k0 : w.cell? ⟨kb, 0, none⟩ = some (.int .i64 2) := heap_cell (i := 0) hA2
  have k1 : w.cell? ⟨kb, 1, none⟩ = some (.string ⟨#[97]⟩) := heap_cell (i := 1) hA2
  have k2 : w.cell? ⟨kb, 2, none⟩ = some (.string ⟨#[]⟩) := heap_cell (i := 2) hA2
  have r0 : w.cell? ⟨kb + 1, 0, none⟩ = some _ := heap_cell (i := 0) hR2
  have r1 : w.cell? ⟨kb + 1, 1, none⟩ = some _ := heap_cell (i := 1) hR2
  have r2 : w.cell? ⟨kb + 1, 2, none⟩ = some _ := heap_cell (i := 2) hR2
  have l2 : w.cell? ⟨lb, 0, none⟩ = some (.pointer (some ⟨bs, 1, none⟩)) := cell_kept HB0.out l0
  clear hA2 hR2 hb0 l0
  have HH := hid (HHA.out.below HB0.out)
  have HLB := hid (below_heap HB0.out (heap_lt HLA.out) HLA.out)
  have HMM := hid (below_heap HB0.out (heap_lt HMA.out) HMA.out)
  have HS := hid (HSA.out.below HB0.out)
  have HFD : Hid (∀ W : World, Below w.heap.size w W → Calls Tryz.prog 92 #[.pointer (some ⟨bs, 1, none⟩), keyV 2, .agg #[.func (.func F) #[.pointer (some ⟨bs, 0, none⟩)] #[], .func (.func G) #[] #[], .slice none 0 0]] W fun e w1 => e = .returned (.pointer (some ⟨p, 0, none⟩)) ∧ Below w.heap.size w w1) := hid (fun W hb => (findOldT bs F G ms n p i es W HFK.out (below_heap hb (heap_lt HMM.out) HMM.out) (heap_cell (i := 3) (below_heap hb (heap_lt HH.out.s) HH.out.s))).mono (by
    rintro e w1 ⟨he, h2⟩
    exact ⟨he, below_seq hb h2⟩))
  have hD1 := hid (below_drew w)
  have hD2 := hid (below_seq (below_drew w) (below_drew w.drew))
  have hD3 := hid (below_seq (below_seq (below_drew w) (below_drew w.drew)) (below_drew w.drew.drew))
  apply share3 (F := fun (w1 : World) => Below w.heap.size w w1)
  case main =>
    intro KEY
    go_region_with (go_at_call 92; go_must (refine (HFD.out _ (by first | exact Below.refl _ _ | exact hD1.out | exact hD2.out | exact hD3.out)).mono ?_; rintro e w1 ⟨rfl, hfn⟩; have hfn2 := hid hfn; clear hfn))
    all_goals
      exact KEY _ (Hid.out hfn2)
  case key =>
    intro w1 hfn
    have hlb1 := below_heap hfn (heap_lt HLB.out) HLB.out
    have z1 : w1.cell? ⟨lb, 1, none⟩ = some (.slice none 0 0) := heap_cell (i := 1) hlb1
    have HLB1 := hid hlb1
    have HFN := hid hfn
    have HN := hid (es_nlb HH.out HLB.out)
    have HS1 := hid (HS.out.below hfn)
    have HH1 := hid (HH.out.below hfn)
    clear hlb1 hfn HFD hD1 hD2 hD3 k0 k1 k2 r0 r1 r2 l2
    go_wp2_with fail
    refine (contains_nil _ _).mono ?_
    rintro e w2 ⟨rfl, rfl⟩
    clear z1
    go_wp2_with fail
    refine (settledOld HH1.out HM.out mtT (by decide) HS1.out HPN.out HUS.out HUS2.out).mono ?_
    rintro e w3 ⟨rfl, hdo⟩
    have hpl : lb ≠ p := fun e => HN.out.2.2 l.length _ p (list_last _ _) e.symm
    have hlb3 := (hdo.fr.block lb (heap_lt HLB1.out) (by simp only [List.mem_cons, List.not_mem_nil, or_false, not_or]; exact ⟨HN.out.1.symm, hpl⟩)).trans HLB1.out
    have HDO := hid hdo
    have HLB3 := hid hlb3
    have HPL := hid hpl
    clear hdo hlb3 hpl
    go_wp2_with fail
    refine (add_any lb p _ _ w3 HLB3.out).mono ?_
    rintro e w4 ⟨rfl, hf4, la, lm, lc, hlb4⟩
    have hsb := HDO.out.sb.fr' hf4 (by simpa using HPL.out.symm)
    have d15 := hsb.cell (i := 15) rfl
    have HSB := hid hsb
    have HF4 := hid hf4
    have HLB4 := hid hlb4
    clear hsb hf4 hlb4
    go_wp2
    go_ret
    have hn := HN.out
    have hfo : FO w w4 bs B p lb 2 173 170 lk ch [.func (.func F) #[.pointer (some ⟨bs, 0, none⟩)] #[], .func (.func G) #[] #[], .slice none 0 0, .slice x.1 x.2.1 x.2.2] f q (.map (some ms)) rv us bg kv l ul := ⟨HDO.out.es.fr HF4.out (by simpa using hn.1) (fun g hg => by
      simp only [List.mem_cons, List.not_mem_nil, or_false]
      intro e
      subst e
      exact hn.2.1 hg) (fun i T' p' hi => by
      simp only [List.mem_cons, List.not_mem_nil, or_false]
      exact hn.2.2 i T' p' hi), HSB.out, ⟨la, lm, lc, HLB4.out⟩, (Ses.Fr.of_below HFN.out).trans ((HDO.out.fr.mono (T := [bs, p, lb]) (fun b hb => .inl (by simp at hb ⊢; rcases hb with h | h <;> simp [h]))).trans (HF4.out.mono (T := [bs, p, lb]) (fun b hb => .inl (by simp at hb ⊢; simp [hb]))))⟩
    exact ⟨rfl, hfo.lower HB0.out⟩

end Go.Proofs.YtfekglokoafpiaaGreatDoor

namespace Go.Proofs.YtfekglokoafpiaaGreatDoor
open Go.RowKit

theorem an_of' {w W w' : World} {bs B p k : Nat} {TT : TypeId} {lk : Value} {rest : List Value} {f q sm : Value} {rv us : Int} {bg kv : Value} {l : List (TypeId × Nat)} {ul : List Int} {T : TypeId} (hF : Ses.Fr [bs, p, kbk bs kv] w W) (hsz : w.heap.size ≤ W.heap.size)
    (h : UN W w' bs B p TT (slotL bs k true lk rv rv (-1) 0 rest) f q sm rv us bg kv l ul T) : AN w w' bs B p k TT lk rest f q sm rv us bg kv l ul T := by
  obtain ⟨⟨kv', he, hk⟩, hs, hf⟩ := h
  exact ⟨⟨kv', he, fun q hq => (hk q hq).imp id (fun h => Nat.le_trans hsz h)⟩, hs, hF.trans hf⟩

set_option maxRecDepth 100000 in
set_option maxHeartbeats 1000000 in
theorem answerR {w : World} {bs B : Nat} {f q sm : Value} {rv us : Int} {bg kv : Value} {l : List (TypeId × Nat)} {ul : List Int} (h : ES w bs B f q sm rv us bg kv l ul) (hB : B ≤ w.heap.size) (hm : l.length ≤ 3) {p k : Nat} {wk sam lo lo2 va va2 : Value} (hs : SB w p 179 (newL bs k [wk, sam, lo, lo2, va, va2])) (hpB : B ≤ p) (hpn : ∀ (i : Nat) T' p', l[i]? = some (T', p') → p' ≠ p)
    (hus : 0 ≤ us) (hus2 : us ≤ 1000) (xa : Option Addr) (xm xc : Nat) (xz : Int) (lk : Value) (hlk : ∃ a m c, lk = .slice a m c) (hva : (∃ a m c, va = .slice a m c) ∧ ∃ z, va2 = .int .i64 z) :
    Calls Tryz.prog 280 #[.pointer (some ⟨p, 0, none⟩), .agg #[.slice xa xm xc, .int .i64 xz], lk] w fun e w' => e = .returned (.tuple #[]) ∧ AN w w' bs B p k 179 lk [wk, sam, lo, lo2, .slice xa xm xc, .int .i64 xz] f q sm rv us bg kv l ul 176 := by
  obtain ⟨la, lm, lc, rfl⟩ := hlk
  obtain ⟨⟨ya, ym, yc, rfl⟩, yz, rfl⟩ := hva
  have hbs : bs < B := h.lt
  have hne : bs ≠ p := by omega
  have hpg := hs.row h.own (by decide)
  have hpv : p ≠ w.heap.size := by have := hs.lt; omega
  have hbv : bs ≠ w.heap.size := by have := heap_lt h.s; omega
  have HVN := hid (new_heap w (.cells #[.slice xa xm xc, .int .i64 xz] 86))
  have HVB := hid (below_newE w (.cells #[.slice xa xm xc, .int .i64 xz] 86))
  replace h := h.below HVB.out
  replace hs := hs.below HVB.out
  have c1 : (w.alloc (.cells #[.slice xa xm xc, .int .i64 xz] 86)).cell? ⟨bs, 1, none⟩ = some (.int .i64 rv) := heap_cell (i := 1) h.s
  have d0 := hs.cell (i := 0) rfl
  have d6 := hs.cell (i := 6) rfl
  have d7 := hs.cell (i := 7) rfl
  have d8 := hs.cell (i := 8) rfl
  have d9 := hs.cell (i := 9) rfl
  have d10 := hs.cell (i := 10) rfl
  have d16 := hs.cell (i := 16) rfl
  have d17 := hs.cell (i := 17) rfl
  have g6 := hs.fr 6
  have g7 := hs.fr 7
  have g8 := hs.fr 8
  have g9 := hs.fr 9
  have g16 := hs.fr 16
  have g17 := hs.fr 17
  have HS := hid hs
  have HE := hid h
  have HPG := hid hpg
  have HN := hid hne
  clear h hs hpg hne
  go_enter Tryz.func280, Tryz.ntmps280
  go_wp2_with fail
  go_quiet ((go_at_call 268; refine Calls.quiet_of_same (dropped_new p _ d10)))
  go_wp2_with fail
  have HD := hid (below_seq HVB.out (below_drewN _ nq))
  have hv2 : ((w.alloc (.cells #[.slice xa xm xc, .int .i64 xz] 86)).drewN nq).heap[w.heap.size]? = some (.cells #[.slice xa xm xc, .int .i64 xz] 86) := HVN.out
  have HE1 := hid (HE.out.below (below_drewN _ nq))
  have HS1 := hid (HS.out.below (below_drewN _ nq))
  have HF1 := hid (Ses.Fr.of_below (S := [bs, p, kbk bs kv]) HD.out)
  have HZ := hid (show w.heap.size ≤ ((w.alloc (.cells #[.slice xa xm xc, .int .i64 xz] 86)).drewN nq).heap.size from HD.out.size)
  generalize (w.alloc (.cells #[.slice xa xm xc, .int .i64 xz] 86)).drewN nq = W at HE1 HS1 HF1 HZ hv2 ⊢
  have v0 : W.cell? ⟨w.heap.size, 0, none⟩ = some (.slice xa xm xc) := heap_cell (i := 0) hv2
  have v1 : W.cell? ⟨w.heap.size, 1, none⟩ = some (.int .i64 xz) := heap_cell (i := 1) hv2
  clear hv2
  have HE2 := hid ((((((HE1.out.other 8 (.int .i64 rv) HN.out HPG.out (.inl (by decide))).other 16 (.slice xa xm xc) HN.out HPG.out (.inl (by decide))).other 17 (.int .i64 xz) HN.out HPG.out (.inl (by decide))).other 6 (.slice la lm lc) HN.out HPG.out (.inl (by decide))).other 7 (.int .i64 rv) HN.out HPG.out (.inl (by decide))).other 9 (.bool false) HN.out HPG.out (.inl (by decide)))
  have HS2 := hid ((((((HS1.out.set 8 (.int .i64 rv)).set 16 (.slice xa xm xc)).set 17 (.int .i64 xz)).set 6 (.slice la lm lc)).set 7 (.int .i64 rv)).set 9 (.bool false))
  have HF2 := hid ((((((HF1.out.setCell ⟨p, 8, none⟩ (.inl (by simp)) (.int .i64 rv)).setCell ⟨p, 16, none⟩ (.inl (by simp)) (.slice xa xm xc)).setCell ⟨p, 17, none⟩ (.inl (by simp)) (.int .i64 xz)).setCell ⟨p, 6, none⟩ (.inl (by simp)) (.slice la lm lc)).setCell ⟨p, 7, none⟩ (.inl (by simp)) (.int .i64 rv)).setCell ⟨p, 9, none⟩ (.inl (by simp)) (.bool false))
  have HZ2 := hid (show w.heap.size ≤ ((((((W.setCell ⟨p, 8, none⟩ (.int .i64 rv)).setCell ⟨p, 16, none⟩ (.slice xa xm xc)).setCell ⟨p, 17, none⟩ (.int .i64 xz)).setCell ⟨p, 6, none⟩ (.slice la lm lc)).setCell ⟨p, 7, none⟩ (.int .i64 rv)).setCell ⟨p, 9, none⟩ (.bool false)).heap.size by simpa using HZ.out)
  generalize (((((W.setCell ⟨p, 8, none⟩ (.int .i64 rv)).setCell ⟨p, 16, none⟩ (.slice xa xm xc)).setCell ⟨p, 17, none⟩ (.int .i64 xz)).setCell ⟨p, 6, none⟩ (.slice la lm lc)).setCell ⟨p, 7, none⟩ (.int .i64 rv)).setCell ⟨p, 9, none⟩ (.bool false) = W2 at HE2 HS2 HF2 HZ2 ⊢
  refine (use_new HE2.out (by have := HZ2.out; omega) hm mtR HS2.out (by decide) hpB hpn rfl rfl rfl hus hus2).mono ?_
  rintro e w3 ⟨rfl, hu⟩
  have HU := hid (an_of' HF2.out HZ2.out hu)
  clear hu
  go_wp2
  go_end0
  exact ⟨rfl, HU.out⟩

end Go.Proofs.YtfekglokoafpiaaGreatDoor
