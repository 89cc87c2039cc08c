/-
  The document's parser: the levels of an expr.
-/
import Derived.Test.YtfekglokoafpiaaGreatDoorQ10
import Derived.Deep.LoopGhost
import Derived.BigRegion

set_option linter.unusedVariables false
set_option linter.unusedSimpArgs false

namespace Go.Proofs.YtfekglokoafpiaaGreatDoor
open Go.RowKit

theorem rl_of {toks : List Tok} {tag g : Nat} (hd : ∀ (rb tb cap a nest : Nat) (w : World), RP toks rb tb cap a nest true w.heap → a < toks.length → Calls Tryz.prog 208 #[.pointer (some ⟨rb, 0, none⟩), .int .i64 tag] w (DPost toks rb tb cap a nest w))
    (hl : ∀ (rb tb cap nest a b : Nat) (r : Option Value) (w : World), P toks g tag nest a .nilIface = some (b, r) → a < toks.length → nest ≤ 20 → RP toks rb tb cap a nest false w.heap →
      Calls Tryz.prog 208 #[.pointer (some ⟨rb, 0, none⟩), .int .i64 tag] w (RPost toks rb tb cap a nest b r w)) : RL toks tag g := by
  intro rb tb cap nest a b no r w h ha hnest hP
  cases no with
  | true =>
    rw [if_pos rfl] at h
    cases h
    exact (hd rb tb cap a nest w hP ha).mono fun e w' h => dpost_rpost h
  | false =>
    rw [if_neg (by simp)] at h
    exact hl rb tb cap nest a b r w h ha hnest hP

set_option maxRecDepth 100000 in
set_option maxHeartbeats 2000000 in
theorem rlevel3_ok {toks : List Tok} {g : Nat} (hs : RA toks g) : RL toks 3 g := by
  refine rl_of (fun rb tb cap a nest w h ha => rlevel3_dead rb tb cap a nest w h ha) ?_
  intro rb tb cap nest a b r w h ha hnest hP
  have HP := hid hP
  have HA := hid hs
  have HH := hid h
  clear hs h hP
  have H0 := hid ((DS.refl HP.out).alloc (.cells zE 232))
  have HR0 := hid (new_heap w (.cells zE 232))
  obtain ⟨KK, hKK⟩ : ∃ K : Nat → Prop, K = fun k => w.heap.size < k := ⟨_, rfl⟩
  have hK : Hid (∀ k, KK k → k ≠ rb) := hid (by subst hKK; intro k h e; have := H0.out.pl; have h2 : w.heap.size < k := h; omega)
  have hK2 : Hid (∀ k, w.heap.size < k → KK k) := hid (by subst hKK; exact fun k h => h)
  have hK3 : Hid (¬ KK w.heap.size) := hid (by subst hKK; exact Nat.lt_irrefl _)
  go_enter Tryz.func208, Tryz.ntmps208
  go_wp2_with fail
  refine (HA.out rb tb cap nest a b r _ HH.out ha hnest H0.out.rp).mono ?_
  rintro e w1 ⟨op, t, ao, m, c, rfl, hp, hf, hx⟩
  have H1 := hid (H0.out.call hp hf)
  have hr := own_fr HR0.out hf (Nat.le_refl _) H0.out.pl
  have HX1 := hid (fun x h => by obtain ⟨n, h1, h2⟩ := hx x h; exact ⟨n, h1, rep_mono h2 (fun k _ h3 => hK2.out k (Nat.lt_trans (by simp) h3))⟩ : ∀ x, r = some x → ∃ n, n + a ≤ b ∧ Rep KK w1 n (.agg #[.int .u8 op, .string t, .slice ao m c]) x)
  clear hp hf hx
  have r0 : World.cell? _ ⟨w.heap.size, 0, none⟩ = some (.int .u8 0) := heap_cell (i := 0) hr
  have fr0 : World.frozen? _ ⟨w.heap.size, 0, none⟩ = false := heap_frozen hr
  have r1 : World.cell? _ ⟨w.heap.size, 1, none⟩ = some (.string ⟨#[]⟩) := heap_cell (i := 1) hr
  have fr1 : World.frozen? _ ⟨w.heap.size, 1, none⟩ = false := heap_frozen hr
  have r2 : World.cell? _ ⟨w.heap.size, 2, none⟩ = some (.slice none 0 0) := heap_cell (i := 2) hr
  have fr2 : World.frozen? _ ⟨w.heap.size, 2, none⟩ = false := heap_frozen hr
  have hy := put3_same hr (.int .u8 op) (.string t) (.slice ao m c)
  have y0 : World.cell? _ ⟨w.heap.size, 0, none⟩ = some (.int .u8 op) := heap_cell (i := 0) hy
  have y1 : World.cell? _ ⟨w.heap.size, 1, none⟩ = some (.string t) := heap_cell (i := 1) hy
  have y2 : World.cell? _ ⟨w.heap.size, 2, none⟩ = some (.slice ao m c) := heap_cell (i := 2) hy
  go_wp2
  refine bodyPost_ret (v := .agg #[.int .u8 op, .string t, .slice ao m c]) (by simp [results, Tryz.results208, go_sem, y0, y1, y2]; try rfl) rfl ?_
  have hd := H1.out.put (Nat.le_refl _) (.int .u8 op) (.string t) (.slice ao m c)
  refine ⟨op, t, ao, m, c, rfl, hd.rp, hd.fr, fun x hx => ?_⟩
  obtain ⟨n, hn, hr⟩ := HX1.out x hx
  have hl := (Later.refl KK w1).put3 hK3.out (.int .u8 op) (.string t) (.slice ao m c)
  subst hKK
  exact ⟨n, hn, rep_later hr hl⟩

/-- A part read, and what follows it: the first part of a level. -/
theorem first_steps {p : PR} {k : Nat → Value → PR} {b : Nat} {r : Option Value} (h : andP p k = some (b, r)) : ∃ c r1, p = some (c, r1) ∧ ((r1 = none ∧ b = c ∧ r = none) ∨ ∃ x, r1 = some x ∧ k c x = some (b, r)) := by
  rcases andP_cases h with ⟨c, h1, h2⟩ | ⟨c, x, h1, h2⟩
  · exact ⟨c, none, h1, .inl ⟨rfl, (Prod.mk.inj h2).1, (Prod.mk.inj h2).2⟩⟩
  · exact ⟨c, some x, h1, .inr ⟨x, rfl, h2⟩⟩

/-- What a level's loop holds (the expr so far in block eb): the reading goes on (k: the fuel and 1), or has failed. -/
def LvlAt (toks : List Tok) (rb tb cap nest a b : Nat) (r : Option Value) (w : World) (eb : Nat) (sign : List UInt8) (rtag k : Nat) (mv : Value) (wr : World) : Prop :=
  ∃ (op : Int) (t : ByteArray) (ao : Option Addr) (m c : Nat), wr.heap[eb]? = some (.cells #[.int .u8 op, .string t, .slice ao m c] 232) ∧ wr.heap[w.heap.size]? = some (.cells zE 232) ∧
   ((∃ f c2 x n, mv = .bool (isT toks c2 sign) ∧ k = f + 1 ∧ P toks f rtag nest c2 x = some (b, r) ∧ c2 < toks.length ∧ DS toks rb tb cap w wr c2 nest false ∧ n + a ≤ c2 ∧ Rep (fun k => w.heap.size < k ∧ k ≠ eb) wr n (.agg #[.int .u8 op, .string t, .slice ao m c]) x) ∨
    (mv = .bool false ∧ r = none ∧ DS toks rb tb cap w wr b nest true))

/-- The same of the level of ==, which takes two parts. -/
def EqAt (toks : List Tok) (rb tb cap nest a b : Nat) (r : Option Value) (w : World) (eb : Nat) (g k : Nat) (mv : Value) (wr : World) : Prop :=
  ∃ (op : Int) (t : ByteArray) (ao : Option Addr) (m c : Nat), wr.heap[eb]? = some (.cells #[.int .u8 op, .string t, .slice ao m c] 232) ∧ wr.heap[w.heap.size]? = some (.cells zE 232) ∧
   ((∃ c2 x n, mv = .bool true ∧ k = 1 ∧ isT toks c2 [61, 61] = true ∧ (andP (P toks g 1 nest (c2 + 1) .nilIface) fun c y => some (c, some (mkPair ⟨#[61, 61]⟩ x y))) = some (b, r) ∧ c2 < toks.length ∧ DS toks rb tb cap w wr c2 nest false ∧ n + a ≤ c2 ∧ Rep (fun k => w.heap.size < k ∧ k ≠ eb) wr n (.agg #[.int .u8 op, .string t, .slice ao m c]) x) ∨
    (mv = .bool false ∧ k = 0 ∧ DS toks rb tb cap w wr b nest r.isNone ∧ ∀ x, r = some x → ∃ n, n + a ≤ b ∧ Rep (fun k => w.heap.size < k ∧ k ≠ eb) wr n (.agg #[.int .u8 op, .string t, .slice ao m c]) x))

theorem later_loop {rb eb : Nat} {w a b : World} (hf : Fr [rb] a b) (hrb : rb < w.heap.size) : Later (fun k => w.heap.size < k ∧ k ≠ eb) a b := Later.of_fr hf fun k h e => by have := h.1; omega

set_option maxRecDepth 100000 in
set_option maxHeartbeats 2000000 in
theorem rlevel0_ok {toks : List Tok} (hw : Wf toks) {g : Nat} (hs : RL toks 1 g) : RL toks 0 (g + 1) := by
  refine rl_of (fun rb tb cap a nest w h ha => rlevel0_dead rb tb cap a nest w h ha) ?_
  intro rb tb cap nest a b r w h ha hnest hP
  have HS := hid hs
  have HW := hid hw
  have HP := hid hP
  simp only [P] at h
  obtain ⟨c, r1, h1, hr1⟩ := first_steps h
  have hc : c < toks.length := P_lt hw _ _ _ _ _ _ h1 ha
  have hca : a ≤ c := P_ge _ _ _ _ _ _ _ h1
  have HI1 := hid (show (if false then some (a, none) else P toks g 1 nest a .nilIface) = some (c, r1) by simpa using h1)
  have HMORE : Hid (∃ k mv, k ≤ 1 ∧ (mv = ((nx toks c r1.isNone).toList == [61, 61])) ∧ ∀ (eb : Nat) (wr : World) op t ao m q, wr.heap[eb]? = some (.cells #[.int .u8 op, .string t, .slice ao m q] 232) → wr.heap[w.heap.size]? = some (.cells zE 232) → DS toks rb tb cap w wr c nest r1.isNone → (∀ x, r1 = some x → ∃ n, n + a ≤ c ∧ Rep (fun k => w.heap.size < k ∧ k ≠ eb) wr n (.agg #[.int .u8 op, .string t, .slice ao m q]) x) → EqAt toks rb tb cap nest a b r w eb g k (.bool mv) wr) := by
    refine hid ?_
    rcases hr1 with ⟨rfl, rfl, rfl⟩ | ⟨x, rfl, hr1⟩
    · exact ⟨0, false, by omega, by simp [nx], fun eb wr op t ao m q he hr hd hx => ⟨op, t, ao, m, q, he, hr, .inr ⟨rfl, rfl, hd, fun x hx => by cases hx⟩⟩⟩
    · cases ht : isT toks c [61, 61] with
      | true =>
        rw [ht, if_pos rfl] at hr1
        refine ⟨1, true, Nat.le_refl _, ht.symm, fun eb wr op t ao m q he hr hd hx => ⟨op, t, ao, m, q, he, hr, .inl ?_⟩⟩
        obtain ⟨n, hn, hrep⟩ := hx x rfl
        exact ⟨c, x, n, rfl, rfl, ht, hr1, hc, hd, hn, hrep⟩
      | false =>
        rw [ht, if_neg (by simp)] at hr1
        cases hr1
        exact ⟨0, false, by omega, ht.symm, fun eb wr op t ao m q he hr hd hx => ⟨op, t, ao, m, q, he, hr, .inr ⟨rfl, rfl, hd, hx⟩⟩⟩
  clear h h1 hs hw hP hr1
  have H0 := hid ((DS.refl HP.out).alloc (.cells zE 232))
  have HR0 := hid (new_heap w (.cells zE 232))
  go_enter Tryz.func208, Tryz.ntmps208
  go_wp2_with fail
  refine (HS.out rb tb cap nest a c false r1 _ HI1.out ha hnest (H0.out.alloc _).rp).mono ?_
  rintro e w1 ⟨op, t, ao, m, q, rfl, hp, hf, hx⟩
  have H1 := hid (((H0.out.alloc _).call hp hf).alloc (.cells #[.int .u8 op, .string t, .slice ao m q] 232))
  have HR1 := hid (old_heap (.cells #[.int .u8 op, .string t, .slice ao m q] 232) (own_fr (old_heap _ HR0.out) hf (Nat.le_refl _) H0.out.pl))
  have HE1 := hid (new_heap w1 (.cells #[.int .u8 op, .string t, .slice ao m q] 232))
  have hlt : Hid (w.heap.size < w1.heap.size) := hid (heap_lt (own_fr (old_heap _ HR0.out) hf (Nat.le_refl _) H0.out.pl))
  have hrb := H0.out.pl
  have HX1 := hid (fun x h => by obtain ⟨n, h1, h2⟩ := hx x h; exact ⟨n, h1, rep_mono h2 (fun k h4 h3 => ⟨Nat.lt_trans (by simp; omega) h3, Nat.ne_of_lt h4⟩)⟩ : ∀ x, r1 = some x → ∃ n, n + a ≤ c ∧ Rep (fun k => w.heap.size < k ∧ k ≠ w1.heap.size) w1 n (.agg #[.int .u8 op, .string t, .slice ao m q]) x)
  clear hp hf hx
  go_wp2_with fail
  refine (rnext_any toks rb tb cap c nest _ _ H1.out.rp hc).mono ?_
  rintro e w2 ⟨rfl, hb⟩
  have hl2 : Later (fun k => w.heap.size < k ∧ k ≠ w1.heap.size) w1 w2 := ((Later.refl (fun k => w.heap.size < k ∧ k ≠ w1.heap.size) w1).alloc (.cells #[.int .u8 op, .string t, .slice ao m q] 232)).below hb
  obtain ⟨k1, mv, hk1, hmv, hat⟩ := HMORE.out
  have HAT := hid (hat w1.heap.size w2 op t ao m q (below_heap hb (heap_lt HE1.out) HE1.out) (below_heap hb (heap_lt HR1.out) HR1.out) (H1.out.below hb) (fun x hx => by obtain ⟨n, hn, hr⟩ := HX1.out x hx; exact ⟨n, hn, rep_later hr hl2⟩))
  generalize nx toks c r1.isNone = tt at hmv ⊢
  clear hat HMORE hb hl2 HX1 H1 HR1 HE1
  cases mv
  all_goals
    have hq := hmv.symm
    clear hmv
    go_wp2
    go_loopg [7] k1 (fun k mv wr => k ≤ 1 ∧ EqAt toks rb tb cap nest a b r w w1.heap.size g k mv wr)
    case atStart => exact ⟨hk1, HAT.out⟩
    case round =>
      clear HAT hk1 hq
      obtain ⟨hk, op, t, ao, m, q, he, hr, hor⟩ := hrel
      have HE := hid he
      have HR := hid hr
      clear he hr
      rcases hor with ⟨c2, x, n, rfl, rfl, hT, hp2, hc2, hps, hn, hrep⟩ | ⟨rfl, rfl, hps, hx⟩
      · have HD := hid hps
        have HRp := hid hrep
        have HA := hid (passS_any (isT_ne hT))
        have hn2 := HW.out.next_isT hc2 hT
        obtain ⟨d, r2, h3, hr2⟩ := first_steps hp2
        have hd : d < toks.length := P_lt HW.out _ _ _ _ _ _ h3 hn2
        have hdc : c2 + 1 ≤ d := P_ge _ _ _ _ _ _ _ h3
        have H3f := hid (show (if false then some (c2 + 1, none) else P toks g 1 nest (c2 + 1) .nilIface) = some (d, r2) by simpa using h3)
        have HR2 := hid hr2
        clear hps hrep hT hp2 h3 hr2
        go_wp2_with fail
        refine (rpass_any HW.out rb tb cap c2 nest false _ [] _ HD.out.rp hc2 (Lst.nil _) HA.out).mono ?_
        rintro e w3 ⟨rfl, hp, hf⟩
        have H3 := hid (HD.out.call hp hf)
        have HR3 := hid (own_fr HR.out hf (Nat.le_refl _) hrb)
        have HE3 := hid (own_fr HE.out hf (Nat.le_of_lt hlt.out) hrb)
        have HL3 := hid (later_loop (eb := w1.heap.size) hf hrb)
        clear hp hf
        go_wp2_with fail
        refine (HS.out rb tb cap nest (c2 + 1) d false r2 _ H3f.out hn2 hnest H3.out.rp).mono ?_
        rintro e w4 ⟨op4, t4, ao4, m4, q4, rfl, hp, hf, hx⟩
        have H4 := hid (((H3.out.call hp hf).alloc (.cells #[.int .u8 op4, .string t4, .slice ao4 m4 q4] 232)).alloc (.cells #[.int .u8 op, .string t, .slice ao m q, .int .u8 op4, .string t4, .slice ao4 m4 q4] 232))
        have hr4 := own_fr HR3.out hf (Nat.le_refl _) hrb
        have he4 := own_fr HE3.out hf (Nat.le_of_lt hlt.out) hrb
        have HR4 := hid (old_heap (.cells #[.int .u8 op, .string t, .slice ao m q, .int .u8 op4, .string t4, .slice ao4 m4 q4] 232) (old_heap (.cells #[.int .u8 op4, .string t4, .slice ao4 m4 q4] 232) hr4))
        have hea := old_heap (.cells #[.int .u8 op4, .string t4, .slice ao4 m4 q4] 232) he4
        have heb := old_heap (.cells #[.int .u8 op, .string t, .slice ao m q, .int .u8 op4, .string t4, .slice ao4 m4 q4] 232) hea
        have hra : (w4.alloc (.cells #[.int .u8 op4, .string t4, .slice ao4 m4 q4] 232)).heap[w4.heap.size]? = some (.cells #[.int .u8 op4, .string t4, .slice ao4 m4 q4] 232) := new_heap w4 _
        have h6 : ((w4.alloc (.cells #[.int .u8 op4, .string t4, .slice ao4 m4 q4] 232)).alloc (.cells #[.int .u8 op, .string t, .slice ao m q, .int .u8 op4, .string t4, .slice ao4 m4 q4] 232)).heap[w4.heap.size + 1]? = some (.cells #[.int .u8 op, .string t, .slice ao m q, .int .u8 op4, .string t4, .slice ao4 m4 q4] 232) := by have := new_heap (w4.alloc (.cells #[.int .u8 op4, .string t4, .slice ao4 m4 q4] 232)) (.cells #[.int .u8 op, .string t, .slice ao m q, .int .u8 op4, .string t4, .slice ao4 m4 q4] 232); simpa using this
        have HX4 := hid (fun x h => by obtain ⟨n, h1, h2⟩ := hx x h; exact ⟨n, h1, rep_mono h2 (fun k h4 h3 => ⟨Nat.lt_trans (heap_lt HR3.out) h3, Nat.ne_of_gt (Nat.lt_trans (heap_lt HE3.out) h3)⟩)⟩ : ∀ x, r2 = some x → ∃ n, n + (c2 + 1) ≤ d ∧ Rep (fun k => w.heap.size < k ∧ k ≠ w1.heap.size) w4 n (.agg #[.int .u8 op4, .string t4, .slice ao4 m4 q4]) x)
        have HL4 := hid (HL3.out.trans (later_loop (eb := w1.heap.size) hf hrb))
        have hw14 : Hid (w1.heap.size < w4.heap.size) := hid (heap_lt he4)
        clear hp hf hx
        have e0 : World.cell? _ ⟨w1.heap.size, 0, none⟩ = some (.int .u8 op) := heap_cell (i := 0) hea
        have fe0 : World.frozen? _ ⟨w1.heap.size, 0, none⟩ = false := heap_frozen hea
        have e1 : World.cell? _ ⟨w1.heap.size, 1, none⟩ = some (.string t) := heap_cell (i := 1) hea
        have fe1 : World.frozen? _ ⟨w1.heap.size, 1, none⟩ = false := heap_frozen hea
        have e2 : World.cell? _ ⟨w1.heap.size, 2, none⟩ = some (.slice ao m q) := heap_cell (i := 2) hea
        have fe2 : World.frozen? _ ⟨w1.heap.size, 2, none⟩ = false := heap_frozen hea
        have z0 : World.cell? _ ⟨w1.heap.size, 0, none⟩ = some (.int .u8 op) := heap_cell (i := 0) heb
        have fz0 : World.frozen? _ ⟨w1.heap.size, 0, none⟩ = false := heap_frozen heb
        have z1 : World.cell? _ ⟨w1.heap.size, 1, none⟩ = some (.string t) := heap_cell (i := 1) heb
        have fz1 : World.frozen? _ ⟨w1.heap.size, 1, none⟩ = false := heap_frozen heb
        have z2 : World.cell? _ ⟨w1.heap.size, 2, none⟩ = some (.slice ao m q) := heap_cell (i := 2) heb
        have fz2 : World.frozen? _ ⟨w1.heap.size, 2, none⟩ = false := heap_frozen heb
        have s0 : World.cell? ((w4.alloc (.cells #[.int .u8 op4, .string t4, .slice ao4 m4 q4] 232)).alloc (.cells #[.int .u8 op, .string t, .slice ao m q, .int .u8 op4, .string t4, .slice ao4 m4 q4] 232)).drew ⟨w1.heap.size, 0, none⟩ = some (.int .u8 op) := heap_cell (i := 0) heb
        have fs0 : World.frozen? ((w4.alloc (.cells #[.int .u8 op4, .string t4, .slice ao4 m4 q4] 232)).alloc (.cells #[.int .u8 op, .string t, .slice ao m q, .int .u8 op4, .string t4, .slice ao4 m4 q4] 232)).drew ⟨w1.heap.size, 0, none⟩ = false := heap_frozen heb
        have s1 : World.cell? ((w4.alloc (.cells #[.int .u8 op4, .string t4, .slice ao4 m4 q4] 232)).alloc (.cells #[.int .u8 op, .string t, .slice ao m q, .int .u8 op4, .string t4, .slice ao4 m4 q4] 232)).drew ⟨w1.heap.size, 1, none⟩ = some (.string t) := heap_cell (i := 1) heb
        have fs1 : World.frozen? ((w4.alloc (.cells #[.int .u8 op4, .string t4, .slice ao4 m4 q4] 232)).alloc (.cells #[.int .u8 op, .string t, .slice ao m q, .int .u8 op4, .string t4, .slice ao4 m4 q4] 232)).drew ⟨w1.heap.size, 1, none⟩ = false := heap_frozen heb
        have s2 : World.cell? ((w4.alloc (.cells #[.int .u8 op4, .string t4, .slice ao4 m4 q4] 232)).alloc (.cells #[.int .u8 op, .string t, .slice ao m q, .int .u8 op4, .string t4, .slice ao4 m4 q4] 232)).drew ⟨w1.heap.size, 2, none⟩ = some (.slice ao m q) := heap_cell (i := 2) heb
        have fs2 : World.frozen? ((w4.alloc (.cells #[.int .u8 op4, .string t4, .slice ao4 m4 q4] 232)).alloc (.cells #[.int .u8 op, .string t, .slice ao m q, .int .u8 op4, .string t4, .slice ao4 m4 q4] 232)).drew ⟨w1.heap.size, 2, none⟩ = false := heap_frozen heb
        have p0 : World.cell? (w4.alloc (.cells #[.int .u8 op4, .string t4, .slice ao4 m4 q4] 232)).drew ⟨w4.heap.size, 0, none⟩ = some (.int .u8 op4) := heap_cell (i := 0) hra
        have fp0 : World.frozen? (w4.alloc (.cells #[.int .u8 op4, .string t4, .slice ao4 m4 q4] 232)).drew ⟨w4.heap.size, 0, none⟩ = false := heap_frozen hra
        have p1 : World.cell? (w4.alloc (.cells #[.int .u8 op4, .string t4, .slice ao4 m4 q4] 232)).drew ⟨w4.heap.size, 1, none⟩ = some (.string t4) := heap_cell (i := 1) hra
        have fp1 : World.frozen? (w4.alloc (.cells #[.int .u8 op4, .string t4, .slice ao4 m4 q4] 232)).drew ⟨w4.heap.size, 1, none⟩ = false := heap_frozen hra
        have p2 : World.cell? (w4.alloc (.cells #[.int .u8 op4, .string t4, .slice ao4 m4 q4] 232)).drew ⟨w4.heap.size, 2, none⟩ = some (.slice ao4 m4 q4) := heap_cell (i := 2) hra
        have fp2 : World.frozen? (w4.alloc (.cells #[.int .u8 op4, .string t4, .slice ao4 m4 q4] 232)).drew ⟨w4.heap.size, 2, none⟩ = false := heap_frozen hra
        have x0 : World.cell? (w4.alloc (.cells #[.int .u8 op4, .string t4, .slice ao4 m4 q4] 232)).drew ⟨w1.heap.size, 0, none⟩ = some (.int .u8 op) := heap_cell (i := 0) hea
        have fx0 : World.frozen? (w4.alloc (.cells #[.int .u8 op4, .string t4, .slice ao4 m4 q4] 232)).drew ⟨w1.heap.size, 0, none⟩ = false := heap_frozen hea
        have x1 : World.cell? (w4.alloc (.cells #[.int .u8 op4, .string t4, .slice ao4 m4 q4] 232)).drew ⟨w1.heap.size, 1, none⟩ = some (.string t) := heap_cell (i := 1) hea
        have fx1 : World.frozen? (w4.alloc (.cells #[.int .u8 op4, .string t4, .slice ao4 m4 q4] 232)).drew ⟨w1.heap.size, 1, none⟩ = false := heap_frozen hea
        have x2 : World.cell? (w4.alloc (.cells #[.int .u8 op4, .string t4, .slice ao4 m4 q4] 232)).drew ⟨w1.heap.size, 2, none⟩ = some (.slice ao m q) := heap_cell (i := 2) hea
        have fx2 : World.frozen? (w4.alloc (.cells #[.int .u8 op4, .string t4, .slice ao4 m4 q4] 232)).drew ⟨w1.heap.size, 2, none⟩ = false := heap_frozen hea
        have q0 : World.cell? _ ⟨w4.heap.size, 0, none⟩ = some (.int .u8 op4) := heap_cell (i := 0) hra
        have fq0 : World.frozen? _ ⟨w4.heap.size, 0, none⟩ = false := heap_frozen hra
        have q1 : World.cell? _ ⟨w4.heap.size, 1, none⟩ = some (.string t4) := heap_cell (i := 1) hra
        have fq1 : World.frozen? _ ⟨w4.heap.size, 1, none⟩ = false := heap_frozen hra
        have q2 : World.cell? _ ⟨w4.heap.size, 2, none⟩ = some (.slice ao4 m4 q4) := heap_cell (i := 2) hra
        have fq2 : World.frozen? _ ⟨w4.heap.size, 2, none⟩ = false := heap_frozen hra
        have hput := put3_same heb (.int .u8 61) (.string ⟨#[]⟩) (.slice (some ⟨w4.heap.size + 1, 0, none⟩) 2 2)
        have HP4 := hid hput
        have HR5 := hid ((put3_other (b := w1.heap.size) (Nat.ne_of_lt hlt.out) (.int .u8 61) (.string ⟨#[]⟩) (.slice (some ⟨w4.heap.size + 1, 0, none⟩) 2 2)).trans HR4.out)
        have HH6 := hid ((put3_other (b := w1.heap.size) (k := w4.heap.size + 1) (by have := hw14.out; omega) (.int .u8 61) (.string ⟨#[]⟩) (.slice (some ⟨w4.heap.size + 1, 0, none⟩) 2 2)).trans h6)
        have H5 := hid (H4.out.put (Nat.le_of_lt hlt.out) (.int .u8 61) (.string ⟨#[]⟩) (.slice (some ⟨w4.heap.size + 1, 0, none⟩) 2 2)).drew
        have HL5 := hid ((((Later.refl (fun k => w.heap.size < k ∧ k ≠ w1.heap.size) w4).alloc (.cells #[.int .u8 op4, .string t4, .slice ao4 m4 q4] 232)).alloc (.cells #[.int .u8 op, .string t, .slice ao m q, .int .u8 op4, .string t4, .slice ao4 m4 q4] 232)).put3 (p := w1.heap.size) (fun h => h.2 rfl) (.int .u8 61) (.string ⟨#[]⟩) (.slice (some ⟨w4.heap.size + 1, 0, none⟩) 2 2)).drew
        clear hput hea heb hra h6 he4 hr4
        go_wp2
        go_region
        go_wp2
        go_roundg 0
        case rel =>
          refine ⟨by omega, 61, _, some ⟨w4.heap.size + 1, 0, none⟩, 2, 2, HP4.out, HR5.out, .inr ⟨rfl, rfl, ?_, ?_⟩⟩
          · rcases HR2.out with ⟨rfl, rfl, rfl⟩ | ⟨y, rfl, hy⟩
            · exact H5.out
            · cases hy
              exact H5.out
          · intro v hv
            rcases HR2.out with ⟨rfl, rfl, rfl⟩ | ⟨y, rfl, hy⟩
            · cases hv
            · cases hy
              cases hv
              obtain ⟨n4, hn4, hr4⟩ := HX4.out y rfl
              exact ⟨n + n4 + 1, by omega, rep_pair (.inl ⟨rfl, rfl⟩) HH6.out ⟨by have := hlt.out; have := hw14.out; omega, by have := hw14.out; omega⟩ (rep_later (rep_later HRp.out HL4.out) HL5.out) (rep_later hr4 HL5.out)⟩
        case measure => omega
      · have HD := hid hps
        have HX := hid hx
        clear hps hx
        have hr := HR.out
        have he := HE.out
        have r0 : World.cell? _ ⟨w.heap.size, 0, none⟩ = some (.int .u8 0) := heap_cell (i := 0) hr
        have fr0 : World.frozen? _ ⟨w.heap.size, 0, none⟩ = false := heap_frozen hr
        have r1 : World.cell? _ ⟨w.heap.size, 1, none⟩ = some (.string ⟨#[]⟩) := heap_cell (i := 1) hr
        have fr1 : World.frozen? _ ⟨w.heap.size, 1, none⟩ = false := heap_frozen hr
        have r2 : World.cell? _ ⟨w.heap.size, 2, none⟩ = some (.slice none 0 0) := heap_cell (i := 2) hr
        have fr2 : World.frozen? _ ⟨w.heap.size, 2, none⟩ = false := heap_frozen hr
        have e0 : World.cell? _ ⟨w1.heap.size, 0, none⟩ = some (.int .u8 op) := heap_cell (i := 0) he
        have fe0 : World.frozen? _ ⟨w1.heap.size, 0, none⟩ = false := heap_frozen he
        have e1 : World.cell? _ ⟨w1.heap.size, 1, none⟩ = some (.string t) := heap_cell (i := 1) he
        have fe1 : World.frozen? _ ⟨w1.heap.size, 1, none⟩ = false := heap_frozen he
        have e2 : World.cell? _ ⟨w1.heap.size, 2, none⟩ = some (.slice ao m q) := heap_cell (i := 2) he
        have fe2 : World.frozen? _ ⟨w1.heap.size, 2, none⟩ = false := heap_frozen he
        have hy := put3_same hr (.int .u8 op) (.string t) (.slice ao m q)
        have y0 : World.cell? _ ⟨w.heap.size, 0, none⟩ = some (.int .u8 op) := heap_cell (i := 0) hy
        have y1 : World.cell? _ ⟨w.heap.size, 1, none⟩ = some (.string t) := heap_cell (i := 1) hy
        have y2 : World.cell? _ ⟨w.heap.size, 2, none⟩ = some (.slice ao m q) := heap_cell (i := 2) hy
        go_wp2
        refine bodyPost_ret (v := .agg #[.int .u8 op, .string t, .slice ao m q]) (by simp [results, Tryz.results208, go_sem, y0, y1, y2]; try rfl) rfl ?_
        have hd := HD.out.put (Nat.le_refl _) (.int .u8 op) (.string t) (.slice ao m q)
        refine ⟨op, t, ao, m, q, rfl, hd.rp, hd.fr, fun x hx => ?_⟩
        obtain ⟨n, hn, hrep⟩ := HX.out x hx
        exact ⟨n, hn, rep_later (rep_mono hrep fun k _ h => h.1) ((Later.refl _ _).put3 (Nat.lt_irrefl _) _ _ _)⟩

set_option maxRecDepth 100000 in
set_option maxHeartbeats 2000000 in
theorem rlevel1_ok {toks : List Tok} (hw : Wf toks) {g : Nat} (hs : ∀ g', g' ≤ g → RL toks 2 g') : RL toks 1 (g + 1) := by
  refine rl_of (fun rb tb cap a nest w h ha => rlevel1_dead rb tb cap a nest w h ha) ?_
  intro rb tb cap nest a b r w h ha hnest hP
  have HS := hid hs
  have HW := hid hw
  have HP := hid hP
  simp only [P] at h
  obtain ⟨c, r1, h1, hr1⟩ := first_steps h
  have hc : c < toks.length := P_lt hw _ _ _ _ _ _ h1 ha
  have hca : a ≤ c := P_ge _ _ _ _ _ _ _ h1
  have HI1 := hid (show (if false then some (a, none) else P toks g 2 nest a .nilIface) = some (c, r1) by simpa using h1)
  have HMORE : Hid (∃ k mv, k ≤ g + 1 ∧ (mv = ((nx toks c r1.isNone).toList == [43])) ∧ ∀ (eb : Nat) (wr : World) op t ao m q, wr.heap[eb]? = some (.cells #[.int .u8 op, .string t, .slice ao m q] 232) → wr.heap[w.heap.size]? = some (.cells zE 232) → DS toks rb tb cap w wr c nest r1.isNone → (∀ x, r1 = some x → ∃ n, n + a ≤ c ∧ Rep (fun k => w.heap.size < k ∧ k ≠ eb) wr n (.agg #[.int .u8 op, .string t, .slice ao m q]) x) → LvlAt toks rb tb cap nest a b r w eb [43] 4 k (.bool mv) wr) := by
    refine hid ?_
    rcases hr1 with ⟨rfl, rfl, rfl⟩ | ⟨x, rfl, hr1⟩
    · exact ⟨0, false, by omega, by simp [nx], fun eb wr op t ao m q he hr hd hx => ⟨op, t, ao, m, q, he, hr, .inr ⟨rfl, rfl, hd⟩⟩⟩
    · refine ⟨g + 1, isT toks c [43], Nat.le_refl _, rfl, fun eb wr op t ao m q he hr hd hx => ⟨op, t, ao, m, q, he, hr, .inl ?_⟩⟩
      obtain ⟨n, hn, hrep⟩ := hx x rfl
      exact ⟨g, c, x, n, rfl, rfl, hr1, hc, hd, hn, hrep⟩
  clear h h1 hs hw hP hr1
  have H0 := hid ((DS.refl HP.out).alloc (.cells zE 232))
  have HR0 := hid (new_heap w (.cells zE 232))
  go_enter Tryz.func208, Tryz.ntmps208
  go_wp2_with fail
  refine (HS.out g (Nat.le_refl _) rb tb cap nest a c false r1 _ HI1.out ha hnest (H0.out.alloc _).rp).mono ?_
  rintro e w1 ⟨op, t, ao, m, q, rfl, hp, hf, hx⟩
  have H1 := hid (((H0.out.alloc _).call hp hf).alloc (.cells #[.int .u8 op, .string t, .slice ao m q] 232))
  have HR1 := hid (old_heap (.cells #[.int .u8 op, .string t, .slice ao m q] 232) (own_fr (old_heap _ HR0.out) hf (Nat.le_refl _) H0.out.pl))
  have HE1 := hid (new_heap w1 (.cells #[.int .u8 op, .string t, .slice ao m q] 232))
  have hlt : Hid (w.heap.size < w1.heap.size) := hid (heap_lt (own_fr (old_heap _ HR0.out) hf (Nat.le_refl _) H0.out.pl))
  have hrb := H0.out.pl
  have HX1 := hid (fun x h => by obtain ⟨n, h1, h2⟩ := hx x h; exact ⟨n, h1, rep_mono h2 (fun k h4 h3 => ⟨Nat.lt_trans (by simp; omega) h3, Nat.ne_of_lt h4⟩)⟩ : ∀ x, r1 = some x → ∃ n, n + a ≤ c ∧ Rep (fun k => w.heap.size < k ∧ k ≠ w1.heap.size) w1 n (.agg #[.int .u8 op, .string t, .slice ao m q]) x)
  clear hp hf hx
  go_wp2_with fail
  refine (rnext_any toks rb tb cap c nest _ _ H1.out.rp hc).mono ?_
  rintro e w2 ⟨rfl, hb⟩
  have hl2 : Later (fun k => w.heap.size < k ∧ k ≠ w1.heap.size) w1 w2 := ((Later.refl (fun k => w.heap.size < k ∧ k ≠ w1.heap.size) w1).alloc (.cells #[.int .u8 op, .string t, .slice ao m q] 232)).below hb
  obtain ⟨k1, mv, hk1, hmv, hat⟩ := HMORE.out
  have HAT := hid (hat w1.heap.size w2 op t ao m q (below_heap hb (heap_lt HE1.out) HE1.out) (below_heap hb (heap_lt HR1.out) HR1.out) (H1.out.below hb) (fun x hx => by obtain ⟨n, hn, hr⟩ := HX1.out x hx; exact ⟨n, hn, rep_later hr hl2⟩))
  generalize nx toks c r1.isNone = tt at hmv ⊢
  clear hat HMORE hb hl2 HX1 H1 HR1 HE1
  cases mv
  all_goals
    have hq := hmv.symm
    clear hmv
    go_wp2
    go_loopg [7] k1 (fun k mv wr => k ≤ g + 1 ∧ LvlAt toks rb tb cap nest a b r w w1.heap.size [43] 4 k mv wr)
    case atStart => exact ⟨hk1, HAT.out⟩
    case round =>
      clear HAT hk1 hq
      obtain ⟨hk, op, t, ao, m, q, he, hr, hor⟩ := hrel
      have HE := hid he
      have HR := hid hr
      clear he hr
      rcases hor with ⟨f, c2, x, n, rfl, rfl, hpf, hc2, hps, hn, hrep⟩ | ⟨rfl, hrn, hps⟩
      · have HD := hid hps
        have HRp := hid hrep
        clear hps hrep
        obtain ⟨f, rfl⟩ : ∃ f', f = f' + 1 := by
          cases f with
          | zero => simp [P] at hpf
          | succ f' => exact ⟨f', rfl⟩
        simp only [P] at hpf
        cases hT : isT toks c2 [43] with
        | false =>
          rw [hT, if_neg (by simp)] at hpf
          have e1 := (Prod.mk.inj (Option.some.inj hpf)).1
          have e2 := (Prod.mk.inj (Option.some.inj hpf)).2
          subst e1; subst e2
          clear hpf hT
          have hr := HR.out
          have he := HE.out
          have r0 : World.cell? _ ⟨w.heap.size, 0, none⟩ = some (.int .u8 0) := heap_cell (i := 0) hr
          have fr0 : World.frozen? _ ⟨w.heap.size, 0, none⟩ = false := heap_frozen hr
          have r1 : World.cell? _ ⟨w.heap.size, 1, none⟩ = some (.string ⟨#[]⟩) := heap_cell (i := 1) hr
          have fr1 : World.frozen? _ ⟨w.heap.size, 1, none⟩ = false := heap_frozen hr
          have r2 : World.cell? _ ⟨w.heap.size, 2, none⟩ = some (.slice none 0 0) := heap_cell (i := 2) hr
          have fr2 : World.frozen? _ ⟨w.heap.size, 2, none⟩ = false := heap_frozen hr
          have e0 : World.cell? _ ⟨w1.heap.size, 0, none⟩ = some (.int .u8 op) := heap_cell (i := 0) he
          have fe0 : World.frozen? _ ⟨w1.heap.size, 0, none⟩ = false := heap_frozen he
          have e1 : World.cell? _ ⟨w1.heap.size, 1, none⟩ = some (.string t) := heap_cell (i := 1) he
          have fe1 : World.frozen? _ ⟨w1.heap.size, 1, none⟩ = false := heap_frozen he
          have e2 : World.cell? _ ⟨w1.heap.size, 2, none⟩ = some (.slice ao m q) := heap_cell (i := 2) he
          have fe2 : World.frozen? _ ⟨w1.heap.size, 2, none⟩ = false := heap_frozen he
          have hy := put3_same hr (.int .u8 op) (.string t) (.slice ao m q)
          have y0 : World.cell? _ ⟨w.heap.size, 0, none⟩ = some (.int .u8 op) := heap_cell (i := 0) hy
          have y1 : World.cell? _ ⟨w.heap.size, 1, none⟩ = some (.string t) := heap_cell (i := 1) hy
          have y2 : World.cell? _ ⟨w.heap.size, 2, none⟩ = some (.slice ao m q) := heap_cell (i := 2) hy
          go_wp2
          refine bodyPost_ret (v := .agg #[.int .u8 op, .string t, .slice ao m q]) (by simp [results, Tryz.results208, go_sem, y0, y1, y2]; try rfl) rfl ?_
          have hd := HD.out.put (Nat.le_refl _) (.int .u8 op) (.string t) (.slice ao m q)
          refine ⟨op, t, ao, m, q, rfl, hd.rp, hd.fr, fun v hv => ?_⟩
          cases hv
          exact ⟨n, hn, rep_later (rep_mono HRp.out fun k _ h => h.1) ((Later.refl _ _).put3 (Nat.lt_irrefl _) _ _ _)⟩
        | true =>
          rw [hT, if_pos rfl] at hpf
          have HA := hid (passS_any (isT_ne hT))
          have hn2 := HW.out.next_isT hc2 hT
          obtain ⟨d, r2, h3, hr2⟩ := first_steps hpf
          have hd : d < toks.length := P_lt HW.out _ _ _ _ _ _ h3 hn2
          have hdc : c2 + 1 ≤ d := P_ge _ _ _ _ _ _ _ h3
          have H3f := hid (show (if false then some (c2 + 1, none) else P toks f 2 nest (c2 + 1) .nilIface) = some (d, r2) by simpa using h3)
          have HMORE : Hid (∃ k mv, k < f + 1 + 1 ∧ (mv = ((nx toks d r2.isNone).toList == [43])) ∧ ∀ (wr : World) (pb : Nat) op4 t4 ao4 m4 q4, w.heap.size < pb → pb ≠ w1.heap.size → wr.heap[pb]? = some (.cells #[.int .u8 op, .string t, .slice ao m q, .int .u8 op4, .string t4, .slice ao4 m4 q4] 232) → wr.heap[w1.heap.size]? = some (.cells #[.int .u8 43, .string ⟨#[]⟩, .slice (some ⟨pb, 0, none⟩) 2 2] 232) → wr.heap[w.heap.size]? = some (.cells zE 232) → DS toks rb tb cap w wr d nest r2.isNone →
              Rep (fun k => w.heap.size < k ∧ k ≠ w1.heap.size) wr n (.agg #[.int .u8 op, .string t, .slice ao m q]) x → (∀ y, r2 = some y → ∃ n4, n4 + (c2 + 1) ≤ d ∧ Rep (fun k => w.heap.size < k ∧ k ≠ w1.heap.size) wr n4 (.agg #[.int .u8 op4, .string t4, .slice ao4 m4 q4]) y) → LvlAt toks rb tb cap nest a b r w w1.heap.size [43] 4 k (.bool mv) wr) := by
            refine hid ?_
            rcases hr2 with ⟨rfl, rfl, rfl⟩ | ⟨y, rfl, hr2⟩
            · exact ⟨0, false, by omega, by simp [nx], fun wr pb op4 t4 ao4 m4 q4 hp1 hp2 hh he hr hd hrep hx => ⟨43, _, _, 2, 2, he, hr, .inr ⟨rfl, rfl, hd⟩⟩⟩
            · refine ⟨f + 1, isT toks d [43], by omega, rfl, fun wr pb op4 t4 ao4 m4 q4 hp1 hp2 hh he hr hd2 hrep hx => ⟨43, _, _, 2, 2, he, hr, .inl ?_⟩⟩
              obtain ⟨n4, hn4, hr4⟩ := hx y rfl
              exact ⟨f, d, _, n + n4 + 1, rfl, rfl, hr2, hd, hd2, by omega, rep_pair (.inr (.inl ⟨rfl, rfl⟩)) hh ⟨hp1, hp2⟩ hrep hr4⟩
          clear hpf h3 hr2 hT
          go_wp2_with fail
          refine (rpass_any HW.out rb tb cap c2 nest false _ [] _ HD.out.rp hc2 (Lst.nil _) HA.out).mono ?_
          rintro e w3 ⟨rfl, hp, hf⟩
          have H3 := hid (HD.out.call hp hf)
          have HR3 := hid (own_fr HR.out hf (Nat.le_refl _) hrb)
          have HE3 := hid (own_fr HE.out hf (Nat.le_of_lt hlt.out) hrb)
          have HL3 := hid (later_loop (eb := w1.heap.size) hf hrb)
          clear hp hf
          go_wp2_with fail
          refine (HS.out f (by omega) rb tb cap nest (c2 + 1) d false r2 _ H3f.out hn2 hnest H3.out.rp).mono ?_
          rintro e w4 ⟨op4, t4, ao4, m4, q4, rfl, hp, hf, hx⟩
          have H4 := hid (((H3.out.call hp hf).alloc (.cells #[.int .u8 op4, .string t4, .slice ao4 m4 q4] 232)).alloc (.cells #[.int .u8 op, .string t, .slice ao m q, .int .u8 op4, .string t4, .slice ao4 m4 q4] 232))
          have hr4 := own_fr HR3.out hf (Nat.le_refl _) hrb
          have he4 := own_fr HE3.out hf (Nat.le_of_lt hlt.out) hrb
          have HR4 := hid (old_heap (.cells #[.int .u8 op, .string t, .slice ao m q, .int .u8 op4, .string t4, .slice ao4 m4 q4] 232) (old_heap (.cells #[.int .u8 op4, .string t4, .slice ao4 m4 q4] 232) hr4))
          have hea := old_heap (.cells #[.int .u8 op4, .string t4, .slice ao4 m4 q4] 232) he4
          have heb := old_heap (.cells #[.int .u8 op, .string t, .slice ao m q, .int .u8 op4, .string t4, .slice ao4 m4 q4] 232) hea
          have hra : (w4.alloc (.cells #[.int .u8 op4, .string t4, .slice ao4 m4 q4] 232)).heap[w4.heap.size]? = some (.cells #[.int .u8 op4, .string t4, .slice ao4 m4 q4] 232) := new_heap w4 _
          have h6 : ((w4.alloc (.cells #[.int .u8 op4, .string t4, .slice ao4 m4 q4] 232)).alloc (.cells #[.int .u8 op, .string t, .slice ao m q, .int .u8 op4, .string t4, .slice ao4 m4 q4] 232)).heap[w4.heap.size + 1]? = some (.cells #[.int .u8 op, .string t, .slice ao m q, .int .u8 op4, .string t4, .slice ao4 m4 q4] 232) := by have := new_heap (w4.alloc (.cells #[.int .u8 op4, .string t4, .slice ao4 m4 q4] 232)) (.cells #[.int .u8 op, .string t, .slice ao m q, .int .u8 op4, .string t4, .slice ao4 m4 q4] 232); simpa using this
          have HX4 := hid (fun x h => by obtain ⟨n, h1, h2⟩ := hx x h; exact ⟨n, h1, rep_mono h2 (fun k h4 h3 => ⟨Nat.lt_trans (heap_lt HR3.out) h3, Nat.ne_of_gt (Nat.lt_trans (heap_lt HE3.out) h3)⟩)⟩ : ∀ x, r2 = some x → ∃ n, n + (c2 + 1) ≤ d ∧ Rep (fun k => w.heap.size < k ∧ k ≠ w1.heap.size) w4 n (.agg #[.int .u8 op4, .string t4, .slice ao4 m4 q4]) x)
          have HL4 := hid (HL3.out.trans (later_loop (eb := w1.heap.size) hf hrb))
          have hw14 : Hid (w1.heap.size < w4.heap.size) := hid (heap_lt he4)
          clear hp hf hx
          have e0 : World.cell? _ ⟨w1.heap.size, 0, none⟩ = some (.int .u8 op) := heap_cell (i := 0) hea
          have fe0 : World.frozen? _ ⟨w1.heap.size, 0, none⟩ = false := heap_frozen hea
          have e1 : World.cell? _ ⟨w1.heap.size, 1, none⟩ = some (.string t) := heap_cell (i := 1) hea
          have fe1 : World.frozen? _ ⟨w1.heap.size, 1, none⟩ = false := heap_frozen hea
          have e2 : World.cell? _ ⟨w1.heap.size, 2, none⟩ = some (.slice ao m q) := heap_cell (i := 2) hea
          have fe2 : World.frozen? _ ⟨w1.heap.size, 2, none⟩ = false := heap_frozen hea
          have z0 : World.cell? _ ⟨w1.heap.size, 0, none⟩ = some (.int .u8 op) := heap_cell (i := 0) heb
          have fz0 : World.frozen? _ ⟨w1.heap.size, 0, none⟩ = false := heap_frozen heb
          have z1 : World.cell? _ ⟨w1.heap.size, 1, none⟩ = some (.string t) := heap_cell (i := 1) heb
          have fz1 : World.frozen? _ ⟨w1.heap.size, 1, none⟩ = false := heap_frozen heb
          have z2 : World.cell? _ ⟨w1.heap.size, 2, none⟩ = some (.slice ao m q) := heap_cell (i := 2) heb
          have fz2 : World.frozen? _ ⟨w1.heap.size, 2, none⟩ = false := heap_frozen heb
          have s0 : World.cell? ((w4.alloc (.cells #[.int .u8 op4, .string t4, .slice ao4 m4 q4] 232)).alloc (.cells #[.int .u8 op, .string t, .slice ao m q, .int .u8 op4, .string t4, .slice ao4 m4 q4] 232)).drew ⟨w1.heap.size, 0, none⟩ = some (.int .u8 op) := heap_cell (i := 0) heb
          have fs0 : World.frozen? ((w4.alloc (.cells #[.int .u8 op4, .string t4, .slice ao4 m4 q4] 232)).alloc (.cells #[.int .u8 op, .string t, .slice ao m q, .int .u8 op4, .string t4, .slice ao4 m4 q4] 232)).drew ⟨w1.heap.size, 0, none⟩ = false := heap_frozen heb
          have s1 : World.cell? ((w4.alloc (.cells #[.int .u8 op4, .string t4, .slice ao4 m4 q4] 232)).alloc (.cells #[.int .u8 op, .string t, .slice ao m q, .int .u8 op4, .string t4, .slice ao4 m4 q4] 232)).drew ⟨w1.heap.size, 1, none⟩ = some (.string t) := heap_cell (i := 1) heb
          have fs1 : World.frozen? ((w4.alloc (.cells #[.int .u8 op4, .string t4, .slice ao4 m4 q4] 232)).alloc (.cells #[.int .u8 op, .string t, .slice ao m q, .int .u8 op4, .string t4, .slice ao4 m4 q4] 232)).drew ⟨w1.heap.size, 1, none⟩ = false := heap_frozen heb
          have s2 : World.cell? ((w4.alloc (.cells #[.int .u8 op4, .string t4, .slice ao4 m4 q4] 232)).alloc (.cells #[.int .u8 op, .string t, .slice ao m q, .int .u8 op4, .string t4, .slice ao4 m4 q4] 232)).drew ⟨w1.heap.size, 2, none⟩ = some (.slice ao m q) := heap_cell (i := 2) heb
          have fs2 : World.frozen? ((w4.alloc (.cells #[.int .u8 op4, .string t4, .slice ao4 m4 q4] 232)).alloc (.cells #[.int .u8 op, .string t, .slice ao m q, .int .u8 op4, .string t4, .slice ao4 m4 q4] 232)).drew ⟨w1.heap.size, 2, none⟩ = false := heap_frozen heb
          have p0 : World.cell? (w4.alloc (.cells #[.int .u8 op4, .string t4, .slice ao4 m4 q4] 232)).drew ⟨w4.heap.size, 0, none⟩ = some (.int .u8 op4) := heap_cell (i := 0) hra
          have fp0 : World.frozen? (w4.alloc (.cells #[.int .u8 op4, .string t4, .slice ao4 m4 q4] 232)).drew ⟨w4.heap.size, 0, none⟩ = false := heap_frozen hra
          have p1 : World.cell? (w4.alloc (.cells #[.int .u8 op4, .string t4, .slice ao4 m4 q4] 232)).drew ⟨w4.heap.size, 1, none⟩ = some (.string t4) := heap_cell (i := 1) hra
          have fp1 : World.frozen? (w4.alloc (.cells #[.int .u8 op4, .string t4, .slice ao4 m4 q4] 232)).drew ⟨w4.heap.size, 1, none⟩ = false := heap_frozen hra
          have p2 : World.cell? (w4.alloc (.cells #[.int .u8 op4, .string t4, .slice ao4 m4 q4] 232)).drew ⟨w4.heap.size, 2, none⟩ = some (.slice ao4 m4 q4) := heap_cell (i := 2) hra
          have fp2 : World.frozen? (w4.alloc (.cells #[.int .u8 op4, .string t4, .slice ao4 m4 q4] 232)).drew ⟨w4.heap.size, 2, none⟩ = false := heap_frozen hra
          have x0 : World.cell? (w4.alloc (.cells #[.int .u8 op4, .string t4, .slice ao4 m4 q4] 232)).drew ⟨w1.heap.size, 0, none⟩ = some (.int .u8 op) := heap_cell (i := 0) hea
          have fx0 : World.frozen? (w4.alloc (.cells #[.int .u8 op4, .string t4, .slice ao4 m4 q4] 232)).drew ⟨w1.heap.size, 0, none⟩ = false := heap_frozen hea
          have x1 : World.cell? (w4.alloc (.cells #[.int .u8 op4, .string t4, .slice ao4 m4 q4] 232)).drew ⟨w1.heap.size, 1, none⟩ = some (.string t) := heap_cell (i := 1) hea
          have fx1 : World.frozen? (w4.alloc (.cells #[.int .u8 op4, .string t4, .slice ao4 m4 q4] 232)).drew ⟨w1.heap.size, 1, none⟩ = false := heap_frozen hea
          have x2 : World.cell? (w4.alloc (.cells #[.int .u8 op4, .string t4, .slice ao4 m4 q4] 232)).drew ⟨w1.heap.size, 2, none⟩ = some (.slice ao m q) := heap_cell (i := 2) hea
          have fx2 : World.frozen? (w4.alloc (.cells #[.int .u8 op4, .string t4, .slice ao4 m4 q4] 232)).drew ⟨w1.heap.size, 2, none⟩ = false := heap_frozen hea
          have q0 : World.cell? _ ⟨w4.heap.size, 0, none⟩ = some (.int .u8 op4) := heap_cell (i := 0) hra
          have fq0 : World.frozen? _ ⟨w4.heap.size, 0, none⟩ = false := heap_frozen hra
          have q1 : World.cell? _ ⟨w4.heap.size, 1, none⟩ = some (.string t4) := heap_cell (i := 1) hra
          have fq1 : World.frozen? _ ⟨w4.heap.size, 1, none⟩ = false := heap_frozen hra
          have q2 : World.cell? _ ⟨w4.heap.size, 2, none⟩ = some (.slice ao4 m4 q4) := heap_cell (i := 2) hra
          have fq2 : World.frozen? _ ⟨w4.heap.size, 2, none⟩ = false := heap_frozen hra
          have hput := put3_same heb (.int .u8 43) (.string ⟨#[]⟩) (.slice (some ⟨w4.heap.size + 1, 0, none⟩) 2 2)
          have HP4 := hid hput
          have HR5 := hid ((put3_other (b := w1.heap.size) (Nat.ne_of_lt hlt.out) (.int .u8 43) (.string ⟨#[]⟩) (.slice (some ⟨w4.heap.size + 1, 0, none⟩) 2 2)).trans HR4.out)
          have HH6 := hid ((put3_other (b := w1.heap.size) (k := w4.heap.size + 1) (by have := hw14.out; omega) (.int .u8 43) (.string ⟨#[]⟩) (.slice (some ⟨w4.heap.size + 1, 0, none⟩) 2 2)).trans h6)
          have H5 := hid (H4.out.put (Nat.le_of_lt hlt.out) (.int .u8 43) (.string ⟨#[]⟩) (.slice (some ⟨w4.heap.size + 1, 0, none⟩) 2 2)).drew
          have HL5 := hid ((((Later.refl (fun k => w.heap.size < k ∧ k ≠ w1.heap.size) w4).alloc (.cells #[.int .u8 op4, .string t4, .slice ao4 m4 q4] 232)).alloc (.cells #[.int .u8 op, .string t, .slice ao m q, .int .u8 op4, .string t4, .slice ao4 m4 q4] 232)).put3 (p := w1.heap.size) (fun h => h.2 rfl) (.int .u8 43) (.string ⟨#[]⟩) (.slice (some ⟨w4.heap.size + 1, 0, none⟩) 2 2)).drew
          clear hput hea heb hra h6 he4 hr4
          go_wp2
          go_region
          go_wp2_with fail
          refine (rnext_any toks rb tb cap d nest _ _ H5.out.rp hd).mono ?_
          rintro e w5 ⟨rfl, hb⟩
          obtain ⟨k5, mv, hk5, hmv, hat⟩ := HMORE.out
          have HAT := hid (hat w5 (w4.heap.size + 1) op4 t4 ao4 m4 q4 (by have := hlt.out; have := hw14.out; omega) (by have := hw14.out; omega) (below_heap hb (heap_lt HH6.out) HH6.out) (below_heap hb (heap_lt HP4.out) HP4.out) (below_heap hb (heap_lt HR5.out) HR5.out) (H5.out.below hb)
            (rep_later (rep_later HRp.out HL4.out) (HL5.out.below hb)) (fun y hy => by obtain ⟨n4, hn4, hr4⟩ := HX4.out y hy; exact ⟨n4, hn4, rep_later hr4 (HL5.out.below hb)⟩))
          generalize nx toks d r2.isNone = tt5 at hmv ⊢
          clear hat HMORE hb HL5 HL4 HX4 HH6 HP4 HR5
          cases mv
          all_goals
            have hq5 := hmv.symm
            clear hmv
            go_wp2
            go_roundg k5
            case rel => exact ⟨by omega, HAT.out⟩
            case measure => omega
      · have HD := hid hps
        subst hrn
        clear hps
        have hr := HR.out
        have he := HE.out
        have r0 : World.cell? _ ⟨w.heap.size, 0, none⟩ = some (.int .u8 0) := heap_cell (i := 0) hr
        have fr0 : World.frozen? _ ⟨w.heap.size, 0, none⟩ = false := heap_frozen hr
        have r1 : World.cell? _ ⟨w.heap.size, 1, none⟩ = some (.string ⟨#[]⟩) := heap_cell (i := 1) hr
        have fr1 : World.frozen? _ ⟨w.heap.size, 1, none⟩ = false := heap_frozen hr
        have r2 : World.cell? _ ⟨w.heap.size, 2, none⟩ = some (.slice none 0 0) := heap_cell (i := 2) hr
        have fr2 : World.frozen? _ ⟨w.heap.size, 2, none⟩ = false := heap_frozen hr
        have e0 : World.cell? _ ⟨w1.heap.size, 0, none⟩ = some (.int .u8 op) := heap_cell (i := 0) he
        have fe0 : World.frozen? _ ⟨w1.heap.size, 0, none⟩ = false := heap_frozen he
        have e1 : World.cell? _ ⟨w1.heap.size, 1, none⟩ = some (.string t) := heap_cell (i := 1) he
        have fe1 : World.frozen? _ ⟨w1.heap.size, 1, none⟩ = false := heap_frozen he
        have e2 : World.cell? _ ⟨w1.heap.size, 2, none⟩ = some (.slice ao m q) := heap_cell (i := 2) he
        have fe2 : World.frozen? _ ⟨w1.heap.size, 2, none⟩ = false := heap_frozen he
        have hy := put3_same hr (.int .u8 op) (.string t) (.slice ao m q)
        have y0 : World.cell? _ ⟨w.heap.size, 0, none⟩ = some (.int .u8 op) := heap_cell (i := 0) hy
        have y1 : World.cell? _ ⟨w.heap.size, 1, none⟩ = some (.string t) := heap_cell (i := 1) hy
        have y2 : World.cell? _ ⟨w.heap.size, 2, none⟩ = some (.slice ao m q) := heap_cell (i := 2) hy
        go_wp2
        refine bodyPost_ret (v := .agg #[.int .u8 op, .string t, .slice ao m q]) (by simp [results, Tryz.results208, go_sem, y0, y1, y2]; try rfl) rfl ?_
        have hd := HD.out.put (Nat.le_refl _) (.int .u8 op) (.string t) (.slice ao m q)
        exact ⟨op, t, ao, m, q, rfl, hd.rp, hd.fr, fun v hv => by cases hv⟩

set_option maxRecDepth 100000 in
set_option maxHeartbeats 2000000 in
theorem rlevel2_ok {toks : List Tok} (hw : Wf toks) {g : Nat} (hs : ∀ g', g' ≤ g → RL toks 3 g') : RL toks 2 (g + 1) := by
  refine rl_of (fun rb tb cap a nest w h ha => rlevel2_dead rb tb cap a nest w h ha) ?_
  intro rb tb cap nest a b r w h ha hnest hP
  have HS := hid hs
  have HW := hid hw
  have HP := hid hP
  simp only [P] at h
  obtain ⟨c, r1, h1, hr1⟩ := first_steps h
  have hc : c < toks.length := P_lt hw _ _ _ _ _ _ h1 ha
  have hca : a ≤ c := P_ge _ _ _ _ _ _ _ h1
  have HI1 := hid (show (if false then some (a, none) else P toks g 3 nest a .nilIface) = some (c, r1) by simpa using h1)
  have HMORE : Hid (∃ k mv, k ≤ g + 1 ∧ (mv = ((nx toks c r1.isNone).toList == [42])) ∧ ∀ (eb : Nat) (wr : World) op t ao m q, wr.heap[eb]? = some (.cells #[.int .u8 op, .string t, .slice ao m q] 232) → wr.heap[w.heap.size]? = some (.cells zE 232) → DS toks rb tb cap w wr c nest r1.isNone → (∀ x, r1 = some x → ∃ n, n + a ≤ c ∧ Rep (fun k => w.heap.size < k ∧ k ≠ eb) wr n (.agg #[.int .u8 op, .string t, .slice ao m q]) x) → LvlAt toks rb tb cap nest a b r w eb [42] 5 k (.bool mv) wr) := by
    refine hid ?_
    rcases hr1 with ⟨rfl, rfl, rfl⟩ | ⟨x, rfl, hr1⟩
    · exact ⟨0, false, by omega, by simp [nx], fun eb wr op t ao m q he hr hd hx => ⟨op, t, ao, m, q, he, hr, .inr ⟨rfl, rfl, hd⟩⟩⟩
    · refine ⟨g + 1, isT toks c [42], Nat.le_refl _, rfl, fun eb wr op t ao m q he hr hd hx => ⟨op, t, ao, m, q, he, hr, .inl ?_⟩⟩
      obtain ⟨n, hn, hrep⟩ := hx x rfl
      exact ⟨g, c, x, n, rfl, rfl, hr1, hc, hd, hn, hrep⟩
  clear h h1 hs hw hP hr1
  have H0 := hid ((DS.refl HP.out).alloc (.cells zE 232))
  have HR0 := hid (new_heap w (.cells zE 232))
  go_enter Tryz.func208, Tryz.ntmps208
  go_wp2_with fail
  refine (HS.out g (Nat.le_refl _) rb tb cap nest a c false r1 _ HI1.out ha hnest (H0.out.alloc _).rp).mono ?_
  rintro e w1 ⟨op, t, ao, m, q, rfl, hp, hf, hx⟩
  have H1 := hid (((H0.out.alloc _).call hp hf).alloc (.cells #[.int .u8 op, .string t, .slice ao m q] 232))
  have HR1 := hid (old_heap (.cells #[.int .u8 op, .string t, .slice ao m q] 232) (own_fr (old_heap _ HR0.out) hf (Nat.le_refl _) H0.out.pl))
  have HE1 := hid (new_heap w1 (.cells #[.int .u8 op, .string t, .slice ao m q] 232))
  have hlt : Hid (w.heap.size < w1.heap.size) := hid (heap_lt (own_fr (old_heap _ HR0.out) hf (Nat.le_refl _) H0.out.pl))
  have hrb := H0.out.pl
  have HX1 := hid (fun x h => by obtain ⟨n, h1, h2⟩ := hx x h; exact ⟨n, h1, rep_mono h2 (fun k h4 h3 => ⟨Nat.lt_trans (by simp; omega) h3, Nat.ne_of_lt h4⟩)⟩ : ∀ x, r1 = some x → ∃ n, n + a ≤ c ∧ Rep (fun k => w.heap.size < k ∧ k ≠ w1.heap.size) w1 n (.agg #[.int .u8 op, .string t, .slice ao m q]) x)
  clear hp hf hx
  go_wp2_with fail
  refine (rnext_any toks rb tb cap c nest _ _ H1.out.rp hc).mono ?_
  rintro e w2 ⟨rfl, hb⟩
  have hl2 : Later (fun k => w.heap.size < k ∧ k ≠ w1.heap.size) w1 w2 := ((Later.refl (fun k => w.heap.size < k ∧ k ≠ w1.heap.size) w1).alloc (.cells #[.int .u8 op, .string t, .slice ao m q] 232)).below hb
  obtain ⟨k1, mv, hk1, hmv, hat⟩ := HMORE.out
  have HAT := hid (hat w1.heap.size w2 op t ao m q (below_heap hb (heap_lt HE1.out) HE1.out) (below_heap hb (heap_lt HR1.out) HR1.out) (H1.out.below hb) (fun x hx => by obtain ⟨n, hn, hr⟩ := HX1.out x hx; exact ⟨n, hn, rep_later hr hl2⟩))
  generalize nx toks c r1.isNone = tt at hmv ⊢
  clear hat HMORE hb hl2 HX1 H1 HR1 HE1
  cases mv
  all_goals
    have hq := hmv.symm
    clear hmv
    go_wp2
    go_loopg [7] k1 (fun k mv wr => k ≤ g + 1 ∧ LvlAt toks rb tb cap nest a b r w w1.heap.size [42] 5 k mv wr)
    case atStart => exact ⟨hk1, HAT.out⟩
    case round =>
      clear HAT hk1 hq
      obtain ⟨hk, op, t, ao, m, q, he, hr, hor⟩ := hrel
      have HE := hid he
      have HR := hid hr
      clear he hr
      rcases hor with ⟨f, c2, x, n, rfl, rfl, hpf, hc2, hps, hn, hrep⟩ | ⟨rfl, hrn, hps⟩
      · have HD := hid hps
        have HRp := hid hrep
        clear hps hrep
        obtain ⟨f, rfl⟩ : ∃ f', f = f' + 1 := by
          cases f with
          | zero => simp [P] at hpf
          | succ f' => exact ⟨f', rfl⟩
        simp only [P] at hpf
        cases hT : isT toks c2 [42] with
        | false =>
          rw [hT, if_neg (by simp)] at hpf
          have e1 := (Prod.mk.inj (Option.some.inj hpf)).1
          have e2 := (Prod.mk.inj (Option.some.inj hpf)).2
          subst e1; subst e2
          clear hpf hT
          have hr := HR.out
          have he := HE.out
          have r0 : World.cell? _ ⟨w.heap.size, 0, none⟩ = some (.int .u8 0) := heap_cell (i := 0) hr
          have fr0 : World.frozen? _ ⟨w.heap.size, 0, none⟩ = false := heap_frozen hr
          have r1 : World.cell? _ ⟨w.heap.size, 1, none⟩ = some (.string ⟨#[]⟩) := heap_cell (i := 1) hr
          have fr1 : World.frozen? _ ⟨w.heap.size, 1, none⟩ = false := heap_frozen hr
          have r2 : World.cell? _ ⟨w.heap.size, 2, none⟩ = some (.slice none 0 0) := heap_cell (i := 2) hr
          have fr2 : World.frozen? _ ⟨w.heap.size, 2, none⟩ = false := heap_frozen hr
          have e0 : World.cell? _ ⟨w1.heap.size, 0, none⟩ = some (.int .u8 op) := heap_cell (i := 0) he
          have fe0 : World.frozen? _ ⟨w1.heap.size, 0, none⟩ = false := heap_frozen he
          have e1 : World.cell? _ ⟨w1.heap.size, 1, none⟩ = some (.string t) := heap_cell (i := 1) he
          have fe1 : World.frozen? _ ⟨w1.heap.size, 1, none⟩ = false := heap_frozen he
          have e2 : World.cell? _ ⟨w1.heap.size, 2, none⟩ = some (.slice ao m q) := heap_cell (i := 2) he
          have fe2 : World.frozen? _ ⟨w1.heap.size, 2, none⟩ = false := heap_frozen he
          have hy := put3_same hr (.int .u8 op) (.string t) (.slice ao m q)
          have y0 : World.cell? _ ⟨w.heap.size, 0, none⟩ = some (.int .u8 op) := heap_cell (i := 0) hy
          have y1 : World.cell? _ ⟨w.heap.size, 1, none⟩ = some (.string t) := heap_cell (i := 1) hy
          have y2 : World.cell? _ ⟨w.heap.size, 2, none⟩ = some (.slice ao m q) := heap_cell (i := 2) hy
          go_wp2
          refine bodyPost_ret (v := .agg #[.int .u8 op, .string t, .slice ao m q]) (by simp [results, Tryz.results208, go_sem, y0, y1, y2]; try rfl) rfl ?_
          have hd := HD.out.put (Nat.le_refl _) (.int .u8 op) (.string t) (.slice ao m q)
          refine ⟨op, t, ao, m, q, rfl, hd.rp, hd.fr, fun v hv => ?_⟩
          cases hv
          exact ⟨n, hn, rep_later (rep_mono HRp.out fun k _ h => h.1) ((Later.refl _ _).put3 (Nat.lt_irrefl _) _ _ _)⟩
        | true =>
          rw [hT, if_pos rfl] at hpf
          have HA := hid (passS_any (isT_ne hT))
          have hn2 := HW.out.next_isT hc2 hT
          obtain ⟨d, r2, h3, hr2⟩ := first_steps hpf
          have hd : d < toks.length := P_lt HW.out _ _ _ _ _ _ h3 hn2
          have hdc : c2 + 1 ≤ d := P_ge _ _ _ _ _ _ _ h3
          have H3f := hid (show (if false then some (c2 + 1, none) else P toks f 3 nest (c2 + 1) .nilIface) = some (d, r2) by simpa using h3)
          have HMORE : Hid (∃ k mv, k < f + 1 + 1 ∧ (mv = ((nx toks d r2.isNone).toList == [42])) ∧ ∀ (wr : World) (pb : Nat) op4 t4 ao4 m4 q4, w.heap.size < pb → pb ≠ w1.heap.size → wr.heap[pb]? = some (.cells #[.int .u8 op, .string t, .slice ao m q, .int .u8 op4, .string t4, .slice ao4 m4 q4] 232) → wr.heap[w1.heap.size]? = some (.cells #[.int .u8 42, .string ⟨#[]⟩, .slice (some ⟨pb, 0, none⟩) 2 2] 232) → wr.heap[w.heap.size]? = some (.cells zE 232) → DS toks rb tb cap w wr d nest r2.isNone →
              Rep (fun k => w.heap.size < k ∧ k ≠ w1.heap.size) wr n (.agg #[.int .u8 op, .string t, .slice ao m q]) x → (∀ y, r2 = some y → ∃ n4, n4 + (c2 + 1) ≤ d ∧ Rep (fun k => w.heap.size < k ∧ k ≠ w1.heap.size) wr n4 (.agg #[.int .u8 op4, .string t4, .slice ao4 m4 q4]) y) → LvlAt toks rb tb cap nest a b r w w1.heap.size [42] 5 k (.bool mv) wr) := by
            refine hid ?_
            rcases hr2 with ⟨rfl, rfl, rfl⟩ | ⟨y, rfl, hr2⟩
            · exact ⟨0, false, by omega, by simp [nx], fun wr pb op4 t4 ao4 m4 q4 hp1 hp2 hh he hr hd hrep hx => ⟨42, _, _, 2, 2, he, hr, .inr ⟨rfl, rfl, hd⟩⟩⟩
            · refine ⟨f + 1, isT toks d [42], by omega, rfl, fun wr pb op4 t4 ao4 m4 q4 hp1 hp2 hh he hr hd2 hrep hx => ⟨42, _, _, 2, 2, he, hr, .inl ?_⟩⟩
              obtain ⟨n4, hn4, hr4⟩ := hx y rfl
              exact ⟨f, d, _, n + n4 + 1, rfl, rfl, hr2, hd, hd2, by omega, rep_pair (.inr (.inr ⟨rfl, rfl⟩)) hh ⟨hp1, hp2⟩ hrep hr4⟩
          clear hpf h3 hr2 hT
          go_wp2_with fail
          refine (rpass_any HW.out rb tb cap c2 nest false _ [] _ HD.out.rp hc2 (Lst.nil _) HA.out).mono ?_
          rintro e w3 ⟨rfl, hp, hf⟩
          have H3 := hid (HD.out.call hp hf)
          have HR3 := hid (own_fr HR.out hf (Nat.le_refl _) hrb)
          have HE3 := hid (own_fr HE.out hf (Nat.le_of_lt hlt.out) hrb)
          have HL3 := hid (later_loop (eb := w1.heap.size) hf hrb)
          clear hp hf
          go_wp2_with fail
          refine (HS.out f (by omega) rb tb cap nest (c2 + 1) d false r2 _ H3f.out hn2 hnest H3.out.rp).mono ?_
          rintro e w4 ⟨op4, t4, ao4, m4, q4, rfl, hp, hf, hx⟩
          have H4 := hid (((H3.out.call hp hf).alloc (.cells #[.int .u8 op4, .string t4, .slice ao4 m4 q4] 232)).alloc (.cells #[.int .u8 op, .string t, .slice ao m q, .int .u8 op4, .string t4, .slice ao4 m4 q4] 232))
          have hr4 := own_fr HR3.out hf (Nat.le_refl _) hrb
          have he4 := own_fr HE3.out hf (Nat.le_of_lt hlt.out) hrb
          have HR4 := hid (old_heap (.cells #[.int .u8 op, .string t, .slice ao m q, .int .u8 op4, .string t4, .slice ao4 m4 q4] 232) (old_heap (.cells #[.int .u8 op4, .string t4, .slice ao4 m4 q4] 232) hr4))
          have hea := old_heap (.cells #[.int .u8 op4, .string t4, .slice ao4 m4 q4] 232) he4
          have heb := old_heap (.cells #[.int .u8 op, .string t, .slice ao m q, .int .u8 op4, .string t4, .slice ao4 m4 q4] 232) hea
          have hra : (w4.alloc (.cells #[.int .u8 op4, .string t4, .slice ao4 m4 q4] 232)).heap[w4.heap.size]? = some (.cells #[.int .u8 op4, .string t4, .slice ao4 m4 q4] 232) := new_heap w4 _
          have h6 : ((w4.alloc (.cells #[.int .u8 op4, .string t4, .slice ao4 m4 q4] 232)).alloc (.cells #[.int .u8 op, .string t, .slice ao m q, .int .u8 op4, .string t4, .slice ao4 m4 q4] 232)).heap[w4.heap.size + 1]? = some (.cells #[.int .u8 op, .string t, .slice ao m q, .int .u8 op4, .string t4, .slice ao4 m4 q4] 232) := by have := new_heap (w4.alloc (.cells #[.int .u8 op4, .string t4, .slice ao4 m4 q4] 232)) (.cells #[.int .u8 op, .string t, .slice ao m q, .int .u8 op4, .string t4, .slice ao4 m4 q4] 232); simpa using this
          have HX4 := hid (fun x h => by obtain ⟨n, h1, h2⟩ := hx x h; exact ⟨n, h1, rep_mono h2 (fun k h4 h3 => ⟨Nat.lt_trans (heap_lt HR3.out) h3, Nat.ne_of_gt (Nat.lt_trans (heap_lt HE3.out) h3)⟩)⟩ : ∀ x, r2 = some x → ∃ n, n + (c2 + 1) ≤ d ∧ Rep (fun k => w.heap.size < k ∧ k ≠ w1.heap.size) w4 n (.agg #[.int .u8 op4, .string t4, .slice ao4 m4 q4]) x)
          have HL4 := hid (HL3.out.trans (later_loop (eb := w1.heap.size) hf hrb))
          have hw14 : Hid (w1.heap.size < w4.heap.size) := hid (heap_lt he4)
          clear hp hf hx
          have e0 : World.cell? _ ⟨w1.heap.size, 0, none⟩ = some (.int .u8 op) := heap_cell (i := 0) hea
          have fe0 : World.frozen? _ ⟨w1.heap.size, 0, none⟩ = false := heap_frozen hea
          have e1 : World.cell? _ ⟨w1.heap.size, 1, none⟩ = some (.string t) := heap_cell (i := 1) hea
          have fe1 : World.frozen? _ ⟨w1.heap.size, 1, none⟩ = false := heap_frozen hea
          have e2 : World.cell? _ ⟨w1.heap.size, 2, none⟩ = some (.slice ao m q) := heap_cell (i := 2) hea
          have fe2 : World.frozen? _ ⟨w1.heap.size, 2, none⟩ = false := heap_frozen hea
          have z0 : World.cell? _ ⟨w1.heap.size, 0, none⟩ = some (.int .u8 op) := heap_cell (i := 0) heb
          have fz0 : World.frozen? _ ⟨w1.heap.size, 0, none⟩ = false := heap_frozen heb
          have z1 : World.cell? _ ⟨w1.heap.size, 1, none⟩ = some (.string t) := heap_cell (i := 1) heb
          have fz1 : World.frozen? _ ⟨w1.heap.size, 1, none⟩ = false := heap_frozen heb
          have z2 : World.cell? _ ⟨w1.heap.size, 2, none⟩ = some (.slice ao m q) := heap_cell (i := 2) heb
          have fz2 : World.frozen? _ ⟨w1.heap.size, 2, none⟩ = false := heap_frozen heb
          have s0 : World.cell? ((w4.alloc (.cells #[.int .u8 op4, .string t4, .slice ao4 m4 q4] 232)).alloc (.cells #[.int .u8 op, .string t, .slice ao m q, .int .u8 op4, .string t4, .slice ao4 m4 q4] 232)).drew ⟨w1.heap.size, 0, none⟩ = some (.int .u8 op) := heap_cell (i := 0) heb
          have fs0 : World.frozen? ((w4.alloc (.cells #[.int .u8 op4, .string t4, .slice ao4 m4 q4] 232)).alloc (.cells #[.int .u8 op, .string t, .slice ao m q, .int .u8 op4, .string t4, .slice ao4 m4 q4] 232)).drew ⟨w1.heap.size, 0, none⟩ = false := heap_frozen heb
          have s1 : World.cell? ((w4.alloc (.cells #[.int .u8 op4, .string t4, .slice ao4 m4 q4] 232)).alloc (.cells #[.int .u8 op, .string t, .slice ao m q, .int .u8 op4, .string t4, .slice ao4 m4 q4] 232)).drew ⟨w1.heap.size, 1, none⟩ = some (.string t) := heap_cell (i := 1) heb
          have fs1 : World.frozen? ((w4.alloc (.cells #[.int .u8 op4, .string t4, .slice ao4 m4 q4] 232)).alloc (.cells #[.int .u8 op, .string t, .slice ao m q, .int .u8 op4, .string t4, .slice ao4 m4 q4] 232)).drew ⟨w1.heap.size, 1, none⟩ = false := heap_frozen heb
          have s2 : World.cell? ((w4.alloc (.cells #[.int .u8 op4, .string t4, .slice ao4 m4 q4] 232)).alloc (.cells #[.int .u8 op, .string t, .slice ao m q, .int .u8 op4, .string t4, .slice ao4 m4 q4] 232)).drew ⟨w1.heap.size, 2, none⟩ = some (.slice ao m q) := heap_cell (i := 2) heb
          have fs2 : World.frozen? ((w4.alloc (.cells #[.int .u8 op4, .string t4, .slice ao4 m4 q4] 232)).alloc (.cells #[.int .u8 op, .string t, .slice ao m q, .int .u8 op4, .string t4, .slice ao4 m4 q4] 232)).drew ⟨w1.heap.size, 2, none⟩ = false := heap_frozen heb
          have p0 : World.cell? (w4.alloc (.cells #[.int .u8 op4, .string t4, .slice ao4 m4 q4] 232)).drew ⟨w4.heap.size, 0, none⟩ = some (.int .u8 op4) := heap_cell (i := 0) hra
          have fp0 : World.frozen? (w4.alloc (.cells #[.int .u8 op4, .string t4, .slice ao4 m4 q4] 232)).drew ⟨w4.heap.size, 0, none⟩ = false := heap_frozen hra
          have p1 : World.cell? (w4.alloc (.cells #[.int .u8 op4, .string t4, .slice ao4 m4 q4] 232)).drew ⟨w4.heap.size, 1, none⟩ = some (.string t4) := heap_cell (i := 1) hra
          have fp1 : World.frozen? (w4.alloc (.cells #[.int .u8 op4, .string t4, .slice ao4 m4 q4] 232)).drew ⟨w4.heap.size, 1, none⟩ = false := heap_frozen hra
          have p2 : World.cell? (w4.alloc (.cells #[.int .u8 op4, .string t4, .slice ao4 m4 q4] 232)).drew ⟨w4.heap.size, 2, none⟩ = some (.slice ao4 m4 q4) := heap_cell (i := 2) hra
          have fp2 : World.frozen? (w4.alloc (.cells #[.int .u8 op4, .string t4, .slice ao4 m4 q4] 232)).drew ⟨w4.heap.size, 2, none⟩ = false := heap_frozen hra
          have x0 : World.cell? (w4.alloc (.cells #[.int .u8 op4, .string t4, .slice ao4 m4 q4] 232)).drew ⟨w1.heap.size, 0, none⟩ = some (.int .u8 op) := heap_cell (i := 0) hea
          have fx0 : World.frozen? (w4.alloc (.cells #[.int .u8 op4, .string t4, .slice ao4 m4 q4] 232)).drew ⟨w1.heap.size, 0, none⟩ = false := heap_frozen hea
          have x1 : World.cell? (w4.alloc (.cells #[.int .u8 op4, .string t4, .slice ao4 m4 q4] 232)).drew ⟨w1.heap.size, 1, none⟩ = some (.string t) := heap_cell (i := 1) hea
          have fx1 : World.frozen? (w4.alloc (.cells #[.int .u8 op4, .string t4, .slice ao4 m4 q4] 232)).drew ⟨w1.heap.size, 1, none⟩ = false := heap_frozen hea
          have x2 : World.cell? (w4.alloc (.cells #[.int .u8 op4, .string t4, .slice ao4 m4 q4] 232)).drew ⟨w1.heap.size, 2, none⟩ = some (.slice ao m q) := heap_cell (i := 2) hea
          have fx2 : World.frozen? (w4.alloc (.cells #[.int .u8 op4, .string t4, .slice ao4 m4 q4] 232)).drew ⟨w1.heap.size, 2, none⟩ = false := heap_frozen hea
          have q0 : World.cell? _ ⟨w4.heap.size, 0, none⟩ = some (.int .u8 op4) := heap_cell (i := 0) hra
          have fq0 : World.frozen? _ ⟨w4.heap.size, 0, none⟩ = false := heap_frozen hra
          have q1 : World.cell? _ ⟨w4.heap.size, 1, none⟩ = some (.string t4) := heap_cell (i := 1) hra
          have fq1 : World.frozen? _ ⟨w4.heap.size, 1, none⟩ = false := heap_frozen hra
          have q2 : World.cell? _ ⟨w4.heap.size, 2, none⟩ = some (.slice ao4 m4 q4) := heap_cell (i := 2) hra
          have fq2 : World.frozen? _ ⟨w4.heap.size, 2, none⟩ = false := heap_frozen hra
          have hput := put3_same heb (.int .u8 42) (.string ⟨#[]⟩) (.slice (some ⟨w4.heap.size + 1, 0, none⟩) 2 2)
          have HP4 := hid hput
          have HR5 := hid ((put3_other (b := w1.heap.size) (Nat.ne_of_lt hlt.out) (.int .u8 42) (.string ⟨#[]⟩) (.slice (some ⟨w4.heap.size + 1, 0, none⟩) 2 2)).trans HR4.out)
          have HH6 := hid ((put3_other (b := w1.heap.size) (k := w4.heap.size + 1) (by have := hw14.out; omega) (.int .u8 42) (.string ⟨#[]⟩) (.slice (some ⟨w4.heap.size + 1, 0, none⟩) 2 2)).trans h6)
          have H5 := hid (H4.out.put (Nat.le_of_lt hlt.out) (.int .u8 42) (.string ⟨#[]⟩) (.slice (some ⟨w4.heap.size + 1, 0, none⟩) 2 2)).drew
          have HL5 := hid ((((Later.refl (fun k => w.heap.size < k ∧ k ≠ w1.heap.size) w4).alloc (.cells #[.int .u8 op4, .string t4, .slice ao4 m4 q4] 232)).alloc (.cells #[.int .u8 op, .string t, .slice ao m q, .int .u8 op4, .string t4, .slice ao4 m4 q4] 232)).put3 (p := w1.heap.size) (fun h => h.2 rfl) (.int .u8 42) (.string ⟨#[]⟩) (.slice (some ⟨w4.heap.size + 1, 0, none⟩) 2 2)).drew
          clear hput hea heb hra h6 he4 hr4
          go_wp2
          go_region
          go_wp2_with fail
          refine (rnext_any toks rb tb cap d nest _ _ H5.out.rp hd).mono ?_
          rintro e w5 ⟨rfl, hb⟩
          obtain ⟨k5, mv, hk5, hmv, hat⟩ := HMORE.out
          have HAT := hid (hat w5 (w4.heap.size + 1) op4 t4 ao4 m4 q4 (by have := hlt.out; have := hw14.out; omega) (by have := hw14.out; omega) (below_heap hb (heap_lt HH6.out) HH6.out) (below_heap hb (heap_lt HP4.out) HP4.out) (below_heap hb (heap_lt HR5.out) HR5.out) (H5.out.below hb)
            (rep_later (rep_later HRp.out HL4.out) (HL5.out.below hb)) (fun y hy => by obtain ⟨n4, hn4, hr4⟩ := HX4.out y hy; exact ⟨n4, hn4, rep_later hr4 (HL5.out.below hb)⟩))
          generalize nx toks d r2.isNone = tt5 at hmv ⊢
          clear hat HMORE hb HL5 HL4 HX4 HH6 HP4 HR5
          cases mv
          all_goals
            have hq5 := hmv.symm
            clear hmv
            go_wp2
            go_roundg k5
            case rel => exact ⟨by omega, HAT.out⟩
            case measure => omega
      · have HD := hid hps
        subst hrn
        clear hps
        have hr := HR.out
        have he := HE.out
        have r0 : World.cell? _ ⟨w.heap.size, 0, none⟩ = some (.int .u8 0) := heap_cell (i := 0) hr
        have fr0 : World.frozen? _ ⟨w.heap.size, 0, none⟩ = false := heap_frozen hr
        have r1 : World.cell? _ ⟨w.heap.size, 1, none⟩ = some (.string ⟨#[]⟩) := heap_cell (i := 1) hr
        have fr1 : World.frozen? _ ⟨w.heap.size, 1, none⟩ = false := heap_frozen hr
        have r2 : World.cell? _ ⟨w.heap.size, 2, none⟩ = some (.slice none 0 0) := heap_cell (i := 2) hr
        have fr2 : World.frozen? _ ⟨w.heap.size, 2, none⟩ = false := heap_frozen hr
        have e0 : World.cell? _ ⟨w1.heap.size, 0, none⟩ = some (.int .u8 op) := heap_cell (i := 0) he
        have fe0 : World.frozen? _ ⟨w1.heap.size, 0, none⟩ = false := heap_frozen he
        have e1 : World.cell? _ ⟨w1.heap.size, 1, none⟩ = some (.string t) := heap_cell (i := 1) he
        have fe1 : World.frozen? _ ⟨w1.heap.size, 1, none⟩ = false := heap_frozen he
        have e2 : World.cell? _ ⟨w1.heap.size, 2, none⟩ = some (.slice ao m q) := heap_cell (i := 2) he
        have fe2 : World.frozen? _ ⟨w1.heap.size, 2, none⟩ = false := heap_frozen he
        have hy := put3_same hr (.int .u8 op) (.string t) (.slice ao m q)
        have y0 : World.cell? _ ⟨w.heap.size, 0, none⟩ = some (.int .u8 op) := heap_cell (i := 0) hy
        have y1 : World.cell? _ ⟨w.heap.size, 1, none⟩ = some (.string t) := heap_cell (i := 1) hy
        have y2 : World.cell? _ ⟨w.heap.size, 2, none⟩ = some (.slice ao m q) := heap_cell (i := 2) hy
        go_wp2
        refine bodyPost_ret (v := .agg #[.int .u8 op, .string t, .slice ao m q]) (by simp [results, Tryz.results208, go_sem, y0, y1, y2]; try rfl) rfl ?_
        have hd := HD.out.put (Nat.le_refl _) (.int .u8 op) (.string t) (.slice ao m q)
        exact ⟨op, t, ao, m, q, rfl, hd.rp, hd.fr, fun v hv => by cases hv⟩

theorem rall_ok {toks : List Tok} (hw : Wf toks) (hc : ∀ i, Cls (tx toks i)) : ∀ n g, g ≤ n → RL toks 0 g ∧ RL toks 1 g ∧ RL toks 2 g ∧ RL toks 3 g := by
  have hz0 : ∀ tag : Nat, tag ≤ 3 → RL toks tag 0 := by
    intro tag ht
    refine rl_of (fun rb tb cap a nest w h ha => ?_) fun rb tb cap nest a b r w h => by simp [P] at h
    match tag, ht with
    | 0, _ => exact rlevel0_dead rb tb cap a nest w h ha
    | 1, _ => exact rlevel1_dead rb tb cap a nest w h ha
    | 2, _ => exact rlevel2_dead rb tb cap a nest w h ha
    | 3, _ => exact rlevel3_dead rb tb cap a nest w h ha
  intro n
  induction n with
  | zero => intro g hg; obtain rfl : g = 0 := by omega
            exact ⟨hz0 0 (by omega), hz0 1 (by omega), hz0 2 (by omega), hz0 3 (by omega)⟩
  | succ n ih =>
    intro g hg
    cases g with
    | zero => exact ⟨hz0 0 (by omega), hz0 1 (by omega), hz0 2 (by omega), hz0 3 (by omega)⟩
    | succ g =>
      exact ⟨rlevel0_ok hw (ih g (by omega)).2.1, rlevel1_ok hw fun g' h => (ih g' (by omega)).2.2.1, rlevel2_ok hw fun g' h => (ih g' (by omega)).2.2.2, rlevel3_ok (ratom_ok hw hc (ih g (by omega)).1)⟩

end Go.Proofs.YtfekglokoafpiaaGreatDoor
