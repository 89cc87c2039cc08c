/-
  The parser: chain, sum, product.
  The parser: nested, bracket, choice.
  The parser: bracket.
  The parser: choice.
  The parser: atom.
  The document's tokens: how long the token at a place is.
-/
import Derived.Test.YtfekglokoafpiaaGreatDoorQ01
import Derived.Deep.LoopGhost
import Derived.Deep.RegionWith
import Derived.Test.YtfekglokoafpiaaGreatDoorShelf
import Derived.Lib.AtoiErrMem

set_option linter.unusedVariables false
set_option linter.unusedSimpArgs false

namespace Go.Proofs.YtfekglokoafpiaaGreatDoor
open Go.RowKit

/-- What chain's loop holds: the reading goes on (k: the fuel and 1), or has failed. -/
def ChainAt (toks : List Tok) (pb tb cap nest b : Nat) (r : Option Value) (w : World) (rtag k : Nat) (lv okv : Value) (wr : World) : Prop :=
  Ifc lv ∧ Fr [pb] w wr ∧ ((∃ f c, okv = .bool true ∧ k = f + 1 ∧ P toks f rtag nest c lv = some (b, r) ∧ c < toks.length ∧ PS toks pb tb cap c nest wr.heap) ∨
    (okv = .bool false ∧ r = none ∧ b < toks.length ∧ PS toks pb tb cap b nest wr.heap))

set_option maxRecDepth 100000 in
set_option maxHeartbeats 2000000 in
theorem chain_plus {toks : List Tok} (hw : Wf toks) {g : Nat} (hs : ∀ g', g' ≤ g → OK toks 228 2 g') (pb tb cap nest a b : Nat) (r : Option Value) (w : World)
    (h : andP (P toks g 2 nest a .nilIface) (fun b x => P toks g 4 nest b x) = some (b, r)) (ha : a < toks.length) (hnest : nest ≤ 20) (hP : PS toks pb tb cap a nest w.heap) :
    Calls Tryz.prog 227 #[.pointer (some ⟨pb, 0, none⟩), .string ⟨#[43]⟩, .func (Fn.func 228) #[.pointer (some ⟨pb, 0, none⟩)] #[]] w (Post toks pb tb cap nest b r w) := by
  have HS := hid hs
  have HW := hid hw
  have HP := hid hP
  have HL := hid hw.le
  clear hs hw hP
  have hstart : ∃ c r1, P toks g 2 nest a .nilIface = some (c, r1) ∧ ((r1 = none ∧ b = c ∧ r = none) ∨ ∃ x, r1 = some x ∧ P toks g 4 nest c x = some (b, r)) := by
    rcases andP_cases h with ⟨c, h1, h2⟩ | ⟨c, x, h1, h2⟩
    · exact ⟨c, none, h1, .inl ⟨rfl, (Prod.mk.inj h2).1, (Prod.mk.inj h2).2⟩⟩
    · exact ⟨c, some x, h1, .inr ⟨x, rfl, h2⟩⟩
  obtain ⟨c, r1, h1, hr1⟩ := hstart
  have H1 := hid h1
  have HR := hid hr1
  clear h h1 hr1
  go_enter Tryz.func227, Tryz.ntmps227
  go_wp2_with fail
  refine (HS.out g (Nat.le_refl _) pb tb cap nest a _ _ _ H1.out ha hnest HP.out).mono ?_
  rintro e w1 ⟨⟨v, rfl, hv, hx⟩, hP1, hb1, hF1⟩
  have HAT : Hid (∃ k, k ≤ g + 1 ∧ ChainAt toks pb tb cap nest b r w 4 k v (.bool r1.isSome) w1) := by
    refine hid ?_
    rcases HR.out with ⟨h1, h2, h3⟩ | ⟨x, h1, h2⟩
    · subst h1; subst h2; subst h3
      exact ⟨0, by omega, hv, hF1, .inr ⟨rfl, rfl, hb1, hP1⟩⟩
    · subst h1
      obtain rfl := hx x rfl
      exact ⟨g + 1, by omega, hv, hF1, .inl ⟨g, c, rfl, rfl, h2, hb1, hP1⟩⟩
  clear hP1 hF1 hx hv hb1 HR H1
  generalize r1.isSome = ok1 at HAT ⊢
  go_wp2
  obtain ⟨k1, hk1, hat⟩ := HAT.out
  have HA1 := hid hat
  clear hat HAT
  go_loopg [8, 9] k1 (fun k lv okv wr => k ≤ g + 1 ∧ ChainAt toks pb tb cap nest b r w 4 k lv okv wr)
  case atStart => exact ⟨hk1, HA1.out⟩
  case round =>
    clear HA1 hk1
    obtain ⟨hk, hi, hF, hor⟩ := hrel
    have HF := hid hF
    clear hF
    rcases hor with ⟨f, c2, rfl, rfl, hpf, hc2, hps⟩ | ⟨rfl, hr, hb, hps⟩
    · have HPS := hid hps
      clear hps
      obtain ⟨f, rfl⟩ : ∃ f', f = f' + 1 := by
        cases f with
        | zero => simp [P] at hpf
        | succ f' => exact ⟨f', rfl⟩
      simp only [P] at hpf
      cases ht : isT toks c2 [43] with
      | false =>
        rw [ht, if_neg (by simp)] at hpf
        have e1 := (Prod.mk.inj (Option.some.inj hpf)).1
        have e2 := (Prod.mk.inj (Option.some.inj hpf)).2
        have HT : Hid (eqB (tx toks c2) ⟨#[43]⟩ = false) := hid ((isT_eqB toks c2 [43]).symm.trans ht)
        have HI := hid hi
        subst e1; subst e2
        clear ht hpf hi
        go_wp2_with (go_at_call 161; go_must (refine (take_no toks pb tb cap _ nest _ _ HPS.out hc2 HT.out).mono ?_; rintro e w2 ⟨rfl, hP2, hF2⟩; have HP2 := hid hP2; have HF2 := hid hF2; clear hP2 hF2))
        go_ret2
        exact ⟨⟨_, rfl, HI.out, fun x h => by cases h; rfl⟩, HP2.out, hc2, HF.out.trans HF2.out⟩
      | true =>
        rw [ht, if_pos rfl] at hpf
        have HT : Hid (eqB (tx toks c2) ⟨#[43]⟩ = true) := hid ((isT_eqB toks c2 [43]).symm.trans ht)
        have HN : Hid (c2 + 1 < toks.length) := hid (HW.out.next_isT hc2 ht)
        clear ht
        rcases andP_cases hpf with ⟨d, h3, h4⟩ | ⟨d, y, h3, h4⟩
        · have e1 := (Prod.mk.inj h4).1
          have e2 := (Prod.mk.inj h4).2
          subst e1; subst e2
          have H3 := hid h3
          clear hpf h3 h4
          rcases hi with rfl | ⟨t1, y1, rfl⟩
          all_goals
            go_wp2_with (first
              | (go_at_call 161; go_must (refine (take_yes toks pb tb cap _ nest _ _ HPS.out hc2 HL.out HT.out).mono ?_; rintro e w2 ⟨rfl, hP2, hF2⟩; have HP2 := hid hP2; have HF2 := hid hF2; clear hP2 hF2))
              | (go_at_call 228; go_must (refine (HS.out f (by omega) pb tb cap nest _ _ _ _ H3.out HN.out hnest HP2.out).mono ?_; rintro e w3 ⟨⟨v3, rfl, hv3, _⟩, hP3, hb3, hF3⟩; have HP3 := hid hP3; have HF3 := hid hF3; have HV3 := hid hv3; clear hP3 hF3 hv3; rcases HV3.out with rfl | ⟨t3, y3, rfl⟩)))
          all_goals
            go_roundg 0
          all_goals first
            | omega
            | exact ⟨by omega, .inr ⟨_, _, rfl⟩, (HF.out.trans HF2.out).trans HF3.out, .inr ⟨rfl, rfl, hb3, HP3.out⟩⟩
        · have H3 := hid h3
          have H4 := hid h4
          clear hpf h3 h4
          rcases hi with rfl | ⟨t1, y1, rfl⟩
          all_goals
            go_wp2_with (first
              | (go_at_call 161; go_must (refine (take_yes toks pb tb cap _ nest _ _ HPS.out hc2 HL.out HT.out).mono ?_; rintro e w2 ⟨rfl, hP2, hF2⟩; have HP2 := hid hP2; have HF2 := hid hF2; clear hP2 hF2))
              | (go_at_call 228; go_must (refine (HS.out f (by omega) pb tb cap nest _ _ _ _ H3.out HN.out hnest HP2.out).mono ?_; rintro e w3 ⟨⟨v3, rfl, hv3, hx3⟩, hP3, hb3, hF3⟩; obtain rfl := hx3 y rfl; have HP3 := hid hP3; have HF3 := hid hF3; have HV3 := hid hv3; clear hP3 hF3 hv3 hx3; rcases HV3.out with rfl | ⟨t3, y3, rfl⟩)))
          all_goals
            go_roundg (f + 1)
          all_goals first
            | omega
            | exact ⟨by omega, .inr ⟨_, _, rfl⟩, (HF.out.trans HF2.out).trans HF3.out, .inl ⟨f, d, rfl, rfl, H4.out, hb3, HP3.out⟩⟩
    · have HPS := hid hps
      have HI := hid hi
      subst hr
      clear hps hi
      go_wp2
      go_ret2
      exact ⟨⟨_, rfl, HI.out, fun x h => by cases h⟩, HPS.out, hb, HF.out⟩

set_option maxRecDepth 100000 in
set_option maxHeartbeats 2000000 in
theorem chain_times {toks : List Tok} (hw : Wf toks) {g : Nat} (hs : ∀ g', g' ≤ g → OK toks 233 3 g') (pb tb cap nest a b : Nat) (r : Option Value) (w : World)
    (h : andP (P toks g 3 nest a .nilIface) (fun b x => P toks g 5 nest b x) = some (b, r)) (ha : a < toks.length) (hnest : nest ≤ 20) (hP : PS toks pb tb cap a nest w.heap) :
    Calls Tryz.prog 227 #[.pointer (some ⟨pb, 0, none⟩), .string ⟨#[42]⟩, .func (Fn.func 233) #[.pointer (some ⟨pb, 0, none⟩)] #[]] w (Post toks pb tb cap nest b r w) := by
  have HS := hid hs
  have HW := hid hw
  have HP := hid hP
  have HL := hid hw.le
  clear hs hw hP
  have hstart : ∃ c r1, P toks g 3 nest a .nilIface = some (c, r1) ∧ ((r1 = none ∧ b = c ∧ r = none) ∨ ∃ x, r1 = some x ∧ P toks g 5 nest c x = some (b, r)) := by
    rcases andP_cases h with ⟨c, h1, h2⟩ | ⟨c, x, h1, h2⟩
    · exact ⟨c, none, h1, .inl ⟨rfl, (Prod.mk.inj h2).1, (Prod.mk.inj h2).2⟩⟩
    · exact ⟨c, some x, h1, .inr ⟨x, rfl, h2⟩⟩
  obtain ⟨c, r1, h1, hr1⟩ := hstart
  have H1 := hid h1
  have HR := hid hr1
  clear h h1 hr1
  go_enter Tryz.func227, Tryz.ntmps227
  go_wp2_with fail
  refine (HS.out g (Nat.le_refl _) pb tb cap nest a _ _ _ H1.out ha hnest HP.out).mono ?_
  rintro e w1 ⟨⟨v, rfl, hv, hx⟩, hP1, hb1, hF1⟩
  have HAT : Hid (∃ k, k ≤ g + 1 ∧ ChainAt toks pb tb cap nest b r w 5 k v (.bool r1.isSome) w1) := by
    refine hid ?_
    rcases HR.out with ⟨h1, h2, h3⟩ | ⟨x, h1, h2⟩
    · subst h1; subst h2; subst h3
      exact ⟨0, by omega, hv, hF1, .inr ⟨rfl, rfl, hb1, hP1⟩⟩
    · subst h1
      obtain rfl := hx x rfl
      exact ⟨g + 1, by omega, hv, hF1, .inl ⟨g, c, rfl, rfl, h2, hb1, hP1⟩⟩
  clear hP1 hF1 hx hv hb1 HR H1
  generalize r1.isSome = ok1 at HAT ⊢
  go_wp2
  obtain ⟨k1, hk1, hat⟩ := HAT.out
  have HA1 := hid hat
  clear hat HAT
  go_loopg [8, 9] k1 (fun k lv okv wr => k ≤ g + 1 ∧ ChainAt toks pb tb cap nest b r w 5 k lv okv wr)
  case atStart => exact ⟨hk1, HA1.out⟩
  case round =>
    clear HA1 hk1
    obtain ⟨hk, hi, hF, hor⟩ := hrel
    have HF := hid hF
    clear hF
    rcases hor with ⟨f, c2, rfl, rfl, hpf, hc2, hps⟩ | ⟨rfl, hr, hb, hps⟩
    · have HPS := hid hps
      clear hps
      obtain ⟨f, rfl⟩ : ∃ f', f = f' + 1 := by
        cases f with
        | zero => simp [P] at hpf
        | succ f' => exact ⟨f', rfl⟩
      simp only [P] at hpf
      cases ht : isT toks c2 [42] with
      | false =>
        rw [ht, if_neg (by simp)] at hpf
        have e1 := (Prod.mk.inj (Option.some.inj hpf)).1
        have e2 := (Prod.mk.inj (Option.some.inj hpf)).2
        have HT : Hid (eqB (tx toks c2) ⟨#[42]⟩ = false) := hid ((isT_eqB toks c2 [42]).symm.trans ht)
        have HI := hid hi
        subst e1; subst e2
        clear ht hpf hi
        go_wp2_with (go_at_call 161; go_must (refine (take_no toks pb tb cap _ nest _ _ HPS.out hc2 HT.out).mono ?_; rintro e w2 ⟨rfl, hP2, hF2⟩; have HP2 := hid hP2; have HF2 := hid hF2; clear hP2 hF2))
        go_ret2
        exact ⟨⟨_, rfl, HI.out, fun x h => by cases h; rfl⟩, HP2.out, hc2, HF.out.trans HF2.out⟩
      | true =>
        rw [ht, if_pos rfl] at hpf
        have HT : Hid (eqB (tx toks c2) ⟨#[42]⟩ = true) := hid ((isT_eqB toks c2 [42]).symm.trans ht)
        have HN : Hid (c2 + 1 < toks.length) := hid (HW.out.next_isT hc2 ht)
        clear ht
        rcases andP_cases hpf with ⟨d, h3, h4⟩ | ⟨d, y, h3, h4⟩
        · have e1 := (Prod.mk.inj h4).1
          have e2 := (Prod.mk.inj h4).2
          subst e1; subst e2
          have H3 := hid h3
          clear hpf h3 h4
          rcases hi with rfl | ⟨t1, y1, rfl⟩
          all_goals
            go_wp2_with (first
              | (go_at_call 161; go_must (refine (take_yes toks pb tb cap _ nest _ _ HPS.out hc2 HL.out HT.out).mono ?_; rintro e w2 ⟨rfl, hP2, hF2⟩; have HP2 := hid hP2; have HF2 := hid hF2; clear hP2 hF2))
              | (go_at_call 233; go_must (refine (HS.out f (by omega) pb tb cap nest _ _ _ _ H3.out HN.out hnest HP2.out).mono ?_; rintro e w3 ⟨⟨v3, rfl, hv3, _⟩, hP3, hb3, hF3⟩; have HP3 := hid hP3; have HF3 := hid hF3; have HV3 := hid hv3; clear hP3 hF3 hv3; rcases HV3.out with rfl | ⟨t3, y3, rfl⟩)))
          all_goals
            go_roundg 0
          all_goals first
            | omega
            | exact ⟨by omega, .inr ⟨_, _, rfl⟩, (HF.out.trans HF2.out).trans HF3.out, .inr ⟨rfl, rfl, hb3, HP3.out⟩⟩
        · have H3 := hid h3
          have H4 := hid h4
          clear hpf h3 h4
          rcases hi with rfl | ⟨t1, y1, rfl⟩
          all_goals
            go_wp2_with (first
              | (go_at_call 161; go_must (refine (take_yes toks pb tb cap _ nest _ _ HPS.out hc2 HL.out HT.out).mono ?_; rintro e w2 ⟨rfl, hP2, hF2⟩; have HP2 := hid hP2; have HF2 := hid hF2; clear hP2 hF2))
              | (go_at_call 233; go_must (refine (HS.out f (by omega) pb tb cap nest _ _ _ _ H3.out HN.out hnest HP2.out).mono ?_; rintro e w3 ⟨⟨v3, rfl, hv3, hx3⟩, hP3, hb3, hF3⟩; obtain rfl := hx3 y rfl; have HP3 := hid hP3; have HF3 := hid hF3; have HV3 := hid hv3; clear hP3 hF3 hv3 hx3; rcases HV3.out with rfl | ⟨t3, y3, rfl⟩)))
          all_goals
            go_roundg (f + 1)
          all_goals first
            | omega
            | exact ⟨by omega, .inr ⟨_, _, rfl⟩, (HF.out.trans HF2.out).trans HF3.out, .inl ⟨f, d, rfl, rfl, H4.out, hb3, HP3.out⟩⟩
    · have HPS := hid hps
      have HI := hid hi
      subst hr
      clear hps hi
      go_wp2
      go_ret2
      exact ⟨⟨_, rfl, HI.out, fun x h => by cases h⟩, HPS.out, hb, HF.out⟩

set_option maxRecDepth 100000 in
set_option maxHeartbeats 1000000 in
theorem sum_ok {toks : List Tok} (hw : Wf toks) {g : Nat} (hs : ∀ g', g' ≤ g → OK toks 228 2 g') : OK toks 214 1 (g + 1) := by
  intro pb tb cap nest a b r w h ha hnest hP
  have HC := hid (chain_plus hw hs pb tb cap nest a b r w (by simpa only [P] using h) ha hnest hP)
  clear hs hw hP h
  go_enter Tryz.func214, Tryz.ntmps214
  go_wp2_with fail
  refine HC.out.mono ?_
  rintro e w1 ⟨⟨v, rfl, hv, hx⟩, hP1, hb1, hF1⟩
  have HQ := hid hP1
  have HF1 := hid hF1
  have HV := hid hv
  have HX := hid hx
  clear hP1 hF1 hv hx
  go_wp2
  go_ret2
  exact ⟨⟨v, rfl, HV.out, HX.out⟩, HQ.out, hb1, HF1.out⟩

set_option maxRecDepth 100000 in
set_option maxHeartbeats 1000000 in
theorem product_ok {toks : List Tok} (hw : Wf toks) {g : Nat} (hs : ∀ g', g' ≤ g → OK toks 233 3 g') : OK toks 228 2 (g + 1) := by
  intro pb tb cap nest a b r w h ha hnest hP
  have HC := hid (chain_times hw hs pb tb cap nest a b r w (by simpa only [P] using h) ha hnest hP)
  clear hs hw hP h
  go_enter Tryz.func228, Tryz.ntmps228
  go_wp2_with fail
  refine HC.out.mono ?_
  rintro e w1 ⟨⟨v, rfl, hv, hx⟩, hP1, hb1, hF1⟩
  have HQ := hid hP1
  have HF1 := hid hF1
  have HV := hid hv
  have HX := hid hx
  clear hP1 hF1 hv hx
  go_wp2
  go_ret2
  exact ⟨⟨v, rfl, HV.out, HX.out⟩, HQ.out, hb1, HF1.out⟩

end Go.Proofs.YtfekglokoafpiaaGreatDoor

namespace Go.Proofs.YtfekglokoafpiaaGreatDoor
open Go.RowKit

theorem nneT {a b : Int} (h : a ≠ b) : (a != b) = true := by rw [bne_iff_ne]; exact h

set_option maxRecDepth 100000 in
set_option maxHeartbeats 1000000 in
theorem nested_full_bracket (toks : List Tok) (pb tb cap a : Nat) (w : World) (hP : PS toks pb tb cap a 20 w.heap) (ha : a < toks.length) :
    Calls Tryz.prog 234 #[.pointer (some ⟨pb, 0, none⟩), .func (Fn.func 235) #[.pointer (some ⟨pb, 0, none⟩)] #[]] w (Post toks pb tb cap 20 a none w) := by
  have c2 := hP.c2
  have HP := hid hP
  clear hP
  go_enter Tryz.func234, Tryz.ntmps234
  go_wp2
  go_ret2
  exact ⟨⟨_, rfl, .inl rfl, fun x h => by cases h⟩, HP.out, ha, Fr.refl _ _⟩

set_option maxRecDepth 100000 in
set_option maxHeartbeats 1000000 in
theorem nested_bracket (toks : List Tok) (pb tb cap nest a b : Nat) (r : Option Value) (w : World) (hP : PS toks pb tb cap a nest w.heap) (hnest : nest < 20)
    (hF : ∀ w', PS toks pb tb cap (a + 1) (nest + 1) w'.heap → Calls Tryz.prog 235 #[.pointer (some ⟨pb, 0, none⟩)] w' (Post toks pb tb cap (nest + 1) b r w')) (hl : a < 401) :
    Calls Tryz.prog 234 #[.pointer (some ⟨pb, 0, none⟩), .func (Fn.func 235) #[.pointer (some ⟨pb, 0, none⟩)] #[]] w (Post toks pb tb cap nest b r w) := by
  have c2 := hP.c2
  have c1 := hP.c1
  have f1 := hP.f 1
  have h1 := hP.at (a + 1)
  rw [show ((a + 1 : Nat) : Int) = (a : Int) + 1 from by omega] at h1
  have d2 := h1.c2
  have g2 := h1.f 2
  have h2 := h1.nestAt (nest + 1)
  rw [show ((nest + 1 : Nat) : Int) = (nest : Int) + 1 from by omega] at h2
  have H2 := hid h2
  have HF := hid hF
  have hne := nneT (show ((nest : Int)) ≠ 20 by omega)
  have hnf := beqF (show ((nest : Int)) ≠ 20 by omega)
  have HW0 : Hid (Fr [pb] w ((w.setCell ⟨pb, 1, none⟩ (.int .i64 ((a : Int) + 1))).setCell ⟨pb, 2, none⟩ (.int .i64 ((nest : Int) + 1)))) :=
    hid (((Fr.refl [pb] w).setCell ⟨pb, 1, none⟩ (.inl (by simp)) _).setCell ⟨pb, 2, none⟩ (.inl (by simp)) _)
  clear hP h1 h2 hF
  go_enter Tryz.func234, Tryz.ntmps234
  go_wp2_with fail
  refine (HF.out _ H2.out).mono ?_
  rintro e w1 ⟨⟨v, rfl, hv, hx⟩, hP1, hb1, hF1⟩
  have e2 := hP1.c2
  rw [show ((nest + 1 : Nat) : Int) = (nest : Int) + 1 from by omega] at e2
  have k2 := hP1.f 2
  have HP1 := hid (hP1.nestAt nest)
  have HF1 := hid ((HW0.out.trans hF1).setCell ⟨pb, 2, none⟩ (.inl (by simp)) (.int .i64 nest))
  have HV := hid hv
  have HX := hid hx
  clear hP1 hF1 hv hx
  go_wp2
  go_ret2
  exact ⟨⟨v, rfl, HV.out, HX.out⟩, HP1.out, hb1, HF1.out⟩

set_option maxRecDepth 100000 in
set_option maxHeartbeats 1000000 in
theorem nested_full_choice (toks : List Tok) (pb tb cap a : Nat) (w : World) (hP : PS toks pb tb cap a 20 w.heap) (ha : a < toks.length) :
    Calls Tryz.prog 234 #[.pointer (some ⟨pb, 0, none⟩), .func (Fn.func 236) #[.pointer (some ⟨pb, 0, none⟩)] #[]] w (Post toks pb tb cap 20 a none w) := by
  have c2 := hP.c2
  have HP := hid hP
  clear hP
  go_enter Tryz.func234, Tryz.ntmps234
  go_wp2
  go_ret2
  exact ⟨⟨_, rfl, .inl rfl, fun x h => by cases h⟩, HP.out, ha, Fr.refl _ _⟩

set_option maxRecDepth 100000 in
set_option maxHeartbeats 1000000 in
theorem nested_choice (toks : List Tok) (pb tb cap nest a b : Nat) (r : Option Value) (w : World) (hP : PS toks pb tb cap a nest w.heap) (hnest : nest < 20)
    (hF : ∀ w', PS toks pb tb cap (a + 1) (nest + 1) w'.heap → Calls Tryz.prog 236 #[.pointer (some ⟨pb, 0, none⟩)] w' (Post toks pb tb cap (nest + 1) b r w')) (hl : a < 401) :
    Calls Tryz.prog 234 #[.pointer (some ⟨pb, 0, none⟩), .func (Fn.func 236) #[.pointer (some ⟨pb, 0, none⟩)] #[]] w (Post toks pb tb cap nest b r w) := by
  have c2 := hP.c2
  have c1 := hP.c1
  have f1 := hP.f 1
  have h1 := hP.at (a + 1)
  rw [show ((a + 1 : Nat) : Int) = (a : Int) + 1 from by omega] at h1
  have d2 := h1.c2
  have g2 := h1.f 2
  have h2 := h1.nestAt (nest + 1)
  rw [show ((nest + 1 : Nat) : Int) = (nest : Int) + 1 from by omega] at h2
  have H2 := hid h2
  have HF := hid hF
  have hne := nneT (show ((nest : Int)) ≠ 20 by omega)
  have hnf := beqF (show ((nest : Int)) ≠ 20 by omega)
  have HW0 : Hid (Fr [pb] w ((w.setCell ⟨pb, 1, none⟩ (.int .i64 ((a : Int) + 1))).setCell ⟨pb, 2, none⟩ (.int .i64 ((nest : Int) + 1)))) :=
    hid (((Fr.refl [pb] w).setCell ⟨pb, 1, none⟩ (.inl (by simp)) _).setCell ⟨pb, 2, none⟩ (.inl (by simp)) _)
  clear hP h1 h2 hF
  go_enter Tryz.func234, Tryz.ntmps234
  go_wp2_with fail
  refine (HF.out _ H2.out).mono ?_
  rintro e w1 ⟨⟨v, rfl, hv, hx⟩, hP1, hb1, hF1⟩
  have e2 := hP1.c2
  rw [show ((nest + 1 : Nat) : Int) = (nest : Int) + 1 from by omega] at e2
  have k2 := hP1.f 2
  have HP1 := hid (hP1.nestAt nest)
  have HF1 := hid ((HW0.out.trans hF1).setCell ⟨pb, 2, none⟩ (.inl (by simp)) (.int .i64 nest))
  have HV := hid hv
  have HX := hid hx
  clear hP1 hF1 hv hx
  go_wp2
  go_ret2
  exact ⟨⟨v, rfl, HV.out, HX.out⟩, HP1.out, hb1, HF1.out⟩

end Go.Proofs.YtfekglokoafpiaaGreatDoor

namespace Go.Proofs.YtfekglokoafpiaaGreatDoor
open Go.RowKit

set_option maxRecDepth 100000 in
set_option maxHeartbeats 2000000 in
theorem bracket_ok {toks : List Tok} (hw : Wf toks) {g : Nat} (hs : OK toks 188 0 g) (pb tb cap nest a b : Nat) (r : Option Value) (w : World)
    (h : andP (P toks g 0 nest a .nilIface) (fun b x => if isT toks b [41] then some (b + 1, some x) else some (b, none)) = some (b, r)) (ha : a < toks.length) (hnest : nest ≤ 20) (hP : PS toks pb tb cap a nest w.heap) :
    Calls Tryz.prog 235 #[.pointer (some ⟨pb, 0, none⟩)] w (Post toks pb tb cap nest b r w) := by
  have HS := hid hs
  have HW := hid hw
  have HP := hid hP
  have HL := hid hw.le
  clear hs hw hP
  rcases andP_cases h with ⟨c, h1, h2⟩ | ⟨c, x, h1, h2⟩
  · have e1 := (Prod.mk.inj h2).1
    have e2 := (Prod.mk.inj h2).2
    subst e1; subst e2
    have H1 := hid h1
    clear h h1 h2
    go_enter Tryz.func235, Tryz.ntmps235
    go_wp2_with fail
    refine (HS.out pb tb cap nest a _ _ _ H1.out ha hnest HP.out).mono ?_
    rintro e w1 ⟨⟨v, rfl, hv, _⟩, hP1, hb1, hF1⟩
    have HP1 := hid hP1
    have HF1 := hid hF1
    have HV := hid hv
    clear hP1 hF1 hv
    go_wp2
    go_ret2
    exact ⟨⟨v, rfl, HV.out, fun x h => by cases h⟩, HP1.out, hb1, HF1.out⟩
  have H1 := hid h1
  clear h h1
  cases ht : isT toks c [41] with
  | false =>
    rw [ht, if_neg (by simp)] at h2
    have e1 := (Prod.mk.inj (Option.some.inj h2)).1
    have e2 := (Prod.mk.inj (Option.some.inj h2)).2
    subst e1; subst e2
    have HT : Hid (eqB (tx toks c) ⟨#[41]⟩ = false) := hid ((isT_eqB toks c [41]).symm.trans ht)
    clear ht h2
    go_enter Tryz.func235, Tryz.ntmps235
    go_wp2_with fail
    refine (HS.out pb tb cap nest a _ _ _ H1.out ha hnest HP.out).mono ?_
    rintro e w1 ⟨⟨v, rfl, hv, hx⟩, hP1, hb1, hF1⟩
    have HP1 := hid hP1
    have HF1 := hid hF1
    have HV := hid hv
    clear hP1 hF1 hv hx
    go_wp2_with (go_at_call 161; go_must (refine (take_no toks pb tb cap _ nest _ _ HP1.out hb1 HT.out).mono ?_; rintro e w2 ⟨rfl, hP2, hF2⟩; have HP2 := hid hP2; have HF2 := hid hF2; clear hP2 hF2))
    go_ret2
    exact ⟨⟨v, rfl, HV.out, fun x h => by cases h⟩, HP2.out, hb1, HF1.out.trans HF2.out⟩
  | true =>
    rw [ht, if_pos rfl] at h2
    have e1 := (Prod.mk.inj (Option.some.inj h2)).1
    have e2 := (Prod.mk.inj (Option.some.inj h2)).2
    subst e1; subst e2
    have HT : Hid (eqB (tx toks c) ⟨#[41]⟩ = true) := hid ((isT_eqB toks c [41]).symm.trans ht)
    have HN : Hid (c < toks.length → c + 1 < toks.length) := hid fun hc => HW.out.next_isT hc ht
    clear ht h2
    go_enter Tryz.func235, Tryz.ntmps235
    go_wp2_with fail
    refine (HS.out pb tb cap nest a _ _ _ H1.out ha hnest HP.out).mono ?_
    rintro e w1 ⟨⟨v, rfl, hv, hx⟩, hP1, hb1, hF1⟩
    have HP1 := hid hP1
    have HF1 := hid hF1
    have HV := hid hv
    have HX := hid hx
    clear hP1 hF1 hv hx
    go_wp2_with (go_at_call 161; go_must (refine (take_yes toks pb tb cap _ nest _ _ HP1.out hb1 HL.out HT.out).mono ?_; rintro e w2 ⟨rfl, hP2, hF2⟩; have HP2 := hid hP2; have HF2 := hid hF2; clear hP2 hF2))
    go_ret2
    exact ⟨⟨v, rfl, HV.out, HX.out⟩, HP2.out, HN.out hb1, HF1.out.trans HF2.out⟩

end Go.Proofs.YtfekglokoafpiaaGreatDoor

namespace Go.Proofs.YtfekglokoafpiaaGreatDoor
open Go.RowKit

/-- Within choice: its struct lies in the new block. -/
structure CS (toks : List Tok) (pb tb cap nest : Nat) (w wr : World) (c : Nat) (x y z : Value) : Prop where
  pl : pb < w.heap.size
  tl : tb < w.heap.size
  ps : PS toks pb tb cap c nest wr.heap
  fr : Fr [pb] w wr
  ch : wr.heap[w.heap.size]? = some (.cells #[x, y, z] 332)

theorem CS.new {toks : List Tok} {pb tb cap nest c : Nat} {w : World} (h : PS toks pb tb cap c nest w.heap) : CS toks pb tb cap nest w (w.alloc (.cells #[.nilIface, .nilIface, .nilIface] 332)) c .nilIface .nilIface .nilIface := by
  have h0 := h.t
  obtain ⟨cur, hc, _⟩ := h0
  exact ⟨heap_lt h.p, heap_lt hc, h.below ((Below.refl _ _).alloc (Nat.le_refl _) _), (Fr.refl _ _).alloc _, new_heap _ _⟩

theorem CS.call {toks : List Tok} {pb tb cap nest c d : Nat} {w wr w' : World} {x y z : Value} (h : CS toks pb tb cap nest w wr c x y z) (hf : Fr [pb] wr w') (hp : PS toks pb tb cap d nest w'.heap) : CS toks pb tb cap nest w w' d x y z :=
  ⟨h.pl, h.tl, hp, h.fr.trans hf, hf.heap h.ch (by have := h.pl; simp; omega)⟩

theorem PS.other {toks : List Tok} {pb tb cap a nest : Nat} {w : World} (h : PS toks pb tb cap a nest w.heap) {b i : Nat} (h1 : b ≠ pb) (h2 : b ≠ tb) (v : Value) : PS toks pb tb cap a nest (w.setCell ⟨b, i, none⟩ v).heap := by
  obtain ⟨cur, hc, ht⟩ := h.t
  exact ⟨h.ne, (heap_setCell_ne (Ne.symm h1) _).trans h.p, cur, (heap_setCell_ne (Ne.symm h2) _).trans hc, ht⟩

theorem CS.set0 {toks : List Tok} {pb tb cap nest c : Nat} {w wr : World} {x y z : Value} (h : CS toks pb tb cap nest w wr c x y z) (v : Value) : CS toks pb tb cap nest w (wr.setCell ⟨w.heap.size, 0, none⟩ v) c v y z :=
  ⟨h.pl, h.tl, h.ps.other (by have := h.pl; omega) (by have := h.tl; omega) v, h.fr.setCell _ (.inr (Nat.le_refl _)) _, heap_setCell_lit (i := 0) h.ch v⟩
theorem CS.set1 {toks : List Tok} {pb tb cap nest c : Nat} {w wr : World} {x y z : Value} (h : CS toks pb tb cap nest w wr c x y z) (v : Value) : CS toks pb tb cap nest w (wr.setCell ⟨w.heap.size, 1, none⟩ v) c x v z :=
  ⟨h.pl, h.tl, h.ps.other (by have := h.pl; omega) (by have := h.tl; omega) v, h.fr.setCell _ (.inr (Nat.le_refl _)) _, heap_setCell_lit (i := 1) h.ch v⟩
theorem CS.set2 {toks : List Tok} {pb tb cap nest c : Nat} {w wr : World} {x y z : Value} (h : CS toks pb tb cap nest w wr c x y z) (v : Value) : CS toks pb tb cap nest w (wr.setCell ⟨w.heap.size, 2, none⟩ v) c x y v :=
  ⟨h.pl, h.tl, h.ps.other (by have := h.pl; omega) (by have := h.tl; omega) v, h.fr.setCell _ (.inr (Nat.le_refl _)) _, heap_setCell_lit (i := 2) h.ch v⟩
theorem CS.c0 {toks : List Tok} {pb tb cap nest c : Nat} {w wr : World} {x y z : Value} (h : CS toks pb tb cap nest w wr c x y z) : wr.cell? ⟨w.heap.size, 0, none⟩ = some x := heap_cell h.ch
theorem CS.c1 {toks : List Tok} {pb tb cap nest c : Nat} {w wr : World} {x y z : Value} (h : CS toks pb tb cap nest w wr c x y z) : wr.cell? ⟨w.heap.size, 1, none⟩ = some y := heap_cell h.ch
theorem CS.c2 {toks : List Tok} {pb tb cap nest c : Nat} {w wr : World} {x y z : Value} (h : CS toks pb tb cap nest w wr c x y z) : wr.cell? ⟨w.heap.size, 2, none⟩ = some z := heap_cell h.ch
theorem CS.f {toks : List Tok} {pb tb cap nest c : Nat} {w wr : World} {x y z : Value} (h : CS toks pb tb cap nest w wr c x y z) (i : Nat) : wr.frozen? ⟨w.heap.size, i, none⟩ = false := heap_frozen h.ch

def IfcS (v : Value) : Prop := ∃ t y, v = .iface t y

theorem leafV_ifcS {t : ByteArray} {v : Value} (h : leafV t = some v) : IfcS v := by
  unfold leafV at h
  split at h
  · cases h; exact ⟨_, _, rfl⟩
  · split at h
    · cases h; exact ⟨_, _, rfl⟩
    · split at h
      · cases h; exact ⟨_, _, rfl⟩
      · cases h

theorem andP_some {p : PR} {k : Nat → Value → PR} {b : Nat} {y : Value} (h : andP p k = some (b, some y)) : ∃ c x, p = some (c, some x) ∧ k c x = some (b, some y) := by
  rcases andP_cases h with ⟨c, _, h2⟩ | h2
  · cases h2
  · exact h2

/-- What is read is a value of an interface, and no nil. -/
theorem P_iface (toks : List Tok) : ∀ (f tag nest a : Nat) (acc : Value) (b : Nat) (x : Value), P toks f tag nest a acc = some (b, some x) → (tag ≤ 3 ∨ IfcS acc) → IfcS x := by
  intro f
  induction f with
  | zero => intro tag nest a acc b x h; simp [P] at h
  | succ f ih =>
    intro tag nest a acc b x h hacc
    match tag, h, hacc with
    | 0, h, _ =>
      simp only [P] at h
      obtain ⟨c, y, h1, h2⟩ := andP_some h
      split at h2
      · obtain ⟨d, z, h3, h4⟩ := andP_some h2
        cases h4; exact ⟨_, _, rfl⟩
      · cases h2; exact ih _ _ _ _ _ _ h1 (.inl (by omega))
    | 1, h, _ =>
      simp only [P] at h
      obtain ⟨c, y, h1, h2⟩ := andP_some h
      exact ih _ _ _ _ _ _ h2 (.inr (ih _ _ _ _ _ _ h1 (.inl (by omega))))
    | 2, h, _ =>
      simp only [P] at h
      obtain ⟨c, y, h1, h2⟩ := andP_some h
      exact ih _ _ _ _ _ _ h2 (.inr (ih _ _ _ _ _ _ h1 (.inl (by omega))))
    | 3, h, _ =>
      simp only [P] at h
      split at h
      · split at h
        · cases h
        · obtain ⟨c, y, h1, h2⟩ := andP_some h
          split at h2
          · cases h2; exact ih _ _ _ _ _ _ h1 (.inl (by omega))
          · cases h2
      · split at h
        · split at h
          · cases h
          · obtain ⟨c, y, h1, h2⟩ := andP_some h
            split at h2
            · obtain ⟨d, z, h3, h4⟩ := andP_some h2
              split at h4
              · obtain ⟨d, z, h5, h6⟩ := andP_some h4
                split at h6
                · cases h6; exact ⟨_, _, rfl⟩
                · cases h6
              · cases h4
            · cases h2
        · split at h
          · rename_i v hv
            cases h; exact leafV_ifcS hv
          · cases h
    | 4, h, hacc =>
      simp only [P] at h
      split at h
      · obtain ⟨c, y, h1, h2⟩ := andP_some h
        exact ih _ _ _ _ _ _ h2 (.inr ⟨_, _, rfl⟩)
      · cases h; exact hacc.resolve_left (by omega)
    | n + 5, h, hacc =>
      simp only [P] at h
      split at h
      · obtain ⟨c, y, h1, h2⟩ := andP_some h
        exact ih _ _ _ _ _ _ h2 (.inr ⟨_, _, rfl⟩)
      · cases h; exact hacc.resolve_left (by omega)

set_option maxRecDepth 100000 in
set_option maxHeartbeats 2000000 in
theorem choice_ok {toks : List Tok} (hw : Wf toks) {g : Nat} (hs : OK toks 188 0 g) (pb tb cap nest a b : Nat) (r : Option Value) (w : World)
    (h : andP (P toks g 0 nest a .nilIface) (fun b x =>
          if isT toks b [116, 104, 101, 110] then andP (P toks g 0 nest (b + 1) .nilIface) fun c y =>
            if isT toks c [101, 108, 115, 101] then andP (P toks g 0 nest (c + 1) .nilIface) fun d z =>
              if isT toks d [101, 110, 100] then some (d + 1, some (mkChoice x y z)) else some (d, none)
            else some (c, none)
          else some (b, none)) = some (b, r)) (ha : a < toks.length) (hnest : nest ≤ 20) (hP : PS toks pb tb cap a nest w.heap) :
    Calls Tryz.prog 236 #[.pointer (some ⟨pb, 0, none⟩)] w (Post toks pb tb cap nest b r w) := by
  have HS := hid hs
  have HW := hid hw
  have HL := hid hw.le
  have HC0 := hid (CS.new hP)
  clear hs hw hP
  rcases andP_cases h with ⟨c0, h1, h2⟩ | ⟨c0, x, h1, h2⟩
  · have e1 := (Prod.mk.inj h2).1
    have e2 := (Prod.mk.inj h2).2
    subst e1; subst e2
    have H0 := hid h1
    clear h h1 h2
    go_enter Tryz.func236, Tryz.ntmps236
    go_wp2_with fail
    refine (HS.out pb tb cap nest _ _ _ _ H0.out ha hnest HC0.out.ps).mono ?_
    rintro e w0a ⟨⟨v0, rfl, hv, hx⟩, hP1, hb0, hF1⟩
    have hc1 := HC0.out.call hF1 hP1
    have f0 := hc1.f 0
    have q0 := hc1.c0
    have HC0s := hid (fun v => hc1.set0 v)
    clear hP1 hF1 hx hc1
    rcases hv with rfl | ⟨t, y, rfl⟩
    all_goals
      go_wp2
      go_ret2
      exact ⟨⟨_, rfl, .inl rfl, fun x h => by cases h⟩, (HC0s.out _).ps, hb0, (HC0s.out _).fr⟩
  have H0 := hid h1
  have I0 := hid (P_iface toks _ _ _ _ _ _ _ h1 (.inl (by omega)))
  clear h h1
  cases ht : isT toks c0 [116, 104, 101, 110] with
  | false =>
    rw [ht, if_neg (by simp)] at h2
    have e1 := (Prod.mk.inj (Option.some.inj h2)).1
    have e2 := (Prod.mk.inj (Option.some.inj h2)).2
    subst e1; subst e2
    have HT0 : Hid (eqB (tx toks c0) ⟨#[116, 104, 101, 110]⟩ = false) := hid ((isT_eqB toks c0 [116, 104, 101, 110]).symm.trans ht)
    clear ht h2
    go_enter Tryz.func236, Tryz.ntmps236
    go_wp2_with fail
    refine (HS.out pb tb cap nest _ _ _ _ H0.out ha hnest HC0.out.ps).mono ?_
    rintro e w0a ⟨⟨v0, rfl, hv, hx⟩, hP1, hb0, hF1⟩
    obtain rfl := hx _ rfl
    obtain ⟨t0, y0, rfl⟩ := I0.out
    have hc1 := HC0.out.call hF1 hP1
    have f0 := hc1.f 0
    have q0 := hc1.c0
    have HC0s := hid (hc1.set0 (.iface t0 y0))
    clear hP1 hF1 hx hv hc1
    go_wp2_with fail
    refine (take_no toks pb tb cap _ nest _ _ HC0s.out.ps hb0 HT0.out).mono ?_
    rintro e w0b ⟨rfl, hP2, hF2⟩
    have HC0t := hid (HC0s.out.call hF2 hP2)
    clear hP2 hF2
    go_wp2
    go_ret2
    exact ⟨⟨_, rfl, .inl rfl, fun x h => by cases h⟩, HC0t.out.ps, hb0, HC0t.out.fr⟩
  | true =>
    rw [ht, if_pos rfl] at h2
    have HT0 : Hid (eqB (tx toks c0) ⟨#[116, 104, 101, 110]⟩ = true) := hid ((isT_eqB toks c0 [116, 104, 101, 110]).symm.trans ht)
    have HN0 : Hid (c0 < toks.length → c0 + 1 < toks.length) := hid fun hc => HW.out.next_isT hc ht
    clear ht
    have h := h2
    clear h2
    rcases andP_cases h with ⟨c1, h1, h2⟩ | ⟨c1, y, h1, h2⟩
    · have e1 := (Prod.mk.inj h2).1
      have e2 := (Prod.mk.inj h2).2
      subst e1; subst e2
      have H1 := hid h1
      clear h h1 h2
      go_enter Tryz.func236, Tryz.ntmps236
      go_wp2_with fail
      refine (HS.out pb tb cap nest _ _ _ _ H0.out ha hnest HC0.out.ps).mono ?_
      rintro e w0a ⟨⟨v0, rfl, hv, hx⟩, hP1, hb0, hF1⟩
      obtain rfl := hx _ rfl
      obtain ⟨t0, y0, rfl⟩ := I0.out
      have hc1 := HC0.out.call hF1 hP1
      have f0 := hc1.f 0
      have q0 := hc1.c0
      have HC0s := hid (hc1.set0 (.iface t0 y0))
      clear hP1 hF1 hx hv hc1
      go_wp2_with fail
      refine (take_yes toks pb tb cap _ nest _ _ HC0s.out.ps hb0 HL.out HT0.out).mono ?_
      rintro e w0b ⟨rfl, hP2, hF2⟩
      have HC0t := hid (HC0s.out.call hF2 hP2)
      clear hP2 hF2
      go_wp2_with fail
      refine (HS.out pb tb cap nest _ _ _ _ H1.out (HN0.out hb0) hnest HC0t.out.ps).mono ?_
      rintro e w1a ⟨⟨v1, rfl, hv, hx⟩, hP1, hb1, hF1⟩
      have hc1 := HC0t.out.call hF1 hP1
      have f0 := hc1.f 1
      have q0 := hc1.c1
      have HC1s := hid (fun v => hc1.set1 v)
      clear hP1 hF1 hx hc1
      rcases hv with rfl | ⟨t, y, rfl⟩
      all_goals
        go_wp2
        go_ret2
        exact ⟨⟨_, rfl, .inl rfl, fun x h => by cases h⟩, (HC1s.out _).ps, hb1, (HC1s.out _).fr⟩
    have H1 := hid h1
    have I1 := hid (P_iface toks _ _ _ _ _ _ _ h1 (.inl (by omega)))
    clear h h1
    cases ht : isT toks c1 [101, 108, 115, 101] with
    | false =>
      rw [ht, if_neg (by simp)] at h2
      have e1 := (Prod.mk.inj (Option.some.inj h2)).1
      have e2 := (Prod.mk.inj (Option.some.inj h2)).2
      subst e1; subst e2
      have HT1 : Hid (eqB (tx toks c1) ⟨#[101, 108, 115, 101]⟩ = false) := hid ((isT_eqB toks c1 [101, 108, 115, 101]).symm.trans ht)
      clear ht h2
      go_enter Tryz.func236, Tryz.ntmps236
      go_wp2_with fail
      refine (HS.out pb tb cap nest _ _ _ _ H0.out ha hnest HC0.out.ps).mono ?_
      rintro e w0a ⟨⟨v0, rfl, hv, hx⟩, hP1, hb0, hF1⟩
      obtain rfl := hx _ rfl
      obtain ⟨t0, y0, rfl⟩ := I0.out
      have hc1 := HC0.out.call hF1 hP1
      have f0 := hc1.f 0
      have q0 := hc1.c0
      have HC0s := hid (hc1.set0 (.iface t0 y0))
      clear hP1 hF1 hx hv hc1
      go_wp2_with fail
      refine (take_yes toks pb tb cap _ nest _ _ HC0s.out.ps hb0 HL.out HT0.out).mono ?_
      rintro e w0b ⟨rfl, hP2, hF2⟩
      have HC0t := hid (HC0s.out.call hF2 hP2)
      clear hP2 hF2
      go_wp2_with fail
      refine (HS.out pb tb cap nest _ _ _ _ H1.out (HN0.out hb0) hnest HC0t.out.ps).mono ?_
      rintro e w1a ⟨⟨v1, rfl, hv, hx⟩, hP1, hb1, hF1⟩
      obtain rfl := hx _ rfl
      obtain ⟨t1, y1, rfl⟩ := I1.out
      have hc1 := HC0t.out.call hF1 hP1
      have f0 := hc1.f 1
      have q0 := hc1.c1
      have HC1s := hid (hc1.set1 (.iface t1 y1))
      clear hP1 hF1 hx hv hc1
      go_wp2_with fail
      refine (take_no toks pb tb cap _ nest _ _ HC1s.out.ps hb1 HT1.out).mono ?_
      rintro e w1b ⟨rfl, hP2, hF2⟩
      have HC1t := hid (HC1s.out.call hF2 hP2)
      clear hP2 hF2
      go_wp2
      go_ret2
      exact ⟨⟨_, rfl, .inl rfl, fun x h => by cases h⟩, HC1t.out.ps, hb1, HC1t.out.fr⟩
    | true =>
      rw [ht, if_pos rfl] at h2
      have HT1 : Hid (eqB (tx toks c1) ⟨#[101, 108, 115, 101]⟩ = true) := hid ((isT_eqB toks c1 [101, 108, 115, 101]).symm.trans ht)
      have HN1 : Hid (c1 < toks.length → c1 + 1 < toks.length) := hid fun hc => HW.out.next_isT hc ht
      clear ht
      have h := h2
      clear h2
      rcases andP_cases h with ⟨c2, h1, h2⟩ | ⟨c2, z, h1, h2⟩
      · have e1 := (Prod.mk.inj h2).1
        have e2 := (Prod.mk.inj h2).2
        subst e1; subst e2
        have H2 := hid h1
        clear h h1 h2
        go_enter Tryz.func236, Tryz.ntmps236
        go_wp2_with fail
        refine (HS.out pb tb cap nest _ _ _ _ H0.out ha hnest HC0.out.ps).mono ?_
        rintro e w0a ⟨⟨v0, rfl, hv, hx⟩, hP1, hb0, hF1⟩
        obtain rfl := hx _ rfl
        obtain ⟨t0, y0, rfl⟩ := I0.out
        have hc1 := HC0.out.call hF1 hP1
        have f0 := hc1.f 0
        have q0 := hc1.c0
        have HC0s := hid (hc1.set0 (.iface t0 y0))
        clear hP1 hF1 hx hv hc1
        go_wp2_with fail
        refine (take_yes toks pb tb cap _ nest _ _ HC0s.out.ps hb0 HL.out HT0.out).mono ?_
        rintro e w0b ⟨rfl, hP2, hF2⟩
        have HC0t := hid (HC0s.out.call hF2 hP2)
        clear hP2 hF2
        go_wp2_with fail
        refine (HS.out pb tb cap nest _ _ _ _ H1.out (HN0.out hb0) hnest HC0t.out.ps).mono ?_
        rintro e w1a ⟨⟨v1, rfl, hv, hx⟩, hP1, hb1, hF1⟩
        obtain rfl := hx _ rfl
        obtain ⟨t1, y1, rfl⟩ := I1.out
        have hc1 := HC0t.out.call hF1 hP1
        have f0 := hc1.f 1
        have q0 := hc1.c1
        have HC1s := hid (hc1.set1 (.iface t1 y1))
        clear hP1 hF1 hx hv hc1
        go_wp2_with fail
        refine (take_yes toks pb tb cap _ nest _ _ HC1s.out.ps hb1 HL.out HT1.out).mono ?_
        rintro e w1b ⟨rfl, hP2, hF2⟩
        have HC1t := hid (HC1s.out.call hF2 hP2)
        clear hP2 hF2
        go_wp2_with fail
        refine (HS.out pb tb cap nest _ _ _ _ H2.out (HN1.out hb1) hnest HC1t.out.ps).mono ?_
        rintro e w2a ⟨⟨v2, rfl, hv, hx⟩, hP1, hb2, hF1⟩
        have hc1 := HC1t.out.call hF1 hP1
        have f0 := hc1.f 2
        have q0 := hc1.c2
        have HC2s := hid (fun v => hc1.set2 v)
        clear hP1 hF1 hx hc1
        rcases hv with rfl | ⟨t, y, rfl⟩
        all_goals
          go_wp2
          go_ret2
          exact ⟨⟨_, rfl, .inl rfl, fun x h => by cases h⟩, (HC2s.out _).ps, hb2, (HC2s.out _).fr⟩
      have H2 := hid h1
      have I2 := hid (P_iface toks _ _ _ _ _ _ _ h1 (.inl (by omega)))
      clear h h1
      cases ht : isT toks c2 [101, 110, 100] with
      | false =>
        rw [ht, if_neg (by simp)] at h2
        have e1 := (Prod.mk.inj (Option.some.inj h2)).1
        have e2 := (Prod.mk.inj (Option.some.inj h2)).2
        subst e1; subst e2
        have HT2 : Hid (eqB (tx toks c2) ⟨#[101, 110, 100]⟩ = false) := hid ((isT_eqB toks c2 [101, 110, 100]).symm.trans ht)
        clear ht h2
        go_enter Tryz.func236, Tryz.ntmps236
        go_wp2_with fail
        refine (HS.out pb tb cap nest _ _ _ _ H0.out ha hnest HC0.out.ps).mono ?_
        rintro e w0a ⟨⟨v0, rfl, hv, hx⟩, hP1, hb0, hF1⟩
        obtain rfl := hx _ rfl
        obtain ⟨t0, y0, rfl⟩ := I0.out
        have hc1 := HC0.out.call hF1 hP1
        have f0 := hc1.f 0
        have q0 := hc1.c0
        have HC0s := hid (hc1.set0 (.iface t0 y0))
        clear hP1 hF1 hx hv hc1
        go_wp2_with fail
        refine (take_yes toks pb tb cap _ nest _ _ HC0s.out.ps hb0 HL.out HT0.out).mono ?_
        rintro e w0b ⟨rfl, hP2, hF2⟩
        have HC0t := hid (HC0s.out.call hF2 hP2)
        clear hP2 hF2
        go_wp2_with fail
        refine (HS.out pb tb cap nest _ _ _ _ H1.out (HN0.out hb0) hnest HC0t.out.ps).mono ?_
        rintro e w1a ⟨⟨v1, rfl, hv, hx⟩, hP1, hb1, hF1⟩
        obtain rfl := hx _ rfl
        obtain ⟨t1, y1, rfl⟩ := I1.out
        have hc1 := HC0t.out.call hF1 hP1
        have f0 := hc1.f 1
        have q0 := hc1.c1
        have HC1s := hid (hc1.set1 (.iface t1 y1))
        clear hP1 hF1 hx hv hc1
        go_wp2_with fail
        refine (take_yes toks pb tb cap _ nest _ _ HC1s.out.ps hb1 HL.out HT1.out).mono ?_
        rintro e w1b ⟨rfl, hP2, hF2⟩
        have HC1t := hid (HC1s.out.call hF2 hP2)
        clear hP2 hF2
        go_wp2_with fail
        refine (HS.out pb tb cap nest _ _ _ _ H2.out (HN1.out hb1) hnest HC1t.out.ps).mono ?_
        rintro e w2a ⟨⟨v2, rfl, hv, hx⟩, hP1, hb2, hF1⟩
        obtain rfl := hx _ rfl
        obtain ⟨t2, y2, rfl⟩ := I2.out
        have hc1 := HC1t.out.call hF1 hP1
        have f0 := hc1.f 2
        have q0 := hc1.c2
        have HC2s := hid (hc1.set2 (.iface t2 y2))
        clear hP1 hF1 hx hv hc1
        have d0 : (w2a.setCell ⟨w.heap.size, 2, none⟩ (.iface t2 y2)).drew.cell? ⟨w.heap.size, 0, none⟩ = some (.iface t0 y0) := HC2s.out.c0
        have d1 : (w2a.setCell ⟨w.heap.size, 2, none⟩ (.iface t2 y2)).drew.cell? ⟨w.heap.size, 1, none⟩ = some (.iface t1 y1) := HC2s.out.c1
        have d2 : (w2a.setCell ⟨w.heap.size, 2, none⟩ (.iface t2 y2)).drew.cell? ⟨w.heap.size, 2, none⟩ = some (.iface t2 y2) := HC2s.out.c2
        go_wp2_with fail
        go_region_with (go_at_call 161; go_must (refine (take_no toks pb tb cap _ nest _ _ ?hps hb2 HT2.out).mono ?_; (case hps => exact HC2s.out.ps); rintro e w2b ⟨rfl, hP2, hF2⟩; have hc2 := HC2s.out.call ((Fr.refl _ _).drew.trans hF2) hP2; have g0 := hc2.c0; have g1 := hc2.c1; have g2 := hc2.c2; have HC2t := hid hc2; clear hP2 hF2 hc2))
        all_goals
          go_wp2
          go_ret2
          exact ⟨⟨_, rfl, .inr ⟨_, _, rfl⟩, fun x h => by cases h⟩, HC2t.out.ps, hb2, HC2t.out.fr⟩
      | true =>
        rw [ht, if_pos rfl] at h2
        have HT2 : Hid (eqB (tx toks c2) ⟨#[101, 110, 100]⟩ = true) := hid ((isT_eqB toks c2 [101, 110, 100]).symm.trans ht)
        have HN2 : Hid (c2 < toks.length → c2 + 1 < toks.length) := hid fun hc => HW.out.next_isT hc ht
        clear ht
        have h := h2
        clear h2
        have e1 := (Prod.mk.inj (Option.some.inj h)).1
        have e2 := (Prod.mk.inj (Option.some.inj h)).2
        subst e1; subst e2
        clear h
        go_enter Tryz.func236, Tryz.ntmps236
        go_wp2_with fail
        refine (HS.out pb tb cap nest _ _ _ _ H0.out ha hnest HC0.out.ps).mono ?_
        rintro e w0a ⟨⟨v0, rfl, hv, hx⟩, hP1, hb0, hF1⟩
        obtain rfl := hx _ rfl
        obtain ⟨t0, y0, rfl⟩ := I0.out
        have hc1 := HC0.out.call hF1 hP1
        have f0 := hc1.f 0
        have q0 := hc1.c0
        have HC0s := hid (hc1.set0 (.iface t0 y0))
        clear hP1 hF1 hx hv hc1
        go_wp2_with fail
        refine (take_yes toks pb tb cap _ nest _ _ HC0s.out.ps hb0 HL.out HT0.out).mono ?_
        rintro e w0b ⟨rfl, hP2, hF2⟩
        have HC0t := hid (HC0s.out.call hF2 hP2)
        clear hP2 hF2
        go_wp2_with fail
        refine (HS.out pb tb cap nest _ _ _ _ H1.out (HN0.out hb0) hnest HC0t.out.ps).mono ?_
        rintro e w1a ⟨⟨v1, rfl, hv, hx⟩, hP1, hb1, hF1⟩
        obtain rfl := hx _ rfl
        obtain ⟨t1, y1, rfl⟩ := I1.out
        have hc1 := HC0t.out.call hF1 hP1
        have f0 := hc1.f 1
        have q0 := hc1.c1
        have HC1s := hid (hc1.set1 (.iface t1 y1))
        clear hP1 hF1 hx hv hc1
        go_wp2_with fail
        refine (take_yes toks pb tb cap _ nest _ _ HC1s.out.ps hb1 HL.out HT1.out).mono ?_
        rintro e w1b ⟨rfl, hP2, hF2⟩
        have HC1t := hid (HC1s.out.call hF2 hP2)
        clear hP2 hF2
        go_wp2_with fail
        refine (HS.out pb tb cap nest _ _ _ _ H2.out (HN1.out hb1) hnest HC1t.out.ps).mono ?_
        rintro e w2a ⟨⟨v2, rfl, hv, hx⟩, hP1, hb2, hF1⟩
        obtain rfl := hx _ rfl
        obtain ⟨t2, y2, rfl⟩ := I2.out
        have hc1 := HC1t.out.call hF1 hP1
        have f0 := hc1.f 2
        have q0 := hc1.c2
        have HC2s := hid (hc1.set2 (.iface t2 y2))
        clear hP1 hF1 hx hv hc1
        have d0 : (w2a.setCell ⟨w.heap.size, 2, none⟩ (.iface t2 y2)).drew.cell? ⟨w.heap.size, 0, none⟩ = some (.iface t0 y0) := HC2s.out.c0
        have d1 : (w2a.setCell ⟨w.heap.size, 2, none⟩ (.iface t2 y2)).drew.cell? ⟨w.heap.size, 1, none⟩ = some (.iface t1 y1) := HC2s.out.c1
        have d2 : (w2a.setCell ⟨w.heap.size, 2, none⟩ (.iface t2 y2)).drew.cell? ⟨w.heap.size, 2, none⟩ = some (.iface t2 y2) := HC2s.out.c2
        go_wp2_with fail
        go_region_with (go_at_call 161; go_must (refine (take_yes toks pb tb cap _ nest _ _ ?hps hb2 HL.out HT2.out).mono ?_; (case hps => exact HC2s.out.ps); rintro e w2b ⟨rfl, hP2, hF2⟩; have hc2 := HC2s.out.call ((Fr.refl _ _).drew.trans hF2) hP2; have g0 := hc2.c0; have g1 := hc2.c1; have g2 := hc2.c2; have HC2t := hid hc2; clear hP2 hF2 hc2))
        all_goals
          go_wp2
          go_ret2
          exact ⟨⟨_, rfl, .inr ⟨_, _, rfl⟩, fun x h => by cases h; rfl⟩, HC2t.out.ps, HN2.out hb2, HC2t.out.fr⟩

end Go.Proofs.YtfekglokoafpiaaGreatDoor

namespace Go.Proofs.YtfekglokoafpiaaGreatDoor
open Go.RowKit

theorem takeWhile_all {p : UInt8 → Bool} : ∀ (l : List UInt8), (l.takeWhile p).length = l.length → ∀ x ∈ l, p x = true
  | [], _, x, hx => by simp at hx
  | y :: r, h, x, hx => by
    cases hp : p y with
    | false => simp [List.takeWhile, hp] at h
    | true =>
      simp only [List.takeWhile, hp, List.length_cons] at h
      rcases List.mem_cons.1 hx with rfl | hx
      · exact hp
      · exact takeWhile_all r (by omega) x hx

theorem dec_all : ∀ (l : List UInt8) (acc : Nat), (∀ x ∈ l, isDigB x.toNat = true) → ∃ n, Lib.decFrom acc l = some n
  | [], acc, _ => ⟨acc, rfl⟩
  | y :: r, acc, h => by
    have hy := h y (by simp)
    simp only [isDigB, Bool.and_eq_true, decide_eq_true_eq] at hy
    obtain ⟨n, hn⟩ := dec_all r (acc * 10 + (y.toNat - 48)) (fun x hx => h x (by simp [hx]))
    refine ⟨n, ?_⟩
    have hd : Lib.digitVal y = some (y.toNat - 48) := by unfold Lib.digitVal; rw [if_pos (by omega)]
    simp only [Lib.decFrom, hd]
    exact hn

theorem num_all {t : ByteArray} (h : numB t = true) : 1 ≤ t.size ∧ t.size ≤ 9 ∧ ∀ x ∈ t.data.toList, isDigB x.toNat = true := by
  simp only [numB, Bool.and_eq_true, decide_eq_true_eq, beq_iff_eq] at h
  obtain ⟨⟨h1, h2⟩, h3⟩ := h
  refine ⟨h1, h2, takeWhile_all (p := fun c => isDigB c.toNat) _ ?_⟩
  have : runL isDigB t.data.toList = t.size := by omega
  rw [← show t.data.toList.length = t.size from by simp] at this
  exact this

theorem num_atoi {t : ByteArray} (h : numB t = true) : t.size ≤ 18 ∧ Lib.atoi t.data.toList = some (numVal t) := by
  obtain ⟨h1, h2, h3⟩ := num_all h
  refine ⟨by omega, ?_⟩
  have hl : t.data.toList.length = t.size := by simp
  unfold numVal
  cases hc : t.data.toList with
  | nil => rw [hc] at hl; simp at hl; omega
  | cons x r =>
    rw [hc] at h3
    obtain ⟨n, hn⟩ := dec_all (x :: r) 0 h3
    have hx := h3 x (by simp)
    simp only [isDigB, Bool.and_eq_true, decide_eq_true_eq] at hx
    have n1 : (x == 45) = false := by
      rw [beq_eq_false_iff_ne]; rintro rfl; simp at hx
    have n2 : (x == 43) = false := by
      rw [beq_eq_false_iff_ne]; rintro rfl; simp at hx
    have : Lib.atoi (x :: r) = some (n : Int) := by
      unfold Lib.atoi
      simp [n1, n2, Lib.decNat, hn]
    rw [this]; rfl

end Go.Proofs.YtfekglokoafpiaaGreatDoor

namespace Go.Proofs.YtfekglokoafpiaaGreatDoor
open Go.RowKit

set_option maxHeartbeats 400000 in
theorem rLetter_any (c : Int) (w : World) :
    Calls Tryz.prog 47 #[.int .u8 c] w fun e w' => e = .returned (.bool (isLetB c)) ∧ w' = w := by
  by_cases h1 : 97 ≤ c
  · go_enter Tryz.func47, Tryz.ntmps47
    go_wp2
    go_ret
    exact ⟨ret_bool (by simp [isLetB, h1]), rfl⟩
  · go_enter Tryz.func47, Tryz.ntmps47
    go_wp2
    go_ret
    exact ⟨ret_bool (by simp [isLetB]; omega), rfl⟩

set_option maxHeartbeats 400000 in
theorem rDigit_any (c : Int) (w : World) :
    Calls Tryz.prog 205 #[.int .u8 c] w fun e w' => e = .returned (.bool (isDigB c)) ∧ w' = w := by
  by_cases h1 : 48 ≤ c
  · go_enter Tryz.func205, Tryz.ntmps205
    go_wp2
    go_ret
    exact ⟨ret_bool (by simp [isDigB, h1]), rfl⟩
  · go_enter Tryz.func205, Tryz.ntmps205
    go_wp2
    go_ret
    exact ⟨ret_bool (by simp [isDigB]; omega), rfl⟩

/-- May the byte behind n bytes of the token at a stand in it, too? -/
def contC (s : ByteArray) (a n : Nat) : Bool :=
  if h : a + n < s.size then
    (isLetB s[a].toNat && isLetB s[a + n].toNat) || (isDigB s[a].toNat && isDigB s[a + n].toNat) || (s[a].toNat == 61 && s[a + n].toNat == 61 && n == 1)
  else false

theorem rest_get (s : ByteArray) (a j : Nat) (h : j < (s.extract a s.size).data.toList.length) (h2 : a + j < s.size) : (s.extract a s.size).data.toList[j] = s[a + j] := by
  have e : (s.extract a s.size).data.toList = s.data.toList.drop a := by
    rw [← Lib.toList_data, Lib.extract_toList, List.take_of_length_le (by simp)]
  have : (s.data.toList.drop a)[j]'(by rw [← e]; exact h) = s[a + j] := by
    rw [List.getElem_drop, Array.getElem_toList]; rfl
  rw [← this]
  congr 1

theorem rest_len (s : ByteArray) (a : Nat) : (s.extract a s.size).data.toList.length = s.size - a := by
  have : (s.extract a s.size).size = s.size - a := by simp
  rw [← this]; rfl

theorem digit_not_letter {c : Int} (h : isLetB c = true) : isDigB c = false ∧ (c == 61) = false := by
  simp only [isLetB, isDigB, Bool.and_eq_true, decide_eq_true_eq] at h ⊢
  exact ⟨by simp; omega, by rw [beq_eq_false_iff_ne]; omega⟩

theorem eq_not_digit {c : Int} (h : isDigB c = true) : (c == 61) = false := by
  simp only [isDigB, Bool.and_eq_true, decide_eq_true_eq] at h
  rw [beq_eq_false_iff_ne]; omega

theorem contC_lt {s : ByteArray} {a n : Nat} (h : a + n < s.size) : contC s a n =
    ((isLetB s[a].toNat && isLetB s[a + n].toNat) || (isDigB s[a].toNat && isDigB s[a + n].toNat) || (s[a].toNat == 61 && s[a + n].toNat == 61 && n == 1)) := by
  rw [contC, dif_pos h]

theorem runL_at (s : ByteArray) (p : Int → Bool) (a n : Nat) (h1 : 1 ≤ n) (h2 : a + n ≤ s.size) (h0 : (h : a < s.size) → p s[a].toNat = true)
    (hc : ∀ j, 1 ≤ j → j < n → (h : a + j < s.size) → p s[a + j].toNat = true) (hn : (h : a + n < s.size) → p s[a + n].toNat = false) : runL p (s.extract a s.size).data.toList = n := by
  have hl := rest_len s a
  refine takeWhile_len _ _ (by omega) (fun j hj hjk => ?_) (fun hh => ?_)
  · rw [rest_get s a j hj (by omega)]
    by_cases e : j = 0
    · subst e; exact h0 (by omega)
    · exact hc j (by omega) hjk (by omega)
  · rw [rest_get s a n hh (by omega)]
    exact hn (by omega)

theorem tokP_of (s : ByteArray) (a n : Nat) (ha : a < s.size) (h1 : 1 ≤ n) (h2 : a + n ≤ s.size) (hc : ∀ j, 1 ≤ j → j < n → contC s a j = true) (hn : contC s a n = false) : tokP s a = n := by
  obtain ⟨r, hr, hrl⟩ := rest_cons s a ha
  by_cases hl : isLetB s[a].toNat = true
  · obtain ⟨hd, he⟩ := digit_not_letter hl
    have he' : ((s[a].toNat) == 61) = false := by rw [beq_eq_false_iff_ne] at he ⊢; omega
    have e : tokP s a = runL isLetB (s.extract a s.size).data.toList := by
      unfold tokP; rw [hr]; simp only [tokL, hl]; rfl
    rw [e]
    refine runL_at s isLetB a n h1 h2 (fun _ => hl) (fun j hj hjn h => ?_) (fun h => ?_)
    · have := hc j hj hjn; rw [contC_lt h] at this; simpa [hd, he', hl] using this
    · rw [contC_lt h] at hn; simpa [hd, he', hl] using hn
  have hl' : isLetB s[a].toNat = false := by simpa using hl
  by_cases hd : isDigB s[a].toNat = true
  · have he := eq_not_digit hd
    have he' : ((s[a].toNat) == 61) = false := by rw [beq_eq_false_iff_ne] at he ⊢; omega
    have e : tokP s a = runL isDigB (s.extract a s.size).data.toList := by
      unfold tokP; rw [hr]; simp only [tokL, hl', hd]; rfl
    rw [e]
    refine runL_at s isDigB a n h1 h2 (fun _ => hd) (fun j hj hjn h => ?_) (fun h => ?_)
    · have := hc j hj hjn; rw [contC_lt h] at this; simpa [hd, he', hl'] using this
    · rw [contC_lt h] at hn; simpa [hd, he', hl'] using hn
  have hd' : isDigB s[a].toNat = false := by simpa using hd
  have e : tokP s a = if Lib.hasPrefix (s.extract a s.size).data.toList [61, 61] then 2 else 1 := by
    unfold tokP; rw [hr]; simp only [tokL, hl', hd']; rfl
  have hpre : Lib.hasPrefix (s.extract a s.size).data.toList [61, 61] = contC s a 1 := by
    by_cases h : a + 1 < s.size
    · rw [contC_lt h, hr]
      have h1l : 1 < (s.extract a s.size).data.toList.length := by rw [rest_len]; omega
      have hg := rest_get s a 1 h1l h
      obtain ⟨x, r', rfl⟩ : ∃ x r', r = x :: r' := by
        cases r with
        | nil => simp at hrl; omega
        | cons x r' => exact ⟨x, r', rfl⟩
      have h5 : (s.extract a s.size).data.toList[1]? = some s[a + 1] := by rw [List.getElem?_eq_getElem h1l, hg]
      rw [hr] at h5
      have hx : x = s[a + 1] := Option.some.inj h5
      subst hx
      have q : ∀ b : UInt8, (b == 61) = (b.toNat == 61) := fun b => by
        rw [Bool.eq_iff_iff, beq_iff_eq, beq_iff_eq]
        constructor
        · rintro rfl; rfl
        · intro h; exact UInt8.toNat_inj.1 h
      show ((61 : UInt8) == s[a] && ((61 : UInt8) == s[a + 1] && true)) = _
      rw [hl', hd', ← q, ← q]
      rw [show ((61 : UInt8) == s[a]) = (s[a] == 61) from Bool.eq_iff_iff.2 (by rw [beq_iff_eq, beq_iff_eq, eq_comm]), show ((61 : UInt8) == s[a + 1]) = (s[a + 1] == 61) from Bool.eq_iff_iff.2 (by rw [beq_iff_eq, beq_iff_eq, eq_comm])]
      simp
    · have : r = [] := List.length_eq_zero_iff.1 (by omega)
      subst this
      rw [contC, dif_neg h, hr]
      show ((61 : UInt8) == s[a] && false) = false
      simp
  rw [e, hpre]
  by_cases hc1 : contC s a 1 = true
  · rw [if_pos hc1]
    by_cases hn1 : n = 1
    · subst hn1; rw [hc1] at hn; cases hn
    · by_cases hn2 : n = 2
      · omega
      · have := hc 2 (by omega) (by omega)
        rw [contC_lt (by omega)] at this
        simp [hl', hd'] at this
  · rw [if_neg hc1]
    by_cases hn1 : n = 1
    · omega
    · exact absurd (hc 1 (by omega) (by omega)) hc1
end Go.Proofs.YtfekglokoafpiaaGreatDoor
