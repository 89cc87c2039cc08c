/-
  The session behind the questions; the first one.
  The first question.
  
  
  
  
-/
import Derived.Test.YtfekglokoafpiaaGreatDoorQ26

set_option linter.unusedVariables false
set_option linter.unusedSimpArgs false

namespace Go.Proofs.YtfekglokoafpiaaGreatDoor
open Go.RowKit

/-- A block that a question may change. -/
def PB (w : World) (B bs b : Nat) : Prop := (b = bs ∨ B ≤ b) ∧ (w.heap.size ≤ b ∨ (∃ cs T fr, w.heap[b]? = some (.cells cs T fr) ∧ T ≠ 70 ∧ T ≠ 9) ∨ ∃ es n k v, w.heap[b]? = some (.map es n) ∧ es[0]? = some (ent k v 0))

/-- What a question leaves as it is. -/
structure KX (B bs : Nat) (w w' : World) : Prop where
  os : w'.os = w.os
  tape : w'.tape = w.tape
  output : w'.output = w.output
  size : w.heap.size ≤ w'.heap.size
  low : ∀ q, q < B → q < w.heap.size → q ≠ bs → w'.heap[q]? = w.heap[q]?
  tag : ∀ q cs T fr, w.heap[q]? = some (.cells cs T fr) → q ≠ bs → T = 70 ∨ T = 9 → w'.heap[q]? = w.heap[q]?

theorem KX.of {B bs : Nat} {w w' : World} {S : List Nat} (h : Ses.Fr S w w') (hS : ∀ b, b ∈ S → PB w B bs b) : KX B bs w w' :=
  ⟨h.os, h.tape, h.output, h.size, fun q hq hl hn => h.block q hl (fun e => by
    rcases (hS q e).1 with h1 | h1
    · exact hn h1
    · omega), fun q cs T fr hc hn hT => h.block q (heap_lt hc) (fun e => by
    rcases (hS q e).2 with h1 | ⟨cs2, T2, fr2, h1, h2, h3⟩ | ⟨es, n, k, v, h1, _⟩
    · have := heap_lt hc; omega
    · have := hc.symm.trans h1
      injection this with this
      injection this with _ h4 _
      rcases hT with h5 | h5
      · exact h2 (h4 ▸ h5)
      · exact h3 (h4 ▸ h5)
    · have := hc.symm.trans h1
      simp at this)⟩

theorem KX.trans {B bs : Nat} {a b c : World} (h : KX B bs a b) (h' : KX B bs b c) : KX B bs a c :=
  ⟨h'.os.trans h.os, h'.tape.trans h.tape, h'.output.trans h.output, Nat.le_trans h.size h'.size, fun q hq hl hn => (h'.low q hq (Nat.lt_of_lt_of_le hl h.size) hn).trans (h.low q hq hl hn), fun q cs T fr hc hn hT => (h'.tag q cs T fr ((h.tag q cs T fr hc hn hT).trans hc) hn hT).trans (h.tag q cs T fr hc hn hT)⟩
theorem KX.below {B bs : Nat} {w w' : World} (h : Below w.heap.size w w') : KX B bs w w' := KX.of (S := []) (Ses.Fr.of_below h) (fun b hb => by simp at hb)

theorem notSrc {w : World} {B bs b : Nat} (h : PB w B bs b) {es : Array MapEntry} {n : Nat} {s : ByteArray} {v : Value} (hm : w.heap[b]? = some (.map es n)) (he : ∃ e, es[0]? = some e ∧ e.key = .string s) : False := by
  rcases h.2 with h1 | ⟨cs2, T2, fr2, h1, _⟩ | ⟨es2, n2, k, v, h1, h2⟩
  · have := heap_lt hm; omega
  · have := hm.symm.trans h1; simp at this
  · have := hm.symm.trans h1
    injection this with this
    injection this with h3 _
    subst h3
    obtain ⟨e, h4, h5⟩ := he
    rw [h2] at h4
    injection h4 with h4
    subst h4
    simp [ent] at h5

theorem SQ.pb {B bs : Nat} {w w' : World} {S : List Nat} {q : Value} (hq : SQ w q) (h : Ses.Fr S w w') (hS : ∀ b, b ∈ S → PB w B bs b) : SQ w' q := by
  obtain ⟨bq, bc, rfl, h1⟩ := hq
  exact ⟨bq, bc, rfl, (h.block bq (heap_lt h1) (fun e => notSrc (v := .map none) (s := ⟨#[97]⟩) (hS bq e) (show w.heap[bq]? = some (.map (Ses.qEs bc) 1) from h1) ⟨_, rfl, rfl⟩)).trans h1⟩

theorem XF.pb {B bs : Nat} {w w' : World} {S : List Nat} {f : Value} {text : ByteArray} {there : Bool} (hx : XF w f text there) (h : Ses.Fr S w w') (hS : ∀ b, b ∈ S → PB w B bs b) : XF w' f text there := by
  rcases hx with hx | ⟨h1, bm, h2, h3⟩
  · exact .inl hx
  · exact .inr ⟨h1, bm, h2, (h.block bm (heap_lt h3) (fun e => notSrc (v := .map none) (s := ⟨#[97]⟩) (hS bm e) (show w.heap[bm]? = some (.map (Ses.mEs text) 1) from h3) ⟨_, rfl, rfl⟩)).trans h3⟩

theorem pbS {w : World} {bs B : Nat} {f q sm : Value} {rv us : Int} {bg kv : Value} {l : List (TypeId × Nat)} {ul : List Int} (h : ES w bs B f q sm rv us bg kv l ul) : PB w B bs bs := ⟨.inl rfl, .inr (.inl ⟨_, _, _, h.s, by decide, by decide⟩)⟩

theorem pbK {w : World} {bs B : Nat} {f q sm : Value} {rv us : Int} {bg kv : Value} {l : List (TypeId × Nat)} {ul : List Int} (h : ES w bs B f q sm rv us bg kv l ul) : PB w B bs (kbk bs kv) := by
  unfold kbk
  cases hk : kv.ownBlock with
  | none => exact pbS h
  | some g =>
    obtain ⟨_, ⟨h1, _⟩ | ⟨g', c, cur, hv, hB, hg, _⟩⟩ := h.own
    · rw [h1] at hk; simp [Value.ownBlock] at hk
    · rw [hv] at hk
      have h2 : g' = g := by simpa [Value.ownBlock] using hk
      subst h2
      exact ⟨.inr hB, .inr (.inl ⟨_, _, _, hg, by decide, by decide⟩)⟩

/-- A type of slots. -/
def IsTT (TT : TypeId) : Prop := TT = 167 ∨ TT = 173 ∨ TT = 179 ∨ TT = 184

theorem IsTT.ne {TT : TypeId} (h : IsTT TT) : TT ≠ 70 ∧ TT ≠ 9 ∧ TT ≠ 92 ∧ TT ≠ 105 ∧ TT ≠ 51 := by
  rcases h with rfl | rfl | rfl | rfl <;> decide

/-- The slots of the list have a slot's type. -/
def Tg (w : World) (l : List (TypeId × Nat)) : Prop := ∀ (i : Nat) T p, l[i]? = some (T, p) → ∃ cs TT, w.heap[p]? = some (.cells cs TT) ∧ IsTT TT

/-- The program's session, whatever was asked. -/
structure XB (w : World) (bs B : Nat) (text : ByteArray) (there : Bool) (f q sm : Value) (rv us : Int) (bg kv : Value) (l : List (TypeId × Nat)) (ul : List Int) : Prop where
  es : ES w bs B f q sm rv us bg kv l ul
  xf : XF w f text there
  rv : 0 ≤ rv
  us : 0 ≤ us ∧ us ≤ 100
  tg : Tg w l

def X0 (w : World) (bs B : Nat) (text : ByteArray) (there : Bool) : Prop :=
  ∃ f q rv bg kv, XB w bs B text there f q (.map none) rv 0 bg kv [] [] ∧ (q = .map none ∨ SQ w q)

def v1E (p : Nat) : Value := .iface 157 (.pointer (some ⟨p, 0, none⟩))
def v2E (p : Nat) : Value := .iface 170 (.pointer (some ⟨p, 0, none⟩))
def v3E (p : Nat) : Value := .iface 176 (.pointer (some ⟨p, 0, none⟩))

def X1 (w : World) (bs B : Nat) (text : ByteArray) (there : Bool) : Prop :=
  ∃ f q rv us bg kv p1 u1 ms, XB w bs B text there f q (.map (some ms)) rv us bg kv [(157, p1)] [u1] ∧ SQ w q ∧ B ≤ ms ∧ us ≤ 10 ∧ w.heap[ms]? = some (.map #[ent 1 (v1E p1) 0] 1)

theorem Tg.below {w w' : World} {l : List (TypeId × Nat)} (h : Tg w l) (hb : Below w.heap.size w w') : Tg w' l := fun i T p hi => by
  obtain ⟨cs, TT, h1, h2⟩ := h i T p hi
  exact ⟨cs, TT, below_heap hb (heap_lt h1) h1, h2⟩

theorem XB.below {w w' : World} {bs B : Nat} {text : ByteArray} {there : Bool} {f q sm : Value} {rv us : Int} {bg kv : Value} {l : List (TypeId × Nat)} {ul : List Int} (h : XB w bs B text there f q sm rv us bg kv l ul) (hb : Below w.heap.size w w') : XB w' bs B text there f q sm rv us bg kv l ul :=
  ⟨h.es.below hb, h.xf.below hb, h.rv, h.us, h.tg.below hb⟩

theorem X0.below {w w' : World} {bs B : Nat} {text : ByteArray} {there : Bool} (h : X0 w bs B text there) (hb : Below w.heap.size w w') : X0 w' bs B text there := by
  obtain ⟨f, q, rv, bg, kv, h1, h2⟩ := h
  exact ⟨f, q, rv, bg, kv, h1.below hb, h2.imp id (fun h => h.below hb)⟩
theorem X1.below {w w' : World} {bs B : Nat} {text : ByteArray} {there : Bool} (h : X1 w bs B text there) (hb : Below w.heap.size w w') : X1 w' bs B text there := by
  obtain ⟨f, q, rv, us, bg, kv, p1, u1, ms, h1, h2, h3, h4, h5⟩ := h
  exact ⟨f, q, rv, us, bg, kv, p1, u1, ms, h1.below hb, h2.below hb, h3, h4, below_heap hb (heap_lt h5) h5⟩

theorem XB.begin {w : World} {bs B : Nat} {text : ByteArray} {there : Bool} {f q sm : Value} {rv us : Int} {bg kv : Value} {l : List (TypeId × Nat)} {ul : List Int} (h : XB w bs B text there f q sm rv us bg kv l ul) : XB (w.setCell ⟨bs, 4, none⟩ (.slice none 0 0)) bs B text there f q sm rv us (.slice none 0 0) kv l ul := by
  have hf := (Ses.Fr.refl [bs] w).setCell ⟨bs, 4, none⟩ (.inl (by simp)) (.slice none 0 0)
  have hS : ∀ b, b ∈ [bs] → PB w B bs b := fun b hb => by simp at hb; subst hb; exact pbS h.es
  refine ⟨h.es.setS 4 _ rfl (Int.le_refl _), h.xf.pb hf hS, h.rv, h.us, fun i T p hi => ?_⟩
  obtain ⟨cs, TT, h1, h2⟩ := h.tg i T p hi
  refine ⟨cs, TT, (heap_setCell_ne (fun e => ?_) _).trans h1, h2⟩
  subst e
  have h3 := h1.symm.trans h.es.s
  injection h3 with h3
  injection h3 with _ h3
  exact h2.ne.2.2.2.2 h3

end Go.Proofs.YtfekglokoafpiaaGreatDoor

namespace Go.Proofs.YtfekglokoafpiaaGreatDoor
open Go.RowKit

theorem pbM {w : World} {B bs b : Nat} (hB : B ≤ b) {es : Array MapEntry} {n : Nat} {k : Int} {v : Value} (h : w.heap[b]? = some (.map es n)) (he : es[0]? = some (ent k v 0)) : PB w B bs b := ⟨.inr hB, .inr (.inr ⟨es, n, k, v, h, he⟩)⟩
theorem pbN {w : World} {B bs b : Nat} (hB : B ≤ w.heap.size) (h : w.heap.size ≤ b) : PB w B bs b := ⟨.inr (Nat.le_trans hB h), .inl h⟩
theorem pbT {w : World} {B bs b : Nat} (hB : B ≤ b) {TT : TypeId} {xs : List Value} (h : SB w b TT xs) (hT : IsTT TT) : PB w B bs b := ⟨.inr hB, .inr (.inl ⟨_, _, _, h, hT.ne.1, hT.ne.2.1⟩)⟩
theorem pbL {w : World} {B bs b : Nat} (hB : B ≤ b) {a c : Value} (h : w.heap[b]? = some (.cells #[a, c] 105)) : PB w B bs b := ⟨.inr hB, .inr (.inl ⟨_, _, _, h, by decide, by decide⟩)⟩

/-- What Known's slot is worked out to. -/
def VK (q0 : Value) (there : Bool) (N : Nat) (x : ByteArray) (q' : Value) (w : World) : Prop :=
  x = knownX there ∧ ((q' = q0 ∧ q0 ≠ .map none) ∨ ∃ bq bc, q' = .map (some bq) ∧ N ≤ bq ∧ w.heap[bq]? = some (Ses.qBlk bc))

set_option maxHeartbeats 1000000 in
theorem ask1 {w : World} {bs B : Nat} {text : ByteArray} {there : Bool} (h : X0 w bs B text there) (hB : B ≤ w.heap.size) :
    Calls Tryz.prog 9 #[.pointer (some ⟨bs, 0, none⟩), .int .i64 (1 : Nat), .string ⟨#[97]⟩, .string ⟨#[]⟩] w fun e w' => e = .returned (.tuple #[.string (knownX there), .int .i64 0]) ∧ X1 w' bs B text there ∧ KX B bs w w' := by
  obtain ⟨f, q, rv, bg, kv, hx, hq⟩ := h
  have hbs := hx.es.lt
  have hx0 := hx.begin
  have hf0 := (Ses.Fr.refl [bs] w).setCell ⟨bs, 4, none⟩ (.inl (by simp)) (.slice none 0 0)
  have hp0 : ∀ b, b ∈ [bs] → PB w B bs b := fun b hb => by simp at hb; subst hb; exact pbS hx.es
  have hq0 := hq.imp id (fun h => h.pb hf0 hp0)
  have hk0 := KX.of hf0 hp0
  have hz0 : (w.setCell ⟨bs, 4, none⟩ (.slice none 0 0)).heap.size = w.heap.size := by simp
  refine (askE (t := knownX there) (by decide) (by decide) (by cases there <;> decide) (heap_cell (i := 4) hx.es.s) (heap_frozen hx.es.s) (fun w' => X1 w' bs B text there ∧ KX B bs w w') ?_ ?_).mono ?_
  · generalize w.setCell ⟨bs, 4, none⟩ (.slice none 0 0) = w0 at hx0 hq0 hk0 hz0
    refine (write1 (fun t w' => t = knownX there ∧ X1 w' bs B text there ∧ KX B bs w w') ?_).mono ?_
    · refine knownE _ (fun W hb => ?_)
      have hbW : Below w0.heap.size w0 W := below_seq (below_newE w0 (LK bs)) hb
      have hLn := new_heap w0 (LK bs)
      have hlb := below_heap hb (heap_lt hLn) hLn
      have hxW := hx0.below hbW
      have hqW := hq0.imp id (fun h => h.below hbW)
      have hzW := hbW.size
      have hlbB : B ≤ w0.heap.size := by omega
      generalize w0.heap.size = lb at hlb hlbB hzW
      have hkW := hk0.trans (KX.below hbW)
      have hn := es_nlb hxW.es hlb
      refine (fetchNewS2 hxW.es (by omega) (by simp) hxW.rv hlb 0 [] rfl (by decide) (by decide) [] (fun b hb => by simp at hb) (VK q there) ?_ ?_ ?_).mono ?_
      · rintro N x q' wa wb ⟨h1, h2⟩ hst
        refine ⟨h1, h2.imp id ?_⟩
        rintro ⟨bq, bc, h3, h4, h5⟩
        exact ⟨bq, bc, h3, h4, (hst.block bq h4 (heap_lt h5) (fun cs e => by have := h5.symm.trans e; simp [Ses.qBlk] at this)).trans h5⟩
      · rintro N N' x q' wa ⟨h1, h2⟩ hN
        refine ⟨h1, h2.imp id ?_⟩
        rintro ⟨bq, bc, h3, h4, h5⟩
        exact ⟨bq, bc, h3, Nat.le_trans hN h4, h5⟩
      · intro W' bg' lb' p ms he hs hl hm hlp hll hlm hf
        have hpp : ∀ b, b ∈ [bs, ms] → PB W B bs b := fun b hb => by
          simp only [List.mem_cons, List.not_mem_nil, or_false] at hb
          rcases hb with rfl | rfl
          · exact pbS hxW.es
          · exact pbN (by omega) hlm
        have hx' := hxW.xf.pb hf hpp
        have hq' := hqW.imp id (fun h => h.pb hf hpp)
        refine (workKnown_any he hx' hq' hl).mono ?_
        rintro e w' ⟨he', q', hlo⟩
        obtain ⟨la, lm, lc, hl'⟩ := hlo.lo
        have hn' := es_nlb he hl
        have hpl : p ≠ lb' := fun e => by
          subst e
          have := hs.symm.trans hl
          simp [newL, slotL] at this
        have hpb : p ≠ bs := fun e => by
          subst e
          have := hs.symm.trans he.s
          simp [newL, slotL] at this
        refine ⟨_, _, q', he', ⟨hlo.es, hs.fr' hlo.fr (by simp [hpb, hpl]), hl', ⟨la, lm, lc, rfl⟩, hlo.fr.size⟩, hlo.fr, rfl, ?_⟩
        obtain ⟨bq, bc, e1, e2⟩ := hlo.sq
        rcases hlo.or with h1 | ⟨bq', h1, h2⟩
        · refine .inl ⟨h1, fun e => ?_⟩
          rw [h1, e] at e1
          simp at e1
        · rw [e1] at h1
          injection h1 with h1
          injection h1 with h1
          subst h1
          exact .inr ⟨_, bc, e1, h2, e2⟩
      · rintro e w' ⟨x, p, ms, bg', lk, kv', q', he, hms, hfd, ⟨hxk, hor⟩, hlo⟩
        subst hxk
        have hS : ∀ b, b ∈ [bs, ms, lb, kbk bs kv] → PB W B bs b := fun b hb => by
          simp only [List.mem_cons, List.not_mem_nil, or_false] at hb
          rcases hb with rfl | rfl | rfl | rfl
          · exact pbS hxW.es
          · exact pbN (by omega) hms
          · exact pbL hlbB hlb
          · exact pbK hxW.es
        have hsq : SQ w' q' := by
          rcases hor with ⟨h1, h2⟩ | ⟨bq, bc, h1, h2, h3⟩
          · subst h1
            rcases hqW with h3 | h3
            · exact absurd h3 h2
            · exact h3.pb hfd.fr hS
          · exact ⟨bq, bc, h1, h3⟩
        refine ⟨_, he, rfl, ⟨f, q', rv, _, bg', kv', p, _, ms, ⟨hfd.es, hxW.xf.pb hfd.fr hS, hxW.rv, by decide, ?_⟩, hsq, by omega, by decide, hfd.m⟩, hkW.trans (KX.of hfd.fr hS)⟩
        intro i T p' hi
        match i, hi with
        | 0, hi =>
          simp at hi
          obtain ⟨rfl, rfl⟩ := hi
          exact ⟨_, _, hfd.sb, .inl rfl⟩
        | i + 1, hi => simp at hi
    · rintro e w' ⟨t, he, w1, ⟨rfl, h1, h2⟩, hb⟩
      exact ⟨he, h1.below hb, h2.trans (KX.below hb)⟩
  · rintro w' ⟨⟨f, q, rv, us, bg, kv, p1, u1, ms, h1, _⟩, _⟩
    obtain ⟨a, c, e⟩ := h1.es.shape
    exact ⟨a, 1, c, by decide, (heap_cell (i := 5) h1.es.s).trans (congrArg some e)⟩
  · rintro e w' ⟨he, w1, ⟨h1, h2⟩, hb⟩
    exact ⟨he, h1.below hb, h2.trans (KX.below hb)⟩

end Go.Proofs.YtfekglokoafpiaaGreatDoor

namespace Go.Proofs.YtfekglokoafpiaaGreatDoor
open Go.RowKit

set_option maxRecDepth 100000 in
set_option maxHeartbeats 1000000 in
theorem answerT {w : World} {bs B : Nat} {f q sm : Value} {rv us : Int} {bg kv : Value} {l : List (TypeId × Nat)} {ul : List Int} (h : ES w bs B f q sm rv us bg kv l ul) (hB : B ≤ w.heap.size) (hm : l.length ≤ 3) {p k : Nat} {wk sam lo va : Value} (hs : SB w p 173 (newL bs k [wk, sam, lo, va])) (hpB : B ≤ p) (hpn : ∀ (i : Nat) T' p', l[i]? = some (T', p') → p' ≠ p)
    (hus : 0 ≤ us) (hus2 : us ≤ 1000) (xa : Option Addr) (xm xc : Nat) (lk : Value) (hlk : ∃ a m c, lk = .slice a m c) (hva : ∃ a m c, va = .slice a m c) :
    Calls Tryz.prog 275 #[.pointer (some ⟨p, 0, none⟩), .slice xa xm xc, lk] w fun e w' => e = .returned (.tuple #[]) ∧ AN w w' bs B p k 173 lk [wk, sam, lo, .slice xa xm xc] f q sm rv us bg kv l ul 170 := by
  obtain ⟨la, lm, lc, rfl⟩ := hlk
  obtain ⟨ya, ym, yc, rfl⟩ := hva
  have hbs : bs < B := h.lt
  have hne : bs ≠ p := by omega
  have hpg := hs.row h.own (by decide)
  have c1 : w.cell? ⟨bs, 1, none⟩ = some (.int .i64 rv) := heap_cell (i := 1) h.s
  have d0 := hs.cell (i := 0) rfl
  have d6 := hs.cell (i := 6) rfl
  have d7 := hs.cell (i := 7) rfl
  have d8 := hs.cell (i := 8) rfl
  have d9 := hs.cell (i := 9) rfl
  have d10 := hs.cell (i := 10) rfl
  have d15 := hs.cell (i := 15) rfl
  have g6 := hs.fr 6
  have g7 := hs.fr 7
  have g8 := hs.fr 8
  have g9 := hs.fr 9
  have g15 := hs.fr 15
  have HS := hid hs
  have HE := hid h
  have HPG := hid hpg
  have HN := hid hne
  clear h hs hpg hne
  go_enter Tryz.func275, Tryz.ntmps275
  go_wp2_with fail
  go_quiet ((go_at_call 268; refine Calls.quiet_of_same (dropped_new p _ d10)))
  go_wp2_with fail
  have HD := hid (below_drewN w nq)
  have HE1 := hid (HE.out.below HD.out)
  have HS1 := hid (HS.out.below HD.out)
  have HF1 := hid (Ses.Fr.of_below (S := [bs, p, kbk bs kv]) HD.out)
  have HZ := hid (show (w.drewN nq).heap.size = w.heap.size from rfl)
  generalize w.drewN nq = W at HE1 HS1 HF1 HZ ⊢
  have HE2 := hid (((((HE1.out.other 8 (.int .i64 rv) HN.out HPG.out (.inl (by decide))).other 15 (.slice xa xm xc) HN.out HPG.out (.inl (by decide))).other 6 (.slice la lm lc) HN.out HPG.out (.inl (by decide))).other 7 (.int .i64 rv) HN.out HPG.out (.inl (by decide))).other 9 (.bool false) HN.out HPG.out (.inl (by decide)))
  have HS2 := hid (((((HS1.out.set 8 (.int .i64 rv)).set 15 (.slice xa xm xc)).set 6 (.slice la lm lc)).set 7 (.int .i64 rv)).set 9 (.bool false))
  have HF2 := hid (((((HF1.out.setCell ⟨p, 8, none⟩ (.inl (by simp)) (.int .i64 rv)).setCell ⟨p, 15, none⟩ (.inl (by simp)) (.slice xa xm xc)).setCell ⟨p, 6, none⟩ (.inl (by simp)) (.slice la lm lc)).setCell ⟨p, 7, none⟩ (.inl (by simp)) (.int .i64 rv)).setCell ⟨p, 9, none⟩ (.inl (by simp)) (.bool false))
  have HZ2 := hid (show (((((W.setCell ⟨p, 8, none⟩ (.int .i64 rv)).setCell ⟨p, 15, none⟩ (.slice xa xm xc)).setCell ⟨p, 6, none⟩ (.slice la lm lc)).setCell ⟨p, 7, none⟩ (.int .i64 rv)).setCell ⟨p, 9, none⟩ (.bool false)).heap.size = w.heap.size by simpa using HZ.out)
  generalize ((((W.setCell ⟨p, 8, none⟩ (.int .i64 rv)).setCell ⟨p, 15, none⟩ (.slice xa xm xc)).setCell ⟨p, 6, none⟩ (.slice la lm lc)).setCell ⟨p, 7, none⟩ (.int .i64 rv)).setCell ⟨p, 9, none⟩ (.bool false) = W2 at HE2 HS2 HF2 HZ2 ⊢
  refine (use_new HE2.out (by have := HZ2.out; omega) hm mtT HS2.out (by decide) hpB hpn rfl rfl rfl hus hus2).mono ?_
  rintro e w3 ⟨rfl, hu⟩
  have HU := hid (an_of HF2.out HZ2.out hu)
  clear hu
  go_wp2
  go_end0
  exact ⟨rfl, HU.out⟩

end Go.Proofs.YtfekglokoafpiaaGreatDoor

namespace Go.Proofs.YtfekglokoafpiaaGreatDoor
open Go.RowKit

set_option maxRecDepth 100000 in
set_option maxHeartbeats 4000000 in
theorem workOutT {w : World} {bs B : Nat} {f q sm : Value} {rv us : Int} {kv : Value} {l : List (TypeId × Nat)} {ul : List Int} (h : ES w bs B f q sm rv us (.slice none 0 0) kv l ul) (hB : B ≤ w.heap.size) (hm : l.length ≤ 3) {p : Nat} {sam lo va : Value} (hs : SB w p 173 (newL bs 2 [.func (.func 64) #[.pointer (some ⟨bs, 0, none⟩)] #[], sam, lo, va])) (hpB : B ≤ p) (hpn : ∀ (i : Nat) T' p', l[i]? = some (T', p') → p' ≠ p)
    (hva : ∃ a m c, va = .slice a m c) (q' : Value) (us' : Int) (ul' : List Int) (hus : 0 ≤ us') (hus2 : us' ≤ 1000) (PX : World → (Option Addr × Nat × Nat) → World → Prop)
    (HW : ∀ (W : World) (bg : Value) (lb : Nat), ES W bs B f q sm rv us bg kv l ul → SB W p 173 (newL bs 2 [.func (.func 64) #[.pointer (some ⟨bs, 0, none⟩)] #[], sam, lo, va]) → W.heap[lb]? = some (.cells #[.pointer (some ⟨bs, 1, none⟩), .slice none 0 0] 105) → w.heap.size ≤ lb → Ses.Fr [bs] w W → Calls Tryz.prog 64 #[.pointer (some ⟨bs, 0, none⟩), .pointer (some ⟨lb, 0, none⟩), keyV 2] W fun e w' => ∃ x lk, e = .returned (.slice x.1 x.2.1 x.2.2) ∧ WK W w' bs B p lb 2 173 [.func (.func 64) #[.pointer (some ⟨bs, 0, none⟩)] #[], sam, lo, va] f q' sm rv us' bg kv lk l ul' ∧ PX W x w') :
    Calls Tryz.prog 279 #[.pointer (some ⟨p, 0, none⟩)] w fun e w' => e = .returned (.tuple #[]) ∧ ∃ W w2 x bg lk, Ses.Fr [bs] w W ∧ W.heap.size ≤ w2.heap.size ∧ PX W x w2 ∧ AN w2 w' bs B p 2 173 lk [.func (.func 64) #[.pointer (some ⟨bs, 0, none⟩)] #[], sam, lo, .slice x.1 x.2.1 x.2.2] f q' sm rv us' bg kv l ul' 170 := by
  have hbs : bs < B := h.lt
  have hne : bs ≠ p := by omega
  have hpg := hs.row h.own (by decide)
  have c4 : w.cell? ⟨bs, 4, none⟩ = some (.slice none 0 0) := heap_cell (i := 4) h.s
  have g4 : w.frozen? ⟨bs, 4, none⟩ = false := heap_frozen h.s
  have d0 := hs.cell (i := 0) rfl
  have d1 := hs.cell (i := 1) rfl
  have d2 := hs.cell (i := 2) rfl
  have d3 := hs.cell (i := 3) rfl
  have hsc2 : ∀ o, (w.alloc o).drew.cell? ⟨bs, 4, none⟩ = some (.slice none 0 0) := fun o => cell_kept (w' := w.alloc o) (below_new w o) c4
  have hsf2 : ∀ o, (w.alloc o).drew.frozen? ⟨bs, 4, none⟩ = false := fun o => heap_frozen (old_heap o h.s)
  have hsc3 : ∀ o, (w.alloc o).drew.cell? ⟨p, 0, none⟩ = some (.pointer (some ⟨bs, 1, none⟩)) := fun o => cell_kept (w' := w.alloc o) (below_new w o) d0
  have hsc4 : ∀ o, (w.alloc o).cell? ⟨p, 0, none⟩ = some (.pointer (some ⟨bs, 1, none⟩)) := fun o => cell_kept (w' := w.alloc o) (below_new w o) d0
  have hsc5 : ∀ o, (w.alloc o).cell? ⟨bs, 4, none⟩ = some (.slice none 0 0) := fun o => cell_kept (w' := w.alloc o) (below_new w o) c4
  obtain ⟨i0, hi0, hz0, hz1, hz2⟩ := info_parts infoKeyE
  have hnews : ∀ (j : Nat) u, ([.int .i64 2, .string ⟨#[97]⟩, .string ⟨#[]⟩] : List Value)[j]? = some u → ((w.alloc (.cells #[.int .i64 2, .string ⟨#[97]⟩, .string ⟨#[]⟩] 107)).drew).cell? ((⟨w.heap.size, 0, none⟩ : Addr).add j) = some u := World.news_of_block (w := (w.alloc (.cells #[.int .i64 2, .string ⟨#[97]⟩, .string ⟨#[]⟩] 107)).drew) (cs := #[.int .i64 2, .string ⟨#[97]⟩, .string ⟨#[]⟩]) (heap_alloc_new w _)
  have h1c : ∀ u ∈ ([.int .i64 2, .string ⟨#[97]⟩, .string ⟨#[]⟩] : List Value), u.oneCell' = true := by simp [Value.oneCell']
  have hbl : bs < w.heap.size := heap_lt h.s
  have hpl : p < w.heap.size := hs.lt
  have HS := hid hs
  have HE := hid h
  have HPG := hid hpg
  have HN := hid hne
  have HBB := hid hB
  have HM := hid hm
  have HPN := hid hpn
  have HWW := hid HW
  have HVA := hid hva
  clear h hs hpg hne HW hva
  go_enter Tryz.func279, Tryz.ntmps279
  go_wp2_with fail
  apply share (F := fun (_ _ : Nat) (w5 : World) => Ses.Fr [] w w5)
  case main =>
    intro KEY
    go_region_law? (refine wp_append_lies _ _ _ 44 rfl B 107 i0 _ 3 40 Tryz.underlying44 hi0 hz0 hz1 hz2 (by decide) (by decide) (.slice none 0 0) 0 [] (by rfl) (World.ownsRow_nil _ _ _ _) ⟨w.heap.size, 0, none⟩ 1 1 [.int .i64 2, .string ⟨#[97]⟩, .string ⟨#[]⟩] (by rfl) (by rfl) hnews h1c (by omega) (by unfold maxLen; omega) (by omega) (by simp; omega) (w.heap.size + 1) (by simp) ?_; intro g' c' w5 hown' hgrow hat hlt; have hc5 := (hgrow.cell_far ⟨bs, 4, none⟩ (by simp; omega) (by simp [Value.ownBlock])).trans (hsc2 _); have hf5 := (hgrow.frozen_far ⟨bs, 4, none⟩ (by simp; omega) (by simp [Value.ownBlock])).trans (hsf2 _); have hp5 := (hgrow.cell_far ⟨p, 0, none⟩ (by simp; omega) (by simp [Value.ownBlock])).trans (hsc3 _))
    all_goals
      have HF5 := fr_grown (((Ses.Fr.refl [] w).alloc _).drew) hgrow rfl
      exact KEY g' c' w5 HF5
  case key =>
    intro g' c' w5 hf5
    have ld : p < w.heap.size := hpl
    have HS5 := hid (HS.out.fr' hf5 (by simp))
    have HE5 := hid (HE.out.fr hf5 (by simp) (fun g hg => by simp) (fun i T p hi => by simp))
    have HE6 := hid (HE5.out.setS 4 (.slice (some ⟨g', 0, none⟩) 1 c') rfl (Int.le_refl _))
    have HS6 := hid (HS5.out.other (b := bs) (Ne.symm HN.out) 4 (.slice (some ⟨g', 0, none⟩) 1 c'))
    have HF6 := hid ((hf5.mono (T := [bs]) (fun k hk => .inl (by simp at hk))).setCell ⟨bs, 4, none⟩ (.inl (by simp)) (.slice (some ⟨g', 0, none⟩) 1 c'))
    generalize w5.setCell ⟨bs, 4, none⟩ (.slice (some ⟨g', 0, none⟩) 1 c') = w6 at HE6 HS6 HF6 ⊢
    have e0 := HS6.out.cell (i := 0) rfl
    clear hsc2 hsf2 hsc3 hsc4 hsc5 hnews h1c hi0 hz0 hz1 hz2 c4 g4 d0 d1 d2 d3
    go_wp2_with fail
    refine (newLooks bs w6).mono ?_
    rintro e w7 ⟨rfl, rfl⟩
    have HL7 := hid (new_heap w6 (.cells #[.pointer (some ⟨bs, 1, none⟩), .slice none 0 0] 105))
    have HE7 := hid (HE6.out.below (below_newE w6 (.cells #[.pointer (some ⟨bs, 1, none⟩), .slice none 0 0] 105)))
    have HS7 := hid (HS6.out.below (below_newE w6 (.cells #[.pointer (some ⟨bs, 1, none⟩), .slice none 0 0] 105)))
    have HF7 := hid (HF6.out.alloc (.cells #[.pointer (some ⟨bs, 1, none⟩), .slice none 0 0] 105))
    have HLB := hid (show w.heap.size ≤ w6.heap.size from HF6.out.size)
    generalize w6.alloc (.cells #[.pointer (some ⟨bs, 1, none⟩), .slice none 0 0] 105) = w7 at HL7 HE7 HS7 HF7 ⊢
    generalize w6.heap.size = lb at HL7 HLB ⊢
    have y0 := HS7.out.cell (i := 0) rfl
    have y1 := HS7.out.cell (i := 1) rfl
    have y2 := HS7.out.cell (i := 2) rfl
    have y3 := HS7.out.cell (i := 3) rfl
    have y12 := HS7.out.cell (i := 12) rfl
    go_wp2_with fail
    have HX := hid (fun (W : World) (hb : Below w7.heap.size w7 W) => HWW.out W (.slice (some ⟨g', 0, none⟩) 1 c') lb (HE7.out.below hb) (HS7.out.below hb) (below_heap hb (heap_lt HL7.out) HL7.out) HLB.out (HF7.out.trans (Ses.Fr.of_below hb)))
    have HFX := hid (fun (W : World) (hb : Below w7.heap.size w7 W) => HF7.out.trans (Ses.Fr.of_below hb))
    have hDR := hid (below_drew w7)
    have hDR2 := hid (below_seq (below_drew w7) (below_drew w7.drew))
    have hDR3 := hid (below_seq (below_seq (below_drew w7) (below_drew w7.drew)) (below_drew w7.drew.drew))
    clear hf5 HWW
    apply share (F := fun (x : (Option Addr × Nat × Nat)) (lk : Value) (w8 : World) => ∃ W, Ses.Fr [bs] w W ∧ WK W w8 bs B p lb 2 173 [.func (.func 64) #[.pointer (some ⟨bs, 0, none⟩)] #[], sam, lo, va] f q' sm rv us' (.slice (some ⟨g', 0, none⟩) 1 c') kv lk l ul' ∧ PX W x w8)
    case main =>
      intro KEY
      go_region_with (go_at_call 64; go_must (refine (HX.out _ (by first | exact Below.refl _ _ | exact below_drew _ | exact hDR2.out | exact hDR3.out)).mono ?_; rintro e w8 ⟨x, lk, rfl, hwk⟩; have hwk2 := (⟨_, HFX.out _ (by first | exact Below.refl _ _ | exact below_drew _ | exact hDR2.out | exact hDR3.out), hwk⟩ : ∃ W, Ses.Fr [bs] w W ∧ WK W w8 bs B p lb 2 173 [.func (.func 64) #[.pointer (some ⟨bs, 0, none⟩)] #[], sam, lo, va] f q' sm rv us' (.slice (some ⟨g', 0, none⟩) 1 c') kv lk l ul' ∧ PX W x w8); clear hwk; have hwk3 := hid hwk2; clear hwk2))
      all_goals
        exact KEY _ _ _ hwk3.out
    case key =>
      intro x lk w8 hwk
      obtain ⟨W, hFW, hwk, hpx⟩ := hwk
      have hlk := hwk.lk
      obtain ⟨la, lm, lc, rfl⟩ := hlk
      have z1 : w8.cell? ⟨lb, 1, none⟩ = some (.slice la lm lc) := heap_cell (i := 1) hwk.lb
      have HWK := hid hwk
      have HPX := hid hpx
      have HFW := hid hFW
      clear hwk hpx hFW y0 y1 y2 y3 y12 e0
      go_wp2_with fail
      have hvb := HVA.out
      have hbz : B ≤ w8.heap.size := by have := HWK.out.sb.lt; omega
      refine (answerT HWK.out.es hbz HM.out HWK.out.sb hpB HPN.out hus hus2 x.1 x.2.1 x.2.2 (.slice la lm lc) ⟨_, _, _, rfl⟩ hvb).mono ?_
      rintro e w9 ⟨rfl, han⟩
      have HAN := hid han
      clear han
      go_wp2
      go_end0
      exact ⟨rfl, W, w8, x, _, _, HFW.out, HWK.out.size, HPX.out, HAN.out⟩

end Go.Proofs.YtfekglokoafpiaaGreatDoor

namespace Go.Proofs.YtfekglokoafpiaaGreatDoor
open Go.RowKit

theorem asNoneT (w : World) (xT : TypeId) : (Instr.typeAssert .nilIface xT 170 true).run Tryz.prog w = .ok (.tuple #[.pointer none, .bool false]) w := by kernel_rfl

set_option maxRecDepth 100000 in
set_option maxHeartbeats 400000 in
theorem findNewT {f q bg kv : Value} {rv us : Int} (bs F G ms n : Nat) (es : Array MapEntry) (w : World) (hf : ∀ w, (Instr.findKey 107 (keyV 2) es.toList).run Tryz.prog w = .ok none w) (hM : w.heap[ms]? = some (.map es n)) (h3 : w.heap[bs]? = some (.cells #[f, .int .i64 rv, q, .map (some ms), bg, kv, .int .u64 us] 51)) :
    Calls Tryz.prog 92 #[.pointer (some ⟨bs, 1, none⟩), .agg #[.int .i64 2, .string ⟨#[97]⟩, .string ⟨#[]⟩], .agg #[.func (.func F) #[.pointer (some ⟨bs, 0, none⟩)] #[], .func (.func G) #[] #[], .slice none 0 0]] w fun e w' => ∃ p, e = .returned (.pointer (some ⟨p, 0, none⟩)) ∧ FN w w' bs p ms n es 173 170 f rv q bg kv us (slotL bs 2 false (.slice none 0 0) (-1) 0 (-1) 0 [.func (.func F) #[.pointer (some ⟨bs, 0, none⟩)] #[], .func (.func G) #[] #[], .slice none 0 0, .slice none 0 0]) 2 := by
  have hml := heap_lt hM
  have m2 := asNoneT
  have hA := new_heap w (.cells #[.int .i64 2, .string ⟨#[97]⟩, .string ⟨#[]⟩] 107)
  have hA2 := old_heap (.cells #[.func (.func F) #[.pointer (some ⟨bs, 0, none⟩)] #[], .func (.func G) #[] #[], .slice none 0 0] 129) hA
  have hR := new_heap (w.alloc (.cells #[.int .i64 2, .string ⟨#[97]⟩, .string ⟨#[]⟩] 107)) (.cells #[.func (.func F) #[.pointer (some ⟨bs, 0, none⟩)] #[], .func (.func G) #[] #[], .slice none 0 0] 129)
  rw [show (w.alloc (.cells #[.int .i64 2, .string ⟨#[97]⟩, .string ⟨#[]⟩] 107)).heap.size = w.heap.size + 1 from by simp] at hR
  have hS := old_heap (.cells #[.func (.func F) #[.pointer (some ⟨bs, 0, none⟩)] #[], .func (.func G) #[] #[], .slice none 0 0] 129) (old_heap (.cells #[.int .i64 2, .string ⟨#[97]⟩, .string ⟨#[]⟩] 107) h3)
  have HBL := hid (((Below.refl w.heap.size w).alloc (Nat.le_refl _) (.cells #[.int .i64 2, .string ⟨#[97]⟩, .string ⟨#[]⟩] 107)).alloc (by simp) (.cells #[.func (.func F) #[.pointer (some ⟨bs, 0, none⟩)] #[], .func (.func G) #[] #[], .slice none 0 0] 129))
  have HM1 := hid (old_heap (.cells #[.func (.func F) #[.pointer (some ⟨bs, 0, none⟩)] #[], .func (.func G) #[] #[], .slice none 0 0] 129) (old_heap (.cells #[.int .i64 2, .string ⟨#[97]⟩, .string ⟨#[]⟩] 107) hM))
  have HFK := hid hf
  clear hA hM hf
  go_enter Tryz.func92, Tryz.ntmps92
  go_wp2_with fail
  generalize (w.alloc (.cells #[.int .i64 2, .string ⟨#[97]⟩, .string ⟨#[]⟩] 107)).alloc (.cells #[.func (.func F) #[.pointer (some ⟨bs, 0, none⟩)] #[], .func (.func G) #[] #[], .slice none 0 0] 129) = W at hA2 hR hS HBL HM1 ⊢
  generalize hkb : w.heap.size = kb at hA2 hR ⊢
  have k0 : W.cell? ⟨kb, 0, none⟩ = some (.int .i64 2) := heap_cell (i := 0) hA2
  have k1 : W.cell? ⟨kb, 1, none⟩ = some (.string ⟨#[97]⟩) := heap_cell (i := 1) hA2
  have k2 : W.cell? ⟨kb, 2, none⟩ = some (.string ⟨#[]⟩) := heap_cell (i := 2) hA2
  have s3 : W.cell? ⟨bs, 3, none⟩ = some (.map (some ms)) := heap_cell (i := 3) hS
  have HS := hid hS
  have HA := hid hA2
  have HR := hid hR
  have HKB := hid hkb
  have hbk : bs < kb := by have := heap_lt h3; omega
  clear hA2 hR hS h3 hkb
  have hS : Below W.heap.size W W ∧ W.cell? ⟨kb, 0, none⟩ = some (.int .i64 2) ∧ W.cell? ⟨kb, 1, none⟩ = some (.string ⟨#[97]⟩) ∧ W.cell? ⟨kb, 2, none⟩ = some (.string ⟨#[]⟩) ∧ W.cell? ⟨bs, 3, none⟩ = some (.map (some ms)) := ⟨Below.refl _ _, k0, k1, k2, s3⟩
  clear k0 k1 k2 s3
  have m10 := look_by (w := W) HM1.out (ck 2) HFK.out
  have m11 := look_by (w := W.drew) HM1.out (ck 2) HFK.out
  have m12 := look_by (w := W.drew.drew) HM1.out (ck 2) HFK.out
  have m13 := look_by (w := W.drew.drew.drew) HM1.out (ck 2) HFK.out
  go_region_held3 (fun wx => Below W.heap.size W wx ∧ wx.cell? ⟨kb, 0, none⟩ = some (.int .i64 2) ∧ wx.cell? ⟨kb, 1, none⟩ = some (.string ⟨#[97]⟩) ∧ wx.cell? ⟨kb, 2, none⟩ = some (.string ⟨#[]⟩) ∧ wx.cell? ⟨bs, 3, none⟩ = some (.map (some ms)))
    (first
      | exact keepX4 (by assumption) (below_drew _)
      | exact keepX4 (by assumption) (Below.refl _ _)
      | exact keepX4 hS (below_drew _))
    (first | fail)
  have hHeld := (by assumption : Below W.heap.size W _ ∧ _)
  generalize W.drew = W1 at hHeld ⊢
  obtain ⟨hb1, k0, k1, k2, s3⟩ := hHeld
  have HS1 := hid (Ses.below_heap hb1 HS.out)
  have HA1 := hid (Ses.below_heap hb1 HA.out)
  have HR1 := hid (Ses.below_heap hb1 HR.out)
  have HB1 := hid hb1
  have g1 : W1.frozen? ⟨kb, 1, none⟩ = false := heap_frozen HA1.out
  have g2 : W1.frozen? ⟨kb, 2, none⟩ = false := heap_frozen HA1.out
  have hT : Inv5 W1 W1 kb bs (.int .i64 2) (.map (some ms)) := ⟨Below.refl _ _, k0, k1, k2, s3, g1, g2⟩
  have HM2 := hid (Ses.below_heap hb1 HM1.out)
  clear hb1 hS m10 m11 m12 m13 m2 k0 k1 k2 s3 g1 g2
  go_wp2
  go_region_held3 (fun wx => Below W1.heap.size W1 wx ∧ wx.cell? ⟨kb, 0, none⟩ = some (.int .i64 2) ∧ wx.cell? ⟨kb, 1, none⟩ = some (.string ⟨#[97]⟩) ∧ wx.cell? ⟨kb, 2, none⟩ = some (.string ⟨#[]⟩) ∧ wx.cell? ⟨bs, 3, none⟩ = some (.map (some ms)) ∧ wx.frozen? ⟨kb, 1, none⟩ = false ∧ wx.frozen? ⟨kb, 2, none⟩ = false)
    (first
      | exact keepX5 (by assumption) (below_drew _)
      | exact keepX5 (by assumption) (by assumption)
      | exact keepX5s1 (by assumption)
      | exact keepX5s2 (by assumption)
      | exact keepX5 (by assumption) (Below.refl _ _)
      | exact keepX5 hT (below_drew _))
    (first
      | (go_at_call 23; refine (Ses.clone_any _ _ (by decide)).mono ?_; rintro e w8 ⟨rfl, hb8⟩))
  have hHeld := (by assumption : Below W1.heap.size W1 _ ∧ _)
  generalize (w8.setCell ⟨kb, 1, none⟩ (.string ⟨#[97]⟩)).setCell ⟨kb, 2, none⟩ (.string ⟨#[]⟩) = W2 at hHeld ⊢
  obtain ⟨hb2, k0, k1, k2, s3, g1, g2⟩ := hHeld
  have HS2 := hid (Ses.below_heap hb2 HS1.out)
  have HA2 := hid (Ses.below_heap hb2 HA1.out)
  have hr2 := Ses.below_heap hb2 HR1.out
  have HB2 := hid hb2
  have HM3 := hid (Ses.below_heap hb2 HM2.out)
  have r0 : W2.cell? ⟨kb + 1, 0, none⟩ = some _ := heap_cell (i := 0) hr2
  have r1 : W2.cell? ⟨kb + 1, 1, none⟩ = some _ := heap_cell (i := 1) hr2
  have r2 : W2.cell? ⟨kb + 1, 2, none⟩ = some _ := heap_cell (i := 2) hr2
  have hs2 := HS2.out
  have ha2 := HA2.out
  have e3 : ∀ o, (W2.alloc o).cell? ⟨bs, 3, none⟩ = some (.map (some ms)) := fun o => heap_cell (i := 3) (old_heap o hs2)
  have f3 : ∀ o, (W2.alloc o).frozen? ⟨bs, 3, none⟩ = false := fun o => heap_frozen (old_heap o hs2)
  have e0 : ∀ o, (W2.alloc o).cell? ⟨kb, 0, none⟩ = some (.int .i64 2) := fun o => heap_cell (i := 0) (old_heap o ha2)
  have e1 : ∀ o, (W2.alloc o).cell? ⟨kb, 1, none⟩ = some (.string ⟨#[97]⟩) := fun o => heap_cell (i := 1) (old_heap o ha2)
  have e2 : ∀ o, (W2.alloc o).cell? ⟨kb, 2, none⟩ = some (.string ⟨#[]⟩) := fun o => heap_cell (i := 2) (old_heap o ha2)
  have e33 : ∀ o o', ((W2.alloc o).alloc o').cell? ⟨bs, 3, none⟩ = some (.map (some ms)) := fun o o' => heap_cell (i := 3) (old_heap o' (old_heap o hs2))
  have f33 : ∀ o o', ((W2.alloc o).alloc o').frozen? ⟨bs, 3, none⟩ = false := fun o o' => heap_frozen (old_heap o' (old_heap o hs2))
  have hmn : ∀ W : World, (binOp .eql 43 (.map (some ms)) (.map none)).run Tryz.prog W = .ok (.bool false) W := fun W => run_eql_map_nil W 43 107 92 (some ms) Tryz.underlying43
  clear hb2 hT hr2 g1 g2
  go_wp2
  have hsL := heap_lt hs2
  have haL := heap_lt ha2
  have hN := new_heap W2 (.cells #[.pointer (some ⟨bs, 1, none⟩), .int .i64 2, .string ⟨#[97]⟩, .string ⟨#[]⟩, .bool false, .bool false, .slice none 0 0, .int .i64 (-1), .int .i64 0, .bool false, .int .i64 (-1), .int .u64 0, .func (.func F) #[.pointer (some ⟨bs, 0, none⟩)] #[], .func (.func G) #[] #[], .slice none 0 0, .slice none 0 0] 173)
  have hP := hid (pre_old (f := f) (rv := rv) (q := q) (bg := bg) (kv := kv) (us := us) hs2 ha2 HM3.out hN)
  generalize hW3 : W2.alloc (.cells #[.pointer (some ⟨bs, 1, none⟩), .int .i64 2, .string ⟨#[97]⟩, .string ⟨#[]⟩, .bool false, .bool false, .slice none 0 0, .int .i64 (-1), .int .i64 0, .bool false, .int .i64 (-1), .int .u64 0, .func (.func F) #[.pointer (some ⟨bs, 0, none⟩)] #[], .func (.func G) #[] #[], .slice none 0 0, .slice none 0 0] 173) = W3 at hP ⊢
  clear hN hW3 e3 f3 e0 e1 e2 e33 f33 hmn k0 k1 k2 s3 r0 r1 r2 hs2 ha2
  have q3 : W3.cell? ⟨bs, 3, none⟩ = some (.map (some ms)) := heap_cell (i := 3) hP.out.s
  have k0 : W3.cell? ⟨kb, 0, none⟩ = some (.int .i64 2) := heap_cell (i := 0) hP.out.k
  have k1 : W3.cell? ⟨kb, 1, none⟩ = some (.string ⟨#[97]⟩) := heap_cell (i := 1) hP.out.k
  have k2 : W3.cell? ⟨kb, 2, none⟩ = some (.string ⟨#[]⟩) := heap_cell (i := 2) hP.out.k
  have hm3 := hP.out.m
  have hst : ∀ W : World, W.heap[ms]? = some (.map es n) → (Instr.mapUpdate 43 (.map (some ms)) (keyV 2) (.iface 170 (.pointer (some ⟨W2.heap.size, 0, none⟩)))).run Tryz.prog W = .ok () (Ses.setO W ms (.map (es.push (ent 2 (.iface 170 (.pointer (some ⟨W2.heap.size, 0, none⟩))) n)) (n + 1))) := fun W hW => store_by _ hW (ck 2) HFK.out
  have hst0 := hst W3 hm3
  have hst1 := hst W3.drew hm3
  have hst2 := hst W3.drew.drew hm3
  clear hst
  go_region_with fail
  all_goals
    go_wp2
    go_ret
    refine ⟨_, rfl, hP.out.fn ?_ (Nat.le_refl _) _⟩
    have hw : Below w.heap.size w W := HBL.out
    exact (Ses.Fr.of_below hw).trans ((Ses.Fr.of_below HB1.out).trans (Ses.Fr.of_below HB2.out))
end Go.Proofs.YtfekglokoafpiaaGreatDoor

namespace Go.Proofs.YtfekglokoafpiaaGreatDoor
open Go.RowKit

set_option maxRecDepth 100000 in
set_option maxHeartbeats 1000000 in
theorem fetchNewT {w : World} {bs B ms : Nat} {f q : Value} {rv us : Int} {kv : Value} {l : List (TypeId × Nat)} {ul : List Int} (h : ES w bs B f q (.map (some ms)) rv us (.slice none 0 0) kv l ul) (hB : B ≤ w.heap.size) (hm : l.length ≤ 3) (hrv : 0 ≤ rv)
    {lb G n : Nat} {es : Array MapEntry} (hM : w.heap[ms]? = some (.map es n)) (hf : ∀ w, (Instr.findKey 107 (keyV 2) es.toList).run Tryz.prog w = .ok none w) (hlb : w.heap[lb]? = some (.cells #[.pointer (some ⟨bs, 1, none⟩), .slice none 0 0] 105))
    (q' : Value) (us' : Int) (ul' : List Int) (hul : ul'.length = l.length) (hus : 0 ≤ us') (hus2 : us' ≤ 1000) (S : List Nat) (hS : ∀ b, b ∈ S → b < w.heap.size ∧ b ≠ lb ∧ b ≠ bs ∧ b ≠ kbk bs kv ∧ b ≠ ms) (V : Nat → (Option Addr × Nat × Nat) → World → Prop)
    (hVs : ∀ N x wa wb, V N x wa → St S N wa wb → V N x wb) (hVm : ∀ N N' x wa, V N x wa → N' ≤ N → V N' x wa)
    (HW : ∀ (W : World) (bg : Value) (lb' p : Nat), ES W bs B f q (.map (some ms)) rv us bg kv l ul → SB W p 173 (newL bs 2 [.func (.func 64) #[.pointer (some ⟨bs, 0, none⟩)] #[], .func (.func G) #[] #[], .slice none 0 0, .slice none 0 0]) → W.heap[lb']? = some (.cells #[.pointer (some ⟨bs, 1, none⟩), .slice none 0 0] 105) →
      W.heap[ms]? = some (.map (es.push (ent 2 (.iface 170 (.pointer (some ⟨p, 0, none⟩))) n)) (n + 1)) → w.heap.size ≤ p → w.heap.size ≤ lb' → Ses.Fr [bs, ms] w W →
      Calls Tryz.prog 64 #[.pointer (some ⟨bs, 0, none⟩), .pointer (some ⟨lb', 0, none⟩), keyV 2] W fun e w' => ∃ x lk, e = .returned (.slice x.1 x.2.1 x.2.2) ∧ WK W w' bs B p lb' 2 173 [.func (.func 64) #[.pointer (some ⟨bs, 0, none⟩)] #[], .func (.func G) #[] #[], .slice none 0 0, .slice none 0 0] f q' (.map (some ms)) rv us' bg kv lk l ul' ∧ Ses.Fr (bs :: lb' :: S) W w' ∧ V W.heap.size x w') :
    Calls Tryz.prog 66 #[.pointer (some ⟨lb, 0, none⟩), keyV 2, .agg #[.func (.func 64) #[.pointer (some ⟨bs, 0, none⟩)] #[], .func (.func G) #[] #[], .slice none 0 0]] w fun e w' => ∃ x p bg lk kv', e = .returned (.slice x.1 x.2.1 x.2.2) ∧
      FD w w' bs B p ms lb 2 173 170 (.map (es.push (ent 2 (.iface 170 (.pointer (some ⟨p, 0, none⟩))) n)) (n + 1)) lk [.func (.func 64) #[.pointer (some ⟨bs, 0, none⟩)] #[], .func (.func G) #[] #[], .slice none 0 0, .slice x.1 x.2.1 x.2.2] f q' rv us' bg kv kv' l ul' S ∧ V w.heap.size x w' ∧ (∃ a m c, w'.heap[lb]? = some (.cells #[.pointer (some ⟨bs, 1, none⟩), .slice a m c] 105)) := by
  have HUL := hid hul
  have HFK := hid hf
  have HMM := hid hM
  have hml := heap_lt hM
  have hlm : lb ≠ ms := fun e => by
    subst e
    have := hlb.symm.trans hM
    simp at this
  have HLM := hid hlm
  clear hM hf hlm
  have HUS := hid hus
  have HUS2 := hid hus2
  have HRV := hid hrv
  have HBB := hid hB
  have HM := hid hm
  clear hul hus hus2 hrv hB hm
  have l0 : w.cell? ⟨lb, 0, none⟩ = some (.pointer (some ⟨bs, 1, none⟩)) := heap_cell (i := 0) hlb
  have hbs := h.lt
  have HH := hid h
  have HLB := hid hlb
  have HWW := hid HW
  have HSS := hid hS
  have HVS := hid hVs
  have HVM := hid hVm
  clear h hlb HW hS hVs hVm
  go_enter Tryz.func66, Tryz.ntmps66
  go_wp2_with fail
  have hA := new_heap w (.cells #[.int .i64 2, .string ⟨#[97]⟩, .string ⟨#[]⟩] 107)
  have hA2 := old_heap (.cells #[.func (.func 64) #[.pointer (some ⟨bs, 0, none⟩)] #[], .func (.func G) #[] #[], .slice none 0 0] 129) hA
  have hR := new_heap (w.alloc (.cells #[.int .i64 2, .string ⟨#[97]⟩, .string ⟨#[]⟩] 107)) (.cells #[.func (.func 64) #[.pointer (some ⟨bs, 0, none⟩)] #[], .func (.func G) #[] #[], .slice none 0 0] 129)
  rw [show (w.alloc (.cells #[.int .i64 2, .string ⟨#[97]⟩, .string ⟨#[]⟩] 107)).heap.size = w.heap.size + 1 from by simp] at hR
  have hb0 := ((Below.refl w.heap.size w).alloc (Nat.le_refl _) (.cells #[.int .i64 2, .string ⟨#[97]⟩, .string ⟨#[]⟩] 107)).alloc (by simp) (.cells #[.func (.func 64) #[.pointer (some ⟨bs, 0, none⟩)] #[], .func (.func G) #[] #[], .slice none 0 0] 129)
  clear hA
  generalize (w.alloc (.cells #[.int .i64 2, .string ⟨#[97]⟩, .string ⟨#[]⟩] 107)).alloc (.cells #[.func (.func 64) #[.pointer (some ⟨bs, 0, none⟩)] #[], .func (.func G) #[] #[], .slice none 0 0] 129) = W0 at hA2 hR hb0 ⊢
  generalize w.heap.size = kb at hA2 hR ⊢
  have k0 : W0.cell? ⟨kb, 0, none⟩ = some (.int .i64 2) := heap_cell (i := 0) hA2
  have k1 : W0.cell? ⟨kb, 1, none⟩ = some (.string ⟨#[97]⟩) := heap_cell (i := 1) hA2
  have k2 : W0.cell? ⟨kb, 2, none⟩ = some (.string ⟨#[]⟩) := heap_cell (i := 2) hA2
  have r0 : W0.cell? ⟨kb + 1, 0, none⟩ = some _ := heap_cell (i := 0) hR
  have r1 : W0.cell? ⟨kb + 1, 1, none⟩ = some _ := heap_cell (i := 1) hR
  have r2 : W0.cell? ⟨kb + 1, 2, none⟩ = some _ := heap_cell (i := 2) hR
  have l2 : W0.cell? ⟨lb, 0, none⟩ = some (.pointer (some ⟨bs, 1, none⟩)) := cell_kept hb0 l0
  have HB0 := hid hb0
  clear hA2 hR hb0 l0
  have HFD : Hid (∀ W : World, Below w.heap.size w W → Calls Tryz.prog 92 #[.pointer (some ⟨bs, 1, none⟩), keyV 2, .agg #[.func (.func 64) #[.pointer (some ⟨bs, 0, none⟩)] #[], .func (.func G) #[] #[], .slice none 0 0]] W fun e w1 => ∃ p, e = .returned (.pointer (some ⟨p, 0, none⟩)) ∧ (FN w w1 bs p ms n es 173 170 f rv q (.slice none 0 0) kv us (slotL bs 2 false (.slice none 0 0) (-1) 0 (-1) 0 [.func (.func 64) #[.pointer (some ⟨bs, 0, none⟩)] #[], .func (.func G) #[] #[], .slice none 0 0, .slice none 0 0]) 2)) := hid (fun W hb => (findNewT bs 64 G ms n es W HFK.out (below_heap hb (heap_lt HMM.out) HMM.out) (below_heap hb (heap_lt HH.out.s) HH.out.s)).mono (by
    rintro e w1 ⟨p, he, h2⟩
    exact ⟨p, he, h2.lower hb⟩))
  have hD2 := hid (below_seq HB0.out (below_drew W0))
  have hD3 := hid (below_seq HB0.out (below_seq (below_drew W0) (below_drew W0.drew)))
  have hD4 := hid (below_seq HB0.out (below_seq (below_seq (below_drew W0) (below_drew W0.drew)) (below_drew W0.drew.drew)))
  apply share2 (F := fun (p : Nat) (w1 : World) => FN w w1 bs p ms n es 173 170 f rv q (.slice none 0 0) kv us (slotL bs 2 false (.slice none 0 0) (-1) 0 (-1) 0 [.func (.func 64) #[.pointer (some ⟨bs, 0, none⟩)] #[], .func (.func G) #[] #[], .slice none 0 0, .slice none 0 0]) 2)
  case main =>
    intro KEY
    go_region_with (go_at_call 92; go_must (refine (HFD.out _ (by first | exact HB0.out | exact hD2.out | exact hD3.out | exact hD4.out)).mono ?_; rintro e w1 ⟨p, rfl, hfn⟩; have hfn2 := hid hfn; clear hfn))
    all_goals
      exact KEY _ _ (Hid.out hfn2)
  case key =>
    intro p w1 hfn
    have hn := es_nlb HH.out HLB.out
    have hlm := HLM.out
    have hlb1 : w1.heap[lb]? = some (.cells #[.pointer (some ⟨bs, 1, none⟩), .slice none 0 0] 105) := (hfn.fr.block lb (heap_lt HLB.out) (by simp only [List.mem_cons, List.not_mem_nil, or_false, not_or]; exact ⟨hn.1.symm, hlm⟩)).trans HLB.out
    have z1 : w1.cell? ⟨lb, 1, none⟩ = some (.slice none 0 0) := heap_cell (i := 1) hlb1
    have HLB1 := hid hlb1
    have HFN := hid hfn
    have HN := hid hn
    clear hlb1 hfn hn hlm HFD hD2 hD3 hD4 k0 k2 r0 r1 r2 l2
    go_wp2_with fail
    refine (contains_nil _ _).mono ?_
    rintro e w2 ⟨rfl, rfl⟩
    have HSET : Hid (Calls Tryz.prog 85 #[.iface 170 (.pointer (some ⟨p, 0, none⟩)), .bool true] w2 fun e w' => e = .returned (.tuple #[]) ∧ ∃ rest' bg lk kv', DN w w' bs B p ms 2 173 170 (.map (es.push (ent 2 (.iface 170 (.pointer (some ⟨p, 0, none⟩))) n)) (n + 1)) lk rest' f q' rv us' bg kv kv' l ul' S ∧ (∃ x, rest' = [.func (.func 64) #[.pointer (some ⟨bs, 0, none⟩)] #[], .func (.func G) #[] #[], .slice none 0 0, .slice x.1 x.2.1 x.2.2] ∧ V w.heap.size x w')) := by
      have hms2 := es_nms HH.out (.inl HMM.out)
      have hmo := HFN.out.m
      have hmb : ms ≠ bs := fun e => by
        subst e
        have := hmo.symm.trans HFN.out.s
        simp at this
      refine settledNew (F := 279) (fun N r w => ∃ x, r = [.func (.func 64) #[.pointer (some ⟨bs, 0, none⟩)] #[], .func (.func G) #[] #[], .slice none 0 0, .slice x.1 x.2.1 x.2.2] ∧ V N x w) HH.out HRV.out mtT (by decide) HFN.out hmo (fun _ _ e => by simp at e) hms2.1 hms2.2 HUL.out (fun b hb => ⟨(HSS.out b hb).1, (HSS.out b hb).2.2.2.2, (HSS.out b hb).2.2.1, (HSS.out b hb).2.2.2.1⟩) ?_ ?_ ?_
      · rintro N r wa wb ⟨x, hr, hv⟩ hst
        exact ⟨x, hr, HVS.out _ _ _ _ hv hst⟩
      · rintro N N' r wa ⟨x, hr, hv⟩ hN
        exact ⟨x, hr, HVM.out _ _ _ _ hv hN⟩
      · intro wS heS hsS hmS hsz hfS
        have hwz := hfS.size
        have hlp := HFN.out.lp
        refine (workOutT heS (by have := HBB.out; omega) HM.out hsS (by have := HBB.out; omega) (fun i T' p' hi e => by have := (HH.out.blk i T' p' hi).2.2; omega) ⟨_, _, _, rfl⟩ q' us' ul' HUS.out HUS2.out (fun _ x w2 => Ses.Fr (bs :: S) wS w2 ∧ V wS.heap.size x w2) ?_).mono ?_
        · intro W bg lb' heW hsW hlW hlz hfW
          refine (HWW.out W bg lb' p heW hsW hlW ((hfW.block ms (heap_lt hmS) (by simpa using hmb)).trans hmS) hlp (by omega) (hfS.trans (hfW.mono (T := [bs, ms]) (fun b hb => .inl (by simp at hb ⊢; exact .inl hb))))).mono ?_
          rintro e w3 ⟨x, lk, he, hwk, hfr, hv⟩
          exact ⟨x, lk, he, hwk, frNew hfW hfr hlz, HVM.out _ _ _ _ hv hfW.size⟩
        · rintro e w3 ⟨he, W, w2, x, bg, lk, -, -, ⟨h1, h2⟩, han⟩
          exact ⟨he, w2, _, bg, lk, h1, ⟨x, rfl, h2⟩, han⟩
    clear z1
    go_wp2_with fail
    refine HSET.out.mono ?_
    rintro e w3 ⟨rfl, rest', bg, lk, kv', hdn, x, rfl, hv⟩
    have hn := HN.out
    have hlw := heap_lt HLB.out
    have hlm := HLM.out
    have hlS : lb ∉ bs :: ms :: kbk bs kv :: S := by
      simp only [List.mem_cons, not_or]
      exact ⟨hn.1.symm, by omega, kbk_mem hn.1.symm hn.2.1, fun e => (HSS.out lb e).2.1 rfl⟩
    have hlb3 := (hdn.fr.block lb hlw hlS).trans HLB.out
    have HDN := hid hdn
    have HV := hid hv
    have HLB3 := hid hlb3
    clear hdn hv hlb3 hlS HSET hlm hlw hn
    go_wp2_with fail
    refine (add_any lb p _ _ w3 HLB3.out).mono ?_
    rintro e w4 ⟨rfl, hf4, la, lm, lc, hlb4⟩
    have hpw := HFN.out.lp
    have hlw := heap_lt HLB.out
    have hpl : p ≠ lb := by omega
    have hsb := HDN.out.sb.fr' hf4 (by simpa using hpl)
    have d15 := hsb.cell (i := 15) rfl
    have HSB := hid hsb
    have HF4 := hid hf4
    have HLB4 := hid hlb4
    clear hsb hf4 hlb4 hpl hlw hpw
    go_wp2
    go_ret
    have hn := HN.out
    have hpw := HFN.out.lp
    have hlw := heap_lt HLB.out
    have hdn := HDN.out
    have hdz := hdn.fr.size
    refine ⟨x, p, bg, lk, kv', rfl, ⟨hdn.es.fr HF4.out (by simpa using hn.1) (fun g hg => ?_) (fun i T' p' hi => ?_), HSB.out, (HF4.out.block ms (heap_lt hdn.m) ?_).trans hdn.m, hpw, hdn.kb, ?_⟩, HVS.out _ _ _ _ HV.out ?_, la, lm, lc, HLB4.out⟩
    · simp only [List.mem_cons, List.not_mem_nil, or_false]
      intro e
      subst e
      rcases hdn.kb g hg with h1 | h1
      · exact hn.2.1 h1
      · omega
    · simp only [List.mem_cons, List.not_mem_nil, or_false]
      have hget : l[i]? = some (T', p') ∨ p' = p := by
        by_cases hil : i < l.length
        · rw [List.getElem?_append_left hil] at hi
          exact .inl hi
        · rw [List.getElem?_append_right (by omega)] at hi
          have h0 : i - l.length = 0 := by
            have := (List.getElem?_eq_some_iff.1 hi).1
            simp at this
            omega
          rw [h0] at hi
          simp at hi
          exact .inr hi.2.symm
      rcases hget with h1 | h1
      · exact hn.2.2 i T' p' h1
      · omega
    · have := HLM.out
      simp only [List.mem_cons, List.not_mem_nil, or_false]
      omega
    · refine (hdn.fr.mono (T := bs :: ms :: lb :: kbk bs kv :: S) (fun b hb => .inl ?_)).trans (HF4.out.mono (T := bs :: ms :: lb :: kbk bs kv :: S) (fun b hb => .inl ?_))
      · simp only [List.mem_cons] at hb ⊢
        rcases hb with h | h | h | h <;> simp [h]
      · simp at hb
        simp [hb]
    · exact St.of_fr HF4.out (fun b hb => by simp at hb; exact ⟨by omega, fun e => (HSS.out b e).2.1 hb⟩) (fun b hb => by have := (HSS.out b hb).1; omega)

end Go.Proofs.YtfekglokoafpiaaGreatDoor
