/-
  Use of a slot: a new one, the last one.
  A slot's cells.
  
  The table's map of slots, by key.
  
  Looks; the append of a key to the row of those begun.
  
  Looks: what is not there, what is added.
  What a slot looks at: a source.
  
  What a Fetch of a new slot leaves.
-/
import Derived.Test.YtfekglokoafpiaaGreatDoorQ22
import Derived.Laws.EntriesVeiled
import Derived.Laws.OwnMore
import Derived.Deep.AppendLies

set_option linter.unusedVariables false
set_option linter.unusedSimpArgs false

namespace Go.Proofs.YtfekglokoafpiaaGreatDoor
open Go.RowKit

theorem keepX2 {w1 w w' : World} {p1 p2 : Addr} {v1 v2 : Value} (h : Below w1.heap.size w1 w ∧ w.cell? p1 = some v1 ∧ w.cell? p2 = some v2) (hb : Below w.heap.size w w') :
    Below w1.heap.size w1 w' ∧ w'.cell? p1 = some v1 ∧ w'.cell? p2 = some v2 := ⟨below_seq h.1 hb, cell_kept hb h.2.1, cell_kept hb h.2.2⟩

/-- A slot's block. -/
def SB (w : World) (p : Nat) (TT : TypeId) (xs : List Value) : Prop := w.heap[p]? = some (.cells ⟨xs⟩ TT)

theorem SB.cell {w : World} {p : Nat} {TT : TypeId} {xs : List Value} (h : SB w p TT xs) {i : Nat} {v : Value} (hi : xs[i]? = some v) : w.cell? ⟨p, i, none⟩ = some v := by
  rw [heap_cell h]; simpa using hi
theorem SB.fr {w : World} {p : Nat} {TT : TypeId} {xs : List Value} (h : SB w p TT xs) (i : Nat) : w.frozen? ⟨p, i, none⟩ = false := heap_frozen h
theorem SB.lt {w : World} {p : Nat} {TT : TypeId} {xs : List Value} (h : SB w p TT xs) : p < w.heap.size := heap_lt h
theorem SB.set {w : World} {p : Nat} {TT : TypeId} {xs : List Value} (h : SB w p TT xs) (i : Nat) (v : Value) : SB (w.setCell ⟨p, i, none⟩ v) p TT (xs.set i v) := by
  have := heap_setCell_lit (i := i) h v
  simpa [SB] using this
theorem SB.other {w : World} {p : Nat} {TT : TypeId} {xs : List Value} (h : SB w p TT xs) {b : Nat} (hb : p ≠ b) (i : Nat) (v : Value) : SB (w.setCell ⟨b, i, none⟩ v) p TT xs := (heap_setCell_ne hb v).trans h
theorem SB.below {w w' : World} {p : Nat} {TT : TypeId} {xs : List Value} (h : SB w p TT xs) (hb : Below w.heap.size w w') : SB w' p TT xs := below_heap hb h.lt h
theorem SB.fr' {w w' : World} {p : Nat} {TT : TypeId} {xs : List Value} {S : List Nat} (h : SB w p TT xs) (hb : Ses.Fr S w w') (hp : p ∉ S) : SB w' p TT xs := (hb.block p h.lt hp).trans h

/-- A row's block is no slot's. -/
theorem SB.row {w : World} {p : Nat} {TT : TypeId} {xs : List Value} (h : SB w p TT xs) {B : Nat} {e : TypeId} {z n : Nat} {v : Value} {ys : List Value} (ho : w.ownsRow B e z v n ys) (hne : TT ≠ e) : v.ownBlock ≠ some p := by
  intro e1
  obtain ⟨_, ⟨h1, _⟩ | ⟨g, c, cur, hv, _, hg, _⟩⟩ := ho
  · rw [h1] at e1; simp [Value.ownBlock] at e1
  · rw [hv] at e1
    have : g = p := by simpa [Value.ownBlock] using e1
    subst this
    have h2 := h.symm.trans hg
    injection h2 with h2
    injection h2 with _ h3
    exact hne h3

abbrev kbk (bs : Nat) (kv : Value) : Nat := kv.ownBlock.getD bs

theorem kbk_mem {bs q : Nat} {kv : Value} (h : q ≠ bs) (hq : kv.ownBlock ≠ some q) : q ≠ kbk bs kv := by
  unfold kbk
  cases hk : kv.ownBlock with
  | none => simpa using h
  | some g => rw [hk] at hq; simpa using fun e => hq (by rw [e])

theorem ES.below {w w' : World} {bs B : Nat} {f q sm : Value} {rv us : Int} {bg kv : Value} {l : List (TypeId × Nat)} {ul : List Int} (h : ES w bs B f q sm rv us bg kv l ul) (hb : Below w.heap.size w w') : ES w' bs B f q sm rv us bg kv l ul :=
  ⟨below_heap hb (heap_lt h.s) h.s, h.lt, own_far h.own fun g hg => hb.block g (h.own.lt g hg).2, h.ulen, h.ty, fun i T p hi => by
    obtain ⟨a, b, c⟩ := h.blk i T p hi
    exact ⟨a, b, Nat.lt_of_lt_of_le c hb.size⟩, fun i T p u hi hu => (World.cell?_of_block (w := w) (hb.block p (h.blk i T p hi).2.2)).trans (h.used i T p u hi hu), h.le, h.up⟩

theorem ES.fr {w w' : World} {bs B : Nat} {f q sm : Value} {rv us : Int} {bg kv : Value} {l : List (TypeId × Nat)} {ul : List Int} {S : List Nat} (h : ES w bs B f q sm rv us bg kv l ul) (hb : Ses.Fr S w w') (h1 : bs ∉ S) (h2 : ∀ g, kv.ownBlock = some g → g ∉ S) (h3 : ∀ (i : Nat) T p, l[i]? = some (T, p) → p ∉ S) : ES w' bs B f q sm rv us bg kv l ul :=
  ⟨(hb.block bs (heap_lt h.s) h1).trans h.s, h.lt, own_far h.own fun g hg => hb.block g (h.own.lt g hg).2 (h2 g hg), h.ulen, h.ty, fun i T p hi => by
    obtain ⟨a, b, c⟩ := h.blk i T p hi
    exact ⟨a, b, Nat.lt_of_lt_of_le c hb.size⟩, fun i T p u hi hu => (World.cell?_of_block (w := w) (hb.block p (h.blk i T p hi).2.2 (h3 i T p hi))).trans (h.used i T p u hi hu), h.le, h.up⟩

/-- A store into a cell of the session that is none of the kept row. -/
theorem ES.setS {w : World} {bs B : Nat} {f q sm : Value} {rv us : Int} {bg kv : Value} {l : List (TypeId × Nat)} {ul : List Int} (h : ES w bs B f q sm rv us bg kv l ul) (i : Nat) (v : Value) {f' q' sm' : Value} {rv' us' : Int} {bg' : Value}
    (hs : (#[f, .int .i64 rv, q, sm, bg, kv, .int .u64 us] : Array Value).setIfInBounds i v = #[f', .int .i64 rv', q', sm', bg', kv, .int .u64 us']) (hle : us ≤ us') : ES (w.setCell ⟨bs, i, none⟩ v) bs B f' q' sm' rv' us' bg' kv l ul :=
  ⟨by rw [← hs]; exact heap_setCell_lit h.s v, h.lt, ownsRow_setCell_below (a := ⟨bs, i, none⟩) h.own h.lt _, h.ulen, h.ty, fun i T p hi => by
    obtain ⟨a, b, c⟩ := h.blk i T p hi
    exact ⟨a, b, by simpa using c⟩, fun j T p u hi hu => (World.cell?_setCell_other _ _ _ _ (by have := (h.blk j T p hi).1; have := h.lt; intro e; injection e with e1; omega)).trans (h.used j T p u hi hu), fun i u hi => Int.le_trans (h.le i u hi) hle, h.up⟩

/-- A store into a block that is none of theirs, or into no cell of use. -/
theorem ES.other {w : World} {bs B : Nat} {f q sm : Value} {rv us : Int} {bg kv : Value} {l : List (TypeId × Nat)} {ul : List Int} (h : ES w bs B f q sm rv us bg kv l ul) {p : Nat} (i : Nat) (v : Value) (hp : bs ≠ p) (hpg : kv.ownBlock ≠ some p) (hn : i ≠ 11 ∨ ∀ (i : Nat) T' p', l[i]? = some (T', p') → p' ≠ p) : ES (w.setCell ⟨p, i, none⟩ v) bs B f q sm rv us bg kv l ul :=
  ⟨(heap_setCell_ne hp v).trans h.s, h.lt, own_far h.own fun g hg => heap_setCell_ne (fun e => hpg (by rw [← e]; exact hg)) v, h.ulen, h.ty, fun i T p hi => by
    obtain ⟨a, b, c⟩ := h.blk i T p hi
    exact ⟨a, b, by simpa using c⟩, fun j T p' u hi hu => by
      rw [World.cell?_setCell_other]
      · exact h.used j T p' u hi hu
      · rcases hn with hn | hn
        · intro e; injection e with _ e2; exact hn e2
        · have := hn j T p' hi
          intro e; injection e with e1; exact this e1.symm, h.le, h.up⟩

/-- The last slot is used anew. -/
theorem ES.last {w : World} {bs B : Nat} {f q sm : Value} {rv us : Int} {bg kv : Value} {l : List (TypeId × Nat)} {ul : List Int} {T : TypeId} {p : Nat} {u0 : Int} (h : ES w bs B f q sm rv us bg kv (l ++ [(T, p)]) (ul ++ [u0])) {TT : TypeId} {xs : List Value} (hs : SB w p TT xs) (hl : 11 < xs.length) (hpn : ∀ (i : Nat) T' p', l[i]? = some (T', p') → p' ≠ p) (hlt : ∀ (i : Nat) u, ul[i]? = some u → u < us) :
    ES (w.setCell ⟨p, 11, none⟩ (.int .u64 us)) bs B f q sm rv us bg kv (l ++ [(T, p)]) (ul ++ [us]) := by
  have hul := h.ulen
  simp at hul
  obtain ⟨b1, b2, b3⟩ := h.blk l.length T p (list_last _ _)
  have hbs := h.lt
  have hcell : ∀ (j : Nat) T' p' u, (l ++ [(T, p)])[j]? = some (T', p') → (ul ++ [us])[j]? = some u → (w.setCell ⟨p, 11, none⟩ (.int .u64 us)).cell? ⟨p', 11, none⟩ = some (.int .u64 u) := by
    intro j T' p' u hj hu
    by_cases hjl : j < l.length
    · have hj' := hj
      rw [List.getElem?_append_left hjl] at hj'
      rw [List.getElem?_append_left (by omega)] at hu
      have hne := hpn j T' p' hj'
      rw [World.cell?_setCell_other _ _ _ _ (by intro e; injection e with e1; exact hne e1.symm)]
      exact h.used j T' p' u hj (by rw [List.getElem?_append_left (by omega)]; exact hu)
    · rw [List.getElem?_append_right (by omega)] at hu hj
      have h1 : j - l.length = 0 := by
        have := (List.getElem?_eq_some_iff.1 hj).1
        simp at this
        omega
      rw [h1] at hj
      rw [show j - ul.length = 0 by omega] at hu
      simp at hj hu
      obtain ⟨rfl, rfl⟩ := hj
      subst hu
      have h2 := hs.set 11 (.int .u64 us)
      exact h2.cell (by rw [List.getElem?_set_self hl])
  refine ⟨(heap_setCell_ne (by omega) _).trans h.s, h.lt, own_far h.own fun g hg => heap_setCell_ne (fun e => b2 (by rw [← e]; exact hg)) _, by simp [hul], h.ty, fun i T p hi => by
    obtain ⟨a, b, c⟩ := h.blk i T p hi
    exact ⟨a, b, by simpa using c⟩, hcell, fun i u hi => ?_, fun i j ui uj hij h1 h2 => ?_⟩
  · by_cases hil : i < ul.length
    · rw [List.getElem?_append_left hil] at hi
      have := hlt i u hi
      omega
    · rw [List.getElem?_append_right (by omega)] at hi
      have h1 : i - ul.length = 0 := by
        have := (List.getElem?_eq_some_iff.1 hi).1
        simp at this
        omega
      rw [h1] at hi
      simp at hi
      omega
  · by_cases hjl : j < ul.length
    · refine h.up i j ui uj hij ?_ ?_
      · rw [List.getElem?_append_left (by omega)] at h1 ⊢; exact h1
      · rw [List.getElem?_append_left (by omega)] at h2 ⊢; exact h2
    · have hj1 := (List.getElem?_eq_some_iff.1 h2).1
      simp at hj1
      rw [List.getElem?_append_left (by omega)] at h1
      rw [List.getElem?_append_right (by omega), show j - ul.length = 0 by omega] at h2
      simp at h2
      have := hlt i ui h1
      omega

/-- Behind a use of a new slot. -/
structure UN (w w' : World) (bs B p : Nat) (TT : TypeId) (xs : List Value) (f q sm : Value) (rv us : Int) (bg kv : Value) (l : List (TypeId × Nat)) (ul : List Int) (T : TypeId) : Prop where
  es : ∃ kv', ES w' bs B f q sm rv (us + 1) bg kv' (l ++ [(T, p)]) (ul ++ [us + 1]) ∧ (∀ q, kv'.ownBlock = some q → kv.ownBlock = some q ∨ w.heap.size ≤ q)
  sb : SB w' p TT ((xs.set 11 (.int .u64 (us + 1))).set 10 (.int .i64 (l.length : Nat)))
  fr : Ses.Fr [bs, p, kbk bs kv] w w'

set_option maxRecDepth 100000 in
set_option maxHeartbeats 1000000 in
theorem use_new {w : World} {bs B : Nat} {f q sm : Value} {rv us : Int} {bg kv : Value} {l : List (TypeId × Nat)} {ul : List Int} (h : ES w bs B f q sm rv us bg kv l ul) (hB : B ≤ w.heap.size) (hm : l.length ≤ 3) {T : TypeId} {F : FuncId} (hM : MT T F) {p : Nat} {TT : TypeId} {xs : List Value} (hs : SB w p TT xs) (hTT : TT ≠ 92) (hpB : B ≤ p) (hpn : ∀ (i : Nat) T' p', l[i]? = some (T', p') → p' ≠ p)
    (h0 : xs[0]? = some (.pointer (some ⟨bs, 1, none⟩))) (h10 : xs[10]? = some (.int .i64 (-1))) {u0 : Int} (h11 : xs[11]? = some (.int .u64 u0)) (hus : 0 ≤ us) (hus2 : us ≤ 1000) :
    Calls Tryz.prog 115 #[.iface T (.pointer (some ⟨p, 0, none⟩))] w fun e w' => e = .returned (.tuple #[]) ∧ UN w w' bs B p TT xs f q sm rv us bg kv l ul T := by
  have hbs : bs < B := h.lt
  have hpg := hs.row h.own hTT
  have c6 : w.cell? ⟨bs, 6, none⟩ = some (.int .u64 us) := heap_cell (i := 6) h.s
  have k6 : w.frozen? ⟨bs, 6, none⟩ = false := heap_frozen h.s
  have d0 := hs.cell h0
  have d10 := hs.cell h10
  have d11 := hs.cell h11
  have g11 := hs.fr 11
  have hne : bs ≠ p := by omega
  have hl11 : 11 < xs.length := (List.getElem?_eq_some_iff.1 h11).1
  have H1 := hid (h.setS 6 (.int .u64 (us + 1)) (us' := us + 1) rfl (by omega))
  have S1 := hid (hs.other (b := bs) (by omega) 6 (.int .u64 (us + 1)))
  have H2 := hid (H1.out.other 11 (.int .u64 (us + 1)) hne hpg (.inr hpn))
  have S2 := hid (S1.out.set 11 (.int .u64 (us + 1)))
  have F2 := hid ((((Ses.Fr.refl [bs, p, kbk bs kv] w).setCell ⟨bs, 6, none⟩ (.inl (by simp)) (.int .u64 (us + 1))).setCell ⟨p, 11, none⟩ (.inl (by simp)) (.int .u64 (us + 1))))
  have HB2 := hid (show B ≤ ((w.setCell ⟨bs, 6, none⟩ (.int .u64 (us + 1))).setCell ⟨p, 11, none⟩ (.int .u64 (us + 1))).heap.size by simpa using hB)
  have HPL := hid (show p < ((w.setCell ⟨bs, 6, none⟩ (.int .u64 (us + 1))).setCell ⟨p, 11, none⟩ (.int .u64 (us + 1))).heap.size by simpa using hs.lt)
  have HSZ := hid (show ((w.setCell ⟨bs, 6, none⟩ (.int .u64 (us + 1))).setCell ⟨p, 11, none⟩ (.int .u64 (us + 1))).heap.size = w.heap.size by simp)
  have HLE := hid h.le
  have HPN := hid hpn
  have HM := hid hm
  have HMT := hid hM
  have HPG := hid hpg
  have HPB := hid hpB
  have HNE := hid hne
  have H00 := hid (show (xs.set 11 (.int .u64 (us + 1)))[0]? = some (.pointer (some ⟨bs, 1, none⟩)) by rw [List.getElem?_set_ne (by decide)]; exact h0)
  have H10 := hid (show (xs.set 11 (.int .u64 (us + 1)))[10]? = some (.int .i64 (-1)) by rw [List.getElem?_set_ne (by decide)]; exact h10)
  have H11 := hid (show (xs.set 11 (.int .u64 (us + 1)))[11]? = some (.int .u64 (us + 1)) by rw [List.getElem?_set_self hl11])
  have m1 := hM.common
  have m2 := hM.ncommon
  have m3 := hM.isDropped
  have m4 := hM.nisDropped
  clear h hB hpg hpB hpn h0 h10 h11 hl11 hm hM
  go_enter Tryz.func115, Tryz.ntmps115
  go_wp2_with fail
  refine (common_any p _).mono ?_
  rintro e w1 ⟨rfl, rfl⟩
  go_wp2_with fail
  generalize (w1.setCell ⟨bs, 6, none⟩ (.int .u64 (us + 1))).setCell ⟨p, 11, none⟩ (.int .u64 (us + 1)) = W at H2 S2 F2 HB2 HPL HSZ ⊢
  clear m1 m2 d0 d10 d11 g11 c6 k6 H1 S1
  have e10 := S2.out.cell H10.out
  have e00 := S2.out.cell H00.out
  have e11 := S2.out.cell H11.out
  have e0 := S2.out.fr 10
  refine (dropped_any p (-1) _ e10).mono ?_
  rintro e w2 ⟨rfl, rfl⟩
  rw [show ((-1 : Int) == -1) = true from rfl]
  go_wp2_with fail
  refine (hpush H2.out HB2.out HM.out HMT.out HPB.out HPL.out HPG.out HPN.out e10 e0 e11 (fun i u hi => by have := HLE.out i u hi; omega)).mono ?_
  rintro e w3 ⟨rfl, w4, kv', hP, hE, hK, hb⟩
  have HE := hid hE
  have HP := hid hP
  have HK := hid hK
  have HB := hid hb
  clear hE hP hK hb e10 e11 e0
  go_wp2
  go_end0
  refine ⟨rfl, ⟨kv', HE.out.below HB.out, fun q hq => ?_⟩, ?_, ?_⟩
  · rcases HK.out q hq with h1 | h1
    · exact .inl h1
    · exact .inr (by have := HSZ.out; omega)
  · have h1 : SB w4 p TT ((xs.set 11 (.int .u64 (us + 1))).set 10 (.int .i64 (l.length : Nat))) := HP.out.slot.trans (S2.out.set 10 _)
    exact h1.below HB.out
  · refine F2.out.trans (Ses.Fr.trans (b := w4) ⟨HP.out.env.1, HP.out.env.2.1, HP.out.env.2.2, HP.out.size, fun k hk hn => ?_⟩ (Ses.Fr.of_below HB.out))
    simp only [List.mem_cons, not_or, List.not_mem_nil, not_false_eq_true, and_true] at hn
    refine HP.out.far k hk hn.1 hn.2.1 (fun e => hn.2.2 ?_)
    simp [kbk, e]

/-- Behind a use of the last slot. -/
structure UO (w w' : World) (bs B p : Nat) (TT : TypeId) (xs : List Value) (f q sm : Value) (rv us : Int) (bg kv : Value) (l : List (TypeId × Nat)) (ul : List Int) (T : TypeId) : Prop where
  es : ES w' bs B f q sm rv (us + 1) bg kv (l ++ [(T, p)]) (ul ++ [us + 1])
  sb : SB w' p TT (xs.set 11 (.int .u64 (us + 1)))
  fr : Ses.Fr [bs, p] w w'

set_option maxRecDepth 100000 in
set_option maxHeartbeats 1000000 in
theorem use_old {w : World} {bs B : Nat} {f q sm : Value} {rv us : Int} {bg kv : Value} {l : List (TypeId × Nat)} {ul : List Int} {T : TypeId} {p : Nat} {u0 : Int} (h : ES w bs B f q sm rv us bg kv (l ++ [(T, p)]) (ul ++ [u0])) (hm : l.length ≤ 3) {F : FuncId} (hM : MT T F) {TT : TypeId} {xs : List Value} (hs : SB w p TT xs) (hTT : TT ≠ 92) (hpn : ∀ (i : Nat) T' p', l[i]? = some (T', p') → p' ≠ p)
    (h0 : xs[0]? = some (.pointer (some ⟨bs, 1, none⟩))) (h10 : xs[10]? = some (.int .i64 (l.length : Nat))) (h11 : xs[11]? = some (.int .u64 u0)) (hus : 0 ≤ us) (hus2 : us ≤ 1000) :
    Calls Tryz.prog 115 #[.iface T (.pointer (some ⟨p, 0, none⟩))] w fun e w' => e = .returned (.tuple #[]) ∧ UO w w' bs B p TT xs f q sm rv us bg kv l ul T := by
  have hbs : bs < B := h.lt
  have hpB := (h.blk l.length T p (list_last _ _)).1
  have hpg := (h.blk l.length T p (list_last _ _)).2.1
  have c6 : w.cell? ⟨bs, 6, none⟩ = some (.int .u64 us) := heap_cell (i := 6) h.s
  have k6 : w.frozen? ⟨bs, 6, none⟩ = false := heap_frozen h.s
  have d0 := hs.cell h0
  have d10 := hs.cell h10
  have d11 := hs.cell h11
  have g11 := hs.fr 11
  have hne : bs ≠ p := by omega
  have hl11 : 11 < xs.length := (List.getElem?_eq_some_iff.1 h11).1
  have H1 := hid (h.setS 6 (.int .u64 (us + 1)) (us' := us + 1) rfl (by omega))
  have S1 := hid (hs.other (b := bs) (by omega) 6 (.int .u64 (us + 1)))
  have hlt : ∀ (i : Nat) u, ul[i]? = some u → u < us + 1 := fun i u hi => by
    have := h.le i u (by rw [List.getElem?_append_left (List.getElem?_eq_some_iff.1 hi).1]; exact hi)
    omega
  have H2 := hid (H1.out.last S1.out hl11 hpn hlt)
  have S2 := hid (S1.out.set 11 (.int .u64 (us + 1)))
  have F2 := hid ((((Ses.Fr.refl [bs, p] w).setCell ⟨bs, 6, none⟩ (.inl (by simp)) (.int .u64 (us + 1))).setCell ⟨p, 11, none⟩ (.inl (by simp)) (.int .u64 (us + 1))))
  have HLT := hid hlt
  have HUL := hid h.ulen
  have HM := hid hm
  have HMT := hid hM
  have H00 := hid (show (xs.set 11 (.int .u64 (us + 1)))[0]? = some (.pointer (some ⟨bs, 1, none⟩)) by rw [List.getElem?_set_ne (by decide)]; exact h0)
  have H10 := hid (show (xs.set 11 (.int .u64 (us + 1)))[10]? = some (.int .i64 (l.length : Nat)) by rw [List.getElem?_set_ne (by decide)]; exact h10)
  have m1 := hM.common
  have m2 := hM.ncommon
  have m3 := hM.isDropped
  have m4 := hM.nisDropped
  clear h hpg hpB hpn h0 h10 h11 hl11 hm hM hlt
  go_enter Tryz.func115, Tryz.ntmps115
  go_wp2_with fail
  refine (common_any p _).mono ?_
  rintro e w1 ⟨rfl, rfl⟩
  go_wp2_with fail
  generalize (w1.setCell ⟨bs, 6, none⟩ (.int .u64 (us + 1))).setCell ⟨p, 11, none⟩ (.int .u64 (us + 1)) = W at H2 S2 F2 ⊢
  clear m1 m2 d0 d10 d11 g11 c6 k6 H1 S1
  have e10 := S2.out.cell H10.out
  have e00 := S2.out.cell H00.out
  have hl2 : l.length ≤ 3 := HM.out
  refine (dropped_any p _ _ e10).mono ?_
  rintro e w2 ⟨rfl, rfl⟩
  rw [show (((l.length : Nat) : Int) == -1) = false from by rw [beq_eq_false_iff_ne]; omega]
  have HKR := hid (fun (wx : World) (hb : Below w2.heap.size w2 wx) => (H2.out.below hb).kr (by simp))
  have hul := HUL.out
  simp at hul
  have HFX : Hid (∀ wx : World, Below w2.heap.size w2 wx → Calls Tryz.prog 152 #[heapV bs, .int .i64 (l.length : Nat)] wx fun e w' => e = .returned (.tuple #[]) ∧ Below wx.heap.size wx w') := by
    intro wx hb
    obtain ⟨kb, c, hkv, hkr⟩ := HKR.out wx hb
    have hll : (l ++ [(T, p)]).length = l.length + 1 := by simp
    rw [hll] at hkr
    exact fix_last hkr l.length rfl (by omega) T p (us + 1) (list_last _ _) (by rw [← hul]; exact list_last _ _) (fun i ui hi h1 => HLT.out i ui (by rwa [List.getElem?_append_left (by omega)] at h1))
  unfold heapV at HFX
  have hS : Below w2.heap.size w2 w2 ∧ w2.cell? ⟨p, 0, none⟩ = some (.pointer (some ⟨bs, 1, none⟩)) ∧ w2.cell? ⟨p, 10, none⟩ = some (.int .i64 (l.length : Nat)) := ⟨Below.refl _ _, e00, e10⟩
  clear e00 e10
  go_wp2
  go_region_held3 (fun wx => Below w2.heap.size w2 wx ∧ wx.cell? ⟨p, 0, none⟩ = some (.pointer (some ⟨bs, 1, none⟩)) ∧ wx.cell? ⟨p, 10, none⟩ = some (.int .i64 (l.length : Nat)))
    (first
      | exact keepX2 (by assumption) (below_drew _)
      | exact keepX2 (by assumption) (by assumption)
      | exact keepX2 (by assumption) (Below.refl _ _)
      | exact keepX2 hS (below_drew _))
    (first
      | (go_at_call 152; refine (HFX.out _ ((by assumption : Below w2.heap.size w2 _ ∧ _).1)).mono ?_; rintro e w3 ⟨rfl, hb⟩))
  have hHeld := (by assumption : Below w2.heap.size w2 _ ∧ _)
  have HB := hid hHeld.1
  clear hHeld
  go_wp2
  go_end0
  exact ⟨rfl, H2.out.below HB.out, S2.out.below HB.out, F2.out.trans (Ses.Fr.of_below HB.out)⟩

end Go.Proofs.YtfekglokoafpiaaGreatDoor

namespace Go.Proofs.YtfekglokoafpiaaGreatDoor
open Go.RowKit

theorem dropped_new (p : Nat) (w : World) (h : w.cell? ⟨p, 10, none⟩ = some (.int .i64 (-1))) : Calls Tryz.prog 268 #[.pointer (some ⟨p, 0, none⟩)] w fun e w' => e = .returned (.bool true) ∧ w' = w := dropped_any p (-1) w h

/-- The cells of a slot of kind k, of the file a. -/
def slotL (bs k : Nat) (act : Bool) (lk : Value) (vf ch pl us : Int) (rest : List Value) : List Value :=
  .pointer (some ⟨bs, 1, none⟩) :: .int .i64 (k : Nat) :: .string ⟨#[97]⟩ :: .string ⟨#[]⟩ :: .bool act :: .bool false :: lk :: .int .i64 vf :: .int .i64 ch :: .bool false :: .int .i64 pl :: .int .u64 us :: rest

/-- A new slot, while it is worked out. -/
def newL (bs k : Nat) (rest : List Value) : List Value := slotL bs k true (.slice none 0 0) (-1) 0 (-1) 0 rest

/-- Behind the answer of a new slot. -/
structure AN (w w' : World) (bs B p k : Nat) (TT : TypeId) (lk : Value) (rest : List Value) (f q sm : Value) (rv us : Int) (bg kv : Value) (l : List (TypeId × Nat)) (ul : List Int) (T : TypeId) : Prop where
  es : ∃ kv', ES w' bs B f q sm rv (us + 1) bg kv' (l ++ [(T, p)]) (ul ++ [us + 1]) ∧ (∀ q, kv'.ownBlock = some q → kv.ownBlock = some q ∨ w.heap.size ≤ q)
  sb : SB w' p TT (slotL bs k true lk rv rv (l.length : Nat) (us + 1) rest)
  fr : Ses.Fr [bs, p, kbk bs kv] w w'

/-- The stores of answer into the slot's block; what they leave. -/
theorem an_of {w W w' : World} {bs B p k : Nat} {TT : TypeId} {lk : Value} {rest : List Value} {f q sm : Value} {rv us : Int} {bg kv : Value} {l : List (TypeId × Nat)} {ul : List Int} {T : TypeId} (hF : Ses.Fr [bs, p, kbk bs kv] w W) (hsz : W.heap.size = w.heap.size)
    (h : UN W w' bs B p TT (slotL bs k true lk rv rv (-1) 0 rest) f q sm rv us bg kv l ul T) : AN w w' bs B p k TT lk rest f q sm rv us bg kv l ul T := by
  obtain ⟨⟨kv', he, hk⟩, hs, hf⟩ := h
  exact ⟨⟨kv', he, fun q hq => by rw [← hsz]; exact hk q hq⟩, hs, hF.trans hf⟩

end Go.Proofs.YtfekglokoafpiaaGreatDoor

namespace Go.Proofs.YtfekglokoafpiaaGreatDoor
open Go.RowKit

set_option maxRecDepth 100000 in
set_option maxHeartbeats 1000000 in
theorem answerS {w : World} {bs B : Nat} {f q sm : Value} {rv us : Int} {bg kv : Value} {l : List (TypeId × Nat)} {ul : List Int} (h : ES w bs B f q sm rv us bg kv l ul) (hB : B ≤ w.heap.size) (hm : l.length ≤ 3) {p k : Nat} {wk sam lo va : Value} (hs : SB w p 167 (newL bs k [wk, sam, lo, va])) (hpB : B ≤ p) (hpn : ∀ (i : Nat) T' p', l[i]? = some (T', p') → p' ≠ p)
    (hus : 0 ≤ us) (hus2 : us ≤ 1000) (x : ByteArray) (lk : Value) (hlk : ∃ a m c, lk = .slice a m c) (hva : ∃ y, va = .string y) :
    Calls Tryz.prog 274 #[.pointer (some ⟨p, 0, none⟩), .string x, lk] w fun e w' => e = .returned (.tuple #[]) ∧ AN w w' bs B p k 167 lk [wk, sam, lo, .string x] f q sm rv us bg kv l ul 157 := by
  obtain ⟨la, lm, lc, rfl⟩ := hlk
  obtain ⟨y, rfl⟩ := hva
  have hbs : bs < B := h.lt
  have hne : bs ≠ p := by omega
  have hpg := hs.row h.own (by decide)
  have c1 : w.cell? ⟨bs, 1, none⟩ = some (.int .i64 rv) := heap_cell (i := 1) h.s
  have d0 := hs.cell (i := 0) rfl
  have d6 := hs.cell (i := 6) rfl
  have d7 := hs.cell (i := 7) rfl
  have d8 := hs.cell (i := 8) rfl
  have d9 := hs.cell (i := 9) rfl
  have d10 := hs.cell (i := 10) rfl
  have d15 := hs.cell (i := 15) rfl
  have g6 := hs.fr 6
  have g7 := hs.fr 7
  have g8 := hs.fr 8
  have g9 := hs.fr 9
  have g15 := hs.fr 15
  have HS := hid hs
  have HE := hid h
  have HPG := hid hpg
  have HN := hid hne
  clear h hs hpg hne
  go_enter Tryz.func274, Tryz.ntmps274
  go_wp2_with fail
  go_quiet ((go_at_call 268; refine Calls.quiet_of_same (dropped_new p _ d10)))
  go_wp2_with fail
  have HD := hid (below_drewN w nq)
  have HE1 := hid (HE.out.below HD.out)
  have HS1 := hid (HS.out.below HD.out)
  have HF1 := hid (Ses.Fr.of_below (S := [bs, p, kbk bs kv]) HD.out)
  have HZ := hid (show (w.drewN nq).heap.size = w.heap.size from rfl)
  generalize w.drewN nq = W at HE1 HS1 HF1 HZ ⊢
  have HE2 := hid (((((HE1.out.other 8 (.int .i64 rv) HN.out HPG.out (.inl (by decide))).other 15 (.string x) HN.out HPG.out (.inl (by decide))).other 6 (.slice la lm lc) HN.out HPG.out (.inl (by decide))).other 7 (.int .i64 rv) HN.out HPG.out (.inl (by decide))).other 9 (.bool false) HN.out HPG.out (.inl (by decide)))
  have HS2 := hid (((((HS1.out.set 8 (.int .i64 rv)).set 15 (.string x)).set 6 (.slice la lm lc)).set 7 (.int .i64 rv)).set 9 (.bool false))
  have HF2 := hid (((((HF1.out.setCell ⟨p, 8, none⟩ (.inl (by simp)) (.int .i64 rv)).setCell ⟨p, 15, none⟩ (.inl (by simp)) (.string x)).setCell ⟨p, 6, none⟩ (.inl (by simp)) (.slice la lm lc)).setCell ⟨p, 7, none⟩ (.inl (by simp)) (.int .i64 rv)).setCell ⟨p, 9, none⟩ (.inl (by simp)) (.bool false))
  have HZ2 := hid (show (((((W.setCell ⟨p, 8, none⟩ (.int .i64 rv)).setCell ⟨p, 15, none⟩ (.string x)).setCell ⟨p, 6, none⟩ (.slice la lm lc)).setCell ⟨p, 7, none⟩ (.int .i64 rv)).setCell ⟨p, 9, none⟩ (.bool false)).heap.size = w.heap.size by simpa using HZ.out)
  generalize ((((W.setCell ⟨p, 8, none⟩ (.int .i64 rv)).setCell ⟨p, 15, none⟩ (.string x)).setCell ⟨p, 6, none⟩ (.slice la lm lc)).setCell ⟨p, 7, none⟩ (.int .i64 rv)).setCell ⟨p, 9, none⟩ (.bool false) = W2 at HE2 HS2 HF2 HZ2 ⊢
  refine (use_new HE2.out (by have := HZ2.out; omega) hm mtS HS2.out (by decide) hpB hpn rfl rfl rfl hus hus2).mono ?_
  rintro e w3 ⟨rfl, hu⟩
  have HU := hid (an_of HF2.out HZ2.out hu)
  clear hu
  go_wp2
  go_end0
  exact ⟨rfl, HU.out⟩

end Go.Proofs.YtfekglokoafpiaaGreatDoor

namespace Go.Proofs.YtfekglokoafpiaaGreatDoor
open Go.RowKit

abbrev keyV (k : Int) : Value := .agg #[.int .i64 k, .string ⟨#[97]⟩, .string ⟨#[]⟩]
def ent (k : Int) (v : Value) (b : Nat) : MapEntry := { key := keyV k, val := v, born := b }

theorem lookS_nil (w : World) : (Instr.lookup 43 (.map none) (keyV 1) false).run Tryz.prog w = .ok .nilIface w := by kernel_rfl

theorem look_by {w : World} {b n : Nat} {es : Array MapEntry} {k : Int} (h : w.heap[b]? = some (.map es n)) (hc : ∀ e w, (Instr.checkKey e 10000 107 (keyV k)).run Tryz.prog w = .ok () w) (hf : ∀ w, (Instr.findKey 107 (keyV k) es.toList).run Tryz.prog w = .ok none w) :
    (Instr.lookup 43 (.map (some b)) (keyV k) false).run Tryz.prog w = .ok .nilIface w := by
  simp [Instr.lookup, run_underlying Tryz.underlying43, MapKept.run_getObj_map h, hc, hf, Result.andThen]

theorem look_at {w : World} {b n : Nat} {es : Array MapEntry} {k : Int} {i : Nat} {v : Value} (h : w.heap[b]? = some (.map es n)) (hc : ∀ e w, (Instr.checkKey e 10000 107 (keyV k)).run Tryz.prog w = .ok () w) (hf : ∀ w, (Instr.findKey 107 (keyV k) es.toList).run Tryz.prog w = .ok (some (i, v)) w) :
    (Instr.lookup 43 (.map (some b)) (keyV k) false).run Tryz.prog w = .ok v w := by
  simp [Instr.lookup, run_underlying Tryz.underlying43, MapKept.run_getObj_map h, hc, hf, Result.andThen]

theorem store_by {w : World} {b n : Nat} {es : Array MapEntry} {k : Int} (v : Value) (h : w.heap[b]? = some (.map es n)) (hc : ∀ e w, (Instr.checkKey e 10000 107 (keyV k)).run Tryz.prog w = .ok () w) (hf : ∀ w, (Instr.findKey 107 (keyV k) es.toList).run Tryz.prog w = .ok none w) :
    (Instr.mapUpdate 43 (.map (some b)) (keyV k) v).run Tryz.prog w = .ok () (Ses.setO w b (.map (es.push (ent k v n)) (n + 1))) := by
  simp [Instr.mapUpdate, run_underlying Tryz.underlying43, MapKept.run_getObj_map h, hc, hf, MapKept.run_setObj_map _ h, Result.andThen, ent, Ses.setO]

theorem ck (k : Int) (e : Bool) (w : World) : (Instr.checkKey e 10000 107 (keyV k)).run Tryz.prog w = .ok () w := by kernel_rfl

theorem fk1 (w : World) : (Instr.findKey 107 (keyV 1) []).run Tryz.prog w = .ok none w := by kernel_rfl
theorem fk2 (v1 : Value) (w : World) : (Instr.findKey 107 (keyV 2) [ent 1 v1 0]).run Tryz.prog w = .ok none w := by kernel_rfl
theorem fk3 (v1 v2 : Value) (w : World) : (Instr.findKey 107 (keyV 3) [ent 1 v1 0, ent 2 v2 1]).run Tryz.prog w = .ok none w := by kernel_rfl
theorem fk4 (v1 v2 v3 : Value) (w : World) : (Instr.findKey 107 (keyV 4) [ent 1 v1 0, ent 2 v2 1, ent 3 v3 2]).run Tryz.prog w = .ok none w := by kernel_rfl
theorem fo2 (v1 v2 v3 : Value) (w : World) : (Instr.findKey 107 (keyV 2) [ent 1 v1 0, ent 2 v2 1, ent 3 v3 2]).run Tryz.prog w = .ok (some (1, v2)) w := by kernel_rfl
theorem fo3 (v1 v2 v3 v4 : Value) (w : World) : (Instr.findKey 107 (keyV 3) [ent 1 v1 0, ent 2 v2 1, ent 3 v3 2, ent 4 v4 3]).run Tryz.prog w = .ok (some (2, v3)) w := by kernel_rfl

end Go.Proofs.YtfekglokoafpiaaGreatDoor

namespace Go.Proofs.YtfekglokoafpiaaGreatDoor
open Go.RowKit

theorem keepX4 {w2 w w' : World} {p0 p1 p2 p3 : Addr} {v0 v1 v2 v3 : Value} (h : Below w2.heap.size w2 w ∧ w.cell? p0 = some v0 ∧ w.cell? p1 = some v1 ∧ w.cell? p2 = some v2 ∧ w.cell? p3 = some v3) (hb : Below w.heap.size w w') :
    Below w2.heap.size w2 w' ∧ w'.cell? p0 = some v0 ∧ w'.cell? p1 = some v1 ∧ w'.cell? p2 = some v2 ∧ w'.cell? p3 = some v3 := ⟨below_seq h.1 hb, cell_kept hb h.2.1, cell_kept hb h.2.2.1, cell_kept hb h.2.2.2.1, cell_kept hb h.2.2.2.2⟩

def Inv5 (w2 w : World) (kb bs : Nat) (v0 v3 : Value) : Prop := Below w2.heap.size w2 w ∧ w.cell? ⟨kb, 0, none⟩ = some v0 ∧ w.cell? ⟨kb, 1, none⟩ = some (.string ⟨#[97]⟩) ∧ w.cell? ⟨kb, 2, none⟩ = some (.string ⟨#[]⟩) ∧ w.cell? ⟨bs, 3, none⟩ = some v3 ∧ w.frozen? ⟨kb, 1, none⟩ = false ∧ w.frozen? ⟨kb, 2, none⟩ = false

theorem lt_of_cell {w : World} {p : Addr} {v : Value} (h : w.cell? p = some v) : p.block < w.heap.size := by
  rcases Nat.lt_or_ge p.block w.heap.size with h1 | h1
  · exact h1
  · simp [World.cell?, Array.getElem?_eq_none h1] at h

theorem keepX5 {w2 w w' : World} {kb bs : Nat} {v0 v3 : Value} (h : Inv5 w2 w kb bs v0 v3) (hb : Below w.heap.size w w') : Inv5 w2 w' kb bs v0 v3 :=
  ⟨below_seq h.1 hb, cell_kept hb h.2.1, cell_kept hb h.2.2.1, cell_kept hb h.2.2.2.1, cell_kept hb h.2.2.2.2.1, (hb.frozen (p := ⟨kb, 1, none⟩) (lt_of_cell h.2.2.1)).trans h.2.2.2.2.2.1, (hb.frozen (p := ⟨kb, 2, none⟩) (lt_of_cell h.2.2.2.1)).trans h.2.2.2.2.2.2⟩

theorem keepX5s1 {w2 w : World} {kb bs : Nat} {v0 v3 : Value} (h : Inv5 w2 w kb bs v0 v3) : Inv5 w2 (w.setCell ⟨kb, 1, none⟩ (.string ⟨#[97]⟩)) kb bs v0 v3 := by
  rw [Ses.setCell_same h.2.2.1]; exact h
theorem keepX5s2 {w2 w : World} {kb bs : Nat} {v0 v3 : Value} (h : Inv5 w2 w kb bs v0 v3) : Inv5 w2 (w.setCell ⟨kb, 2, none⟩ (.string ⟨#[]⟩)) kb bs v0 v3 := by
  rw [Ses.setCell_same h.2.2.2.1]; exact h

/-- Behind the laying of a slot, ahead of the store into the map of slots. -/
structure LSE (W2 W : World) (bs kb p ms n : Nat) (es : Array MapEntry) (TT : TypeId) (f : Value) (rv : Int) (q bg kv : Value) (us : Int) (cs : Array Value) (k : Int) : Prop where
  s : W.heap[bs]? = some (.cells #[f, .int .i64 rv, q, .map (some ms), bg, kv, .int .u64 us] 51)
  k : W.heap[kb]? = some (.cells #[.int .i64 k, .string ⟨#[97]⟩, .string ⟨#[]⟩] 107)
  p : W.heap[p]? = some (.cells cs TT)
  m : W.heap[ms]? = some (.map es n)
  fr : Ses.Fr [bs] W2 W

theorem pre_of {W2 : World} {bs kb p : Nat} {TT : TypeId} {f : Value} {rv : Int} {q bg kv : Value} {us : Int} {cs : Array Value} {k : Int} (hs : W2.heap[bs]? = some (.cells #[f, .int .i64 rv, q, .map none, bg, kv, .int .u64 us] 51)) (hk : W2.heap[kb]? = some (.cells #[.int .i64 k, .string ⟨#[97]⟩, .string ⟨#[]⟩] 107))
    (hN : (W2.alloc (.cells cs TT)).heap[W2.heap.size]? = some (.cells cs TT)) (hne : kb ≠ bs) (hp : p = W2.heap.size) :
    LSE W2 (((W2.alloc (.cells cs TT)).alloc (.map #[] 0)).setCell ⟨bs, 3, none⟩ (.map (some (W2.heap.size + 1)))) bs kb p (W2.heap.size + 1) 0 #[] TT f rv q bg kv us cs k := by
  have h1 := heap_lt hs
  subst hp
  have hz : (W2.alloc (.cells cs TT)).heap.size = W2.heap.size + 1 := by simp
  have hm := new_heap (W2.alloc (.cells cs TT)) (.map #[] 0)
  rw [hz] at hm
  exact ⟨heap_setCell_lit (i := 3) (old_heap _ (old_heap _ hs)) _, (heap_setCell_ne hne _).trans (old_heap _ (old_heap _ hk)), (heap_setCell_ne (by omega) _).trans (old_heap _ hN), (heap_setCell_ne (by omega) _).trans hm, (((Ses.Fr.refl _ _).alloc _).alloc _).setCell _ (.inl (by simp)) _⟩

/-- Behind find of a new slot: it is laid, and in the map. -/
structure FN (w w' : World) (bs p ms n : Nat) (es : Array MapEntry) (TT T : TypeId) (f : Value) (rv : Int) (q bg kv : Value) (us : Int) (cs : List Value) (k : Int) : Prop where
  s : w'.heap[bs]? = some (.cells #[f, .int .i64 rv, q, .map (some ms), bg, kv, .int .u64 us] 51)
  sb : SB w' p TT cs
  m : w'.heap[ms]? = some (.map (es.push (ent k (.iface T (.pointer (some ⟨p, 0, none⟩))) n)) (n + 1))
  lp : w.heap.size ≤ p
  fr : Ses.Fr [bs, ms] w w'

theorem LSE.fn {w W2 W : World} {bs kb p ms n : Nat} {es : Array MapEntry} {TT : TypeId} {f : Value} {rv : Int} {q bg kv : Value} {us : Int} {cs : Array Value} {k : Int} (h : LSE W2 W bs kb p ms n es TT f rv q bg kv us cs k) (hF : Ses.Fr [bs] w W2) (hp : W2.heap.size ≤ p) (T : TypeId) :
    FN w (Ses.setO W.drew ms (.map (es.push (ent k (.iface T (.pointer (some ⟨p, 0, none⟩))) n)) (n + 1))) bs p ms n es TT T f rv q bg kv us cs.toList k := by
  have hd : ∀ (i : Nat) cs' TT', W.heap[i]? = some (.cells cs' TT') → i ≠ ms := fun i cs' TT' hi e => by
    subst e
    have := hi.symm.trans h.m
    simp at this
  have hms := heap_lt h.m
  refine ⟨(Ses.setO_ne _ _ _ _ (hd _ _ _ h.s)).trans h.s, (Ses.setO_ne _ _ _ _ (hd _ _ _ h.p)).trans h.p, Ses.setO_eq _ (show W.drew.heap[ms]? = _ from h.m), ?_, ?_⟩
  · have := hF.size; omega
  · exact ((hF.trans h.fr).mono (T := [bs, ms]) (fun k hk => .inl (by simp at hk ⊢; exact .inl hk))).drew.setO _ (.inl (by simp)) _

set_option maxRecDepth 100000 in
set_option maxHeartbeats 400000 in
theorem textRule_any (F bs : Nat) (w : World) :
    Calls Tryz.prog 58 #[.func (.func F) #[.pointer (some ⟨bs, 0, none⟩)] #[]] w fun e w' => e = .returned (.agg #[.func (.func F) #[.pointer (some ⟨bs, 0, none⟩)] #[], .func (.func 87) #[] #[], .string ⟨#[]⟩]) ∧ Below w.heap.size w w' := by
  have HBL := hid (below_newE w (.cells #[.func (.func F) #[.pointer (some ⟨bs, 0, none⟩)] #[], .func (.func 87) #[] #[], .string ⟨#[]⟩] 111))
  go_enter Tryz.func58, Tryz.ntmps58
  go_wp2_with fail
  refine bodyPost_ret (v := .agg #[.func (.func F) #[.pointer (some ⟨bs, 0, none⟩)] #[], .func (.func 87) #[] #[], .string ⟨#[]⟩]) (by simp [results, Tryz.results58, go_sem]; try rfl) rfl ?_
  exact ⟨rfl, HBL.out⟩

theorem asNone (w : World) (xT : TypeId) : (Instr.typeAssert .nilIface xT 157 true).run Tryz.prog w = .ok (.tuple #[.pointer none, .bool false]) w := by kernel_rfl

set_option maxRecDepth 100000 in
set_option maxHeartbeats 400000 in
theorem findNewS {f q bg kv : Value} {rv us : Int} (bs F : Nat) (w : World) (h3 : w.heap[bs]? = some (.cells #[f, .int .i64 rv, q, .map none, bg, kv, .int .u64 us] 51)) :
    Calls Tryz.prog 83 #[.pointer (some ⟨bs, 1, none⟩), .agg #[.int .i64 1, .string ⟨#[97]⟩, .string ⟨#[]⟩], .agg #[.func (.func F) #[.pointer (some ⟨bs, 0, none⟩)] #[], .func (.func 87) #[] #[], .string ⟨#[]⟩]] w fun e w' => ∃ p ms, e = .returned (.pointer (some ⟨p, 0, none⟩)) ∧ w.heap.size ≤ ms ∧ FN w w' bs p ms 0 #[] 167 157 f rv q bg kv us (slotL bs 1 false (.slice none 0 0) (-1) 0 (-1) 0 [.func (.func F) #[.pointer (some ⟨bs, 0, none⟩)] #[], .func (.func 87) #[] #[], .string ⟨#[]⟩, .string ⟨#[]⟩]) 1 := by
  have m1 := lookS_nil
  have m2 := asNone
  have hA := new_heap w (.cells #[.int .i64 1, .string ⟨#[97]⟩, .string ⟨#[]⟩] 107)
  have hA2 := old_heap (.cells #[.func (.func F) #[.pointer (some ⟨bs, 0, none⟩)] #[], .func (.func 87) #[] #[], .string ⟨#[]⟩] 111) hA
  have hR := new_heap (w.alloc (.cells #[.int .i64 1, .string ⟨#[97]⟩, .string ⟨#[]⟩] 107)) (.cells #[.func (.func F) #[.pointer (some ⟨bs, 0, none⟩)] #[], .func (.func 87) #[] #[], .string ⟨#[]⟩] 111)
  rw [show (w.alloc (.cells #[.int .i64 1, .string ⟨#[97]⟩, .string ⟨#[]⟩] 107)).heap.size = w.heap.size + 1 from by simp] at hR
  have hS := old_heap (.cells #[.func (.func F) #[.pointer (some ⟨bs, 0, none⟩)] #[], .func (.func 87) #[] #[], .string ⟨#[]⟩] 111) (old_heap (.cells #[.int .i64 1, .string ⟨#[97]⟩, .string ⟨#[]⟩] 107) h3)
  have HBL := hid (((Below.refl w.heap.size w).alloc (Nat.le_refl _) (.cells #[.int .i64 1, .string ⟨#[97]⟩, .string ⟨#[]⟩] 107)).alloc (by simp) (.cells #[.func (.func F) #[.pointer (some ⟨bs, 0, none⟩)] #[], .func (.func 87) #[] #[], .string ⟨#[]⟩] 111))
  clear hA
  go_enter Tryz.func83, Tryz.ntmps83
  go_wp2_with fail
  generalize (w.alloc (.cells #[.int .i64 1, .string ⟨#[97]⟩, .string ⟨#[]⟩] 107)).alloc (.cells #[.func (.func F) #[.pointer (some ⟨bs, 0, none⟩)] #[], .func (.func 87) #[] #[], .string ⟨#[]⟩] 111) = W at hA2 hR hS HBL ⊢
  generalize hkb : w.heap.size = kb at hA2 hR ⊢
  have k0 : W.cell? ⟨kb, 0, none⟩ = some (.int .i64 1) := heap_cell (i := 0) hA2
  have k1 : W.cell? ⟨kb, 1, none⟩ = some (.string ⟨#[97]⟩) := heap_cell (i := 1) hA2
  have k2 : W.cell? ⟨kb, 2, none⟩ = some (.string ⟨#[]⟩) := heap_cell (i := 2) hA2
  have s3 : W.cell? ⟨bs, 3, none⟩ = some (.map none) := heap_cell (i := 3) hS
  have HS := hid hS
  have HA := hid hA2
  have HR := hid hR
  have HKB := hid hkb
  have hbk : bs < kb := by have := heap_lt h3; omega
  clear hA2 hR hS h3 hkb
  have hS : Below W.heap.size W W ∧ W.cell? ⟨kb, 0, none⟩ = some (.int .i64 1) ∧ W.cell? ⟨kb, 1, none⟩ = some (.string ⟨#[97]⟩) ∧ W.cell? ⟨kb, 2, none⟩ = some (.string ⟨#[]⟩) ∧ W.cell? ⟨bs, 3, none⟩ = some (.map none) := ⟨Below.refl _ _, k0, k1, k2, s3⟩
  clear k0 k1 k2 s3
  go_region_held3 (fun wx => Below W.heap.size W wx ∧ wx.cell? ⟨kb, 0, none⟩ = some (.int .i64 1) ∧ wx.cell? ⟨kb, 1, none⟩ = some (.string ⟨#[97]⟩) ∧ wx.cell? ⟨kb, 2, none⟩ = some (.string ⟨#[]⟩) ∧ wx.cell? ⟨bs, 3, none⟩ = some (.map none))
    (first
      | exact keepX4 (by assumption) (below_drew _)
      | exact keepX4 (by assumption) (Below.refl _ _)
      | exact keepX4 hS (below_drew _))
    (first | fail)
  have hHeld := (by assumption : Below W.heap.size W _ ∧ _)
  generalize W.drew = W1 at hHeld ⊢
  obtain ⟨hb1, k0, k1, k2, s3⟩ := hHeld
  have HS1 := hid (Ses.below_heap hb1 HS.out)
  have HA1 := hid (Ses.below_heap hb1 HA.out)
  have HR1 := hid (Ses.below_heap hb1 HR.out)
  have HB1 := hid hb1
  have g1 : W1.frozen? ⟨kb, 1, none⟩ = false := heap_frozen HA1.out
  have g2 : W1.frozen? ⟨kb, 2, none⟩ = false := heap_frozen HA1.out
  have hT : Inv5 W1 W1 kb bs (.int .i64 1) (.map none) := ⟨Below.refl _ _, k0, k1, k2, s3, g1, g2⟩
  clear hb1 hS m1 m2 k0 k1 k2 s3 g1 g2
  go_wp2
  go_region_held3 (fun wx => Below W1.heap.size W1 wx ∧ wx.cell? ⟨kb, 0, none⟩ = some (.int .i64 1) ∧ wx.cell? ⟨kb, 1, none⟩ = some (.string ⟨#[97]⟩) ∧ wx.cell? ⟨kb, 2, none⟩ = some (.string ⟨#[]⟩) ∧ wx.cell? ⟨bs, 3, none⟩ = some (.map none) ∧ wx.frozen? ⟨kb, 1, none⟩ = false ∧ wx.frozen? ⟨kb, 2, none⟩ = false)
    (first
      | exact keepX5 (by assumption) (below_drew _)
      | exact keepX5 (by assumption) (by assumption)
      | exact keepX5s1 (by assumption)
      | exact keepX5s2 (by assumption)
      | exact keepX5 (by assumption) (Below.refl _ _)
      | exact keepX5 hT (below_drew _))
    (first
      | (go_at_call 23; refine (Ses.clone_any _ _ (by decide)).mono ?_; rintro e w8 ⟨rfl, hb8⟩))
  have hHeld := (by assumption : Below W1.heap.size W1 _ ∧ _)
  generalize (w8.setCell ⟨kb, 1, none⟩ (.string ⟨#[97]⟩)).setCell ⟨kb, 2, none⟩ (.string ⟨#[]⟩) = W2 at hHeld ⊢
  obtain ⟨hb2, k0, k1, k2, s3, g1, g2⟩ := hHeld
  have HS2 := hid (Ses.below_heap hb2 HS1.out)
  have HA2 := hid (Ses.below_heap hb2 HA1.out)
  have hr2 := Ses.below_heap hb2 HR1.out
  have HB2 := hid hb2
  have r0 : W2.cell? ⟨kb + 1, 0, none⟩ = some _ := heap_cell (i := 0) hr2
  have r1 : W2.cell? ⟨kb + 1, 1, none⟩ = some _ := heap_cell (i := 1) hr2
  have r2 : W2.cell? ⟨kb + 1, 2, none⟩ = some _ := heap_cell (i := 2) hr2
  have hs2 := HS2.out
  have ha2 := HA2.out
  have e3 : ∀ o, (W2.alloc o).cell? ⟨bs, 3, none⟩ = some (.map none) := fun o => heap_cell (i := 3) (old_heap o hs2)
  have f3 : ∀ o, (W2.alloc o).frozen? ⟨bs, 3, none⟩ = false := fun o => heap_frozen (old_heap o hs2)
  have e0 : ∀ o, (W2.alloc o).cell? ⟨kb, 0, none⟩ = some (.int .i64 1) := fun o => heap_cell (i := 0) (old_heap o ha2)
  have e1 : ∀ o, (W2.alloc o).cell? ⟨kb, 1, none⟩ = some (.string ⟨#[97]⟩) := fun o => heap_cell (i := 1) (old_heap o ha2)
  have e2 : ∀ o, (W2.alloc o).cell? ⟨kb, 2, none⟩ = some (.string ⟨#[]⟩) := fun o => heap_cell (i := 2) (old_heap o ha2)
  have e33 : ∀ o o', ((W2.alloc o).alloc o').cell? ⟨bs, 3, none⟩ = some (.map none) := fun o o' => heap_cell (i := 3) (old_heap o' (old_heap o hs2))
  have f33 : ∀ o o', ((W2.alloc o).alloc o').frozen? ⟨bs, 3, none⟩ = false := fun o o' => heap_frozen (old_heap o' (old_heap o hs2))
  have hmn : ∀ W : World, (binOp .eql 43 (.map none) (.map none)).run Tryz.prog W = .ok (.bool true) W := fun W => run_eql_map_nil W 43 107 92 none Tryz.underlying43
  have hmk : ∀ W : World, (Instr.makeMap 43 none).run Tryz.prog W = .ok (.map (some W.heap.size)) (W.alloc (.map #[] 0)) := fun W => @run_makeMap Tryz.prog 43 W
  clear hb2 hT hr2 g1 g2
  go_wp2
  have hsL := heap_lt hs2
  have haL := heap_lt ha2
  have hN := new_heap W2 (.cells #[.pointer (some ⟨bs, 1, none⟩), .int .i64 1, .string ⟨#[97]⟩, .string ⟨#[]⟩, .bool false, .bool false, .slice none 0 0, .int .i64 (-1), .int .i64 0, .bool false, .int .i64 (-1), .int .u64 0, .func (.func F) #[.pointer (some ⟨bs, 0, none⟩)] #[], .func (.func 87) #[] #[], .string ⟨#[]⟩, .string ⟨#[]⟩] 167)
  have hP := hid (pre_of (f := f) (rv := rv) (q := q) (bg := bg) (kv := kv) (us := us) hs2 ha2 hN (by omega) rfl)
  generalize ((W2.alloc (.cells #[.pointer (some ⟨bs, 1, none⟩), .int .i64 1, .string ⟨#[97]⟩, .string ⟨#[]⟩, .bool false, .bool false, .slice none 0 0, .int .i64 (-1), .int .i64 0, .bool false, .int .i64 (-1), .int .u64 0, .func (.func F) #[.pointer (some ⟨bs, 0, none⟩)] #[], .func (.func 87) #[] #[], .string ⟨#[]⟩, .string ⟨#[]⟩] 167)).alloc (.map #[] 0)).setCell ⟨bs, 3, none⟩ (.map (some (W2.heap.size + 1))) = W3 at hP ⊢
  clear hN e3 f3 e0 e1 e2 e33 f33 hmn hmk k0 k1 k2 s3 r0 r1 r2 hs2 ha2
  have q3 : W3.cell? ⟨bs, 3, none⟩ = some (.map (some (W2.heap.size + 1))) := heap_cell (i := 3) hP.out.s
  have k0 : W3.cell? ⟨kb, 0, none⟩ = some (.int .i64 1) := heap_cell (i := 0) hP.out.k
  have k1 : W3.cell? ⟨kb, 1, none⟩ = some (.string ⟨#[97]⟩) := heap_cell (i := 1) hP.out.k
  have k2 : W3.cell? ⟨kb, 2, none⟩ = some (.string ⟨#[]⟩) := heap_cell (i := 2) hP.out.k
  have hm3 := hP.out.m
  have hst : ∀ W : World, W.heap[W2.heap.size + 1]? = some (.map #[] 0) → (Instr.mapUpdate 43 (.map (some (W2.heap.size + 1))) (keyV 1) (.iface 157 (.pointer (some ⟨W2.heap.size, 0, none⟩)))).run Tryz.prog W = .ok () (Ses.setO W (W2.heap.size + 1) (.map (#[].push (ent 1 (.iface 157 (.pointer (some ⟨W2.heap.size, 0, none⟩))) 0)) (0 + 1))) := fun W hW => store_by _ hW (ck 1) fk1
  have hst0 := hst W3 hm3
  have hst1 := hst W3.drew hm3
  have hst2 := hst W3.drew.drew hm3
  clear hst
  go_region_with fail
  all_goals
    go_wp2
    go_ret
    refine ⟨_, _, rfl, (by have := HBL.out.size; have := HB1.out.size; have := HB2.out.size; omega), hP.out.fn ?_ (Nat.le_refl _) _⟩
    have hw : Below w.heap.size w W := HBL.out
    exact (Ses.Fr.of_below hw).trans ((Ses.Fr.of_below HB1.out).trans (Ses.Fr.of_below HB2.out))
end Go.Proofs.YtfekglokoafpiaaGreatDoor

namespace Go.Proofs.YtfekglokoafpiaaGreatDoor
open Go.RowKit

theorem infoKeyE : (Tryz.prog.info? 107).map (fun i => (i.zero, i.size, i.bytes)) = some (some (.agg #[.int .i64 0, .string ⟨#[]⟩, .string ⟨#[]⟩]), 3, 40) := by kernel_rfl

set_option maxHeartbeats 400000 in
theorem newLooks (bs : Nat) (w : World) : Calls Tryz.prog 33 #[.pointer (some ⟨bs, 1, none⟩)] w fun e w' => e = .returned (.pointer (some ⟨w.heap.size, 0, none⟩)) ∧ w' = w.alloc (.cells #[.pointer (some ⟨bs, 1, none⟩), .slice none 0 0] 105) := by
  go_enter Tryz.func33, Tryz.ntmps33
  go_wp2
  go_ret
  exact ⟨rfl, rfl⟩

theorem fr_grown {w w1 w5 : World} {S : List Nat} {v : Value} (h : Ses.Fr S w w1) (hg : w1.grownBy w5 v.ownBlock) (hv : v.ownBlock = none) : Ses.Fr S w w5 :=
  h.trans ⟨hg.os, hg.tape, hg.output, hg.size, fun k hk _ => hg.block k hk (by rw [hv]; simp)⟩

/-- One way for what follows a region, whatever the order within. -/
theorem share {α β γ : Type} {F : α → β → γ → Prop} (T : α → β → γ → Prop) {G : Prop} (main : (∀ a b c, F a b c → T a b c) → G) (key : ∀ a b c, F a b c → T a b c) : G := main key

end Go.Proofs.YtfekglokoafpiaaGreatDoor

namespace Go.Proofs.YtfekglokoafpiaaGreatDoor
open Go.RowKit

/-- What a slot's work does: it notes what it looked at; the slot itself stays. -/
structure WK (W w' : World) (bs B p lb k : Nat) (TT : TypeId) (rest : List Value) (f q sm : Value) (rv us : Int) (bg kv lk : Value) (l : List (TypeId × Nat)) (ul : List Int) : Prop where
  es : ES w' bs B f q sm rv us bg kv l ul
  sb : SB w' p TT (newL bs k rest)
  lb : w'.heap[lb]? = some (.cells #[.pointer (some ⟨bs, 1, none⟩), lk] 105)
  lk : ∃ a m c, lk = .slice a m c
  size : W.heap.size ≤ w'.heap.size

end Go.Proofs.YtfekglokoafpiaaGreatDoor

namespace Go.Proofs.YtfekglokoafpiaaGreatDoor
open Go.RowKit

set_option maxRecDepth 100000 in
set_option maxHeartbeats 400000 in
theorem index_nil (v : Value) (w : World) : Calls Tryz.prog 113 #[.slice none 0 0, v] w fun e w' => e = .returned (.int .i64 (-1)) ∧ w' = w := by
  go_enter Tryz.func113, Tryz.ntmps113
  go_wp2
  refine wp_loop_rounds 1 ?_
  rw [rounds_succ]
  go_wp2
  go_ret
  exact ⟨rfl, rfl⟩

set_option maxRecDepth 100000 in
set_option maxHeartbeats 400000 in
theorem contains_nil (v : Value) (w : World) : Calls Tryz.prog 84 #[.slice none 0 0, v] w fun e w' => e = .returned (.bool false) ∧ w' = w := by
  go_enter Tryz.func84, Tryz.ntmps84
  go_wp2_with fail
  refine (index_nil v _).mono ?_
  rintro e w1 ⟨rfl, rfl⟩
  go_wp2
  go_ret
  exact ⟨rfl, rfl⟩

theorem infoLooked : (Tryz.prog.info? 161).map (fun i => (i.zero, i.size, i.bytes)) = some (some .nilIface, 1, 16) := by kernel_rfl

set_option maxRecDepth 100000 in
set_option maxHeartbeats 2000000 in
theorem add_any (lb p : Nat) (tb : Value) (T : TypeId) (w : World) (h : w.heap[lb]? = some (.cells #[tb, .slice none 0 0] 105)) :
    Calls Tryz.prog 86 #[.pointer (some ⟨lb, 0, none⟩), .iface T (.pointer (some ⟨p, 0, none⟩))] w fun e w' => e = .returned (.tuple #[]) ∧ Ses.Fr [lb] w w' ∧ ∃ a m c, w'.heap[lb]? = some (.cells #[tb, .slice a m c] 105) := by
  have hlb := heap_lt h
  have c1 : w.cell? ⟨lb, 1, none⟩ = some (.slice none 0 0) := heap_cell (i := 1) h
  have f1 : w.frozen? ⟨lb, 1, none⟩ = false := heap_frozen h
  have ca : ∀ o, (w.alloc o).cell? ⟨lb, 1, none⟩ = some (.slice none 0 0) := fun o => heap_cell (i := 1) (old_heap o h)
  have cd : ∀ o, (w.alloc o).drew.cell? ⟨lb, 1, none⟩ = some (.slice none 0 0) := fun o => heap_cell (i := 1) (old_heap o h)
  obtain ⟨i0, hi0, hz0, hz1, hz2⟩ := info_parts infoLooked
  have HH := hid h
  clear h
  go_enter Tryz.func86, Tryz.ntmps86
  go_wp2
  go_end0
  exact ⟨rfl, ((((Ses.Fr.refl [lb] w).setCell ⟨lb, 1, none⟩ (.inl (by simp)) _).alloc _).alloc _).drew, _, _, _, old_heap _ (old_heap _ (heap_setCell_lit (i := 1) HH.out _))⟩

end Go.Proofs.YtfekglokoafpiaaGreatDoor

namespace Go.Proofs.YtfekglokoafpiaaGreatDoor
open Go.RowKit

/-- The session's block. -/
def sB (f : Value) (Q : Option Nat) (rv : Int) (sm bg kv : Value) (us : Int) : Obj := .cells #[f, .int .i64 rv, .map Q, sm, bg, kv, .int .u64 us] 51

/-- The sources' map has the source of file a. -/
def SQ (w : World) (q : Value) : Prop := ∃ bq bc, q = .map (some bq) ∧ w.heap[bq]? = some (Ses.qBlk bc)

structure PreE (w W : World) (bs : Nat) (f : Value) (rv : Int) (sm bg kv : Value) (us : Int) : Prop where
  s : W.heap[bs]? = some (sB f (some (w.heap.size + 1)) rv sm bg kv us)
  q : W.heap[w.heap.size + 1]? = some (.map #[] 0)
  f : Ses.Fr [bs] w W
  lt : bs < w.heap.size

theorem PreE.below {w W W' : World} {bs : Nat} {f : Value} {rv : Int} {sm bg kv : Value} {us : Int} (h : PreE w W bs f rv sm bg kv us) (hb : Below W.heap.size W W') : PreE w W' bs f rv sm bg kv us :=
  ⟨below_heap hb (heap_lt h.s) h.s, below_heap hb (heap_lt h.q) h.q, h.f.trans (Ses.Fr.of_below hb), h.lt⟩
theorem PreE.drew {w W : World} {bs : Nat} {f : Value} {rv : Int} {sm bg kv : Value} {us : Int} (h : PreE w W bs f rv sm bg kv us) : PreE w W.drew bs f rv sm bg kv us := ⟨h.s, h.q, h.f.drew, h.lt⟩

theorem preE_of {w : World} {bs : Nat} {f : Value} {rv : Int} {sm bg kv : Value} {us : Int} (h : w.heap[bs]? = some (sB f none rv sm bg kv us)) :
    PreE w (((w.setCell ⟨bs, 2, none⟩ (.map (some (w.heap.size + 1)))).alloc (Ses.cBlk 0)).alloc (.map #[] 0)) bs f rv sm bg kv us := by
  have hb := heap_lt h
  have s0 : (w.setCell ⟨bs, 2, none⟩ (.map (some (w.heap.size + 1)))).heap[bs]? = some (sB f (some (w.heap.size + 1)) rv sm bg kv us) := heap_setCell_lit (i := 2) h (.map (some (w.heap.size + 1)))
  have hz : ((w.setCell ⟨bs, 2, none⟩ (.map (some (w.heap.size + 1)))).alloc (Ses.cBlk 0)).heap.size = w.heap.size + 1 := by simp
  have hA2 := new_heap ((w.setCell ⟨bs, 2, none⟩ (.map (some (w.heap.size + 1)))).alloc (Ses.cBlk 0)) (.map #[] 0)
  rw [hz] at hA2
  exact ⟨old_heap _ (old_heap _ s0), hA2, (((Ses.Fr.refl _ _).setCell _ (.inl (by simp)) _).alloc _).alloc _, hb⟩

/-- Behind source: the map has it. -/
structure SrcN (w w' : World) (bs bc : Nat) (f q' : Value) (rv : Int) (sm bg kv : Value) (us : Int) : Prop where
  s : w'.heap[bs]? = some (.cells #[f, .int .i64 rv, q', sm, bg, kv, .int .u64 us] 51)
  q : SQ w' q'
  n : ∃ bq, q' = .map (some bq) ∧ w.heap.size ≤ bq
  f : Ses.Fr [bs] w w'

theorem PreE.store {w W : World} {bs bc : Nat} {f : Value} {rv : Int} {sm bg kv : Value} {us : Int} (h : PreE w W bs f rv sm bg kv us) : SrcN w (Ses.setO W (w.heap.size + 1) (Ses.qBlk bc)) bs bc f (.map (some (w.heap.size + 1))) rv sm bg kv us := by
  have := h.lt
  exact ⟨(Ses.setO_ne _ _ _ _ (by omega)).trans h.s, ⟨_, _, rfl, Ses.setO_eq _ h.q⟩, ⟨_, rfl, by omega⟩, h.f.setO _ (.inr (by omega)) _⟩

end Go.Proofs.YtfekglokoafpiaaGreatDoor

namespace Go.Proofs.YtfekglokoafpiaaGreatDoor
open Go.RowKit

theorem pre_old {W2 : World} {bs kb ms n : Nat} {es : Array MapEntry} {TT : TypeId} {f : Value} {rv : Int} {q bg kv : Value} {us : Int} {cs : Array Value} {k : Int} (hs : W2.heap[bs]? = some (.cells #[f, .int .i64 rv, q, .map (some ms), bg, kv, .int .u64 us] 51)) (hk : W2.heap[kb]? = some (.cells #[.int .i64 k, .string ⟨#[97]⟩, .string ⟨#[]⟩] 107)) (hm : W2.heap[ms]? = some (.map es n))
    (hN : (W2.alloc (.cells cs TT)).heap[W2.heap.size]? = some (.cells cs TT)) :
    LSE W2 (W2.alloc (.cells cs TT)) bs kb W2.heap.size ms n es TT f rv q bg kv us cs k :=
  ⟨old_heap _ hs, old_heap _ hk, hN, old_heap _ hm, (Ses.Fr.refl _ _).alloc _⟩

end Go.Proofs.YtfekglokoafpiaaGreatDoor

namespace Go.Proofs.YtfekglokoafpiaaGreatDoor
open Go.RowKit

/-- Blocks from N on stay, but for those of trees; and the blocks of S. -/
structure St (S : List Nat) (N : Nat) (w w' : World) : Prop where
  size : w.heap.size ≤ w'.heap.size
  block : ∀ b, N ≤ b → b < w.heap.size → (∀ cs, w.heap[b]? ≠ some (.cells cs 86)) → w'.heap[b]? = w.heap[b]?
  old : ∀ b, b ∈ S → w'.heap[b]? = w.heap[b]?

theorem St.of_fr {S : List Nat} {N : Nat} {S' : List Nat} {w w' : World} (h : Ses.Fr S' w w') (hS : ∀ k, k ∈ S' → k < N ∧ k ∉ S) (hb : ∀ b, b ∈ S → b < w.heap.size) : St S N w w' :=
  ⟨h.size, fun b hb hl _ => h.block b hl (fun e => by have := (hS b e).1; omega), fun b hs => h.block b (hb b hs) (fun e => (hS b e).2 hs)⟩

theorem FN.es {w w' : World} {bs B p ms n : Nat} {es : Array MapEntry} {TT T : TypeId} {f q sm : Value} {rv us : Int} {bg kv : Value} {l : List (TypeId × Nat)} {ul : List Int} {cs : List Value} {k : Int} (h : ES w bs B f q sm rv us bg kv l ul) (hF : FN w w' bs p ms n es TT T f rv q bg kv us cs k) (h1 : kv.ownBlock ≠ some ms) (h2 : ∀ (i : Nat) T' p', l[i]? = some (T', p') → p' ≠ ms) : ES w' bs B f q (.map (some ms)) rv us bg kv l ul := by
  have hbs := h.lt
  refine ⟨hF.s, h.lt, own_far h.own fun g hg => hF.fr.block g (h.own.lt g hg).2 ?_, h.ulen, h.ty, fun i T p hi => ?_, fun i T p u hi hu => ?_, h.le, h.up⟩
  · have h3 := (h.own.lt g hg).1
    simp only [List.mem_cons, List.not_mem_nil, or_false, not_or]
    exact ⟨by omega, fun e => h1 (by rw [← e]; exact hg)⟩
  · obtain ⟨a, b, c⟩ := h.blk i T p hi
    exact ⟨a, b, Nat.lt_of_lt_of_le c hF.fr.size⟩
  · obtain ⟨a, b, c⟩ := h.blk i T p hi
    refine (World.cell?_of_block (w := w) (hF.fr.block p c ?_)).trans (h.used i T p u hi hu)
    simp only [List.mem_cons, List.not_mem_nil, or_false, not_or]
    exact ⟨by omega, h2 i T p hi⟩

end Go.Proofs.YtfekglokoafpiaaGreatDoor
