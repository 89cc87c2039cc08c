/-
  The document's Has, keyword, Name.
  The document's parser: its state; next.
  The document's parser: pass, name.
  The parser: atom.
  The parser: all of an expr, and fuel enough.
  The parser: name, typeWord.
  The document's parser: name.
  The document's number: without noughts ahead.
-/
import Derived.Test.YtfekglokoafpiaaGreatDoorQ02

set_option linter.unusedVariables false
set_option linter.unusedSimpArgs false

namespace Go.Proofs.YtfekglokoafpiaaGreatDoor
open Go.RowKit

def hasB (l : List ByteArray) (s : ByteArray) : Bool := l.any fun x => x.toList == s.toList

theorem hasB_yes (l : List ByteArray) (s : ByteArray) (k : Nat) (hk : k < l.length) (h : (l[k].toList == s.toList) = true) : hasB l s = true := by
  unfold hasB; rw [List.any_eq_true]; exact ⟨l[k], List.getElem_mem hk, h⟩

theorem hasB_no (l : List ByteArray) (s : ByteArray) (h : ∀ j, (hj : j < l.length) → (l[j].toList == s.toList) = false) : hasB l s = false := by
  unfold hasB; rw [List.any_eq_false]; intro x hx
  obtain ⟨j, hj, rfl⟩ := List.getElem_of_mem hx
  rw [h j hj]; simp

set_option maxHeartbeats 400000 in
theorem has_any (l : List ByteArray) (s : ByteArray) (b off cap : Nat) (w : World) (hl : l.length ≤ 9223372036854775807)
    (hc : ∀ i, i < l.length → w.cell? ⟨b, off + i, none⟩ = some (.string (l.getD i ByteArray.empty))) :
    Calls Tryz.prog 80 #[.slice (some ⟨b, off, none⟩) l.length cap, .string s] w fun e w' => e = .returned (.bool (hasB l s)) ∧ w' = w := by
  go_enter Tryz.func80, Tryz.ntmps80
  go_wp2
  go_loop [5] (fun i => ∃ k : Nat, k ≤ l.length ∧ i = .int .i64 k ∧ ∀ j, (hj : j < l.length) → j < k → (l[j].toList == s.toList) = false) (fun i => l.length - (intOf i).toNat)
  case atStart => exact ⟨0, Nat.zero_le _, rfl, fun j hj hk => by omega⟩
  case round =>
    obtain ⟨k, hk, rfl, hne⟩ := hrel
    have HN : Hid (∀ j, (hj : j < l.length) → j < k → (l[j].toList == s.toList) = false) := hne
    clear hne
    by_cases hlt : k < l.length
    · have hcx := hc k hlt
      clear hc
      go_wp2
      · go_ret
        exact ⟨ret_bool (hasB_yes l s k hlt ‹_›).symm, rfl⟩
      · go_round
        case rel =>
          refine ⟨k + 1, by omega, by go_num, fun j hj hjk => ?_⟩
          by_cases e : j = k
          · subst e; assumption
          · exact HN.out j hj (by omega)
        case measure => simp [intOf]; omega
    · clear hc
      go_wp2
      go_ret
      exact ⟨ret_bool (hasB_no l s fun j hj => HN.out j hj (by omega)).symm, rfl⟩

set_option maxHeartbeats 400000 in
theorem has_nil (s : ByteArray) (w : World) :
    Calls Tryz.prog 80 #[.slice none 0 0, .string s] w fun e w' => e = .returned (.bool false) ∧ w' = w := by
  go_enter Tryz.func80, Tryz.ntmps80
  go_wp2
  refine wp_loop_rounds 1 ?_
  rw [rounds_succ]
  go_wp2
  go_ret
  exact ⟨rfl, rfl⟩

def kws : List ByteArray := [⟨#[117, 115, 101]⟩, ⟨#[112, 117, 98]⟩, ⟨#[108, 101, 116]⟩, ⟨#[105, 110, 116]⟩, ⟨#[98, 111, 111, 108]⟩, ⟨#[116, 114, 117, 101]⟩, ⟨#[102, 97, 108, 115, 101]⟩, ⟨#[105, 102]⟩, ⟨#[116, 104, 101, 110]⟩, ⟨#[101, 108, 115, 101]⟩, ⟨#[101, 110, 100]⟩]

set_option maxHeartbeats 400000 in
theorem keyword_any (s : ByteArray) (w : World) :
    Calls Tryz.prog 48 #[.string s] w fun e w' => e = .returned (.bool (hasB kws s)) ∧ Below w.heap.size w w' := by
  go_enter Tryz.func48, Tryz.ntmps48
  go_wp2_with fail
  refine (has_any kws s w.heap.size 0 11 _ (by decide) ?_).mono ?_
  · intro i hi
    simp only [kws, List.length_cons, List.length_nil] at hi
    match i, hi with
    | 0, _ | 1, _ | 2, _ | 3, _ | 4, _ | 5, _ | 6, _ | 7, _ | 8, _ | 9, _ | 10, _ => simp [kws, go_sem]
  · rintro e w' ⟨rfl, rfl⟩
    go_wp2
    go_ret
    exact ⟨rfl, (Below.refl _ _).alloc (Nat.le_refl _) _⟩

theorem kw_eq (t : ByteArray) : hasB kws t = kwB t := by
  have e : ∀ l : List UInt8, ((⟨⟨l⟩⟩ : ByteArray).toList == t.toList) = (t.toList == l) := fun l => by
    rw [show (⟨⟨l⟩⟩ : ByteArray).toList = l from by simp [ByteArray.toList_eq]]
    rw [Bool.eq_iff_iff, beq_iff_eq, beq_iff_eq, eq_comm]
  simp only [hasB, kws, List.any_cons, List.any_nil, e, kwB, Bool.or_false, Bool.or_assoc]

theorem takeWhile_full {p : UInt8 → Bool} : ∀ (l : List UInt8), (∀ x ∈ l, p x = true) → (l.takeWhile p).length = l.length
  | [], _ => rfl
  | y :: r, h => by
    have hy := h y (by simp)
    simp only [List.takeWhile, hy, List.length_cons]
    rw [takeWhile_full r fun x hx => h x (by simp [hx])]

theorem run_all {t : ByteArray} {p : Int → Bool} (h : ∀ j, (hj : j < t.size) → p t[j].toNat = true) : (((runL p t.data.toList : Nat) : Int) == (t.size : Int)) = true := by
  have : runL p t.data.toList = t.size := by
    unfold runL
    rw [takeWhile_full (p := fun c => p c.toNat) _ fun x hx => ?_]
    · simp
    · obtain ⟨j, hj, rfl⟩ := List.getElem_of_mem hx
      rw [Array.getElem_toList]
      exact h j (by simpa using hj)
  rw [this]; simp

theorem run_not {t : ByteArray} {p : Int → Bool} {k : Nat} (hk : k < t.size) (h : p t[k].toNat = false) : (((runL p t.data.toList : Nat) : Int) == (t.size : Int)) = false := by
  rw [beq_eq_false_iff_ne]
  intro e
  have hsz : t.data.toList.length = t.size := by simp
  have e2 : runL p t.data.toList = t.data.toList.length := by omega
  have := takeWhile_all (p := fun c => p c.toNat) _ e2 (t.data.toList[k]'(by simpa using hk)) (List.getElem_mem _)
  rw [Array.getElem_toList] at this
  have h2 : p t[k].toNat = true := this
  rw [h] at h2; cases h2

set_option maxRecDepth 100000 in
set_option maxHeartbeats 1000000 in
theorem rName_any (s : ByteArray) (w : World) (hs : s.size ≤ maxLen) :
    Calls Tryz.prog 25 #[.string s] w fun e w' => e = .returned (.bool (nameB s)) ∧ Below w.heap.size w w' := by
  unfold maxLen at hs
  go_enter Tryz.func25, Tryz.ntmps25
  go_wp2
  go_loop [3, 4] (fun i _ => ∃ k : Nat, k ≤ s.size ∧ i = .int .i64 k ∧ ∀ j, (hj : j < s.size) → j < k → isLetB s[j].toNat = true) (fun i _ => s.size - (intOf i).toNat)
  case atStart => exact ⟨0, Nat.zero_le _, rfl, fun j hj hk => by omega⟩
  case round =>
    obtain ⟨k, hk, rfl, hne⟩ := hrel
    have HN := hid hne
    clear hne
    by_cases hlt : k < s.size
    · cases hc : isLetB s[k].toNat with
      | true =>
        have HC := hid hc
        clear hc
        go_wp2_with (go_at_call 47; go_must (refine (rLetter_any _ _).mono ?_; rintro e w' ⟨rfl, rfl⟩; rw [HC.out]))
        go_round
        case rel =>
          refine ⟨k + 1, by omega, by go_num, fun j hj hjk => ?_⟩
          by_cases e : j = k
          · subst e; exact HC.out
          · exact HN.out j hj (by omega)
        case measure => simp [intOf]; omega
      | false =>
        have HC := hid hc
        clear hc
        go_wp2_with (go_at_call 47; go_must (refine (rLetter_any _ _).mono ?_; rintro e w' ⟨rfl, rfl⟩; rw [HC.out]))
        go_ret
        exact ⟨ret_bool (by simp [nameB, run_not hlt HC.out]), Below.refl _ _⟩
    · have HR := hid (run_all (t := s) (p := isLetB) fun j hj => HN.out j hj (by omega))
      have hem : s.toList.isEmpty = decide (s.size = 0) := by
        rw [Bool.eq_iff_iff, decide_eq_true_eq, List.isEmpty_iff, show s.size = s.data.toList.length from by simp, List.length_eq_zero_iff, ByteArray.toList_eq]
      by_cases hz : s.size = 0
      · have h0 : s.toList.isEmpty = true := by rw [hem]; exact decide_eq_true hz
        clear hem
        go_wp2_with (go_at_call 48; go_must (refine (keyword_any _ _).mono ?_; rintro e w' ⟨rfl, hb⟩; have HB := hid hb; clear hb))
        go_ret
        exact ⟨ret_bool (by simp [nameB, hz]), HB.out⟩
      · have h0f : s.toList.isEmpty = false := by rw [hem]; exact decide_eq_false hz
        have hz1 : 1 ≤ s.size := by omega
        clear hem
        by_cases h8 : s.size ≤ 8
        · go_wp2_with (go_at_call 48; go_must (refine (keyword_any _ _).mono ?_; rintro e w' ⟨rfl, hb⟩; have HB := hid hb; clear hb))
          go_ret
          exact ⟨ret_bool (by simp [nameB, hz1, h8, HR.out, kw_eq]), HB.out⟩
        · go_wp2_with (go_at_call 48; go_must (refine (keyword_any _ _).mono ?_; rintro e w' ⟨rfl, hb⟩; have HB := hid hb; clear hb))
          go_ret
          exact ⟨ret_bool (by simp [nameB, h8]), HB.out⟩

end Go.Proofs.YtfekglokoafpiaaGreatDoor

namespace Go.Proofs.YtfekglokoafpiaaGreatDoor
open Go.RowKit

/-- The document's reading at block rb. -/
structure RP (toks : List Tok) (rb tb cap : Nat) (a nest : Nat) (no : Bool) (hp : Array Obj) : Prop where
  ne : tb ≠ rb
  p : hp[rb]? = some (.cells #[.slice (some ⟨tb, 0, none⟩) toks.length cap, .int .i64 a, .int .i64 nest, .bool no] 263)
  t : ∃ cur, hp[tb]? = some (.cells cur 238) ∧ cur.toList.take (3 * toks.length) = tokCells toks

section
variable {toks : List Tok} {rb tb cap a nest : Nat} {no : Bool} {w : World}

theorem RP.cellT (h : RP toks rb tb cap a nest no w.heap) {i : Nat} (hi : i < toks.length) : w.cell? ⟨tb, i * 3, none⟩ = some (.string (tx toks i)) := by
  rw [Nat.mul_comm i 3]
  obtain ⟨cur, hc, ht⟩ := h.t
  have hg : toks[i]? = some toks[i] := List.getElem?_eq_getElem hi
  have := take_get ht (tokCells_get toks i _ hg).1
  rw [heap_cell hc, ← Array.getElem?_toList, this, tx, hg]; rfl
theorem RP.c0 (h : RP toks rb tb cap a nest no w.heap) : w.cell? ⟨rb, 0, none⟩ = some (.slice (some ⟨tb, 0, none⟩) toks.length cap) := heap_cell h.p
theorem RP.c1 (h : RP toks rb tb cap a nest no w.heap) : w.cell? ⟨rb, 1, none⟩ = some (.int .i64 a) := heap_cell h.p
theorem RP.c2 (h : RP toks rb tb cap a nest no w.heap) : w.cell? ⟨rb, 2, none⟩ = some (.int .i64 nest) := heap_cell h.p
theorem RP.c3 (h : RP toks rb tb cap a nest no w.heap) : w.cell? ⟨rb, 3, none⟩ = some (.bool no) := heap_cell h.p
theorem RP.f (h : RP toks rb tb cap a nest no w.heap) (i : Nat) : w.frozen? ⟨rb, i, none⟩ = false := heap_frozen h.p
theorem RP.below {w' : World} (h : RP toks rb tb cap a nest no w.heap) (hb : Below w.heap.size w w') : RP toks rb tb cap a nest no w'.heap := by
  obtain ⟨cur, hc, ht⟩ := h.t
  exact ⟨h.ne, below_heap hb (heap_lt h.p) h.p, cur, below_heap hb (heap_lt hc) hc, ht⟩
theorem RP.at (h : RP toks rb tb cap a nest no w.heap) (b : Nat) : RP toks rb tb cap b nest no (w.setCell ⟨rb, 1, none⟩ (.int .i64 b)).heap := by
  obtain ⟨cur, hc, ht⟩ := h.t
  exact ⟨h.ne, heap_setCell_lit (i := 1) h.p _, cur, (heap_setCell_ne h.ne _).trans hc, ht⟩
theorem RP.nestAt (h : RP toks rb tb cap a nest no w.heap) (b : Nat) : RP toks rb tb cap a b no (w.setCell ⟨rb, 2, none⟩ (.int .i64 b)).heap := by
  obtain ⟨cur, hc, ht⟩ := h.t
  exact ⟨h.ne, heap_setCell_lit (i := 2) h.p _, cur, (heap_setCell_ne h.ne _).trans hc, ht⟩
theorem RP.noAt (h : RP toks rb tb cap a nest no w.heap) (b : Bool) : RP toks rb tb cap a nest b (w.setCell ⟨rb, 3, none⟩ (.bool b)).heap := by
  obtain ⟨cur, hc, ht⟩ := h.t
  exact ⟨h.ne, heap_setCell_lit (i := 3) h.p _, cur, (heap_setCell_ne h.ne _).trans hc, ht⟩
end

/-- What next tells: the next token's text, or nothing. -/
def nx (toks : List Tok) (a : Nat) (no : Bool) : ByteArray := if no then ⟨#[]⟩ else tx toks a

set_option maxHeartbeats 400000 in
theorem rnext_any (toks : List Tok) (rb tb cap a nest : Nat) (no : Bool) (w : World) (h : RP toks rb tb cap a nest no w.heap) (ha : a < toks.length) :
    Calls Tryz.prog 224 #[.pointer (some ⟨rb, 0, none⟩)] w fun e w' => e = .returned (.string (nx toks a no)) ∧ Below w.heap.size w w' := by
  have c0 := h.c0
  have c1 := h.c1
  have c3 := h.c3
  have ct := h.cellT ha
  clear h
  have ha1 : (0 : Int) ≤ (a : Int) := by omega
  have ha2 : (a : Int) < (toks.length : Int) := by omega
  cases no with
  | true =>
    go_enter Tryz.func224, Tryz.ntmps224
    go_wp2
    go_ret
    exact ⟨rfl, Below.refl _ _⟩
  | false =>
    go_enter Tryz.func224, Tryz.ntmps224
    go_wp2
    go_quiet (fail)
    go_wp2
    go_ret
    exact ⟨rfl, below_drewN _ _⟩

end Go.Proofs.YtfekglokoafpiaaGreatDoor

namespace Go.Proofs.YtfekglokoafpiaaGreatDoor
open Go.RowKit

def emp (t : ByteArray) : Bool := t.toList.isEmpty

theorem emp_iff {t : ByteArray} : emp t = true ↔ t = ⟨#[]⟩ := by
  unfold emp
  rw [List.isEmpty_iff, ← List.length_eq_zero_iff]
  constructor
  · intro h
    refine ByteArray.ext ?_
    have : t.data.toList.length = 0 := by simpa [ByteArray.toList_eq] using h
    exact Array.eq_empty_of_size_eq_zero (by simpa using this)
  · rintro rfl; simp [ByteArray.toList_eq]

theorem nx_next {toks : List Tok} (hw : Wf toks) {a : Nat} {no : Bool} (ha : a < toks.length) (h : emp (nx toks a no) = false) : no = false ∧ nx toks a no = tx toks a ∧ a + 1 < toks.length := by
  cases no with
  | true => exact absurd h (by simp [nx, emp])
  | false =>
    refine ⟨rfl, rfl, hw.next ha fun e => ?_⟩
    rw [show nx toks a false = tx toks a from rfl, e] at h
    simp [emp] at h

/-- The list that pass is given. -/
def Lst (sl : Value) (ls : List ByteArray) (w : World) : Prop :=
  (sl = .slice none 0 0 ∧ ls = []) ∨ ∃ lb cur T, sl = .slice (some ⟨lb, 0, none⟩) ls.length ls.length ∧ 0 < ls.length ∧ ls.length ≤ 9 ∧ w.heap[lb]? = some (.cells cur T) ∧ ∀ i, i < ls.length → cur[i]? = some (.string (ls.getD i ByteArray.empty))

theorem Lst.below {sl : Value} {ls : List ByteArray} {w w' : World} (h : Lst sl ls w) (hb : Below w.heap.size w w') : Lst sl ls w' := by
  rcases h with h | ⟨lb, cur, T, h1, h2, h3, h4, h5⟩
  · exact .inl h
  · exact .inr ⟨lb, cur, T, h1, h2, h3, below_heap hb (heap_lt h4) h4, h5⟩

theorem Lst.has {sl : Value} {ls : List ByteArray} {w : World} (h : Lst sl ls w) (s : ByteArray) :
    Calls Tryz.prog 80 #[sl, .string s] w fun e w' => e = .returned (.bool (hasB ls s)) ∧ w' = w := by
  rcases h with ⟨rfl, rfl⟩ | ⟨lb, cur, T, rfl, h2, h3, h4, h5⟩
  · exact has_nil s w
  · exact has_any ls s lb 0 _ w (by omega) fun i hi => by rw [heap_cell h4]; simpa using h5 i hi

def passB (toks : List Tok) (a : Nat) (no : Bool) (ls : List ByteArray) : Bool := !emp (nx toks a no) && (ls.isEmpty || hasB ls (nx toks a no))

theorem Lst.shape {sl : Value} {ls : List ByteArray} {w : World} (h : Lst sl ls w) : ∃ ao, sl = .slice ao ls.length ls.length := by
  rcases h with ⟨rfl, rfl⟩ | ⟨lb, cur, T, rfl, _⟩
  · exact ⟨none, rfl⟩
  · exact ⟨_, rfl⟩

set_option maxRecDepth 100000 in
set_option maxHeartbeats 1000000 in
theorem rpass_yes {toks : List Tok} (hw : Wf toks) (rb tb cap a nest : Nat) (no : Bool) (sl : Value) (ls : List ByteArray) (w : World) (h : RP toks rb tb cap a nest no w.heap) (ha : a < toks.length) (hl : Lst sl ls w) (hp : passB toks a no ls = true) :
    Calls Tryz.prog 206 #[.pointer (some ⟨rb, 0, none⟩), sl] w fun e w' => e = .returned (.string (tx toks a)) ∧ RP toks rb tb cap (a + 1) nest no w'.heap ∧ Fr [rb] w w' := by
  simp only [passB, Bool.and_eq_true, Bool.not_eq_true', Bool.or_eq_true] at hp
  obtain ⟨he, hor⟩ := hp
  obtain ⟨rfl, hx, _⟩ := nx_next hw ha he
  rw [hx] at he hor
  have hem : (tx toks a).toList.isEmpty = false := he
  have HX := hid hx
  have HP := hid h
  have h4 : a < 401 := by have := hw.le; omega
  clear he hx h hw
  have HL := hid hl
  rcases hl with ⟨rfl, rfl⟩ | ⟨lb, cur, T, rfl, h2, h3, _, _⟩
  · clear hor
    go_enter Tryz.func206, Tryz.ntmps206
    go_wp2_with fail
    refine (rnext_any toks rb tb cap a nest _ _ HP.out ha).mono ?_
    rintro e w1 ⟨rfl, hb⟩
    rw [HX.out]
    have HB := hid hb
    have H1 := hid (HP.out.below hb)
    have HL1 := hid (HL.out.below hb)
    have c1 := H1.out.c1
    have f1 := H1.out.f 1
    have c3 := H1.out.c3
    have f3 := H1.out.f 3
    clear hb
    go_wp2_with fail
    refine (HL1.out.has _).mono ?_
    rintro e w2 ⟨rfl, rfl⟩
    generalize hasB [] (tx toks a) = hb
    cases hb
    all_goals
      go_wp2
      go_ret
      have := H1.out.at (a + 1)
      exact ⟨rfl, by simpa using this, (Fr.of_below HB.out).setCell _ (.inl (by simp)) _⟩
  · have hh : hasB ls (tx toks a) = true := by
      rcases hor with h | h
      · have : ls.length = 0 := by simpa using h
        omega
      · exact h
    have HH := hid hh
    clear hor hh
    go_enter Tryz.func206, Tryz.ntmps206
    go_wp2_with fail
    refine (rnext_any toks rb tb cap a nest _ _ HP.out ha).mono ?_
    rintro e w1 ⟨rfl, hb⟩
    rw [HX.out]
    have HB := hid hb
    have H1 := hid (HP.out.below hb)
    have HL1 := hid (HL.out.below hb)
    have c1 := H1.out.c1
    have f1 := H1.out.f 1
    have c3 := H1.out.c3
    have f3 := H1.out.f 3
    clear hb
    go_wp2_with fail
    refine (HL1.out.has _).mono ?_
    rintro e w2 ⟨rfl, rfl⟩
    rw [HH.out]
    go_wp2
    go_ret
    have := H1.out.at (a + 1)
    exact ⟨rfl, by simpa using this, (Fr.of_below HB.out).setCell _ (.inl (by simp)) _⟩

set_option maxRecDepth 100000 in
set_option maxHeartbeats 1000000 in
theorem rpass_no {toks : List Tok} (rb tb cap a nest : Nat) (no : Bool) (sl : Value) (ls : List ByteArray) (w : World) (h : RP toks rb tb cap a nest no w.heap) (ha : a < toks.length) (hl : Lst sl ls w) (hp : passB toks a no ls = false) :
    Calls Tryz.prog 206 #[.pointer (some ⟨rb, 0, none⟩), sl] w fun e w' => e = .returned (.string ⟨#[]⟩) ∧ RP toks rb tb cap a nest true w'.heap ∧ Fr [rb] w w' := by
  generalize hx : nx toks a no = t
  unfold passB at hp
  rw [hx] at hp
  have HX := hid hx
  have HP := hid h
  have HL := hid hl
  clear hx h
  cases he : emp t with
  | true =>
    have hem : t.toList.isEmpty = true := he
    clear he hp
    obtain ⟨ao, rfl⟩ := hl.shape
    clear hl
    go_enter Tryz.func206, Tryz.ntmps206
    go_wp2_with fail
    refine (rnext_any toks rb tb cap a nest _ _ HP.out ha).mono ?_
    rintro e w1 ⟨rfl, hb⟩
    rw [HX.out]
    have HB := hid hb
    have H1 := hid (HP.out.below hb)
    have HL1 := hid (HL.out.below hb)
    have c1 := H1.out.c1
    have f1 := H1.out.f 1
    have c3 := H1.out.c3
    have f3 := H1.out.f 3
    clear hb
    go_wp2_with fail
    refine (HL1.out.has _).mono ?_
    rintro e w2 ⟨rfl, rfl⟩
    generalize hasB ls t = hb
    cases hb
    all_goals
      go_wp2
      all_goals
        go_ret
        exact ⟨rfl, H1.out.noAt true, (Fr.of_below HB.out).setCell _ (.inl (by simp)) _⟩
  | false =>
    have hem : t.toList.isEmpty = false := he
    rw [he] at hp
    simp only [Bool.not_false, Bool.true_and, Bool.or_eq_false_iff] at hp
    have HH := hid hp.2
    have hlen : 0 < ls.length := by
      cases ls with
      | nil => simp at hp
      | cons => simp
    clear he hp
    rcases hl with ⟨_, rfl⟩ | ⟨lb, cur, T, rfl, h2, h3, _, _⟩
    · simp at hlen
    · clear hlen
      go_enter Tryz.func206, Tryz.ntmps206
      go_wp2_with fail
      refine (rnext_any toks rb tb cap a nest _ _ HP.out ha).mono ?_
      rintro e w1 ⟨rfl, hb⟩
      rw [HX.out]
      have HB := hid hb
      have H1 := hid (HP.out.below hb)
      have HL1 := hid (HL.out.below hb)
      have c1 := H1.out.c1
      have f1 := H1.out.f 1
      have c3 := H1.out.c3
      have f3 := H1.out.f 3
      clear hb
      go_wp2_with fail
      refine (HL1.out.has _).mono ?_
      rintro e w2 ⟨rfl, rfl⟩
      rw [HH.out]
      go_wp2
      go_ret
      exact ⟨rfl, H1.out.noAt true, (Fr.of_below HB.out).setCell _ (.inl (by simp)) _⟩

end Go.Proofs.YtfekglokoafpiaaGreatDoor

namespace Go.Proofs.YtfekglokoafpiaaGreatDoor
open Go.RowKit

set_option maxRecDepth 100000 in
set_option maxHeartbeats 2000000 in
theorem atom_ok {toks : List Tok} (hw : Wf toks) {g : Nat} (hs : OK toks 188 0 g) : OK toks 233 3 (g + 1) := by
  intro pb tb cap nest a b r w h ha hnest hP
  have HW := hid hw
  have HP := hid hP
  have HS := hid hs
  have HL := hid (show a < 401 by have := hw.le; omega)
  have HZ := hid (show (tx toks a).size ≤ maxLen by have := hw.size a; unfold maxLen; omega)
  have HNX := hid (fun hne : tx toks a ≠ ⟨#[]⟩ => hw.next ha hne)
  simp only [P] at h
  clear hw hP hs
  cases h1 : isT toks a [40] with
  | true =>
    rw [h1, if_pos rfl] at h
    have hT : ((tx toks a).toList == [40]) = true := h1
    have HN := hid (HW.out.next_isT ha h1)
    by_cases hn : nest = 20
    · rw [if_pos hn] at h
      have e1 := (Prod.mk.inj (Option.some.inj h)).1
      have e2 := (Prod.mk.inj (Option.some.inj h)).2
      subst e1; subst e2; subst hn
      clear h h1
      go_enter Tryz.func233, Tryz.ntmps233
      go_wp2_with fail
      refine (text_any toks pb tb cap a _ _ HP.out ha).mono ?_
      rintro e w1 ⟨rfl, hb⟩
      have HB := hid hb
      have H1 := hid (HP.out.below hb)
      clear hb
      go_wp2_with fail
      refine (nested_full_bracket toks pb tb cap a _ H1.out ha).mono ?_
      rintro e w2 ⟨⟨v, rfl, hv, hx⟩, hP2, hb2, hF2⟩
      have HF := hid ((Fr.of_below HB.out).trans hF2)
      have HP2 := hid hP2
      have HV := hid hv
      clear hP2 hv hx hF2
      go_wp2
      go_ret2
      exact ⟨⟨v, rfl, HV.out, fun x h => by cases h⟩, HP2.out, hb2, HF.out⟩
    · rw [if_neg hn] at h
      have H := hid h
      clear h h1
      go_enter Tryz.func233, Tryz.ntmps233
      go_wp2_with fail
      refine (text_any toks pb tb cap a _ _ HP.out ha).mono ?_
      rintro e w1 ⟨rfl, hb⟩
      have HB := hid hb
      have H1 := hid (HP.out.below hb)
      clear hb
      go_wp2_with fail
      refine (nested_bracket toks pb tb cap nest a b r _ H1.out (by omega) (fun w' hp' => bracket_ok HW.out HS.out pb tb cap (nest + 1) (a + 1) b r w' H.out HN.out (by omega) hp') HL.out).mono ?_
      rintro e w2 ⟨⟨v, rfl, hv, hx⟩, hP2, hb2, hF2⟩
      have HF := hid ((Fr.of_below HB.out).trans hF2)
      have HP2 := hid hP2
      have HV := hid hv
      have HX := hid hx
      clear hP2 hv hx hF2
      go_wp2
      go_ret2
      exact ⟨⟨v, rfl, HV.out, HX.out⟩, HP2.out, hb2, HF.out⟩
  | false =>
  rw [h1, if_neg (by simp)] at h
  have n1 : ((tx toks a).toList == [40]) = false := h1
  clear h1
  cases h2 : isT toks a [105, 102] with
  | true =>
    rw [h2, if_pos rfl] at h
    have hT : ((tx toks a).toList == [105, 102]) = true := h2
    have HN := hid (HW.out.next_isT ha h2)
    by_cases hn : nest = 20
    · rw [if_pos hn] at h
      have e1 := (Prod.mk.inj (Option.some.inj h)).1
      have e2 := (Prod.mk.inj (Option.some.inj h)).2
      subst e1; subst e2; subst hn
      clear h h2
      go_enter Tryz.func233, Tryz.ntmps233
      go_wp2_with fail
      refine (text_any toks pb tb cap a _ _ HP.out ha).mono ?_
      rintro e w1 ⟨rfl, hb⟩
      have HB := hid hb
      have H1 := hid (HP.out.below hb)
      clear hb
      go_wp2_with fail
      refine (nested_full_choice toks pb tb cap a _ H1.out ha).mono ?_
      rintro e w2 ⟨⟨v, rfl, hv, hx⟩, hP2, hb2, hF2⟩
      have HF := hid ((Fr.of_below HB.out).trans hF2)
      have HP2 := hid hP2
      have HV := hid hv
      clear hP2 hv hx hF2
      go_wp2
      go_ret2
      exact ⟨⟨v, rfl, HV.out, fun x h => by cases h⟩, HP2.out, hb2, HF.out⟩
    · rw [if_neg hn] at h
      have H := hid h
      clear h h2
      go_enter Tryz.func233, Tryz.ntmps233
      go_wp2_with fail
      refine (text_any toks pb tb cap a _ _ HP.out ha).mono ?_
      rintro e w1 ⟨rfl, hb⟩
      have HB := hid hb
      have H1 := hid (HP.out.below hb)
      clear hb
      go_wp2_with fail
      refine (nested_choice toks pb tb cap nest a b r _ H1.out (by omega) (fun w' hp' => choice_ok HW.out HS.out pb tb cap (nest + 1) (a + 1) b r w' H.out HN.out (by omega) hp') HL.out).mono ?_
      rintro e w2 ⟨⟨v, rfl, hv, hx⟩, hP2, hb2, hF2⟩
      have HF := hid ((Fr.of_below HB.out).trans hF2)
      have HP2 := hid hP2
      have HV := hid hv
      have HX := hid hx
      clear hP2 hv hx hF2
      go_wp2
      go_ret2
      exact ⟨⟨v, rfl, HV.out, HX.out⟩, HP2.out, hb2, HF.out⟩
  | false =>
  rw [h2, if_neg (by simp)] at h
  have n2 : ((tx toks a).toList == [105, 102]) = false := h2
  clear h2
  cases h3 : ((tx toks a).toList == [116, 114, 117, 101]) with
  | true =>
    have hl : leafV (tx toks a) = some (.iface 329 (.bool true)) := by simp [leafV, h3]
    have HN := hid (HNX.out (leafV_ne hl))
    rw [hl] at h
    have e1 := (Prod.mk.inj (Option.some.inj h)).1
    have e2 := (Prod.mk.inj (Option.some.inj h)).2
    subst e1; subst e2
    clear h hl
    have hb4 := HL.out
    go_enter Tryz.func233, Tryz.ntmps233
    go_wp2_with fail
    refine (text_any toks pb tb cap a _ _ HP.out ha).mono ?_
    rintro e w1 ⟨rfl, hb⟩
    have H1 := hid (HP.out.below hb)
    have HB := hid (Fr.of_below (S := [pb]) hb)
    have c1 := H1.out.c1
    have f1 := H1.out.f 1
    clear hb
    go_wp2
    go_ret2
    exact ⟨⟨_, rfl, .inr ⟨_, _, rfl⟩, fun x h => by cases h; rfl⟩, by have := H1.out.at (a + 1); simpa using this, HN.out, HB.out.setCell _ (.inl (by simp)) _⟩
  | false =>
  cases h4 : ((tx toks a).toList == [102, 97, 108, 115, 101]) with
  | true =>
    have hl : leafV (tx toks a) = some (.iface 329 (.bool false)) := by simp [leafV, h3, h4]
    have HN := hid (HNX.out (leafV_ne hl))
    rw [hl] at h
    have e1 := (Prod.mk.inj (Option.some.inj h)).1
    have e2 := (Prod.mk.inj (Option.some.inj h)).2
    subst e1; subst e2
    clear h hl
    have hb4 := HL.out
    go_enter Tryz.func233, Tryz.ntmps233
    go_wp2_with fail
    refine (text_any toks pb tb cap a _ _ HP.out ha).mono ?_
    rintro e w1 ⟨rfl, hb⟩
    have H1 := hid (HP.out.below hb)
    have HB := hid (Fr.of_below (S := [pb]) hb)
    have c1 := H1.out.c1
    have f1 := H1.out.f 1
    clear hb
    go_wp2
    go_ret2
    exact ⟨⟨_, rfl, .inr ⟨_, _, rfl⟩, fun x h => by cases h; rfl⟩, by have := H1.out.at (a + 1); simpa using this, HN.out, HB.out.setCell _ (.inl (by simp)) _⟩
  | false =>
  cases h5 : numB (tx toks a) with
  | true =>
    have hl : leafV (tx toks a) = some (.iface 189 (.int .i64 (numVal (tx toks a)))) := by simp [leafV, h3, h4, h5]
    have HA := hid (num_atoi h5)
    have HN := hid (HNX.out (leafV_ne hl))
    rw [hl] at h
    have e1 := (Prod.mk.inj (Option.some.inj h)).1
    have e2 := (Prod.mk.inj (Option.some.inj h)).2
    subst e1; subst e2
    clear h hl
    have hb4 := HL.out
    go_enter Tryz.func233, Tryz.ntmps233
    go_wp2_with fail
    refine (text_any toks pb tb cap a _ _ HP.out ha).mono ?_
    rintro e w1 ⟨rfl, hb⟩
    have H1 := hid (HP.out.below hb)
    have HB := hid (Fr.of_below (S := [pb]) hb)
    have c1 := H1.out.c1
    have f1 := H1.out.f 1
    clear hb
    go_wp2_with (first
      | (go_at_call 237; go_must (refine (isNumber_any _ _ HZ.out).mono ?_; rintro e w2 ⟨rfl, rfl⟩))
      | (go_at_call 238; go_must (refine (Tryz.strconv_Atoi _ _ HA.out.1 HA.out.2 _).mono ?_; rintro e w2 ⟨rfl, t, rfl⟩)))
    go_quiet (fail)
    go_wp2
    go_ret2
    have H2 := H1.out.at (a + 1)
    rw [show ((a + 1 : Nat) : Int) = (a : Int) + 1 from by omega] at H2
    exact ⟨⟨_, rfl, .inr ⟨_, _, rfl⟩, fun x h => by cases h; rfl⟩, (H2.below (Lib.bytesWorld_below _ 5 t)).below (below_drewN _ _), HN.out, ((HB.out.setCell ⟨pb, 1, none⟩ (.inl (by simp)) (.int .i64 ((a : Int) + 1))).trans (Fr.of_below (Lib.bytesWorld_below _ 5 t))).trans (Fr.of_below (below_drewN _ _))⟩
  | false =>
  cases h6 : nameB (tx toks a) with
  | true =>
    have hl : leafV (tx toks a) = some (.iface 330 (.string (tx toks a))) := by simp [leafV, h3, h4, h5, h6]
    have HN := hid (HNX.out (leafV_ne hl))
    rw [hl] at h
    have e1 := (Prod.mk.inj (Option.some.inj h)).1
    have e2 := (Prod.mk.inj (Option.some.inj h)).2
    subst e1; subst e2
    clear h hl
    have hb4 := HL.out
    go_enter Tryz.func233, Tryz.ntmps233
    go_wp2_with fail
    refine (text_any toks pb tb cap a _ _ HP.out ha).mono ?_
    rintro e w1 ⟨rfl, hb⟩
    have H1 := hid (HP.out.below hb)
    have HB := hid (Fr.of_below (S := [pb]) hb)
    have c1 := H1.out.c1
    have f1 := H1.out.f 1
    clear hb
    go_wp2_with (first
      | (go_at_call 237; go_must (refine (isNumber_any _ _ HZ.out).mono ?_; rintro e w2 ⟨rfl, rfl⟩))
      | (go_at_call 30; go_must (refine (isName_any _ _ HZ.out).mono ?_; rintro e w2 ⟨rfl, rfl⟩)))
    go_ret2
    exact ⟨⟨_, rfl, .inr ⟨_, _, rfl⟩, fun x h => by cases h; rfl⟩, by have := H1.out.at (a + 1); simpa using this, HN.out, HB.out.setCell _ (.inl (by simp)) _⟩
  | false =>
    have hl : leafV (tx toks a) = none := by simp [leafV, h3, h4, h5, h6]
    rw [hl] at h
    have e1 := (Prod.mk.inj (Option.some.inj h)).1
    have e2 := (Prod.mk.inj (Option.some.inj h)).2
    subst e1; subst e2
    clear h hl
    have hb4 := HL.out
    go_enter Tryz.func233, Tryz.ntmps233
    go_wp2_with fail
    refine (text_any toks pb tb cap a _ _ HP.out ha).mono ?_
    rintro e w1 ⟨rfl, hb⟩
    have H1 := hid (HP.out.below hb)
    have HB := hid (Fr.of_below (S := [pb]) hb)
    have c1 := H1.out.c1
    have f1 := H1.out.f 1
    clear hb
    go_wp2_with (first
      | (go_at_call 237; go_must (refine (isNumber_any _ _ HZ.out).mono ?_; rintro e w2 ⟨rfl, rfl⟩))
      | (go_at_call 30; go_must (refine (isName_any _ _ HZ.out).mono ?_; rintro e w2 ⟨rfl, rfl⟩)))
    go_ret2
    exact ⟨⟨_, rfl, .inl rfl, fun x h => by cases h⟩, H1.out, ha, HB.out⟩

end Go.Proofs.YtfekglokoafpiaaGreatDoor

namespace Go.Proofs.YtfekglokoafpiaaGreatDoor
open Go.RowKit

theorem OK.zero (toks : List Tok) (F tag : Nat) : OK toks F tag 0 := by
  intro pb tb cap nest a b r w h
  simp [P] at h

theorem all_ok {toks : List Tok} (hw : Wf toks) : ∀ n g, g ≤ n → OK toks 188 0 g ∧ OK toks 214 1 g ∧ OK toks 228 2 g ∧ OK toks 233 3 g := by
  intro n
  induction n with
  | zero => intro g hg; obtain rfl : g = 0 := by omega
            exact ⟨OK.zero _ _ _, OK.zero _ _ _, OK.zero _ _ _, OK.zero _ _ _⟩
  | succ n ih =>
    intro g hg
    cases g with
    | zero => exact ⟨OK.zero _ _ _, OK.zero _ _ _, OK.zero _ _ _, OK.zero _ _ _⟩
    | succ g =>
      exact ⟨expr_ok hw (ih g (by omega)).2.1, sum_ok hw fun g' h => (ih g' (by omega)).2.2.1, product_ok hw fun g' h => (ih g' (by omega)).2.2.2, atom_ok hw (ih g (by omega)).1⟩

theorem P_ge (toks : List Tok) : ∀ (f tag nest a : Nat) (acc : Value) (z : Nat × Option Value), P toks f tag nest a acc = some z → a ≤ z.1 := by
  intro f
  induction f with
  | zero => intro tag nest a acc z h; simp [P] at h
  | succ f ih =>
    intro tag nest a acc z h
    match tag, h with
    | 0, h =>
      simp only [P] at h
      rcases andP_cases h with ⟨c, h1, rfl⟩ | ⟨c, x, h1, h2⟩
      · exact ih _ _ _ _ _ h1
      · have := ih _ _ _ _ _ h1
        split at h2
        · rcases andP_cases h2 with ⟨d, h3, rfl⟩ | ⟨d, y, h3, h4⟩
          · have := ih _ _ _ _ _ h3; simp at *; omega
          · have := ih _ _ _ _ _ h3; cases h4; simp at *; omega
        · cases h2; exact this
    | 1, h =>
      simp only [P] at h
      rcases andP_cases h with ⟨c, h1, rfl⟩ | ⟨c, x, h1, h2⟩
      · exact ih _ _ _ _ _ h1
      · have h3 := ih _ _ _ _ _ h1
        have h4 := ih _ _ _ _ _ h2
        simp at *; omega
    | 2, h =>
      simp only [P] at h
      rcases andP_cases h with ⟨c, h1, rfl⟩ | ⟨c, x, h1, h2⟩
      · exact ih _ _ _ _ _ h1
      · have h3 := ih _ _ _ _ _ h1
        have h4 := ih _ _ _ _ _ h2
        simp at *; omega
    | 3, h =>
      simp only [P] at h
      split at h
      · split at h
        · cases h; simp
        · rcases andP_cases h with ⟨c, h1, rfl⟩ | ⟨c, x, h1, h2⟩
          · have := ih _ _ _ _ _ h1; simp at *; omega
          · have := ih _ _ _ _ _ h1
            split at h2 <;> cases h2 <;> simp at * <;> omega
      · split at h
        · split at h
          · cases h; simp
          · rcases andP_cases h with ⟨c, h1, rfl⟩ | ⟨c, x, h1, h2⟩
            · have := ih _ _ _ _ _ h1; simp at *; omega
            · have g1 := ih _ _ _ _ _ h1
              split at h2
              · rcases andP_cases h2 with ⟨d, h3, rfl⟩ | ⟨d, y, h3, h4⟩
                · have := ih _ _ _ _ _ h3; simp at *; omega
                · have g2 := ih _ _ _ _ _ h3
                  split at h4
                  · rcases andP_cases h4 with ⟨d, h5, rfl⟩ | ⟨d, y, h5, h6⟩
                    · have := ih _ _ _ _ _ h5; simp at *; omega
                    · have g3 := ih _ _ _ _ _ h5
                      split at h6 <;> cases h6 <;> simp at * <;> omega
                  · cases h4; simp at *; omega
              · cases h2; simp at *; omega
        · split at h
          · cases h; simp
          · cases h; simp
    | 4, h =>
      simp only [P] at h
      split at h
      · rcases andP_cases h with ⟨c, h1, rfl⟩ | ⟨c, x, h1, h2⟩
        · have := ih _ _ _ _ _ h1; simp at *; omega
        · have h3 := ih _ _ _ _ _ h1
          have h4 := ih _ _ _ _ _ h2
          simp at *; omega
      · cases h; simp
    | n + 5, h =>
      simp only [P] at h
      split at h
      · rcases andP_cases h with ⟨c, h1, rfl⟩ | ⟨c, x, h1, h2⟩
        · have := ih _ _ _ _ _ h1; simp at *; omega
        · have h3 := ih _ _ _ _ _ h1
          have h4 := ih _ _ _ _ _ h2
          simp at *; omega
      · cases h; simp

def costP (tag : Nat) : Nat := if tag = 0 then 3 else if tag = 1 then 2 else if tag = 2 then 1 else 0

theorem isT_lt {toks : List Tok} {a : Nat} {x : UInt8} {l : List UInt8} (h : isT toks a (x :: l) = true) : a < toks.length := by
  rcases Nat.lt_or_ge a toks.length with h1 | h1
  · exact h1
  · rw [isT, tx, List.getElem?_eq_none h1] at h
    simp at h

theorem andP_def {p : PR} {k : Nat → Value → PR} (h1 : p ≠ none) (h2 : ∀ b x, p = some (b, some x) → k b x ≠ none) : andP p k ≠ none := by
  unfold andP
  split
  · exact absurd rfl h1
  · simp
  · exact h2 _ _ rfl

/-- The fuel is enough. -/
theorem P_def (toks : List Tok) : ∀ (f tag nest a : Nat) (acc : Value), 4 * (toks.length - a) + costP tag < f → P toks f tag nest a acc ≠ none := by
  intro f
  induction f with
  | zero => intro tag nest a acc h; omega
  | succ f ih =>
    intro tag nest a acc h
    match tag, h with
    | 0, h =>
      simp only [P]
      simp [costP] at h
      refine andP_def (ih _ _ _ _ (by simp [costP]; omega)) fun b x hx => ?_
      have hge := P_ge _ _ _ _ _ _ _ hx
      split
      · rename_i ht
        have hl := isT_lt ht
        refine andP_def (ih _ _ _ _ (by simp [costP] at *; omega)) fun c y hy => by simp
      · simp
    | 1, h =>
      simp only [P]
      simp [costP] at h
      refine andP_def (ih _ _ _ _ (by simp [costP]; omega)) fun b x hx => ?_
      have hge := P_ge _ _ _ _ _ _ _ hx
      exact ih _ _ _ _ (by simp [costP] at *; omega)
    | 2, h =>
      simp only [P]
      simp [costP] at h
      refine andP_def (ih _ _ _ _ (by simp [costP]; omega)) fun b x hx => ?_
      have hge := P_ge _ _ _ _ _ _ _ hx
      exact ih _ _ _ _ (by simp [costP] at *; omega)
    | 3, h =>
      simp only [P]
      simp [costP] at h
      split
      · rename_i ht
        have hl := isT_lt ht
        split
        · simp
        · refine andP_def (ih _ _ _ _ (by simp [costP]; omega)) fun b x hx => ?_
          split <;> simp
      · split
        · rename_i ht
          have hl := isT_lt ht
          split
          · simp
          · refine andP_def (ih _ _ _ _ (by simp [costP]; omega)) fun b x hx => ?_
            have hge := P_ge _ _ _ _ _ _ _ hx
            split
            · refine andP_def (ih _ _ _ _ (by simp [costP] at *; omega)) fun b x hx => ?_
              have hge := P_ge _ _ _ _ _ _ _ hx
              split
              · refine andP_def (ih _ _ _ _ (by simp [costP] at *; omega)) fun b x hx => ?_
                split <;> simp
              · simp
            · simp
        · split <;> simp
    | 4, h =>
      simp only [P]
      simp [costP] at h
      split
      · rename_i ht
        have hl := isT_lt ht
        refine andP_def (ih _ _ _ _ (by simp [costP]; omega)) fun b x hx => ?_
        have hge := P_ge _ _ _ _ _ _ _ hx
        exact ih _ _ _ _ (by simp [costP] at *; omega)
      · simp
    | n + 5, h =>
      simp only [P]
      simp [costP] at h
      split
      · rename_i ht
        have hl := isT_lt ht
        refine andP_def (ih _ _ _ _ (by simp [costP]; omega)) fun b x hx => ?_
        have hge := P_ge _ _ _ _ _ _ _ hx
        exact ih _ _ _ _ (by simp [costP] at *; omega)
      · simp

/-- An expr from token a on: the token behind it, or the one that cannot stand. -/
def exprP (toks : List Tok) (a : Nat) : Nat × Option Value := (P toks 1700 0 0 a .nilIface).getD (a, none)

theorem exprP_eq {toks : List Tok} (hw : Wf toks) (a : Nat) : P toks 1700 0 0 a .nilIface = some (exprP toks a) := by
  have h := P_def toks 1700 0 0 a .nilIface (by have := hw.le; simp [costP]; omega)
  unfold exprP
  cases hp : P toks 1700 0 0 a .nilIface with
  | none => exact absurd hp h
  | some z => rfl

theorem exprP_ge {toks : List Tok} (hw : Wf toks) (a : Nat) : a ≤ (exprP toks a).1 := P_ge _ _ _ _ _ _ _ (exprP_eq hw a)
theorem exprP_iface {toks : List Tok} (hw : Wf toks) {a b : Nat} {x : Value} (h : exprP toks a = (b, some x)) : IfcS x := P_iface _ _ _ _ _ _ _ _ ((exprP_eq hw a).trans (congrArg some h)) (.inl (by omega))

theorem expr_any {toks : List Tok} (hw : Wf toks) (pb tb cap a : Nat) (w : World) (ha : a < toks.length) (hP : PS toks pb tb cap a 0 w.heap) :
    Calls Tryz.prog 188 #[.pointer (some ⟨pb, 0, none⟩)] w (Post toks pb tb cap 0 (exprP toks a).1 (exprP toks a).2 w) :=
  (all_ok hw 1700 1700 (Nat.le_refl _)).1 pb tb cap 0 a _ _ w (exprP_eq hw a) ha (by omega) hP

end Go.Proofs.YtfekglokoafpiaaGreatDoor

namespace Go.Proofs.YtfekglokoafpiaaGreatDoor
open Go.RowKit

theorem nameB_ne {t : ByteArray} (h : nameB t = true) : t ≠ ⟨#[]⟩ := by
  rintro rfl
  rw [show nameB ⟨#[]⟩ = false from by decide] at h
  cases h

set_option maxRecDepth 100000 in
set_option maxHeartbeats 1000000 in
theorem name_yes (toks : List Tok) (pb tb cap a nest : Nat) (w : World) (h : PS toks pb tb cap a nest w.heap) (ha : a < toks.length) (hl : a < 401) (hz : (tx toks a).size ≤ maxLen) (hn : nameB (tx toks a) = true) :
    Calls Tryz.prog 186 #[.pointer (some ⟨pb, 0, none⟩)] w fun e w' => e = .returned (.tuple #[.string (tx toks a), .bool true]) ∧ PS toks pb tb cap (a + 1) nest w'.heap ∧ Fr [pb] w w' := by
  have HH := hid h
  have HZ := hid hz
  clear h hz
  go_enter Tryz.func186, Tryz.ntmps186
  go_wp2_with (first
    | (go_at_call 160; go_must (refine (text_any toks pb tb cap a nest _ HH.out ha).mono ?_; rintro e w1 ⟨rfl, hb⟩; have HB := hid hb; have H1 := hid (HH.out.below hb); have c1 := H1.out.c1; have f1 := H1.out.f 1; clear hb))
    | (go_at_call 30; go_must (refine (isName_any _ _ HZ.out).mono ?_; rintro e w2 ⟨rfl, rfl⟩)))
  go_ret2
  have := H1.out.at (a + 1)
  exact ⟨rfl, by simpa using this, (Fr.of_below HB.out).setCell _ (.inl (by simp)) _⟩

set_option maxRecDepth 100000 in
set_option maxHeartbeats 1000000 in
theorem name_no (toks : List Tok) (pb tb cap a nest : Nat) (w : World) (h : PS toks pb tb cap a nest w.heap) (ha : a < toks.length) (hz : (tx toks a).size ≤ maxLen) (hn : nameB (tx toks a) = false) :
    Calls Tryz.prog 186 #[.pointer (some ⟨pb, 0, none⟩)] w fun e w' => e = .returned (.tuple #[.string ⟨#[]⟩, .bool false]) ∧ PS toks pb tb cap a nest w'.heap ∧ Fr [pb] w w' := by
  have HH := hid h
  have HZ := hid hz
  clear h hz
  go_enter Tryz.func186, Tryz.ntmps186
  go_wp2_with (first
    | (go_at_call 160; go_must (refine (text_any toks pb tb cap a nest _ HH.out ha).mono ?_; rintro e w1 ⟨rfl, hb⟩; have HB := hid hb; have H1 := hid (HH.out.below hb); clear hb))
    | (go_at_call 30; go_must (refine (isName_any _ _ HZ.out).mono ?_; rintro e w2 ⟨rfl, rfl⟩)))
  go_ret2
  exact ⟨rfl, H1.out, Fr.of_below HB.out⟩

/-- Is token a the word of a type? -/
def isTy (toks : List Tok) (a : Nat) : Bool := isT toks a [105, 110, 116] || isT toks a [98, 111, 111, 108]

set_option maxRecDepth 100000 in
set_option maxHeartbeats 1000000 in
theorem typeWord_yes (toks : List Tok) (pb tb cap a nest : Nat) (w : World) (h : PS toks pb tb cap a nest w.heap) (ha : a < toks.length) (hl : toks.length ≤ 401) (hn : isTy toks a = true) :
    Calls Tryz.prog 187 #[.pointer (some ⟨pb, 0, none⟩)] w fun e w' => e = .returned (.tuple #[.string (tx toks a), .bool true]) ∧ PS toks pb tb cap (a + 1) nest w'.heap ∧ Fr [pb] w w' := by
  have HH := hid h
  clear h
  cases h1 : isT toks a [105, 110, 116] with
  | true =>
    have HT : Hid (eqB (tx toks a) ⟨#[105, 110, 116]⟩ = true) := hid ((isT_eqB toks a [105, 110, 116]).symm.trans h1)
    clear h1 hn
    go_enter Tryz.func187, Tryz.ntmps187
    go_wp2_with (go_at_call 160; go_must (refine (text_any toks pb tb cap a nest _ HH.out ha).mono ?_; rintro e w1 ⟨rfl, hb⟩; have HB := hid hb; have H1 := hid (HH.out.below hb); clear hb))
    go_wp2_with (go_at_call 161; go_must (refine (take_yes toks pb tb cap a nest _ _ H1.out ha hl HT.out).mono ?_; rintro e w2 ⟨rfl, hP2, hF2⟩; have HP2 := hid hP2; have HF2 := hid hF2; clear hP2 hF2))
    go_ret2
    exact ⟨rfl, HP2.out, (Fr.of_below HB.out).trans HF2.out⟩
  | false =>
    have h2 : isT toks a [98, 111, 111, 108] = true := by simpa [isTy, h1] using hn
    have HT : Hid (eqB (tx toks a) ⟨#[105, 110, 116]⟩ = false) := hid ((isT_eqB toks a [105, 110, 116]).symm.trans h1)
    have HT2 : Hid (eqB (tx toks a) ⟨#[98, 111, 111, 108]⟩ = true) := hid ((isT_eqB toks a [98, 111, 111, 108]).symm.trans h2)
    clear h1 hn h2
    go_enter Tryz.func187, Tryz.ntmps187
    go_wp2_with (go_at_call 160; go_must (refine (text_any toks pb tb cap a nest _ HH.out ha).mono ?_; rintro e w1 ⟨rfl, hb⟩; have HB := hid hb; have H1 := hid (HH.out.below hb); clear hb))
    go_wp2_with fail
    refine (take_no toks pb tb cap a nest _ _ H1.out ha HT.out).mono ?_
    rintro e w2 ⟨rfl, hP2, hF2⟩
    have HP2 := hid hP2
    have HF2 := hid hF2
    clear hP2 hF2
    go_wp2_with fail
    refine (take_yes toks pb tb cap a nest _ _ HP2.out ha hl HT2.out).mono ?_
    rintro e w3 ⟨rfl, hP3, hF3⟩
    have HP3 := hid hP3
    have HF3 := hid hF3
    clear hP3 hF3
    go_wp2
    go_ret2
    exact ⟨rfl, HP3.out, ((Fr.of_below HB.out).trans HF2.out).trans HF3.out⟩

set_option maxRecDepth 100000 in
set_option maxHeartbeats 1000000 in
theorem typeWord_no (toks : List Tok) (pb tb cap a nest : Nat) (w : World) (h : PS toks pb tb cap a nest w.heap) (ha : a < toks.length) (hn : isTy toks a = false) :
    Calls Tryz.prog 187 #[.pointer (some ⟨pb, 0, none⟩)] w fun e w' => e = .returned (.tuple #[.string (tx toks a), .bool false]) ∧ PS toks pb tb cap a nest w'.heap ∧ Fr [pb] w w' := by
  have HH := hid h
  simp only [isTy, Bool.or_eq_false_iff] at hn
  obtain ⟨h1, h2⟩ := hn
  have HT : Hid (eqB (tx toks a) ⟨#[105, 110, 116]⟩ = false) := hid ((isT_eqB toks a [105, 110, 116]).symm.trans h1)
  have HT2 : Hid (eqB (tx toks a) ⟨#[98, 111, 111, 108]⟩ = false) := hid ((isT_eqB toks a [98, 111, 111, 108]).symm.trans h2)
  clear h1 h2 h
  go_enter Tryz.func187, Tryz.ntmps187
  go_wp2_with (go_at_call 160; go_must (refine (text_any toks pb tb cap a nest _ HH.out ha).mono ?_; rintro e w1 ⟨rfl, hb⟩; have HB := hid hb; have H1 := hid (HH.out.below hb); clear hb))
  go_wp2_with fail
  refine (take_no toks pb tb cap a nest _ _ H1.out ha HT.out).mono ?_
  rintro e w2 ⟨rfl, hP2, hF2⟩
  have HP2 := hid hP2
  have HF2 := hid hF2
  clear hP2 hF2
  go_wp2_with fail
  refine (take_no toks pb tb cap a nest _ _ HP2.out ha HT2.out).mono ?_
  rintro e w3 ⟨rfl, hP3, hF3⟩
  have HP3 := hid hP3
  have HF3 := hid hF3
  clear hP3 hF3
  go_wp2
  go_ret2
  exact ⟨rfl, HP3.out, ((Fr.of_below HB.out).trans HF2.out).trans HF3.out⟩

end Go.Proofs.YtfekglokoafpiaaGreatDoor

namespace Go.Proofs.YtfekglokoafpiaaGreatDoor
open Go.RowKit

theorem nx_size {toks : List Tok} (hw : Wf toks) (a : Nat) (no : Bool) : (nx toks a no).size ≤ maxLen := by
  cases no with
  | true => exact Nat.zero_le _
  | false => have := hw.size a; simp [nx]; unfold maxLen; omega

theorem nameB_emp {t : ByteArray} (h : nameB t = true) : emp t = false := by
  cases he : emp t with
  | false => rfl
  | true => exact absurd (emp_iff.1 he) (nameB_ne h)

theorem Lst.nil (w : World) : Lst (.slice none 0 0) [] w := .inl ⟨rfl, rfl⟩

set_option maxRecDepth 100000 in
set_option maxHeartbeats 1000000 in
theorem rname_yes {toks : List Tok} (hw : Wf toks) (rb tb cap a nest : Nat) (no : Bool) (w : World) (h : RP toks rb tb cap a nest no w.heap) (ha : a < toks.length) (hn : nameB (nx toks a no) = true) :
    Calls Tryz.prog 207 #[.pointer (some ⟨rb, 0, none⟩)] w fun e w' => e = .returned (.string (tx toks a)) ∧ RP toks rb tb cap (a + 1) nest no w'.heap ∧ Fr [rb] w w' := by
  have HP := hid h
  have HN := hid hn
  have HZ := hid (nx_size hw a no)
  have HW := hid hw
  have HE := hid (show passB toks a no [] = true by simp [passB, nameB_emp hn])
  clear h hn hw
  go_enter Tryz.func207, Tryz.ntmps207
  go_wp2_with fail
  refine (rnext_any toks rb tb cap a nest _ _ HP.out ha).mono ?_
  rintro e w1 ⟨rfl, hb⟩
  have HB := hid hb
  have H1 := hid (HP.out.below hb)
  clear hb
  go_wp2_with fail
  refine (rName_any _ _ HZ.out).mono ?_
  rintro e w2 ⟨rfl, hb⟩
  rw [HN.out]
  have HB2 := hid hb
  have H2 := hid (H1.out.below hb)
  clear hb
  go_wp2_with fail
  refine (rpass_yes HW.out rb tb cap a nest no _ [] _ H2.out ha (Lst.nil _) HE.out).mono ?_
  rintro e w3 ⟨rfl, hp3, hf3⟩
  have HP3 := hid hp3
  have HF3 := hid hf3
  clear hp3 hf3
  go_wp2
  go_ret
  exact ⟨rfl, HP3.out, ((Fr.of_below HB.out).trans (Fr.of_below HB2.out)).trans HF3.out⟩

set_option maxRecDepth 100000 in
set_option maxHeartbeats 1000000 in
theorem rname_no {toks : List Tok} (hw : Wf toks) (rb tb cap a nest : Nat) (no : Bool) (w : World) (h : RP toks rb tb cap a nest no w.heap) (ha : a < toks.length) (hn : nameB (nx toks a no) = false) :
    Calls Tryz.prog 207 #[.pointer (some ⟨rb, 0, none⟩)] w fun e w' => e = .returned (.string ⟨#[]⟩) ∧ RP toks rb tb cap a nest true w'.heap ∧ Fr [rb] w w' := by
  have HP := hid h
  have HN := hid hn
  have HZ := hid (nx_size hw a no)
  clear h hn hw
  go_enter Tryz.func207, Tryz.ntmps207
  go_wp2_with fail
  refine (rnext_any toks rb tb cap a nest _ _ HP.out ha).mono ?_
  rintro e w1 ⟨rfl, hb⟩
  have HB := hid hb
  have H1 := hid (HP.out.below hb)
  clear hb
  go_wp2_with fail
  refine (rName_any _ _ HZ.out).mono ?_
  rintro e w2 ⟨rfl, hb⟩
  rw [HN.out]
  have HB2 := hid hb
  have H2 := hid (H1.out.below hb)
  have c3 := H2.out.c3
  have f3 := H2.out.f 3
  clear hb
  go_wp2
  go_ret
  exact ⟨rfl, H2.out.noAt true, ((Fr.of_below HB.out).trans (Fr.of_below HB2.out)).setCell _ (.inl (by simp)) _⟩

end Go.Proofs.YtfekglokoafpiaaGreatDoor

namespace Go.Proofs.YtfekglokoafpiaaGreatDoor
open Go.RowKit

def strip : List UInt8 → List UInt8
  | [] => []
  | [c] => [c]
  | c :: d :: r => if c.toNat = 48 then strip (d :: r) else c :: d :: r

def stripT (t : ByteArray) : ByteArray := ⟨⟨strip t.data.toList⟩⟩

set_option maxRecDepth 100000 in
set_option maxHeartbeats 1000000 in
theorem number_any (t : ByteArray) (w : World) (ht : t.size ≤ maxLen) :
    Calls Tryz.prog 231 #[.string t] w fun e w' => e = .returned (.string (stripT t)) ∧ w' = w := by
  unfold maxLen at ht
  go_enter Tryz.func231, Tryz.ntmps231
  go_wp2
  go_loop [0] (fun v => ∃ u : ByteArray, v = .string u ∧ u.size ≤ t.size ∧ strip u.data.toList = strip t.data.toList) (fun v => match v with | .string u => u.size | _ => 0)
  case atStart => exact ⟨t, rfl, Nat.le_refl _, rfl⟩
  case round =>
    obtain ⟨u, rfl, hsz, hst⟩ := hrel
    have HS := hid hst
    clear hst
    by_cases h1 : 1 < u.size
    · obtain ⟨c, d, r, hl⟩ : ∃ c d r, u.data.toList = c :: d :: r := by
        have hlen : u.data.toList.length = u.size := by simp
        match hq : u.data.toList, hlen with
        | [], hlen => simp at hlen; omega
        | [c], hlen => simp at hlen; omega
        | c :: d :: r, _ => exact ⟨c, d, r, rfl⟩
      have h0 : u[0] = c := by
        have : u.data.toList[0]? = some c := by rw [hl]; rfl
        rw [Array.getElem?_toList] at this
        have h2 := Array.getElem?_eq_some_iff.1 this
        exact h2.2
      have HL := hid hl
      have HC := hid h0
      clear hl h0
      by_cases h48 : u[0].toNat = 48
      · have b48 := beqT (show (u[0].toNat : Int) = 48 by omega)
        have H48 := hid h48
        clear h48
        go_wp2
        go_round
        case rel =>
          refine ⟨u.extract 1 u.size, rfl, by simp only [ByteArray.size_extract]; omega, ?_⟩
          rw [← HS.out, HL.out]
          have e : (u.extract 1 u.size).data.toList = d :: r := by
            rw [← Lib.toList_data, Lib.extract_toList, HL.out]
            have hq : u.size = (d :: r).length + 1 := by
              have h1 : u.data.toList.length = u.size := by simp
              rw [← h1, HL.out]; rfl
            rw [hq]
            simp
          rw [e]
          conv => rhs; rw [strip]
          rw [if_pos (by rw [← HC.out]; exact H48.out)]
        case measure => simp only [ByteArray.size_extract]; omega
      · have n48 := beqF (show (u[0].toNat : Int) ≠ 48 by omega)
        have H48 := hid h48
        clear h48
        go_wp2
        go_ret
        refine ⟨ret_str ?_, rfl⟩
        unfold stripT
        rw [← HS.out, HL.out, strip, if_neg (by rw [← HC.out]; exact H48.out), ← HL.out]
    · go_wp2
      go_ret
      refine ⟨ret_str ?_, rfl⟩
      unfold stripT
      rw [← HS.out]
      have hlen : u.data.toList.length = u.size := by simp
      have : strip u.data.toList = u.data.toList := by
        match hq : u.data.toList, hlen with
        | [], _ => rfl
        | [c], _ => rfl
        | c :: d :: r, hlen => simp at hlen; omega
      rw [this]

end Go.Proofs.YtfekglokoafpiaaGreatDoor
