/-
  The tokens of a text are well formed.
  The document's parser: an atom.
-/
import Derived.Test.YtfekglokoafpiaaGreatDoorQ09

set_option linter.unusedVariables false
set_option linter.unusedSimpArgs false

namespace Go.Proofs.YtfekglokoafpiaaGreatDoor
open Go.RowKit

/-- What a token's first sign says of the others. -/
def Cls (t : ByteArray) : Prop := ∀ c r, t.data.toList = c :: r → (isLetB c.toNat = true → ∀ x ∈ t.data.toList, isLetB x.toNat = true) ∧ (isDigB c.toNat = true → ∀ x ∈ t.data.toList, isDigB x.toNat = true)

theorem takeWhile_take {p : UInt8 → Bool} : ∀ (l : List UInt8), ∀ x ∈ l.take (l.takeWhile p).length, p x = true
  | [], x, hx => by simp at hx
  | y :: r, x, hx => by
    cases hp : p y with
    | false => simp [List.takeWhile, hp] at hx
    | true =>
      simp only [List.takeWhile, hp, List.length_cons, List.take_succ_cons] at hx
      rcases List.mem_cons.1 hx with rfl | hx
      · exact hp
      · exact takeWhile_take r x hx

theorem tok_list (s : ByteArray) (a : Nat) (h : a < s.size) : (s.extract a (a + tokP s a)).data.toList = ((s.extract a s.size).data.toList).take (tokP s a) := by
  have hb := tokP_bd s a h
  have e : (s.extract a s.size).data.toList = s.data.toList.drop a := by
    rw [← Lib.toList_data, Lib.extract_toList, List.take_of_length_le (by simp)]
  rw [e, ← Lib.toList_data, Lib.extract_toList]
  congr 1
  omega

theorem digit_no_letter {c : Int} (h : isDigB c = true) : isLetB c = false := by
  simp only [isDigB, Bool.and_eq_true, decide_eq_true_eq] at h
  simp only [isLetB, Bool.and_eq_false_iff, decide_eq_false_iff_not]
  omega

theorem cls_tok (s : ByteArray) (a : Nat) (h : a < s.size) : Cls (s.extract a (a + tokP s a)) := by
  intro c r hc
  obtain ⟨r', hr', _⟩ := rest_cons s a h
  have hl := tok_list s a h
  have hb := tokP_bd s a h
  rw [hr'] at hl
  have hcs : c = s[a] := by
    rw [hc] at hl
    obtain ⟨n, hn⟩ : ∃ n, tokP s a = n + 1 := ⟨tokP s a - 1, by omega⟩
    rw [hn, List.take_succ_cons] at hl
    exact (List.cons.inj hl).1
  subst hcs
  refine ⟨fun hlet x hx => ?_, fun hd x hx => ?_⟩
  · have e : tokP s a = ((s[a] :: r').takeWhile fun c => isLetB c.toNat).length := by
      unfold tokP; rw [hr']; simp only [tokL, hlet]; rfl
    rw [hl, e] at hx
    exact takeWhile_take (p := fun c => isLetB c.toNat) _ x hx
  · have e : tokP s a = ((s[a] :: r').takeWhile fun c => isDigB c.toNat).length := by
      unfold tokP; rw [hr']; simp only [tokL, digit_no_letter hd, hd]; rfl
    rw [hl, e] at hx
    exact takeWhile_take (p := fun c => isDigB c.toNat) _ x hx

theorem lexP_form (s : ByteArray) : ∀ (f a line ls : Nat), a ≤ s.size → s.size - a < f →
    ∃ M e, lexP s f a line ls = M ++ [e] ∧ e.text = ⟨#[]⟩ ∧ (∀ t ∈ M, ∃ x, x < s.size ∧ t.text = s.extract x (x + tokP s x)) ∧ M.length ≤ s.size - a := by
  intro f
  induction f with
  | zero => intro a line ls h1 h2; omega
  | succ f ih =>
    intro a line ls h1 h2
    by_cases h : a < s.size
    · rw [lexP_step s f a line ls h]
      split
      · obtain ⟨M, e, q1, q2, q3, q4⟩ := ih (a + 1) (line + 1) (a + 1) (by omega) (by omega)
        exact ⟨M, e, q1, q2, q3, by omega⟩
      · split
        · obtain ⟨M, e, q1, q2, q3, q4⟩ := ih (a + 1) line ls (by omega) (by omega)
          exact ⟨M, e, q1, q2, q3, by omega⟩
        · split
          · obtain ⟨M, e, q1, q2, q3, q4⟩ := ih (a + 1) line ls (by omega) (by omega)
            exact ⟨M, e, q1, q2, q3, by omega⟩
          · split
            · rename_i h35
              have hb := comP_bd s a h h35
              obtain ⟨M, e, q1, q2, q3, q4⟩ := ih (a + comP s a) line ls (by omega) (by omega)
              exact ⟨M, e, q1, q2, q3, by omega⟩
            · have hb := tokP_bd s a h
              obtain ⟨M, e, q1, q2, q3, q4⟩ := ih (a + tokP s a) line ls (by omega) (by omega)
              refine ⟨⟨s.extract a (a + tokP s a), line, a - ls + 1⟩ :: M, e, by rw [q1]; rfl, q2, fun t ht => ?_, by simp; omega⟩
              rcases List.mem_cons.1 ht with rfl | ht
              · exact ⟨a, h, rfl⟩
              · exact q3 t ht
    · rw [lexP_end s f a line ls h]
      exact ⟨[], _, rfl, rfl, by simp, by simp⟩

theorem extract_size_le (s : ByteArray) (x n : Nat) : (s.extract x n).size ≤ s.size := by
  simp only [ByteArray.size_extract]; omega

/-- The tokens of a text that is no longer than 400 bytes. -/
theorem lexWf (s : ByteArray) (hs : s.size ≤ 400) : Wf (lexAll s) ∧ ∀ i, Cls (tx (lexAll s) i) := by
  obtain ⟨M, e, h1, h2, h3, h4⟩ := lexP_form s (s.size + 1) 0 1 0 (by omega) (by omega)
  have hlen : (lexAll s).length = M.length + 1 := by unfold lexAll; rw [h1]; simp
  have hmid : ∀ i, i < M.length → ∃ x, x < s.size ∧ tx (lexAll s) i = s.extract x (x + tokP s x) := by
    intro i hi
    have : (lexAll s)[i]? = some M[i] := by unfold lexAll; rw [h1, List.getElem?_append_left hi, List.getElem?_eq_getElem hi]
    rw [tx, this]
    exact h3 _ (List.getElem_mem hi)
  have hend : ∀ i, M.length ≤ i → tx (lexAll s) i = ⟨#[]⟩ := by
    intro i hi
    by_cases e1 : i = M.length
    · have : (lexAll s)[i]? = some e := by unfold lexAll; rw [h1, e1]; simp
      rw [tx, this]; exact h2
    · rw [tx, List.getElem?_eq_none (by omega)]; rfl
  refine ⟨⟨by omega, by omega, fun i hi => ?_, hend _ (by omega), fun i => ?_⟩, fun i => ?_⟩
  · obtain ⟨x, hx, hq⟩ := hmid i (by omega)
    have := tokP_bd s x hx
    rw [hq]; simp only [ByteArray.size_extract]; omega
  · by_cases hi : i < M.length
    · obtain ⟨x, hx, hq⟩ := hmid i hi
      rw [hq]; exact Nat.le_trans (extract_size_le _ _ _) hs
    · rw [hend i (by omega)]; exact Nat.zero_le _
  · by_cases hi : i < M.length
    · obtain ⟨x, hx, hq⟩ := hmid i hi
      rw [hq]; exact cls_tok s x hx
    · rw [hend i (by omega)]
      intro c r h; simp at h

end Go.Proofs.YtfekglokoafpiaaGreatDoor

namespace Go.Proofs.YtfekglokoafpiaaGreatDoor
open Go.RowKit

theorem nx_tx {toks : List Tok} {a : Nat} {T : ByteArray} (h : tx toks a = T) : nx toks a false = T := h

set_option maxRecDepth 100000 in
set_option maxHeartbeats 2000000 in
theorem ratom_odd1 {toks : List Tok} (rb tb cap a nest : Nat) (w : World) (h : RP toks rb tb cap a nest false w.heap) (ha : a < toks.length) (T : ByteArray) (hT : tx toks a = T)
    (h0 : 0 < T.size) (n1 : (T.toList == [40]) = false) (n2 : (T.toList == [105, 102]) = false) (n3 : (T.toList == [116, 114, 117, 101]) = false) (n4 : (T.toList == [102, 97, 108, 115, 101]) = false) (hnm : nameB T = false) (hz : T.size ≤ maxLen)
    (d1 : ¬ (48 : Int) ≤ T[0].toNat) :
    Calls Tryz.prog 225 #[.pointer (some ⟨rb, 0, none⟩)] w (DPost toks rb tb cap a nest w) := by
  have HP := hid h
  have HX := hid (nx_tx hT)
  have HN := hid hnm
  have HZ := hid hz
  have hem : T.toList.isEmpty = false := by
    cases hq : T.toList.isEmpty with
    | false => rfl
    | true => have := emp_iff.1 (show emp T = true from hq); subst this; exact absurd h0 (by decide)
  clear h hT hnm hz
  have H0 := hid ((DS.refl HP.out).alloc (.cells zE 232))
  have HR0 := hid (new_heap w (.cells zE 232))
  go_enter Tryz.func225, Tryz.ntmps225
  go_wp2_with fail
  refine (rnext_any toks rb tb cap a nest _ _ H0.out.rp ha).mono ?_
  rintro e w1 ⟨rfl, hb⟩
  rw [HX.out]
  have H1 := hid (H0.out.below hb)
  have HR1 := hid (below_heap hb (heap_lt HR0.out) HR0.out)
  clear hb
  go_wp2_with fail
  refine (rName_any _ _ HZ.out).mono ?_
  rintro e w2 ⟨rfl, hb⟩
  rw [HN.out]
  have H2 := hid (H1.out.below hb)
  have HR2 := hid (below_heap hb (heap_lt HR1.out) HR1.out)
  have c2 := H2.out.rp.c2
  have f2 := H2.out.rp.f 2
  have c3 := H2.out.rp.c3
  have f3 := H2.out.rp.f 3
  have hne : w.heap.size ≠ rb := by have := H2.out.pl; omega
  clear hb
  have hr3 := own_set (i := 3) HR2.out hne (.bool true)
  have r0 : World.cell? _ ⟨w.heap.size, 0, none⟩ = some (.int .u8 0) := heap_cell (i := 0) hr3
  have fr0 : World.frozen? _ ⟨w.heap.size, 0, none⟩ = false := heap_frozen hr3
  have r1 : World.cell? _ ⟨w.heap.size, 1, none⟩ = some (.string ⟨#[]⟩) := heap_cell (i := 1) hr3
  have fr1 : World.frozen? _ ⟨w.heap.size, 1, none⟩ = false := heap_frozen hr3
  have r2 : World.cell? _ ⟨w.heap.size, 2, none⟩ = some (.slice none 0 0) := heap_cell (i := 2) hr3
  have fr2 : World.frozen? _ ⟨w.heap.size, 2, none⟩ = false := heap_frozen hr3
  have hy := put3_same hr3 (.int .u8 0) (.string ⟨#[48]⟩) (.slice none 0 0)
  have y0 : World.cell? _ ⟨w.heap.size, 0, none⟩ = some (.int .u8 0) := heap_cell (i := 0) hy
  have y1 : World.cell? _ ⟨w.heap.size, 1, none⟩ = some (.string ⟨#[48]⟩) := heap_cell (i := 1) hy
  have y2 : World.cell? _ ⟨w.heap.size, 2, none⟩ = some (.slice none 0 0) := heap_cell (i := 2) hy
  go_wp2
  refine bodyPost_ret (v := .agg #[.int .u8 0, .string ⟨#[48]⟩, .slice none 0 0]) (by simp [results, Tryz.results225, go_sem, y0, y1, y2]; try rfl) rfl ?_
  have hd := (H2.out.noAt true).put (Nat.le_refl _) (.int .u8 0) (.string ⟨#[48]⟩) (.slice none 0 0)
  exact ⟨0, _, none, 0, 0, rfl, hd.rp, hd.fr⟩

set_option maxRecDepth 100000 in
set_option maxHeartbeats 2000000 in
theorem ratom_odd2 {toks : List Tok} (rb tb cap a nest : Nat) (w : World) (h : RP toks rb tb cap a nest false w.heap) (ha : a < toks.length) (T : ByteArray) (hT : tx toks a = T)
    (h0 : 0 < T.size) (n1 : (T.toList == [40]) = false) (n2 : (T.toList == [105, 102]) = false) (n3 : (T.toList == [116, 114, 117, 101]) = false) (n4 : (T.toList == [102, 97, 108, 115, 101]) = false) (hnm : nameB T = false) (hz : T.size ≤ maxLen)
    (d1 : (48 : Int) ≤ T[0].toNat) (d2 : ¬ (T[0].toNat : Int) ≤ 57) :
    Calls Tryz.prog 225 #[.pointer (some ⟨rb, 0, none⟩)] w (DPost toks rb tb cap a nest w) := by
  have HP := hid h
  have HX := hid (nx_tx hT)
  have HN := hid hnm
  have HZ := hid hz
  have hem : T.toList.isEmpty = false := by
    cases hq : T.toList.isEmpty with
    | false => rfl
    | true => have := emp_iff.1 (show emp T = true from hq); subst this; exact absurd h0 (by decide)
  clear h hT hnm hz
  have H0 := hid ((DS.refl HP.out).alloc (.cells zE 232))
  have HR0 := hid (new_heap w (.cells zE 232))
  go_enter Tryz.func225, Tryz.ntmps225
  go_wp2_with fail
  refine (rnext_any toks rb tb cap a nest _ _ H0.out.rp ha).mono ?_
  rintro e w1 ⟨rfl, hb⟩
  rw [HX.out]
  have H1 := hid (H0.out.below hb)
  have HR1 := hid (below_heap hb (heap_lt HR0.out) HR0.out)
  clear hb
  go_wp2_with fail
  refine (rName_any _ _ HZ.out).mono ?_
  rintro e w2 ⟨rfl, hb⟩
  rw [HN.out]
  have H2 := hid (H1.out.below hb)
  have HR2 := hid (below_heap hb (heap_lt HR1.out) HR1.out)
  have c2 := H2.out.rp.c2
  have f2 := H2.out.rp.f 2
  have c3 := H2.out.rp.c3
  have f3 := H2.out.rp.f 3
  have hne : w.heap.size ≠ rb := by have := H2.out.pl; omega
  clear hb
  have hr3 := own_set (i := 3) HR2.out hne (.bool true)
  have r0 : World.cell? _ ⟨w.heap.size, 0, none⟩ = some (.int .u8 0) := heap_cell (i := 0) hr3
  have fr0 : World.frozen? _ ⟨w.heap.size, 0, none⟩ = false := heap_frozen hr3
  have r1 : World.cell? _ ⟨w.heap.size, 1, none⟩ = some (.string ⟨#[]⟩) := heap_cell (i := 1) hr3
  have fr1 : World.frozen? _ ⟨w.heap.size, 1, none⟩ = false := heap_frozen hr3
  have r2 : World.cell? _ ⟨w.heap.size, 2, none⟩ = some (.slice none 0 0) := heap_cell (i := 2) hr3
  have fr2 : World.frozen? _ ⟨w.heap.size, 2, none⟩ = false := heap_frozen hr3
  have hy := put3_same hr3 (.int .u8 0) (.string ⟨#[48]⟩) (.slice none 0 0)
  have y0 : World.cell? _ ⟨w.heap.size, 0, none⟩ = some (.int .u8 0) := heap_cell (i := 0) hy
  have y1 : World.cell? _ ⟨w.heap.size, 1, none⟩ = some (.string ⟨#[48]⟩) := heap_cell (i := 1) hy
  have y2 : World.cell? _ ⟨w.heap.size, 2, none⟩ = some (.slice none 0 0) := heap_cell (i := 2) hy
  go_wp2
  refine bodyPost_ret (v := .agg #[.int .u8 0, .string ⟨#[48]⟩, .slice none 0 0]) (by simp [results, Tryz.results225, go_sem, y0, y1, y2]; try rfl) rfl ?_
  have hd := (H2.out.noAt true).put (Nat.le_refl _) (.int .u8 0) (.string ⟨#[48]⟩) (.slice none 0 0)
  exact ⟨0, _, none, 0, 0, rfl, hd.rp, hd.fr⟩

set_option maxRecDepth 100000 in
set_option maxHeartbeats 2000000 in
theorem ratom_odd3 {toks : List Tok} (rb tb cap a nest : Nat) (w : World) (h : RP toks rb tb cap a nest false w.heap) (ha : a < toks.length) (T : ByteArray) (hT : tx toks a = T)
    (h0 : 0 < T.size) (n1 : (T.toList == [40]) = false) (n2 : (T.toList == [105, 102]) = false) (n3 : (T.toList == [116, 114, 117, 101]) = false) (n4 : (T.toList == [102, 97, 108, 115, 101]) = false) (hnm : nameB T = false) (hz : T.size ≤ maxLen)
    (d1 : (48 : Int) ≤ T[0].toNat) (d2 : (T[0].toNat : Int) ≤ 57) (d3 : ¬ T.size ≤ 9) :
    Calls Tryz.prog 225 #[.pointer (some ⟨rb, 0, none⟩)] w (DPost toks rb tb cap a nest w) := by
  have HP := hid h
  have HX := hid (nx_tx hT)
  have HN := hid hnm
  have HZ := hid hz
  have hem : T.toList.isEmpty = false := by
    cases hq : T.toList.isEmpty with
    | false => rfl
    | true => have := emp_iff.1 (show emp T = true from hq); subst this; exact absurd h0 (by decide)
  clear h hT hnm hz
  have H0 := hid ((DS.refl HP.out).alloc (.cells zE 232))
  have HR0 := hid (new_heap w (.cells zE 232))
  go_enter Tryz.func225, Tryz.ntmps225
  go_wp2_with fail
  refine (rnext_any toks rb tb cap a nest _ _ H0.out.rp ha).mono ?_
  rintro e w1 ⟨rfl, hb⟩
  rw [HX.out]
  have H1 := hid (H0.out.below hb)
  have HR1 := hid (below_heap hb (heap_lt HR0.out) HR0.out)
  clear hb
  go_wp2_with fail
  refine (rName_any _ _ HZ.out).mono ?_
  rintro e w2 ⟨rfl, hb⟩
  rw [HN.out]
  have H2 := hid (H1.out.below hb)
  have HR2 := hid (below_heap hb (heap_lt HR1.out) HR1.out)
  have c2 := H2.out.rp.c2
  have f2 := H2.out.rp.f 2
  have c3 := H2.out.rp.c3
  have f3 := H2.out.rp.f 3
  have hne : w.heap.size ≠ rb := by have := H2.out.pl; omega
  clear hb
  have hr3 := own_set (i := 3) HR2.out hne (.bool true)
  have r0 : World.cell? _ ⟨w.heap.size, 0, none⟩ = some (.int .u8 0) := heap_cell (i := 0) hr3
  have fr0 : World.frozen? _ ⟨w.heap.size, 0, none⟩ = false := heap_frozen hr3
  have r1 : World.cell? _ ⟨w.heap.size, 1, none⟩ = some (.string ⟨#[]⟩) := heap_cell (i := 1) hr3
  have fr1 : World.frozen? _ ⟨w.heap.size, 1, none⟩ = false := heap_frozen hr3
  have r2 : World.cell? _ ⟨w.heap.size, 2, none⟩ = some (.slice none 0 0) := heap_cell (i := 2) hr3
  have fr2 : World.frozen? _ ⟨w.heap.size, 2, none⟩ = false := heap_frozen hr3
  have hy := put3_same hr3 (.int .u8 0) (.string ⟨#[48]⟩) (.slice none 0 0)
  have y0 : World.cell? _ ⟨w.heap.size, 0, none⟩ = some (.int .u8 0) := heap_cell (i := 0) hy
  have y1 : World.cell? _ ⟨w.heap.size, 1, none⟩ = some (.string ⟨#[48]⟩) := heap_cell (i := 1) hy
  have y2 : World.cell? _ ⟨w.heap.size, 2, none⟩ = some (.slice none 0 0) := heap_cell (i := 2) hy
  go_wp2
  refine bodyPost_ret (v := .agg #[.int .u8 0, .string ⟨#[48]⟩, .slice none 0 0]) (by simp [results, Tryz.results225, go_sem, y0, y1, y2]; try rfl) rfl ?_
  have hd := (H2.out.noAt true).put (Nat.le_refl _) (.int .u8 0) (.string ⟨#[48]⟩) (.slice none 0 0)
  exact ⟨0, _, none, 0, 0, rfl, hd.rp, hd.fr⟩

set_option maxRecDepth 100000 in
set_option maxHeartbeats 2000000 in
theorem ratom_full_bracket {toks : List Tok} (rb tb cap a : Nat) (w : World) (h : RP toks rb tb cap a 20 false w.heap) (ha : a < toks.length) (hT : tx toks a = ⟨#[40]⟩) :
    Calls Tryz.prog 225 #[.pointer (some ⟨rb, 0, none⟩)] w (DPost toks rb tb cap a 20 w) := by
  obtain ⟨nest, hnest⟩ : ∃ n : Nat, n = 20 := ⟨20, rfl⟩
  have HP := hid (show RP toks rb tb cap a nest false w.heap by rw [hnest]; exact h)
  have HX := hid (nx_tx hT)
  have HN := hid (show nameB ⟨#[40]⟩ = false by first | decide | simp [nameB, kwB, ByteArray.toList_eq])
  have HZ := hid (show (⟨#[40]⟩ : ByteArray).size ≤ maxLen by decide)
  clear h hT
  have H0 := hid ((DS.refl HP.out).alloc (.cells zE 232))
  have HR0 := hid (new_heap w (.cells zE 232))
  go_enter Tryz.func225, Tryz.ntmps225
  go_wp2_with fail
  refine (rnext_any toks rb tb cap a nest _ _ H0.out.rp ha).mono ?_
  rintro e w1 ⟨rfl, hb⟩
  rw [HX.out]
  have H1 := hid (H0.out.below hb)
  have HR1 := hid (below_heap hb (heap_lt HR0.out) HR0.out)
  clear hb
  go_wp2_with fail
  refine (rName_any _ _ HZ.out).mono ?_
  rintro e w2 ⟨rfl, hb⟩
  rw [HN.out]
  have H2 := hid (H1.out.below hb)
  have HR2 := hid (below_heap hb (heap_lt HR1.out) HR1.out)
  have c2 := H2.out.rp.c2
  have f2 := H2.out.rp.f 2
  have c3 := H2.out.rp.c3
  have f3 := H2.out.rp.f 3
  have hne : w.heap.size ≠ rb := by have := H2.out.pl; omega
  clear hb
  subst hnest
  have hr3 := own_set (i := 3) HR2.out hne (.bool true)
  have r0 : World.cell? _ ⟨w.heap.size, 0, none⟩ = some (.int .u8 0) := heap_cell (i := 0) hr3
  have fr0 : World.frozen? _ ⟨w.heap.size, 0, none⟩ = false := heap_frozen hr3
  have r1 : World.cell? _ ⟨w.heap.size, 1, none⟩ = some (.string ⟨#[]⟩) := heap_cell (i := 1) hr3
  have fr1 : World.frozen? _ ⟨w.heap.size, 1, none⟩ = false := heap_frozen hr3
  have r2 : World.cell? _ ⟨w.heap.size, 2, none⟩ = some (.slice none 0 0) := heap_cell (i := 2) hr3
  have fr2 : World.frozen? _ ⟨w.heap.size, 2, none⟩ = false := heap_frozen hr3
  have hy := put3_same hr3 (.int .u8 0) (.string ⟨#[48]⟩) (.slice none 0 0)
  have y0 : World.cell? _ ⟨w.heap.size, 0, none⟩ = some (.int .u8 0) := heap_cell (i := 0) hy
  have y1 : World.cell? _ ⟨w.heap.size, 1, none⟩ = some (.string ⟨#[48]⟩) := heap_cell (i := 1) hy
  have y2 : World.cell? _ ⟨w.heap.size, 2, none⟩ = some (.slice none 0 0) := heap_cell (i := 2) hy
  go_wp2
  refine bodyPost_ret (v := .agg #[.int .u8 0, .string ⟨#[48]⟩, .slice none 0 0]) (by simp [results, Tryz.results225, go_sem, y0, y1, y2]; try rfl) rfl ?_
  have hd := (H2.out.noAt true).put (Nat.le_refl _) (.int .u8 0) (.string ⟨#[48]⟩) (.slice none 0 0)
  exact ⟨0, _, none, 0, 0, rfl, hd.rp, hd.fr⟩

set_option maxRecDepth 100000 in
set_option maxHeartbeats 2000000 in
theorem ratom_bracket {toks : List Tok} (rb tb cap a nest b : Nat) (r : Option Value) (w : World) (h : RP toks rb tb cap a nest false w.heap) (ha : a < toks.length) (hT : tx toks a = ⟨#[40]⟩) (hnest : nest < 20)
    (hin : ∀ w', RP toks rb tb cap a (nest + 1) false w'.heap → Calls Tryz.prog 230 #[.pointer (some ⟨rb, 0, none⟩), .string ⟨#[40]⟩] w' (RPost toks rb tb cap a (nest + 1) b r w')) :
    Calls Tryz.prog 225 #[.pointer (some ⟨rb, 0, none⟩)] w (RPost toks rb tb cap a nest b r w) := by
  have HP := hid h
  have HX := hid (nx_tx hT)
  have HN := hid (show nameB ⟨#[40]⟩ = false by first | decide | simp [nameB, kwB, ByteArray.toList_eq])
  have HZ := hid (show (⟨#[40]⟩ : ByteArray).size ≤ maxLen by decide)
  have HI := hid hin
  clear h hT hin
  have H0 := hid ((DS.refl HP.out).alloc (.cells zE 232))
  have HR0 := hid (new_heap w (.cells zE 232))
  obtain ⟨KK, hKK⟩ : ∃ K : Nat → Prop, K = fun k => w.heap.size < k := ⟨_, rfl⟩
  have hK : Hid (∀ k, KK k → k ≠ rb) := hid (by subst hKK; intro k h e; have := H0.out.pl; have h2 : w.heap.size < k := h; omega)
  have hK2 : Hid (∀ k, w.heap.size < k → KK k) := hid (by subst hKK; exact fun k h => h)
  have hK3 : Hid (¬ KK w.heap.size) := hid (by subst hKK; exact Nat.lt_irrefl _)
  go_enter Tryz.func225, Tryz.ntmps225
  go_wp2_with fail
  refine (rnext_any toks rb tb cap a nest _ _ H0.out.rp ha).mono ?_
  rintro e w1 ⟨rfl, hb⟩
  rw [HX.out]
  have H1 := hid (H0.out.below hb)
  have HR1 := hid (below_heap hb (heap_lt HR0.out) HR0.out)
  clear hb
  go_wp2_with fail
  refine (rName_any _ _ HZ.out).mono ?_
  rintro e w2 ⟨rfl, hb⟩
  rw [HN.out]
  have H2 := hid (H1.out.below hb)
  have HR2 := hid (below_heap hb (heap_lt HR1.out) HR1.out)
  have c2 := H2.out.rp.c2
  have f2 := H2.out.rp.f 2
  have c3 := H2.out.rp.c3
  have f3 := H2.out.rp.f 3
  have hne : w.heap.size ≠ rb := by have := H2.out.pl; omega
  clear hb
  have hcast : ((nest + 1 : Nat) : Int) = (nest : Int) + 1 := by omega
  have HN1 := hid (H2.out.nestAt (nest + 1))
  rw [hcast] at HN1
  have hr3 := own_set (i := 2) HR2.out hne (.int .i64 ((nest : Int) + 1))
  have HR3 := hid hr3
  have HC := hid hcast
  clear hcast hr3
  go_wp2_with fail
  refine (HI.out _ HN1.out.rp).mono ?_
  rintro e w3 ⟨op, t, ao, m, c, rfl, hp, hf, hx⟩
  have H3 := hid ((HN1.out.call hp hf).alloc (.cells #[.int .u8 op, .string t, .slice ao m c] 232))
  have HR4 := hid (old_heap (.cells #[.int .u8 op, .string t, .slice ao m c] 232) (own_fr HR3.out hf (Nat.le_refl _) H2.out.pl))
  have HE4 := hid (new_heap w3 (.cells #[.int .u8 op, .string t, .slice ao m c] 232))
  have hsz : w.heap.size < w3.heap.size := heap_lt (own_fr HR3.out hf (Nat.le_refl _) H2.out.pl)
  have HX3 := hid (fun x h => by obtain ⟨n, h1, h2⟩ := hx x h; exact ⟨n, h1, rep_mono h2 (fun k _ h3 => hK2.out k (Nat.lt_trans (by have := heap_lt HR2.out; simpa using this) h3))⟩ : ∀ x, r = some x → ∃ n, n + a ≤ b ∧ Rep KK w3 n (.agg #[.int .u8 op, .string t, .slice ao m c]) x)
  have k2 := H3.out.rp.c2
  have g2 := H3.out.rp.f 2
  rw [HC.out] at k2
  clear hp hf hx
  have hrb : w3.heap.size ≠ rb := by have := H2.out.pl; omega
  have hr := own_set (i := 2) HR4.out hne (.int .i64 (nest : Int))
  have he := own_set (i := 2) HE4.out hrb (.int .i64 (nest : Int))
  have r0 : World.cell? _ ⟨w.heap.size, 0, none⟩ = some (.int .u8 0) := heap_cell (i := 0) hr
  have fr0 : World.frozen? _ ⟨w.heap.size, 0, none⟩ = false := heap_frozen hr
  have r1 : World.cell? _ ⟨w.heap.size, 1, none⟩ = some (.string ⟨#[]⟩) := heap_cell (i := 1) hr
  have fr1 : World.frozen? _ ⟨w.heap.size, 1, none⟩ = false := heap_frozen hr
  have r2 : World.cell? _ ⟨w.heap.size, 2, none⟩ = some (.slice none 0 0) := heap_cell (i := 2) hr
  have fr2 : World.frozen? _ ⟨w.heap.size, 2, none⟩ = false := heap_frozen hr
  have e0 : World.cell? _ ⟨w3.heap.size, 0, none⟩ = some (.int .u8 op) := heap_cell (i := 0) he
  have fe0 : World.frozen? _ ⟨w3.heap.size, 0, none⟩ = false := heap_frozen he
  have e1 : World.cell? _ ⟨w3.heap.size, 1, none⟩ = some (.string t) := heap_cell (i := 1) he
  have fe1 : World.frozen? _ ⟨w3.heap.size, 1, none⟩ = false := heap_frozen he
  have e2 : World.cell? _ ⟨w3.heap.size, 2, none⟩ = some (.slice ao m c) := heap_cell (i := 2) he
  have fe2 : World.frozen? _ ⟨w3.heap.size, 2, none⟩ = false := heap_frozen he
  have hy := put3_same hr (.int .u8 op) (.string t) (.slice ao m c)
  have y0 : World.cell? _ ⟨w.heap.size, 0, none⟩ = some (.int .u8 op) := heap_cell (i := 0) hy
  have y1 : World.cell? _ ⟨w.heap.size, 1, none⟩ = some (.string t) := heap_cell (i := 1) hy
  have y2 : World.cell? _ ⟨w.heap.size, 2, none⟩ = some (.slice ao m c) := heap_cell (i := 2) hy
  go_wp2
  refine bodyPost_ret (v := .agg #[.int .u8 op, .string t, .slice ao m c]) (by simp [results, Tryz.results225, go_sem, y0, y1, y2]; try rfl) rfl ?_
  have hd := (H3.out.nestAt nest).put (Nat.le_refl _) (.int .u8 op) (.string t) (.slice ao m c)
  refine ⟨op, t, ao, m, c, rfl, hd.rp, hd.fr, fun x hx => ?_⟩
  obtain ⟨n, hn, hr⟩ := HX3.out x hx
  have hl := (((Later.refl KK w3).alloc (.cells #[.int .u8 op, .string t, .slice ao m c] 232)).set (p := ⟨rb, 2, none⟩) (fun h => hK.out rb h rfl) (.int .i64 (nest : Int))).put3 hK3.out (.int .u8 op) (.string t) (.slice ao m c)
  subst hKK
  exact ⟨n, hn, rep_later hr hl⟩

set_option maxRecDepth 100000 in
set_option maxHeartbeats 2000000 in
theorem ratom_full_choice {toks : List Tok} (rb tb cap a : Nat) (w : World) (h : RP toks rb tb cap a 20 false w.heap) (ha : a < toks.length) (hT : tx toks a = ⟨#[105, 102]⟩) :
    Calls Tryz.prog 225 #[.pointer (some ⟨rb, 0, none⟩)] w (DPost toks rb tb cap a 20 w) := by
  obtain ⟨nest, hnest⟩ : ∃ n : Nat, n = 20 := ⟨20, rfl⟩
  have HP := hid (show RP toks rb tb cap a nest false w.heap by rw [hnest]; exact h)
  have HX := hid (nx_tx hT)
  have HN := hid (show nameB ⟨#[105, 102]⟩ = false by first | decide | simp [nameB, kwB, ByteArray.toList_eq])
  have HZ := hid (show (⟨#[105, 102]⟩ : ByteArray).size ≤ maxLen by decide)
  clear h hT
  have H0 := hid ((DS.refl HP.out).alloc (.cells zE 232))
  have HR0 := hid (new_heap w (.cells zE 232))
  go_enter Tryz.func225, Tryz.ntmps225
  go_wp2_with fail
  refine (rnext_any toks rb tb cap a nest _ _ H0.out.rp ha).mono ?_
  rintro e w1 ⟨rfl, hb⟩
  rw [HX.out]
  have H1 := hid (H0.out.below hb)
  have HR1 := hid (below_heap hb (heap_lt HR0.out) HR0.out)
  clear hb
  go_wp2_with fail
  refine (rName_any _ _ HZ.out).mono ?_
  rintro e w2 ⟨rfl, hb⟩
  rw [HN.out]
  have H2 := hid (H1.out.below hb)
  have HR2 := hid (below_heap hb (heap_lt HR1.out) HR1.out)
  have c2 := H2.out.rp.c2
  have f2 := H2.out.rp.f 2
  have c3 := H2.out.rp.c3
  have f3 := H2.out.rp.f 3
  have hne : w.heap.size ≠ rb := by have := H2.out.pl; omega
  clear hb
  subst hnest
  have hr3 := own_set (i := 3) HR2.out hne (.bool true)
  have r0 : World.cell? _ ⟨w.heap.size, 0, none⟩ = some (.int .u8 0) := heap_cell (i := 0) hr3
  have fr0 : World.frozen? _ ⟨w.heap.size, 0, none⟩ = false := heap_frozen hr3
  have r1 : World.cell? _ ⟨w.heap.size, 1, none⟩ = some (.string ⟨#[]⟩) := heap_cell (i := 1) hr3
  have fr1 : World.frozen? _ ⟨w.heap.size, 1, none⟩ = false := heap_frozen hr3
  have r2 : World.cell? _ ⟨w.heap.size, 2, none⟩ = some (.slice none 0 0) := heap_cell (i := 2) hr3
  have fr2 : World.frozen? _ ⟨w.heap.size, 2, none⟩ = false := heap_frozen hr3
  have hy := put3_same hr3 (.int .u8 0) (.string ⟨#[48]⟩) (.slice none 0 0)
  have y0 : World.cell? _ ⟨w.heap.size, 0, none⟩ = some (.int .u8 0) := heap_cell (i := 0) hy
  have y1 : World.cell? _ ⟨w.heap.size, 1, none⟩ = some (.string ⟨#[48]⟩) := heap_cell (i := 1) hy
  have y2 : World.cell? _ ⟨w.heap.size, 2, none⟩ = some (.slice none 0 0) := heap_cell (i := 2) hy
  go_wp2
  refine bodyPost_ret (v := .agg #[.int .u8 0, .string ⟨#[48]⟩, .slice none 0 0]) (by simp [results, Tryz.results225, go_sem, y0, y1, y2]; try rfl) rfl ?_
  have hd := (H2.out.noAt true).put (Nat.le_refl _) (.int .u8 0) (.string ⟨#[48]⟩) (.slice none 0 0)
  exact ⟨0, _, none, 0, 0, rfl, hd.rp, hd.fr⟩

set_option maxRecDepth 100000 in
set_option maxHeartbeats 2000000 in
theorem ratom_choice {toks : List Tok} (rb tb cap a nest b : Nat) (r : Option Value) (w : World) (h : RP toks rb tb cap a nest false w.heap) (ha : a < toks.length) (hT : tx toks a = ⟨#[105, 102]⟩) (hnest : nest < 20)
    (hin : ∀ w', RP toks rb tb cap a (nest + 1) false w'.heap → Calls Tryz.prog 230 #[.pointer (some ⟨rb, 0, none⟩), .string ⟨#[105, 102]⟩] w' (RPost toks rb tb cap a (nest + 1) b r w')) :
    Calls Tryz.prog 225 #[.pointer (some ⟨rb, 0, none⟩)] w (RPost toks rb tb cap a nest b r w) := by
  have HP := hid h
  have HX := hid (nx_tx hT)
  have HN := hid (show nameB ⟨#[105, 102]⟩ = false by first | decide | simp [nameB, kwB, ByteArray.toList_eq])
  have HZ := hid (show (⟨#[105, 102]⟩ : ByteArray).size ≤ maxLen by decide)
  have HI := hid hin
  clear h hT hin
  have H0 := hid ((DS.refl HP.out).alloc (.cells zE 232))
  have HR0 := hid (new_heap w (.cells zE 232))
  obtain ⟨KK, hKK⟩ : ∃ K : Nat → Prop, K = fun k => w.heap.size < k := ⟨_, rfl⟩
  have hK : Hid (∀ k, KK k → k ≠ rb) := hid (by subst hKK; intro k h e; have := H0.out.pl; have h2 : w.heap.size < k := h; omega)
  have hK2 : Hid (∀ k, w.heap.size < k → KK k) := hid (by subst hKK; exact fun k h => h)
  have hK3 : Hid (¬ KK w.heap.size) := hid (by subst hKK; exact Nat.lt_irrefl _)
  go_enter Tryz.func225, Tryz.ntmps225
  go_wp2_with fail
  refine (rnext_any toks rb tb cap a nest _ _ H0.out.rp ha).mono ?_
  rintro e w1 ⟨rfl, hb⟩
  rw [HX.out]
  have H1 := hid (H0.out.below hb)
  have HR1 := hid (below_heap hb (heap_lt HR0.out) HR0.out)
  clear hb
  go_wp2_with fail
  refine (rName_any _ _ HZ.out).mono ?_
  rintro e w2 ⟨rfl, hb⟩
  rw [HN.out]
  have H2 := hid (H1.out.below hb)
  have HR2 := hid (below_heap hb (heap_lt HR1.out) HR1.out)
  have c2 := H2.out.rp.c2
  have f2 := H2.out.rp.f 2
  have c3 := H2.out.rp.c3
  have f3 := H2.out.rp.f 3
  have hne : w.heap.size ≠ rb := by have := H2.out.pl; omega
  clear hb
  have hcast : ((nest + 1 : Nat) : Int) = (nest : Int) + 1 := by omega
  have HN1 := hid (H2.out.nestAt (nest + 1))
  rw [hcast] at HN1
  have hr3 := own_set (i := 2) HR2.out hne (.int .i64 ((nest : Int) + 1))
  have HR3 := hid hr3
  have HC := hid hcast
  clear hcast hr3
  go_wp2_with fail
  refine (HI.out _ HN1.out.rp).mono ?_
  rintro e w3 ⟨op, t, ao, m, c, rfl, hp, hf, hx⟩
  have H3 := hid ((HN1.out.call hp hf).alloc (.cells #[.int .u8 op, .string t, .slice ao m c] 232))
  have HR4 := hid (old_heap (.cells #[.int .u8 op, .string t, .slice ao m c] 232) (own_fr HR3.out hf (Nat.le_refl _) H2.out.pl))
  have HE4 := hid (new_heap w3 (.cells #[.int .u8 op, .string t, .slice ao m c] 232))
  have hsz : w.heap.size < w3.heap.size := heap_lt (own_fr HR3.out hf (Nat.le_refl _) H2.out.pl)
  have HX3 := hid (fun x h => by obtain ⟨n, h1, h2⟩ := hx x h; exact ⟨n, h1, rep_mono h2 (fun k _ h3 => hK2.out k (Nat.lt_trans (by have := heap_lt HR2.out; simpa using this) h3))⟩ : ∀ x, r = some x → ∃ n, n + a ≤ b ∧ Rep KK w3 n (.agg #[.int .u8 op, .string t, .slice ao m c]) x)
  have k2 := H3.out.rp.c2
  have g2 := H3.out.rp.f 2
  rw [HC.out] at k2
  clear hp hf hx
  have hrb : w3.heap.size ≠ rb := by have := H2.out.pl; omega
  have hr := own_set (i := 2) HR4.out hne (.int .i64 (nest : Int))
  have he := own_set (i := 2) HE4.out hrb (.int .i64 (nest : Int))
  have r0 : World.cell? _ ⟨w.heap.size, 0, none⟩ = some (.int .u8 0) := heap_cell (i := 0) hr
  have fr0 : World.frozen? _ ⟨w.heap.size, 0, none⟩ = false := heap_frozen hr
  have r1 : World.cell? _ ⟨w.heap.size, 1, none⟩ = some (.string ⟨#[]⟩) := heap_cell (i := 1) hr
  have fr1 : World.frozen? _ ⟨w.heap.size, 1, none⟩ = false := heap_frozen hr
  have r2 : World.cell? _ ⟨w.heap.size, 2, none⟩ = some (.slice none 0 0) := heap_cell (i := 2) hr
  have fr2 : World.frozen? _ ⟨w.heap.size, 2, none⟩ = false := heap_frozen hr
  have e0 : World.cell? _ ⟨w3.heap.size, 0, none⟩ = some (.int .u8 op) := heap_cell (i := 0) he
  have fe0 : World.frozen? _ ⟨w3.heap.size, 0, none⟩ = false := heap_frozen he
  have e1 : World.cell? _ ⟨w3.heap.size, 1, none⟩ = some (.string t) := heap_cell (i := 1) he
  have fe1 : World.frozen? _ ⟨w3.heap.size, 1, none⟩ = false := heap_frozen he
  have e2 : World.cell? _ ⟨w3.heap.size, 2, none⟩ = some (.slice ao m c) := heap_cell (i := 2) he
  have fe2 : World.frozen? _ ⟨w3.heap.size, 2, none⟩ = false := heap_frozen he
  have hy := put3_same hr (.int .u8 op) (.string t) (.slice ao m c)
  have y0 : World.cell? _ ⟨w.heap.size, 0, none⟩ = some (.int .u8 op) := heap_cell (i := 0) hy
  have y1 : World.cell? _ ⟨w.heap.size, 1, none⟩ = some (.string t) := heap_cell (i := 1) hy
  have y2 : World.cell? _ ⟨w.heap.size, 2, none⟩ = some (.slice ao m c) := heap_cell (i := 2) hy
  go_wp2
  refine bodyPost_ret (v := .agg #[.int .u8 op, .string t, .slice ao m c]) (by simp [results, Tryz.results225, go_sem, y0, y1, y2]; try rfl) rfl ?_
  have hd := (H3.out.nestAt nest).put (Nat.le_refl _) (.int .u8 op) (.string t) (.slice ao m c)
  refine ⟨op, t, ao, m, c, rfl, hd.rp, hd.fr, fun x hx => ?_⟩
  obtain ⟨n, hn, hr⟩ := HX3.out x hx
  have hl := (((Later.refl KK w3).alloc (.cells #[.int .u8 op, .string t, .slice ao m c] 232)).set (p := ⟨rb, 2, none⟩) (fun h => hK.out rb h rfl) (.int .i64 (nest : Int))).put3 hK3.out (.int .u8 op) (.string t) (.slice ao m c)
  subst hKK
  exact ⟨n, hn, rep_later hr hl⟩

set_option maxRecDepth 100000 in
set_option maxHeartbeats 2000000 in
theorem ratom_name {toks : List Tok} (hw : Wf toks) (rb tb cap a nest : Nat) (w : World) (h : RP toks rb tb cap a nest false w.heap) (ha : a < toks.length) (T : ByteArray) (hT : tx toks a = T) (hn : nameB T = true) (hz : T.size ≤ maxLen) (n1 : (T.toList == [40]) = false) (n2 : (T.toList == [105, 102]) = false) (hne' : emp (tx toks a) = false) :
    Calls Tryz.prog 225 #[.pointer (some ⟨rb, 0, none⟩)] w fun e w' => e = .returned (.agg #[.int .u8 0, .string (tx toks a), .slice none 0 0]) ∧ RP toks rb tb cap (a + 1) nest false w'.heap ∧ Fr [rb] w w' := by
  have HP := hid h
  have HX := hid (nx_tx hT)
  have HW := hid hw
  have HE := hid (passS_any hne')
  have HE2 := hid (show passT toks [] a false = tx toks a by simp [passT, passB_any, hne'])
  have HN := hid hn
  have HZ := hid hz
  clear h hT hw hne'
  have H0 := hid ((DS.refl HP.out).alloc (.cells zE 232))
  have HR0 := hid (new_heap w (.cells zE 232))
  go_enter Tryz.func225, Tryz.ntmps225
  go_wp2_with fail
  refine (rnext_any toks rb tb cap a nest _ _ H0.out.rp ha).mono ?_
  rintro e w1 ⟨rfl, hb⟩
  rw [HX.out]
  have H1 := hid (H0.out.below hb)
  have HR1 := hid (below_heap hb (heap_lt HR0.out) HR0.out)
  clear hb
  go_wp2_with fail
  refine (rName_any _ _ HZ.out).mono ?_
  rintro e w2 ⟨rfl, hb⟩
  rw [HN.out]
  have H2 := hid (H1.out.below hb)
  have HR2 := hid (below_heap hb (heap_lt HR1.out) HR1.out)
  have c2 := H2.out.rp.c2
  have f2 := H2.out.rp.f 2
  have c3 := H2.out.rp.c3
  have f3 := H2.out.rp.f 3
  have hne : w.heap.size ≠ rb := by have := H2.out.pl; omega
  clear hb
  go_wp2_with fail
  refine (rpass_any HW.out rb tb cap a nest false _ [] _ H2.out.rp ha (Lst.nil _) HE.out).mono ?_
  rintro e w3 ⟨rfl, hp, hf⟩
  rw [HE2.out]
  have H3 := hid (H2.out.call hp hf)
  have hr := own_fr HR2.out hf (Nat.le_refl _) H2.out.pl
  clear hp hf
  have r0 : World.cell? _ ⟨w.heap.size, 0, none⟩ = some (.int .u8 0) := heap_cell (i := 0) hr
  have fr0 : World.frozen? _ ⟨w.heap.size, 0, none⟩ = false := heap_frozen hr
  have r1 : World.cell? _ ⟨w.heap.size, 1, none⟩ = some (.string ⟨#[]⟩) := heap_cell (i := 1) hr
  have fr1 : World.frozen? _ ⟨w.heap.size, 1, none⟩ = false := heap_frozen hr
  have r2 : World.cell? _ ⟨w.heap.size, 2, none⟩ = some (.slice none 0 0) := heap_cell (i := 2) hr
  have fr2 : World.frozen? _ ⟨w.heap.size, 2, none⟩ = false := heap_frozen hr
  have hy := put3_same hr (.int .u8 0) (.string (tx toks a)) (.slice none 0 0)
  have y0 : World.cell? _ ⟨w.heap.size, 0, none⟩ = some (.int .u8 0) := heap_cell (i := 0) hy
  have y1 : World.cell? _ ⟨w.heap.size, 1, none⟩ = some (.string (tx toks a)) := heap_cell (i := 1) hy
  have y2 : World.cell? _ ⟨w.heap.size, 2, none⟩ = some (.slice none 0 0) := heap_cell (i := 2) hy
  go_wp2
  refine bodyPost_ret (v := .agg #[.int .u8 0, .string (tx toks a), .slice none 0 0]) (by simp [results, Tryz.results225, go_sem, y0, y1, y2]; try rfl) rfl ?_
  have hd := H3.out.put (Nat.le_refl _) (.int .u8 0) (.string (tx toks a)) (.slice none 0 0)
  exact ⟨rfl, hd.rp, hd.fr⟩

set_option maxRecDepth 100000 in
set_option maxHeartbeats 2000000 in
theorem ratom_true {toks : List Tok} (hw : Wf toks) (rb tb cap a nest : Nat) (w : World) (h : RP toks rb tb cap a nest false w.heap) (ha : a < toks.length) (hT : tx toks a = ⟨#[116, 114, 117, 101]⟩) (hne' : emp (tx toks a) = false) :
    Calls Tryz.prog 225 #[.pointer (some ⟨rb, 0, none⟩)] w fun e w' => e = .returned (.agg #[.int .u8 0, .string (tx toks a), .slice none 0 0]) ∧ RP toks rb tb cap (a + 1) nest false w'.heap ∧ Fr [rb] w w' := by
  have HP := hid h
  have HX := hid (nx_tx hT)
  have HW := hid hw
  have HE := hid (passS_any hne')
  have HE2 := hid (show passT toks [] a false = tx toks a by simp [passT, passB_any, hne'])
  have HN := hid (show nameB ⟨#[116, 114, 117, 101]⟩ = false by simp [nameB, kwB, ByteArray.toList_eq])
  have HZ := hid (show (⟨#[116, 114, 117, 101]⟩ : ByteArray).size ≤ maxLen by decide)
  clear h hT hw hne'
  have H0 := hid ((DS.refl HP.out).alloc (.cells zE 232))
  have HR0 := hid (new_heap w (.cells zE 232))
  go_enter Tryz.func225, Tryz.ntmps225
  go_wp2_with fail
  refine (rnext_any toks rb tb cap a nest _ _ H0.out.rp ha).mono ?_
  rintro e w1 ⟨rfl, hb⟩
  rw [HX.out]
  have H1 := hid (H0.out.below hb)
  have HR1 := hid (below_heap hb (heap_lt HR0.out) HR0.out)
  clear hb
  go_wp2_with fail
  refine (rName_any _ _ HZ.out).mono ?_
  rintro e w2 ⟨rfl, hb⟩
  rw [HN.out]
  have H2 := hid (H1.out.below hb)
  have HR2 := hid (below_heap hb (heap_lt HR1.out) HR1.out)
  have c2 := H2.out.rp.c2
  have f2 := H2.out.rp.f 2
  have c3 := H2.out.rp.c3
  have f3 := H2.out.rp.f 3
  have hne : w.heap.size ≠ rb := by have := H2.out.pl; omega
  clear hb
  go_wp2_with fail
  refine (rpass_any HW.out rb tb cap a nest false _ [] _ H2.out.rp ha (Lst.nil _) HE.out).mono ?_
  rintro e w3 ⟨rfl, hp, hf⟩
  rw [HE2.out]
  have H3 := hid (H2.out.call hp hf)
  have hr := own_fr HR2.out hf (Nat.le_refl _) H2.out.pl
  clear hp hf
  have r0 : World.cell? _ ⟨w.heap.size, 0, none⟩ = some (.int .u8 0) := heap_cell (i := 0) hr
  have fr0 : World.frozen? _ ⟨w.heap.size, 0, none⟩ = false := heap_frozen hr
  have r1 : World.cell? _ ⟨w.heap.size, 1, none⟩ = some (.string ⟨#[]⟩) := heap_cell (i := 1) hr
  have fr1 : World.frozen? _ ⟨w.heap.size, 1, none⟩ = false := heap_frozen hr
  have r2 : World.cell? _ ⟨w.heap.size, 2, none⟩ = some (.slice none 0 0) := heap_cell (i := 2) hr
  have fr2 : World.frozen? _ ⟨w.heap.size, 2, none⟩ = false := heap_frozen hr
  have hy := put3_same hr (.int .u8 0) (.string (tx toks a)) (.slice none 0 0)
  have y0 : World.cell? _ ⟨w.heap.size, 0, none⟩ = some (.int .u8 0) := heap_cell (i := 0) hy
  have y1 : World.cell? _ ⟨w.heap.size, 1, none⟩ = some (.string (tx toks a)) := heap_cell (i := 1) hy
  have y2 : World.cell? _ ⟨w.heap.size, 2, none⟩ = some (.slice none 0 0) := heap_cell (i := 2) hy
  go_wp2
  refine bodyPost_ret (v := .agg #[.int .u8 0, .string (tx toks a), .slice none 0 0]) (by simp [results, Tryz.results225, go_sem, y0, y1, y2]; try rfl) rfl ?_
  have hd := H3.out.put (Nat.le_refl _) (.int .u8 0) (.string (tx toks a)) (.slice none 0 0)
  exact ⟨rfl, hd.rp, hd.fr⟩

set_option maxRecDepth 100000 in
set_option maxHeartbeats 2000000 in
theorem ratom_false {toks : List Tok} (hw : Wf toks) (rb tb cap a nest : Nat) (w : World) (h : RP toks rb tb cap a nest false w.heap) (ha : a < toks.length) (hT : tx toks a = ⟨#[102, 97, 108, 115, 101]⟩) (hne' : emp (tx toks a) = false) :
    Calls Tryz.prog 225 #[.pointer (some ⟨rb, 0, none⟩)] w fun e w' => e = .returned (.agg #[.int .u8 0, .string (tx toks a), .slice none 0 0]) ∧ RP toks rb tb cap (a + 1) nest false w'.heap ∧ Fr [rb] w w' := by
  have HP := hid h
  have HX := hid (nx_tx hT)
  have HW := hid hw
  have HE := hid (passS_any hne')
  have HE2 := hid (show passT toks [] a false = tx toks a by simp [passT, passB_any, hne'])
  have HN := hid (show nameB ⟨#[102, 97, 108, 115, 101]⟩ = false by simp [nameB, kwB, ByteArray.toList_eq])
  have HZ := hid (show (⟨#[102, 97, 108, 115, 101]⟩ : ByteArray).size ≤ maxLen by decide)
  clear h hT hw hne'
  have H0 := hid ((DS.refl HP.out).alloc (.cells zE 232))
  have HR0 := hid (new_heap w (.cells zE 232))
  go_enter Tryz.func225, Tryz.ntmps225
  go_wp2_with fail
  refine (rnext_any toks rb tb cap a nest _ _ H0.out.rp ha).mono ?_
  rintro e w1 ⟨rfl, hb⟩
  rw [HX.out]
  have H1 := hid (H0.out.below hb)
  have HR1 := hid (below_heap hb (heap_lt HR0.out) HR0.out)
  clear hb
  go_wp2_with fail
  refine (rName_any _ _ HZ.out).mono ?_
  rintro e w2 ⟨rfl, hb⟩
  rw [HN.out]
  have H2 := hid (H1.out.below hb)
  have HR2 := hid (below_heap hb (heap_lt HR1.out) HR1.out)
  have c2 := H2.out.rp.c2
  have f2 := H2.out.rp.f 2
  have c3 := H2.out.rp.c3
  have f3 := H2.out.rp.f 3
  have hne : w.heap.size ≠ rb := by have := H2.out.pl; omega
  clear hb
  go_wp2_with fail
  refine (rpass_any HW.out rb tb cap a nest false _ [] _ H2.out.rp ha (Lst.nil _) HE.out).mono ?_
  rintro e w3 ⟨rfl, hp, hf⟩
  rw [HE2.out]
  have H3 := hid (H2.out.call hp hf)
  have hr := own_fr HR2.out hf (Nat.le_refl _) H2.out.pl
  clear hp hf
  have r0 : World.cell? _ ⟨w.heap.size, 0, none⟩ = some (.int .u8 0) := heap_cell (i := 0) hr
  have fr0 : World.frozen? _ ⟨w.heap.size, 0, none⟩ = false := heap_frozen hr
  have r1 : World.cell? _ ⟨w.heap.size, 1, none⟩ = some (.string ⟨#[]⟩) := heap_cell (i := 1) hr
  have fr1 : World.frozen? _ ⟨w.heap.size, 1, none⟩ = false := heap_frozen hr
  have r2 : World.cell? _ ⟨w.heap.size, 2, none⟩ = some (.slice none 0 0) := heap_cell (i := 2) hr
  have fr2 : World.frozen? _ ⟨w.heap.size, 2, none⟩ = false := heap_frozen hr
  have hy := put3_same hr (.int .u8 0) (.string (tx toks a)) (.slice none 0 0)
  have y0 : World.cell? _ ⟨w.heap.size, 0, none⟩ = some (.int .u8 0) := heap_cell (i := 0) hy
  have y1 : World.cell? _ ⟨w.heap.size, 1, none⟩ = some (.string (tx toks a)) := heap_cell (i := 1) hy
  have y2 : World.cell? _ ⟨w.heap.size, 2, none⟩ = some (.slice none 0 0) := heap_cell (i := 2) hy
  go_wp2
  refine bodyPost_ret (v := .agg #[.int .u8 0, .string (tx toks a), .slice none 0 0]) (by simp [results, Tryz.results225, go_sem, y0, y1, y2]; try rfl) rfl ?_
  have hd := H3.out.put (Nat.le_refl _) (.int .u8 0) (.string (tx toks a)) (.slice none 0 0)
  exact ⟨rfl, hd.rp, hd.fr⟩

set_option maxRecDepth 100000 in
set_option maxHeartbeats 2000000 in
theorem ratom_number {toks : List Tok} (hw : Wf toks) (rb tb cap a nest : Nat) (w : World) (h : RP toks rb tb cap a nest false w.heap) (ha : a < toks.length) (T : ByteArray) (hT : tx toks a = T)
    (h0 : 0 < T.size) (n1 : (T.toList == [40]) = false) (n2 : (T.toList == [105, 102]) = false) (n3 : (T.toList == [116, 114, 117, 101]) = false) (n4 : (T.toList == [102, 97, 108, 115, 101]) = false) (hnm : nameB T = false) (hz : T.size ≤ maxLen)
    (d1 : (48 : Int) ≤ T[0].toNat) (d2 : (T[0].toNat : Int) ≤ 57) (d3 : T.size ≤ 9) (hne' : emp (tx toks a) = false) :
    Calls Tryz.prog 225 #[.pointer (some ⟨rb, 0, none⟩)] w fun e w' => e = .returned (.agg #[.int .u8 0, .string (stripT (tx toks a)), .slice none 0 0]) ∧ RP toks rb tb cap (a + 1) nest false w'.heap ∧ Fr [rb] w w' := by
  have HP := hid h
  have HX := hid (nx_tx hT)
  have HW := hid hw
  have HN := hid hnm
  have HZ := hid hz
  have HZ2 := hid (show (tx toks a).size ≤ maxLen by rw [hT]; exact hz)
  have HE := hid (passS_any hne')
  have HE2 := hid (show passT toks [] a false = tx toks a by simp [passT, passB_any, hne'])
  have hem : T.toList.isEmpty = false := by
    cases hq : T.toList.isEmpty with
    | false => rfl
    | true => have := emp_iff.1 (show emp T = true from hq); subst this; exact absurd h0 (by decide)
  clear h hT hw hnm hz hne'
  have H0 := hid ((DS.refl HP.out).alloc (.cells zE 232))
  have HR0 := hid (new_heap w (.cells zE 232))
  go_enter Tryz.func225, Tryz.ntmps225
  go_wp2_with fail
  refine (rnext_any toks rb tb cap a nest _ _ H0.out.rp ha).mono ?_
  rintro e w1 ⟨rfl, hb⟩
  rw [HX.out]
  have H1 := hid (H0.out.below hb)
  have HR1 := hid (below_heap hb (heap_lt HR0.out) HR0.out)
  clear hb
  go_wp2_with fail
  refine (rName_any _ _ HZ.out).mono ?_
  rintro e w2 ⟨rfl, hb⟩
  rw [HN.out]
  have H2 := hid (H1.out.below hb)
  have HR2 := hid (below_heap hb (heap_lt HR1.out) HR1.out)
  have c2 := H2.out.rp.c2
  have f2 := H2.out.rp.f 2
  have c3 := H2.out.rp.c3
  have f3 := H2.out.rp.f 3
  have hne : w.heap.size ≠ rb := by have := H2.out.pl; omega
  clear hb
  go_wp2_with fail
  refine (rpass_any HW.out rb tb cap a nest false _ [] _ H2.out.rp ha (Lst.nil _) HE.out).mono ?_
  rintro e w3 ⟨rfl, hp, hf⟩
  rw [HE2.out]
  have H3 := hid (H2.out.call hp hf)
  have HR3 := hid (own_fr HR2.out hf (Nat.le_refl _) H2.out.pl)
  clear hp hf
  go_wp2_with fail
  refine (number_any _ _ HZ2.out).mono ?_
  rintro e w4 ⟨rfl, rfl⟩
  have hr := HR3.out
  have r0 : World.cell? _ ⟨w.heap.size, 0, none⟩ = some (.int .u8 0) := heap_cell (i := 0) hr
  have fr0 : World.frozen? _ ⟨w.heap.size, 0, none⟩ = false := heap_frozen hr
  have r1 : World.cell? _ ⟨w.heap.size, 1, none⟩ = some (.string ⟨#[]⟩) := heap_cell (i := 1) hr
  have fr1 : World.frozen? _ ⟨w.heap.size, 1, none⟩ = false := heap_frozen hr
  have r2 : World.cell? _ ⟨w.heap.size, 2, none⟩ = some (.slice none 0 0) := heap_cell (i := 2) hr
  have fr2 : World.frozen? _ ⟨w.heap.size, 2, none⟩ = false := heap_frozen hr
  have hy := put3_same hr (.int .u8 0) (.string (stripT (tx toks a))) (.slice none 0 0)
  have y0 : World.cell? _ ⟨w.heap.size, 0, none⟩ = some (.int .u8 0) := heap_cell (i := 0) hy
  have y1 : World.cell? _ ⟨w.heap.size, 1, none⟩ = some (.string (stripT (tx toks a))) := heap_cell (i := 1) hy
  have y2 : World.cell? _ ⟨w.heap.size, 2, none⟩ = some (.slice none 0 0) := heap_cell (i := 2) hy
  go_wp2
  refine bodyPost_ret (v := .agg #[.int .u8 0, .string (stripT (tx toks a)), .slice none 0 0]) (by simp [results, Tryz.results225, go_sem, y0, y1, y2]; try rfl) rfl ?_
  have hd := H3.out.put (Nat.le_refl _) (.int .u8 0) (.string (stripT (tx toks a))) (.slice none 0 0)
  exact ⟨rfl, hd.rp, hd.fr⟩

theorem ratom_ok {toks : List Tok} (hw : Wf toks) (hc : ∀ i, Cls (tx toks i)) {g : Nat} (hs : RL toks 0 g) : RA toks (g + 1) := by
  intro rb tb cap nest a b r w h ha hnest hP
  have hz : (tx toks a).size ≤ maxLen := by have := hw.size a; unfold maxLen; omega
  simp only [P] at h
  cases h1 : isT toks a [40] with
  | true =>
    rw [h1, if_pos rfl] at h
    have hT : tx toks a = ⟨#[40]⟩ := eqB_iff.1 ((isT_eqB toks a [40]).symm.trans h1)
    by_cases hn : nest = 20
    · rw [if_pos hn] at h
      cases h
      subst hn
      exact (ratom_full_bracket rb tb cap a w hP ha hT).mono fun e w' h => dpost_rpost h
    · rw [if_neg hn] at h
      exact ratom_bracket rb tb cap a nest b r w hP ha hT (by omega) fun w' hp' => rinner_bracket hw hs rb tb cap (nest + 1) a b r w' h ha h1 (by omega) hp'
  | false =>
  rw [h1, if_neg (by simp)] at h
  cases h2 : isT toks a [105, 102] with
  | true =>
    rw [h2, if_pos rfl] at h
    have hT : tx toks a = ⟨#[105, 102]⟩ := eqB_iff.1 ((isT_eqB toks a [105, 102]).symm.trans h2)
    by_cases hn : nest = 20
    · rw [if_pos hn] at h
      cases h
      subst hn
      exact (ratom_full_choice rb tb cap a w hP ha hT).mono fun e w' h => dpost_rpost h
    · rw [if_neg hn] at h
      exact ratom_choice rb tb cap a nest b r w hP ha hT (by omega) fun w' hp' => rinner_choice hw hs rb tb cap (nest + 1) a b r w' h ha h2 (by omega) hp'
  | false =>
  rw [h2, if_neg (by simp)] at h
  cases he : emp (tx toks a) with
  | true =>
    have hT := emp_iff.1 he
    have hl : leafV (tx toks a) = none := by
      cases hl : leafV (tx toks a) with
      | none => rfl
      | some v => exact absurd hT (leafV_ne hl)
    rw [hl] at h
    cases h
    exact (ratom_empty rb tb cap a nest false w hP ha (nx_tx hT)).mono fun e w' h => dpost_rpost h
  | false =>
  have h0 : 0 < (tx toks a).size := by
    rcases Nat.eq_zero_or_pos (tx toks a).size with h0 | h0
    · rw [emp_iff.2 (ByteArray.ext (Array.eq_empty_of_size_eq_zero (by simpa using h0)))] at he; cases he
    · exact h0
  have hleaf : ∀ (v : Value), leafV (tx toks a) = some v → a < a + 1 ∧ ∀ (s : ByteArray), s = shownT (tx toks a) → ∀ w', RP toks rb tb cap (a + 1) nest false w'.heap ∧ Fr [rb] w w' → RPost toks rb tb cap a nest (a + 1) (some v) w (.returned (.agg #[.int .u8 0, .string s, .slice none 0 0])) w' := by
    intro v hl
    refine ⟨by omega, fun s hs w' hp => ⟨0, s, none, 0, 0, rfl, hp.1, hp.2, fun x hx => ?_⟩⟩
    cases hx
    subst hs
    exact ⟨1, by omega, rep_leaf _ w' (tx toks a) v none 0 0 hl (hw.size a)⟩
  have n1 : ((tx toks a).toList == [40]) = false := h1
  have n2 : ((tx toks a).toList == [105, 102]) = false := h2
  cases h3 : ((tx toks a).toList == [116, 114, 117, 101]) with
  | true =>
    have hT : tx toks a = ⟨#[116, 114, 117, 101]⟩ := eqB_iff.1 (litE.symm.trans h3)
    have hl : leafV (tx toks a) = some (.iface 329 (.bool true)) := by simp [leafV, h3]
    rw [hl] at h
    cases h
    refine (ratom_true hw rb tb cap a nest w hP ha hT he).mono ?_
    rintro e w' ⟨rfl, hp, hf⟩
    exact (hleaf _ hl).2 _ (by rw [hT]; decide) w' ⟨hp, hf⟩
  | false =>
  cases h4 : ((tx toks a).toList == [102, 97, 108, 115, 101]) with
  | true =>
    have hT : tx toks a = ⟨#[102, 97, 108, 115, 101]⟩ := eqB_iff.1 (litE.symm.trans h4)
    have hl : leafV (tx toks a) = some (.iface 329 (.bool false)) := by simp [leafV, h3, h4]
    rw [hl] at h
    cases h
    refine (ratom_false hw rb tb cap a nest w hP ha hT he).mono ?_
    rintro e w' ⟨rfl, hp, hf⟩
    exact (hleaf _ hl).2 _ (by rw [hT]; decide) w' ⟨hp, hf⟩
  | false =>
  obtain ⟨c, rr, hcr, hc0⟩ := byte0 h0
  have hnum : numB (tx toks a) = (decide ((tx toks a).size ≤ 9) && isDigB (tx toks a)[0].toNat) := by
    rw [Bool.eq_iff_iff]
    constructor
    · intro hn
      obtain ⟨_, g2, g3⟩ := num_all hn
      rw [hc0, g3 c (by rw [hcr]; simp), Bool.and_true, decide_eq_true_eq]
      exact g2
    · intro hn
      simp only [Bool.and_eq_true, decide_eq_true_eq] at hn
      have hall := (hc a c rr hcr).2 (by rw [← hc0]; exact hn.2)
      simp only [numB, Bool.and_eq_true, decide_eq_true_eq]
      refine ⟨⟨by omega, hn.1⟩, run_all fun j hj => hall _ ?_⟩
      have : (tx toks a)[j] = (tx toks a).data.toList[j]'(by simpa using hj) := by rw [Array.getElem_toList]; rfl
      rw [this]; exact List.getElem_mem _
  have hnot : ∀ T : ByteArray, nameB T = true → numB T = false := by
    intro T hn
    cases hq : numB T with
    | false => rfl
    | true =>
      simp only [nameB, Bool.and_eq_true, decide_eq_true_eq] at hn
      obtain ⟨⟨⟨g1, _⟩, g2⟩, _⟩ := hn
      obtain ⟨c, r, hcr, _⟩ := byte0 (show 0 < T.size by omega)
      obtain ⟨_, _, g3⟩ := num_all hq
      have hd := g3 c (by rw [hcr]; simp)
      have e2 : runL isLetB T.data.toList = T.data.toList.length := by
        have := of_decide_eq_true (by simpa using g2 : decide (((runL isLetB T.data.toList : Nat) : Int) = (T.size : Int)) = true)
        have hlen : T.data.toList.length = T.size := by simp
        omega
      have := takeWhile_all (p := fun c => isLetB c.toNat) _ e2 c (by rw [hcr]; simp)
      have := (digit_not_letter this).1
      rw [hd] at this; cases this
  cases h5 : numB (tx toks a) with
  | true =>
    have hl : leafV (tx toks a) = some (.iface 189 (.int .i64 (numVal (tx toks a)))) := by simp [leafV, h3, h4, h5]
    rw [hl] at h
    cases h
    have hnm : nameB (tx toks a) = false := by
      cases hq : nameB (tx toks a) with
      | false => rfl
      | true => have := hnot _ hq; rw [h5] at this; cases this
    rw [hnum] at h5
    simp only [Bool.and_eq_true, decide_eq_true_eq, isDigB] at h5
    refine (ratom_number hw rb tb cap a nest w hP ha _ rfl h0 n1 n2 h3 h4 hnm hz h5.2.1 h5.2.2 h5.1 he).mono ?_
    rintro e w' ⟨rfl, hp, hf⟩
    refine (hleaf _ hl).2 _ ?_ w' ⟨hp, hf⟩
    unfold shownT
    rw [if_pos]
    rw [hnum]; simp [isDigB, h5]
  | false =>
  cases h6 : nameB (tx toks a) with
  | true =>
    have hl : leafV (tx toks a) = some (.iface 330 (.string (tx toks a))) := by simp [leafV, h3, h4, h5, h6]
    rw [hl] at h
    cases h
    refine (ratom_name hw rb tb cap a nest w hP ha _ rfl h6 hz n1 n2 he).mono ?_
    rintro e w' ⟨rfl, hp, hf⟩
    refine (hleaf _ hl).2 _ ?_ w' ⟨hp, hf⟩
    unfold shownT
    rw [h5]; rfl
  | false =>
    have hl : leafV (tx toks a) = none := by simp [leafV, h3, h4, h5, h6]
    rw [hl] at h
    cases h
    rw [hnum] at h5
    simp only [isDigB, Bool.and_eq_false_iff, decide_eq_false_iff_not] at h5
    by_cases d1 : (48 : Int) ≤ (tx toks a)[0].toNat
    · by_cases d2 : ((tx toks a)[0].toNat : Int) ≤ 57
      · exact (ratom_odd3 rb tb cap a nest w hP ha _ rfl h0 n1 n2 h3 h4 h6 hz d1 d2 (by omega)).mono fun e w' h => dpost_rpost h
      · exact (ratom_odd2 rb tb cap a nest w hP ha _ rfl h0 n1 n2 h3 h4 h6 hz d1 d2).mono fun e w' h => dpost_rpost h
    · exact (ratom_odd1 rb tb cap a nest w hP ha _ rfl h0 n1 n2 h3 h4 h6 hz d1).mono fun e w' h => dpost_rpost h

end Go.Proofs.YtfekglokoafpiaaGreatDoor
