/-
  An expr's text: the document's is the program's.
  The document's parser: what its functions hold while they run.
  The document's parser, when none may follow any more: nothing changes.
  The document's parser: pass and level at any state; what an item's and an expr's words say.
  The document's parser: what begins with a bracket or an if.
-/
import Derived.Test.YtfekglokoafpiaaGreatDoorQ08

set_option linter.unusedVariables false
set_option linter.unusedSimpArgs false

namespace Go.Proofs.YtfekglokoafpiaaGreatDoor
open Go.RowKit

theorem litE' {t : ByteArray} {l : List UInt8} : (t.toList == l) = eqB t ⟨⟨l⟩⟩ := by simp [eqB, ByteArray.toList_eq]

theorem leaf_writes {t : ByteArray} {x : Value} (h : leafV t = some x) : Writes x (shownT t) := by
  unfold leafV at h
  split at h
  · rename_i hc
    cases h
    have hnot : ∀ l : List UInt8, (t.toList == l) = true → t = ⟨⟨l⟩⟩ := fun l hl => eqB_iff.1 (litE'.symm.trans hl)
    simp only [Bool.or_eq_true] at hc
    rcases hc with hc | hc
    · have e := hnot _ hc
      subst e
      rw [hc]
      exact writes_truth true
    · have e := hnot _ hc
      subst e
      have : ((⟨#[102, 97, 108, 115, 101]⟩ : ByteArray).toList == [116, 114, 117, 101]) = false := by simp [ByteArray.toList_eq]
      rw [this]
      exact writes_truth false
  · split at h
    · rename_i hn
      cases h
      unfold shownT
      rw [if_pos hn]
      exact writes_number hn
    · rename_i hn
      split at h
      · cases h
        unfold shownT
        rw [if_neg hn]
        exact writes_name t
      · cases h

theorem strip_len : ∀ l : List UInt8, (strip l).length ≤ l.length
  | [] => Nat.le_refl _
  | [_] => Nat.le_refl _
  | c :: d :: r => by
    unfold strip
    split
    · have := strip_len (d :: r); simp at *; omega
    · exact Nat.le_refl _

theorem shownT_size (t : ByteArray) (ht : t.size ≤ 400) : (shownT t).size ≤ 400 := by
  unfold shownT
  split
  · have := strip_len t.data.toList
    have e : (stripT t).size = (strip t.data.toList).length := by unfold stripT; exact bsz1 _
    have e2 : t.data.toList.length = t.size := by simp
    omega
  · exact ht

theorem pairT_size (op : List UInt8) (x y : ByteArray) : (pairT op x y).size = x.size + y.size + op.length + 2 := by
  simp only [pairT, ByteArray.size_append, bsz1, List.length_cons, List.length_nil]; omega
theorem choiceT_size (x y z : ByteArray) : (choiceT x y z).size = x.size + y.size + z.size + 4 := by
  simp only [choiceT, ByteArray.size_append, sz1, bsz1, List.length_cons, List.length_nil]; omega

theorem rep_text {K : Nat → Prop} {w : World} {n : Nat} {e x : Value} (h : Rep K w n e x) (hn : n ≤ 401) : ∃ s, Shows K w e s ∧ Writes x s ∧ s.size ≤ 410 * n := by
  refine h (fun n e x => n ≤ 401 → ∃ s, Shows K w e s ∧ Writes x s ∧ s.size ≤ 410 * n) ⟨?_, ?_, ?_⟩ hn
  · intro t x ao m c hl ht _
    exact ⟨shownT t, shows_leaf K w _ ao m c, leaf_writes hl, by have := shownT_size t ht; omega⟩
  · intro oc os pb n1 n2 o1 o2 t1 t2 a1 a2 m1 c1 m2 c2 l r ho hh hk h1 h2 hn
    obtain ⟨s1, g1, k1, z1⟩ := h1 (by omega)
    obtain ⟨s2, g2, k2, z2⟩ := h2 (by omega)
    refine ⟨pairT os s1 s2, ?_, writes_pair k1 k2, ?_⟩
    · rcases ho with ⟨rfl, rfl⟩ | ⟨rfl, rfl⟩ | ⟨rfl, rfl⟩
      · exact shows_eq K w pb t1 t2 o1 o2 s1 s2 a1 a2 m1 c1 m2 c2 hh hk g1 g2 (by omega) (by omega)
      · exact shows_plus K w pb t1 t2 o1 o2 s1 s2 a1 a2 m1 c1 m2 c2 hh hk g1 g2 (by omega) (by omega)
      · exact shows_times K w pb t1 t2 o1 o2 s1 s2 a1 a2 m1 c1 m2 c2 hh hk g1 g2 (by omega) (by omega)
    · rw [pairT_size]
      have : os.length ≤ 2 := by rcases ho with ⟨_, rfl⟩ | ⟨_, rfl⟩ | ⟨_, rfl⟩ <;> simp
      omega
  · intro pb n1 n2 n3 o1 o2 o3 t1 t2 t3 a1 a2 a3 m1 c1 m2 c2 m3 c3 x y z hh hk h1 h2 h3 hn
    obtain ⟨s1, g1, k1, z1⟩ := h1 (by omega)
    obtain ⟨s2, g2, k2, z2⟩ := h2 (by omega)
    obtain ⟨s3, g3, k3, z3⟩ := h3 (by omega)
    exact ⟨choiceT s1 s2 s3, shows_choice K w pb t1 t2 t3 o1 o2 o3 s1 s2 s3 a1 a2 a3 m1 c1 m2 c2 m3 c3 hh hk g1 g2 g3 (by omega) (by omega) (by omega), writes_choice k1 k2 k3, by rw [choiceT_size]; omega⟩

end Go.Proofs.YtfekglokoafpiaaGreatDoor

namespace Go.Proofs.YtfekglokoafpiaaGreatDoor
open Go.RowKit

abbrev put3 (w : World) (b : Nat) (v0 v1 v2 : Value) : World := ((w.setCell ⟨b, 0, none⟩ v0).setCell ⟨b, 1, none⟩ v1).setCell ⟨b, 2, none⟩ v2

theorem put3_same {w : World} {b : Nat} {x0 x1 x2 : Value} {T : TypeId} {fr : Nat × Nat} (h : w.heap[b]? = some (.cells #[x0, x1, x2] T fr)) (v0 v1 v2 : Value) : (put3 w b v0 v1 v2).heap[b]? = some (.cells #[v0, v1, v2] T fr) := by
  have h0 := heap_setCell_lit (i := 0) h v0
  have h1 := heap_setCell_lit (i := 1) h0 v1
  exact heap_setCell_lit (i := 2) h1 v2

theorem put3_other {w : World} {b k : Nat} (h : k ≠ b) (v0 v1 v2 : Value) : (put3 w b v0 v1 v2).heap[k]? = w.heap[k]? :=
  ((heap_setCell_ne h _).trans (heap_setCell_ne h _)).trans (heap_setCell_ne h _)

theorem RP.other {toks : List Tok} {rb tb cap a nest : Nat} {no : Bool} {w : World} (h : RP toks rb tb cap a nest no w.heap) {b i : Nat} (h1 : b ≠ rb) (h2 : b ≠ tb) (v : Value) : RP toks rb tb cap a nest no (w.setCell ⟨b, i, none⟩ v).heap := by
  obtain ⟨cur, hc, ht⟩ := h.t
  exact ⟨h.ne, (heap_setCell_ne (Ne.symm h1) _).trans h.p, cur, (heap_setCell_ne (Ne.symm h2) _).trans hc, ht⟩

structure DS (toks : List Tok) (rb tb cap : Nat) (w wr : World) (c nest : Nat) (no : Bool) : Prop where
  pl : rb < w.heap.size
  tl : tb < w.heap.size
  rp : RP toks rb tb cap c nest no wr.heap
  fr : Fr [rb] w wr

section
variable {toks : List Tok} {rb tb cap c nest : Nat} {no : Bool} {w wr w' : World}

theorem DS.refl (h : RP toks rb tb cap c nest no w.heap) : DS toks rb tb cap w w c nest no := by
  have h0 := h.t
  obtain ⟨cur, hc, _⟩ := h0
  exact ⟨heap_lt h.p, heap_lt hc, h, Fr.refl _ _⟩
theorem DS.alloc (h : DS toks rb tb cap w wr c nest no) (o : Obj) : DS toks rb tb cap w (wr.alloc o) c nest no :=
  ⟨h.pl, h.tl, h.rp.below ((Below.refl _ _).alloc (Nat.le_refl _) _), h.fr.alloc _⟩
theorem DS.call (h : DS toks rb tb cap w wr c nest no) {c' nest' : Nat} {no' : Bool} (hp : RP toks rb tb cap c' nest' no' w'.heap) (hf : Fr [rb] wr w') : DS toks rb tb cap w w' c' nest' no' := ⟨h.pl, h.tl, hp, h.fr.trans hf⟩
theorem DS.below (h : DS toks rb tb cap w wr c nest no) (hb : Below wr.heap.size wr w') : DS toks rb tb cap w w' c nest no := ⟨h.pl, h.tl, h.rp.below hb, h.fr.trans (Fr.of_below hb)⟩
theorem DS.set (h : DS toks rb tb cap w wr c nest no) {b : Nat} (hb : w.heap.size ≤ b) (i : Nat) (v : Value) : DS toks rb tb cap w (wr.setCell ⟨b, i, none⟩ v) c nest no :=
  ⟨h.pl, h.tl, h.rp.other (by have := h.pl; omega) (by have := h.tl; omega) v, h.fr.setCell _ (.inr hb) _⟩
theorem DS.put (h : DS toks rb tb cap w wr c nest no) {b : Nat} (hb : w.heap.size ≤ b) (v0 v1 v2 : Value) : DS toks rb tb cap w (put3 wr b v0 v1 v2) c nest no := ((h.set hb 0 v0).set hb 1 v1).set hb 2 v2
theorem DS.drew (h : DS toks rb tb cap w wr c nest no) : DS toks rb tb cap w wr.drew c nest no := ⟨h.pl, h.tl, h.rp, h.fr.drew⟩
theorem DS.at (h : DS toks rb tb cap w wr c nest no) (b : Nat) : DS toks rb tb cap w (wr.setCell ⟨rb, 1, none⟩ (.int .i64 b)) b nest no := ⟨h.pl, h.tl, h.rp.at b, h.fr.setCell _ (.inl (by simp)) _⟩
theorem DS.nestAt (h : DS toks rb tb cap w wr c nest no) (b : Nat) : DS toks rb tb cap w (wr.setCell ⟨rb, 2, none⟩ (.int .i64 b)) c b no := ⟨h.pl, h.tl, h.rp.nestAt b, h.fr.setCell _ (.inl (by simp)) _⟩
theorem DS.noAt (h : DS toks rb tb cap w wr c nest no) (b : Bool) : DS toks rb tb cap w (wr.setCell ⟨rb, 3, none⟩ (.bool b)) c nest b := ⟨h.pl, h.tl, h.rp.noAt b, h.fr.setCell _ (.inl (by simp)) _⟩
end

/-- A block of the function's own. -/
theorem own_fr {rb b B : Nat} {w w' : World} {o : Obj} (h : w.heap[b]? = some o) (hf : Fr [rb] w w') (hB : B ≤ b) (hrb : rb < B) : w'.heap[b]? = some o := hf.heap h (by simp; omega)
theorem own_set {b k i : Nat} {w : World} {o : Obj} (h : w.heap[b]? = some o) (hne : b ≠ k) (v : Value) : (w.setCell ⟨k, i, none⟩ v).heap[b]? = some o := (heap_setCell_ne hne v).trans h

theorem Later.drew {K : Nat → Prop} {a b : World} (h : Later K a b) : Later K a b.drew := ⟨h.size, h.block⟩
theorem Later.put3 {K : Nat → Prop} {a b : World} (h : Later K a b) {p : Nat} (hp : ¬ K p) (v0 v1 v2 : Value) : Later K a (put3 b p v0 v1 v2) := ((h.set (p := ⟨p, 0, none⟩) hp v0).set (p := ⟨p, 1, none⟩) hp v1).set (p := ⟨p, 2, none⟩) hp v2

def zE : Array Value := #[.int .u8 0, .string ⟨#[]⟩, .slice none 0 0]

end Go.Proofs.YtfekglokoafpiaaGreatDoor

namespace Go.Proofs.YtfekglokoafpiaaGreatDoor
open Go.RowKit

/-- What is read is nothing: none may follow. -/
def DPost (toks : List Tok) (rb tb cap a nest : Nat) (w : World) : Ending → World → Prop := fun e w' =>
  ∃ (op : Int) (t : ByteArray) (ao : Option Addr) (m c : Nat), e = .returned (.agg #[.int .u8 op, .string t, .slice ao m c]) ∧ RP toks rb tb cap a nest true w'.heap ∧ Fr [rb] w w'

theorem nx_dead (toks : List Tok) (a : Nat) : nx toks a true = ⟨#[]⟩ := rfl
theorem litE {t : ByteArray} {l : List UInt8} : (t.toList == l) = eqB t ⟨⟨l⟩⟩ := by simp [eqB, ByteArray.toList_eq]

set_option maxRecDepth 100000 in
set_option maxHeartbeats 2000000 in
/-- An atom that cannot stand: nothing is left, or none may follow. -/
theorem ratom_empty {toks : List Tok} (rb tb cap a nest : Nat) (no : Bool) (w : World) (h : RP toks rb tb cap a nest no w.heap) (ha : a < toks.length) (hx : nx toks a no = ⟨#[]⟩) :
    Calls Tryz.prog 225 #[.pointer (some ⟨rb, 0, none⟩)] w (DPost toks rb tb cap a nest w) := by
  have HP := hid h
  have HX := hid hx
  have HN := hid (show nameB ⟨#[]⟩ = false by decide)
  have HZ := hid (show (⟨#[]⟩ : ByteArray).size ≤ maxLen by decide)
  clear h hx
  have H0 := hid ((DS.refl HP.out).alloc (.cells zE 232))
  have HR0 := hid (new_heap w (.cells zE 232))
  go_enter Tryz.func225, Tryz.ntmps225
  go_wp2_with fail
  refine (rnext_any toks rb tb cap a nest _ _ H0.out.rp ha).mono ?_
  rintro e w1 ⟨rfl, hb⟩
  rw [HX.out]
  have H1 := hid (H0.out.below hb)
  have HR1 := hid (below_heap hb (heap_lt HR0.out) HR0.out)
  clear hb
  go_wp2_with fail
  refine (rName_any _ _ HZ.out).mono ?_
  rintro e w2 ⟨rfl, hb⟩
  rw [HN.out]
  have H2 := hid (H1.out.below hb)
  have HR2 := hid (below_heap hb (heap_lt HR1.out) HR1.out)
  have c2 := H2.out.rp.c2
  have f2 := H2.out.rp.f 2
  have c3 := H2.out.rp.c3
  have f3 := H2.out.rp.f 3
  have hne : w.heap.size ≠ rb := by have := H2.out.pl; omega
  clear hb
  have hr3 := own_set (i := 3) HR2.out hne (.bool true)
  have r0 : World.cell? _ ⟨w.heap.size, 0, none⟩ = some (.int .u8 0) := heap_cell (i := 0) hr3
  have fr0 : World.frozen? _ ⟨w.heap.size, 0, none⟩ = false := heap_frozen hr3
  have r1 : World.cell? _ ⟨w.heap.size, 1, none⟩ = some (.string ⟨#[]⟩) := heap_cell (i := 1) hr3
  have fr1 : World.frozen? _ ⟨w.heap.size, 1, none⟩ = false := heap_frozen hr3
  have r2 : World.cell? _ ⟨w.heap.size, 2, none⟩ = some (.slice none 0 0) := heap_cell (i := 2) hr3
  have fr2 : World.frozen? _ ⟨w.heap.size, 2, none⟩ = false := heap_frozen hr3
  have hy := put3_same hr3 (.int .u8 0) (.string ⟨#[48]⟩) (.slice none 0 0)
  have y0 : World.cell? _ ⟨w.heap.size, 0, none⟩ = some (.int .u8 0) := heap_cell (i := 0) hy
  have y1 : World.cell? _ ⟨w.heap.size, 1, none⟩ = some (.string ⟨#[48]⟩) := heap_cell (i := 1) hy
  have y2 : World.cell? _ ⟨w.heap.size, 2, none⟩ = some (.slice none 0 0) := heap_cell (i := 2) hy
  go_wp2
  refine bodyPost_ret (v := .agg #[.int .u8 0, .string ⟨#[48]⟩, .slice none 0 0]) (by simp [results, Tryz.results225, go_sem, y0, y1, y2]; try rfl) rfl ?_
  have hd := (H2.out.noAt true).put (Nat.le_refl _) (.int .u8 0) (.string ⟨#[48]⟩) (.slice none 0 0)
  exact ⟨0, _, none, 0, 0, rfl, hd.rp, hd.fr⟩

set_option maxRecDepth 100000 in
set_option maxHeartbeats 2000000 in
theorem rlevel3_dead {toks : List Tok} (rb tb cap a nest : Nat) (w : World) (h : RP toks rb tb cap a nest true w.heap) (ha : a < toks.length) :
    Calls Tryz.prog 208 #[.pointer (some ⟨rb, 0, none⟩), .int .i64 3] w (DPost toks rb tb cap a nest w) := by
  have HP := hid h
  clear h
  have H0 := hid ((DS.refl HP.out).alloc (.cells zE 232))
  have HR0 := hid (new_heap w (.cells zE 232))
  go_enter Tryz.func208, Tryz.ntmps208
  go_wp2_with fail
  refine (ratom_empty rb tb cap a nest true _ H0.out.rp ha rfl).mono ?_
  rintro e w1 ⟨op, t, ao, m, c, rfl, hp, hf⟩
  have H1 := hid (H0.out.call hp hf)
  have hr := own_fr HR0.out hf (Nat.le_refl _) H0.out.pl
  clear hp hf
  have r0 : World.cell? _ ⟨w.heap.size, 0, none⟩ = some (.int .u8 0) := heap_cell (i := 0) hr
  have fr0 : World.frozen? _ ⟨w.heap.size, 0, none⟩ = false := heap_frozen hr
  have r1 : World.cell? _ ⟨w.heap.size, 1, none⟩ = some (.string ⟨#[]⟩) := heap_cell (i := 1) hr
  have fr1 : World.frozen? _ ⟨w.heap.size, 1, none⟩ = false := heap_frozen hr
  have r2 : World.cell? _ ⟨w.heap.size, 2, none⟩ = some (.slice none 0 0) := heap_cell (i := 2) hr
  have fr2 : World.frozen? _ ⟨w.heap.size, 2, none⟩ = false := heap_frozen hr
  have hy := put3_same hr (.int .u8 op) (.string t) (.slice ao m c)
  have y0 : World.cell? _ ⟨w.heap.size, 0, none⟩ = some (.int .u8 op) := heap_cell (i := 0) hy
  have y1 : World.cell? _ ⟨w.heap.size, 1, none⟩ = some (.string t) := heap_cell (i := 1) hy
  have y2 : World.cell? _ ⟨w.heap.size, 2, none⟩ = some (.slice ao m c) := heap_cell (i := 2) hy
  go_wp2
  refine bodyPost_ret (v := .agg #[.int .u8 op, .string t, .slice ao m c]) (by simp [results, Tryz.results208, go_sem, y0, y1, y2]; try rfl) rfl ?_
  have hd := H1.out.put (Nat.le_refl _) (.int .u8 op) (.string t) (.slice ao m c)
  exact ⟨op, t, ao, m, c, rfl, hd.rp, hd.fr⟩

set_option maxRecDepth 100000 in
set_option maxHeartbeats 2000000 in
theorem rlevel2_dead {toks : List Tok} (rb tb cap a nest : Nat) (w : World) (h : RP toks rb tb cap a nest true w.heap) (ha : a < toks.length) :
    Calls Tryz.prog 208 #[.pointer (some ⟨rb, 0, none⟩), .int .i64 2] w (DPost toks rb tb cap a nest w) := by
  have HP := hid h
  clear h
  have H0 := hid ((DS.refl HP.out).alloc (.cells zE 232))
  have HR0 := hid (new_heap w (.cells zE 232))
  go_enter Tryz.func208, Tryz.ntmps208
  go_wp2_with fail
  refine (rlevel3_dead rb tb cap a nest _ (H0.out.alloc _).rp ha).mono ?_
  rintro e w1 ⟨op, t, ao, m, c, rfl, hp, hf⟩
  have H1 := hid ((H0.out.alloc _).call hp hf)
  have HR1 := hid (own_fr (old_heap _ HR0.out) hf (Nat.le_refl _) H0.out.pl)
  have HE1 := hid (new_heap w1 (.cells #[.int .u8 op, .string t, .slice ao m c] 232))
  have HL := hid (heap_lt HR1.out)
  clear hp hf
  go_wp2_with fail
  refine (rnext_any toks rb tb cap a nest _ _ (H1.out.alloc _).rp ha).mono ?_
  rintro e w2 ⟨rfl, hb⟩
  rw [nx_dead]
  have H2 := hid ((H1.out.alloc _).below hb)
  have hr := below_heap hb (heap_lt (old_heap _ HR1.out)) (old_heap _ HR1.out)
  have he := below_heap hb (heap_lt HE1.out) HE1.out
  clear hb
  have r0 : World.cell? _ ⟨w.heap.size, 0, none⟩ = some (.int .u8 0) := heap_cell (i := 0) hr
  have fr0 : World.frozen? _ ⟨w.heap.size, 0, none⟩ = false := heap_frozen hr
  have r1 : World.cell? _ ⟨w.heap.size, 1, none⟩ = some (.string ⟨#[]⟩) := heap_cell (i := 1) hr
  have fr1 : World.frozen? _ ⟨w.heap.size, 1, none⟩ = false := heap_frozen hr
  have r2 : World.cell? _ ⟨w.heap.size, 2, none⟩ = some (.slice none 0 0) := heap_cell (i := 2) hr
  have fr2 : World.frozen? _ ⟨w.heap.size, 2, none⟩ = false := heap_frozen hr
  have e0 : World.cell? _ ⟨w1.heap.size, 0, none⟩ = some (.int .u8 op) := heap_cell (i := 0) he
  have fe0 : World.frozen? _ ⟨w1.heap.size, 0, none⟩ = false := heap_frozen he
  have e1 : World.cell? _ ⟨w1.heap.size, 1, none⟩ = some (.string t) := heap_cell (i := 1) he
  have fe1 : World.frozen? _ ⟨w1.heap.size, 1, none⟩ = false := heap_frozen he
  have e2 : World.cell? _ ⟨w1.heap.size, 2, none⟩ = some (.slice ao m c) := heap_cell (i := 2) he
  have fe2 : World.frozen? _ ⟨w1.heap.size, 2, none⟩ = false := heap_frozen he
  go_wp2
  refine wp_loop_rounds 1 ?_
  rw [rounds_succ]
  have hy := put3_same hr (.int .u8 op) (.string t) (.slice ao m c)
  have y0 : World.cell? _ ⟨w.heap.size, 0, none⟩ = some (.int .u8 op) := heap_cell (i := 0) hy
  have y1 : World.cell? _ ⟨w.heap.size, 1, none⟩ = some (.string t) := heap_cell (i := 1) hy
  have y2 : World.cell? _ ⟨w.heap.size, 2, none⟩ = some (.slice ao m c) := heap_cell (i := 2) hy
  go_wp2
  refine bodyPost_ret (v := .agg #[.int .u8 op, .string t, .slice ao m c]) (by simp [results, Tryz.results208, go_sem, y0, y1, y2]; try rfl) rfl ?_
  have hd := H2.out.put (Nat.le_refl _) (.int .u8 op) (.string t) (.slice ao m c)
  exact ⟨op, t, ao, m, c, rfl, hd.rp, hd.fr⟩

set_option maxRecDepth 100000 in
set_option maxHeartbeats 2000000 in
theorem rlevel1_dead {toks : List Tok} (rb tb cap a nest : Nat) (w : World) (h : RP toks rb tb cap a nest true w.heap) (ha : a < toks.length) :
    Calls Tryz.prog 208 #[.pointer (some ⟨rb, 0, none⟩), .int .i64 1] w (DPost toks rb tb cap a nest w) := by
  have HP := hid h
  clear h
  have H0 := hid ((DS.refl HP.out).alloc (.cells zE 232))
  have HR0 := hid (new_heap w (.cells zE 232))
  go_enter Tryz.func208, Tryz.ntmps208
  go_wp2_with fail
  refine (rlevel2_dead rb tb cap a nest _ (H0.out.alloc _).rp ha).mono ?_
  rintro e w1 ⟨op, t, ao, m, c, rfl, hp, hf⟩
  have H1 := hid ((H0.out.alloc _).call hp hf)
  have HR1 := hid (own_fr (old_heap _ HR0.out) hf (Nat.le_refl _) H0.out.pl)
  have HE1 := hid (new_heap w1 (.cells #[.int .u8 op, .string t, .slice ao m c] 232))
  have HL := hid (heap_lt HR1.out)
  clear hp hf
  go_wp2_with fail
  refine (rnext_any toks rb tb cap a nest _ _ (H1.out.alloc _).rp ha).mono ?_
  rintro e w2 ⟨rfl, hb⟩
  rw [nx_dead]
  have H2 := hid ((H1.out.alloc _).below hb)
  have hr := below_heap hb (heap_lt (old_heap _ HR1.out)) (old_heap _ HR1.out)
  have he := below_heap hb (heap_lt HE1.out) HE1.out
  clear hb
  have r0 : World.cell? _ ⟨w.heap.size, 0, none⟩ = some (.int .u8 0) := heap_cell (i := 0) hr
  have fr0 : World.frozen? _ ⟨w.heap.size, 0, none⟩ = false := heap_frozen hr
  have r1 : World.cell? _ ⟨w.heap.size, 1, none⟩ = some (.string ⟨#[]⟩) := heap_cell (i := 1) hr
  have fr1 : World.frozen? _ ⟨w.heap.size, 1, none⟩ = false := heap_frozen hr
  have r2 : World.cell? _ ⟨w.heap.size, 2, none⟩ = some (.slice none 0 0) := heap_cell (i := 2) hr
  have fr2 : World.frozen? _ ⟨w.heap.size, 2, none⟩ = false := heap_frozen hr
  have e0 : World.cell? _ ⟨w1.heap.size, 0, none⟩ = some (.int .u8 op) := heap_cell (i := 0) he
  have fe0 : World.frozen? _ ⟨w1.heap.size, 0, none⟩ = false := heap_frozen he
  have e1 : World.cell? _ ⟨w1.heap.size, 1, none⟩ = some (.string t) := heap_cell (i := 1) he
  have fe1 : World.frozen? _ ⟨w1.heap.size, 1, none⟩ = false := heap_frozen he
  have e2 : World.cell? _ ⟨w1.heap.size, 2, none⟩ = some (.slice ao m c) := heap_cell (i := 2) he
  have fe2 : World.frozen? _ ⟨w1.heap.size, 2, none⟩ = false := heap_frozen he
  go_wp2
  refine wp_loop_rounds 1 ?_
  rw [rounds_succ]
  have hy := put3_same hr (.int .u8 op) (.string t) (.slice ao m c)
  have y0 : World.cell? _ ⟨w.heap.size, 0, none⟩ = some (.int .u8 op) := heap_cell (i := 0) hy
  have y1 : World.cell? _ ⟨w.heap.size, 1, none⟩ = some (.string t) := heap_cell (i := 1) hy
  have y2 : World.cell? _ ⟨w.heap.size, 2, none⟩ = some (.slice ao m c) := heap_cell (i := 2) hy
  go_wp2
  refine bodyPost_ret (v := .agg #[.int .u8 op, .string t, .slice ao m c]) (by simp [results, Tryz.results208, go_sem, y0, y1, y2]; try rfl) rfl ?_
  have hd := H2.out.put (Nat.le_refl _) (.int .u8 op) (.string t) (.slice ao m c)
  exact ⟨op, t, ao, m, c, rfl, hd.rp, hd.fr⟩

set_option maxRecDepth 100000 in
set_option maxHeartbeats 2000000 in
theorem rlevel0_dead {toks : List Tok} (rb tb cap a nest : Nat) (w : World) (h : RP toks rb tb cap a nest true w.heap) (ha : a < toks.length) :
    Calls Tryz.prog 208 #[.pointer (some ⟨rb, 0, none⟩), .int .i64 0] w (DPost toks rb tb cap a nest w) := by
  have HP := hid h
  clear h
  have H0 := hid ((DS.refl HP.out).alloc (.cells zE 232))
  have HR0 := hid (new_heap w (.cells zE 232))
  go_enter Tryz.func208, Tryz.ntmps208
  go_wp2_with fail
  refine (rlevel1_dead rb tb cap a nest _ (H0.out.alloc _).rp ha).mono ?_
  rintro e w1 ⟨op, t, ao, m, c, rfl, hp, hf⟩
  have H1 := hid ((H0.out.alloc _).call hp hf)
  have HR1 := hid (own_fr (old_heap _ HR0.out) hf (Nat.le_refl _) H0.out.pl)
  have HE1 := hid (new_heap w1 (.cells #[.int .u8 op, .string t, .slice ao m c] 232))
  have HL := hid (heap_lt HR1.out)
  clear hp hf
  go_wp2_with fail
  refine (rnext_any toks rb tb cap a nest _ _ (H1.out.alloc _).rp ha).mono ?_
  rintro e w2 ⟨rfl, hb⟩
  rw [nx_dead]
  have H2 := hid ((H1.out.alloc _).below hb)
  have hr := below_heap hb (heap_lt (old_heap _ HR1.out)) (old_heap _ HR1.out)
  have he := below_heap hb (heap_lt HE1.out) HE1.out
  clear hb
  have r0 : World.cell? _ ⟨w.heap.size, 0, none⟩ = some (.int .u8 0) := heap_cell (i := 0) hr
  have fr0 : World.frozen? _ ⟨w.heap.size, 0, none⟩ = false := heap_frozen hr
  have r1 : World.cell? _ ⟨w.heap.size, 1, none⟩ = some (.string ⟨#[]⟩) := heap_cell (i := 1) hr
  have fr1 : World.frozen? _ ⟨w.heap.size, 1, none⟩ = false := heap_frozen hr
  have r2 : World.cell? _ ⟨w.heap.size, 2, none⟩ = some (.slice none 0 0) := heap_cell (i := 2) hr
  have fr2 : World.frozen? _ ⟨w.heap.size, 2, none⟩ = false := heap_frozen hr
  have e0 : World.cell? _ ⟨w1.heap.size, 0, none⟩ = some (.int .u8 op) := heap_cell (i := 0) he
  have fe0 : World.frozen? _ ⟨w1.heap.size, 0, none⟩ = false := heap_frozen he
  have e1 : World.cell? _ ⟨w1.heap.size, 1, none⟩ = some (.string t) := heap_cell (i := 1) he
  have fe1 : World.frozen? _ ⟨w1.heap.size, 1, none⟩ = false := heap_frozen he
  have e2 : World.cell? _ ⟨w1.heap.size, 2, none⟩ = some (.slice ao m c) := heap_cell (i := 2) he
  have fe2 : World.frozen? _ ⟨w1.heap.size, 2, none⟩ = false := heap_frozen he
  go_wp2
  refine wp_loop_rounds 1 ?_
  rw [rounds_succ]
  have hy := put3_same hr (.int .u8 op) (.string t) (.slice ao m c)
  have y0 : World.cell? _ ⟨w.heap.size, 0, none⟩ = some (.int .u8 op) := heap_cell (i := 0) hy
  have y1 : World.cell? _ ⟨w.heap.size, 1, none⟩ = some (.string t) := heap_cell (i := 1) hy
  have y2 : World.cell? _ ⟨w.heap.size, 2, none⟩ = some (.slice ao m c) := heap_cell (i := 2) hy
  go_wp2
  refine bodyPost_ret (v := .agg #[.int .u8 op, .string t, .slice ao m c]) (by simp [results, Tryz.results208, go_sem, y0, y1, y2]; try rfl) rfl ?_
  have hd := H2.out.put (Nat.le_refl _) (.int .u8 op) (.string t) (.slice ao m c)
  exact ⟨op, t, ao, m, c, rfl, hd.rp, hd.fr⟩

end Go.Proofs.YtfekglokoafpiaaGreatDoor

namespace Go.Proofs.YtfekglokoafpiaaGreatDoor
open Go.RowKit

def passS (toks : List Tok) (ls : List ByteArray) (a : Nat) (no : Bool) : Nat × Bool := if passB toks a no ls then (a + 1, no) else (a, true)
def passT (toks : List Tok) (ls : List ByteArray) (a : Nat) (no : Bool) : ByteArray := if passB toks a no ls then tx toks a else ⟨#[]⟩

theorem rpass_any {toks : List Tok} (hw : Wf toks) (rb tb cap a nest : Nat) (no : Bool) (sl : Value) (ls : List ByteArray) (w : World) (h : RP toks rb tb cap a nest no w.heap) (ha : a < toks.length) (hl : Lst sl ls w) {b : Nat} {n1 : Bool} (hs : passS toks ls a no = (b, n1)) :
    Calls Tryz.prog 206 #[.pointer (some ⟨rb, 0, none⟩), sl] w fun e w' => e = .returned (.string (passT toks ls a no)) ∧ RP toks rb tb cap b nest n1 w'.heap ∧ Fr [rb] w w' := by
  unfold passS at hs
  unfold passT
  cases hp : passB toks a no ls with
  | true =>
    rw [hp, if_pos rfl] at hs
    have e1 := (Prod.mk.inj hs).1
    have e2 := (Prod.mk.inj hs).2
    subst e1; subst e2
    exact rpass_yes hw rb tb cap a nest no sl ls w h ha hl hp
  | false =>
    rw [hp, if_neg (by simp)] at hs
    have e1 := (Prod.mk.inj hs).1
    have e2 := (Prod.mk.inj hs).2
    subst e1; subst e2
    exact rpass_no rb tb cap a nest no sl ls w h ha hl hp

theorem Lst.lit1 (w : World) (l : ByteArray) (T : TypeId) : Lst (.slice (some ⟨w.heap.size, 0, none⟩) 1 1) [l] (w.alloc (.cells #[.string l] T)) := by
  refine .inr ⟨w.heap.size, #[.string l], T, rfl, by simp, by simp, new_heap _ _, fun i hi => ?_⟩
  simp only [List.length_cons, List.length_nil] at hi
  obtain rfl : i = 0 := by omega
  rfl

theorem passB_dead (toks : List Tok) (ls : List ByteArray) (a : Nat) : passB toks a true ls = false := by simp [passB, nx, emp]

theorem passB_any (toks : List Tok) (a : Nat) : passB toks a false [] = !emp (tx toks a) := by simp [passB, nx]

theorem isT_ne {toks : List Tok} {a : Nat} {x : UInt8} {l : List UInt8} (h : isT toks a (x :: l) = true) : emp (tx toks a) = false := by
  cases he : emp (tx toks a) with
  | false => rfl
  | true =>
    rw [isT, emp_iff.1 he] at h
    simp at h

theorem hasB_one (l : List UInt8) (t : ByteArray) : hasB [⟨⟨l⟩⟩] t = (t.toList == l) := by
  simp only [hasB, List.any_cons, List.any_nil, Bool.or_false]
  rw [show (⟨⟨l⟩⟩ : ByteArray).toList = l from by simp [ByteArray.toList_eq], Bool.eq_iff_iff, beq_iff_eq, beq_iff_eq, eq_comm]

theorem passB_one (toks : List Tok) (a : Nat) (x : UInt8) (l : List UInt8) : passB toks a false [⟨⟨x :: l⟩⟩] = isT toks a (x :: l) := by
  unfold passB
  rw [hasB_one, show nx toks a false = tx toks a from rfl, List.isEmpty_cons, Bool.false_or]
  cases h : isT toks a (x :: l) with
  | true =>
    have h2 : ((tx toks a).toList == x :: l) = true := h
    rw [isT_ne h, h2]; rfl
  | false =>
    have h2 : ((tx toks a).toList == x :: l) = false := h
    rw [h2, Bool.and_false]

theorem passS_dead (toks : List Tok) (ls : List ByteArray) (a : Nat) : passS toks ls a true = (a, true) := by simp [passS, passB_dead]
theorem passS_yes {toks : List Tok} {a : Nat} {x : UInt8} {l : List UInt8} (h : isT toks a (x :: l) = true) : passS toks [⟨⟨x :: l⟩⟩] a false = (a + 1, false) := by simp [passS, passB_one, h]
theorem passS_no {toks : List Tok} {a : Nat} {x : UInt8} {l : List UInt8} (h : isT toks a (x :: l) = false) : passS toks [⟨⟨x :: l⟩⟩] a false = (a, true) := by simp [passS, passB_one, h]
theorem passS_any {toks : List Tok} {a : Nat} (h : emp (tx toks a) = false) : passS toks [] a false = (a + 1, false) := by simp [passS, passB_any, h]

/-- An expr of the document's parser: what was read, and how far. -/
def RPost (toks : List Tok) (rb tb cap a nest b : Nat) (r : Option Value) (w : World) : Ending → World → Prop := fun e w' =>
  ∃ (op : Int) (t : ByteArray) (ao : Option Addr) (m c : Nat), e = .returned (.agg #[.int .u8 op, .string t, .slice ao m c]) ∧ RP toks rb tb cap b nest r.isNone w'.heap ∧ Fr [rb] w w' ∧
    ∀ x, r = some x → ∃ n, n + a ≤ b ∧ Rep (fun k => w.heap.size < k) w' n (.agg #[.int .u8 op, .string t, .slice ao m c]) x

def RL (toks : List Tok) (tag g : Nat) : Prop :=
  ∀ (rb tb cap nest a b : Nat) (no : Bool) (r : Option Value) (w : World), (if no then some (a, none) else P toks g tag nest a .nilIface) = some (b, r) → a < toks.length → nest ≤ 20 → RP toks rb tb cap a nest no w.heap →
    Calls Tryz.prog 208 #[.pointer (some ⟨rb, 0, none⟩), .int .i64 tag] w (RPost toks rb tb cap a nest b r w)

def RA (toks : List Tok) (g : Nat) : Prop :=
  ∀ (rb tb cap nest a b : Nat) (r : Option Value) (w : World), P toks g 3 nest a .nilIface = some (b, r) → a < toks.length → nest ≤ 20 → RP toks rb tb cap a nest false w.heap →
    Calls Tryz.prog 225 #[.pointer (some ⟨rb, 0, none⟩)] w (RPost toks rb tb cap a nest b r w)

theorem dpost_rpost {toks : List Tok} {rb tb cap a nest : Nat} {w : World} {e : Ending} {w' : World} (h : DPost toks rb tb cap a nest w e w') : RPost toks rb tb cap a nest a none w e w' := by
  obtain ⟨op, t, ao, m, c, h1, h2, h3⟩ := h
  exact ⟨op, t, ao, m, c, h1, h2, h3, fun x hx => by cases hx⟩

/-- What passes when the words of a choice are read, step by step. -/
structure Steps3 (toks : List Tok) (g nest a b : Nat) (r : Option Value) (b1 : Nat) (r1 : Option Value) (b1' : Nat) (n1 : Bool) (b2 : Nat) (r2 : Option Value) (b2' : Nat) (n2 : Bool) (b3 : Nat) (r3 : Option Value) (n4 : Bool) : Prop where
  l1 : (if false then some (a + 1, none) else P toks g 0 nest (a + 1) .nilIface) = some (b1, r1)
  t1 : passS toks [⟨#[116, 104, 101, 110]⟩] b1 r1.isNone = (b1', n1)
  l2 : (if n1 then some (b1', none) else P toks g 0 nest b1' .nilIface) = some (b2, r2)
  t2 : passS toks [⟨#[101, 108, 115, 101]⟩] b2 r2.isNone = (b2', n2)
  l3 : (if n2 then some (b2', none) else P toks g 0 nest b2' .nilIface) = some (b3, r3)
  t3 : passS toks [⟨#[101, 110, 100]⟩] b3 r3.isNone = (b, n4)
  i1 : b1 < toks.length
  i1' : b1' < toks.length
  i2 : b2 < toks.length
  i2' : b2' < toks.length
  i3 : b3 < toks.length
  no : r.isNone = n4
  ok : ∀ v, r = some v → ∃ x y z, r1 = some x ∧ r2 = some y ∧ r3 = some z ∧ v = mkChoice x y z ∧ b1' = b1 + 1 ∧ b2' = b2 + 1 ∧ b = b3 + 1

theorem steps3 {toks : List Tok} (hw : Wf toks) {g nest a b : Nat} {r : Option Value} (ha : a + 1 < toks.length)
    (h : (andP (P toks g 0 nest (a + 1) .nilIface) fun b x =>
          if isT toks b [116, 104, 101, 110] then andP (P toks g 0 nest (b + 1) .nilIface) fun c y =>
            if isT toks c [101, 108, 115, 101] then andP (P toks g 0 nest (c + 1) .nilIface) fun d z =>
              if isT toks d [101, 110, 100] then some (d + 1, some (mkChoice x y z)) else some (d, none)
            else some (c, none)
          else some (b, none)) = some (b, r)) :
    ∃ b1 r1 b1' n1 b2 r2 b2' n2 b3 r3 n4, Steps3 toks g nest a b r b1 r1 b1' n1 b2 r2 b2' n2 b3 r3 n4 := by
  rcases andP_cases h with ⟨c, h1, h2⟩ | ⟨c, x, h1, h2⟩
  · cases h2
    have hb := P_lt hw _ _ _ _ _ _ h1 ha
    exact ⟨b, none, b, true, b, none, b, true, b, none, true, by simpa using h1, passS_dead _ _ _, rfl, passS_dead _ _ _, rfl, passS_dead _ _ _, hb, hb, hb, hb, hb, rfl, fun v hv => by cases hv⟩
  · have hc := P_lt hw _ _ _ _ _ _ h1 ha
    cases ht : isT toks c [116, 104, 101, 110] with
    | false =>
      rw [ht, if_neg (by simp)] at h2
      cases h2
      exact ⟨b, some x, b, true, b, none, b, true, b, none, true, by simpa using h1, passS_no ht, rfl, passS_dead _ _ _, rfl, passS_dead _ _ _, hc, hc, hc, hc, hc, rfl, fun v hv => by cases hv⟩
    | true =>
      rw [ht, if_pos rfl] at h2
      have hc1 := hw.next_isT hc ht
      rcases andP_cases h2 with ⟨d, h3, h4⟩ | ⟨d, y, h3, h4⟩
      · cases h4
        have hd := P_lt hw _ _ _ _ _ _ h3 hc1
        exact ⟨c, some x, c + 1, false, b, none, b, true, b, none, true, by simpa using h1, passS_yes ht, by simpa using h3, passS_dead _ _ _, rfl, passS_dead _ _ _, hc, hc1, hd, hd, hd, rfl, fun v hv => by cases hv⟩
      · have hd := P_lt hw _ _ _ _ _ _ h3 hc1
        cases he : isT toks d [101, 108, 115, 101] with
        | false =>
          rw [he, if_neg (by simp)] at h4
          cases h4
          exact ⟨c, some x, c + 1, false, b, some y, b, true, b, none, true, by simpa using h1, passS_yes ht, by simpa using h3, passS_no he, rfl, passS_dead _ _ _, hc, hc1, hd, hd, hd, rfl, fun v hv => by cases hv⟩
        | true =>
          rw [he, if_pos rfl] at h4
          have hd1 := hw.next_isT hd he
          rcases andP_cases h4 with ⟨q, h5, h6⟩ | ⟨q, z, h5, h6⟩
          · cases h6
            have hq := P_lt hw _ _ _ _ _ _ h5 hd1
            exact ⟨c, some x, c + 1, false, d, some y, d + 1, false, b, none, true, by simpa using h1, passS_yes ht, by simpa using h3, passS_yes he, by simpa using h5, passS_dead _ _ _, hc, hc1, hd, hd1, hq, rfl, fun v hv => by cases hv⟩
          · have hq := P_lt hw _ _ _ _ _ _ h5 hd1
            cases hf : isT toks q [101, 110, 100] with
            | false =>
              rw [hf, if_neg (by simp)] at h6
              cases h6
              exact ⟨c, some x, c + 1, false, d, some y, d + 1, false, b, some z, true, by simpa using h1, passS_yes ht, by simpa using h3, passS_yes he, by simpa using h5, passS_no hf, hc, hc1, hd, hd1, hq, rfl, fun v hv => by cases hv⟩
            | true =>
              rw [hf, if_pos rfl] at h6
              cases h6
              exact ⟨c, some x, c + 1, false, d, some y, d + 1, false, q, some z, false, by simpa using h1, passS_yes ht, by simpa using h3, passS_yes he, by simpa using h5, passS_yes hf, hc, hc1, hd, hd1, hq, rfl, fun v hv => by cases hv; exact ⟨x, y, z, rfl, rfl, rfl, rfl, rfl, rfl, rfl⟩⟩

/-- The same of brackets. -/
theorem steps1 {toks : List Tok} (hw : Wf toks) {g nest a b : Nat} {r : Option Value} (ha : a + 1 < toks.length)
    (h : (andP (P toks g 0 nest (a + 1) .nilIface) fun b x => if isT toks b [41] then some (b + 1, some x) else some (b, none)) = some (b, r)) :
    ∃ b1 r1 n1, (if false then some (a + 1, none) else P toks g 0 nest (a + 1) .nilIface) = some (b1, r1) ∧ passS toks [⟨#[41]⟩] b1 r1.isNone = (b, n1) ∧ b1 < toks.length ∧ r.isNone = n1 ∧ ∀ v, r = some v → r1 = some v ∧ b = b1 + 1 := by
  rcases andP_cases h with ⟨c, h1, h2⟩ | ⟨c, x, h1, h2⟩
  · cases h2
    exact ⟨b, none, true, by simpa using h1, passS_dead _ _ _, P_lt hw _ _ _ _ _ _ h1 ha, rfl, fun v hv => by cases hv⟩
  · have hc := P_lt hw _ _ _ _ _ _ h1 ha
    cases ht : isT toks c [41] with
    | false =>
      rw [ht, if_neg (by simp)] at h2
      cases h2
      exact ⟨b, some x, true, by simpa using h1, passS_no ht, hc, rfl, fun v hv => by cases hv⟩
    | true =>
      rw [ht, if_pos rfl] at h2
      cases h2
      exact ⟨c, some x, false, by simpa using h1, passS_yes ht, hc, rfl, fun v hv => by cases hv; exact ⟨rfl, rfl⟩⟩

end Go.Proofs.YtfekglokoafpiaaGreatDoor

namespace Go.Proofs.YtfekglokoafpiaaGreatDoor
open Go.RowKit

theorem Lst.lit1n {w : World} {l : ByteArray} {T : TypeId} {n : Nat} (hn : n = w.heap.size) : Lst (.slice (some ⟨n, 0, none⟩) 1 1) [l] (w.alloc (.cells #[.string l] T)) := by
  subst hn; exact Lst.lit1 w l T

set_option maxRecDepth 100000 in
set_option maxHeartbeats 2000000 in
theorem rinner_bracket {toks : List Tok} (hw : Wf toks) {g : Nat} (hs : RL toks 0 g) (rb tb cap nest a b : Nat) (r : Option Value) (w : World)
    (h : (andP (P toks g 0 nest (a + 1) .nilIface) fun b x => if isT toks b [41] then some (b + 1, some x) else some (b, none)) = some (b, r))
    (ha : a < toks.length) (hT : isT toks a [40] = true) (hnest : nest ≤ 20) (hP : RP toks rb tb cap a nest false w.heap) :
    Calls Tryz.prog 230 #[.pointer (some ⟨rb, 0, none⟩), .string ⟨#[40]⟩] w (RPost toks rb tb cap a nest b r w) := by
  have hn := hw.next_isT ha hT
  obtain ⟨b1, r1, n1, h1, h2, hb1, hno, hok⟩ := steps1 hw hn h
  have HS := hid hs
  have HW := hid hw
  have HP := hid hP
  have HT1 := hid h1
  have HT2 := hid h2
  have HA := hid (passS_any (isT_ne hT))
  have HNO := hid hno
  have HOK := hid hok
  clear h hs hw hP h1 h2 hT hno hok
  have H0 := hid ((DS.refl HP.out).alloc (.cells zE 232))
  have HR0 := hid (new_heap w (.cells zE 232))
  obtain ⟨KK, hKK⟩ : ∃ K : Nat → Prop, K = fun k => w.heap.size < k := ⟨_, rfl⟩
  have hK : Hid (∀ k, KK k → k ≠ rb) := hid (by subst hKK; intro k h e; have := H0.out.pl; have h2 : w.heap.size < k := h; omega)
  have hK2 : Hid (∀ k, w.heap.size < k → KK k) := hid (by subst hKK; exact fun k h => h)
  have hK3 : Hid (¬ KK w.heap.size) := hid (by subst hKK; exact Nat.lt_irrefl _)
  go_enter Tryz.func230, Tryz.ntmps230
  go_wp2_with fail
  refine (rpass_any HW.out rb tb cap a nest false _ [] _ H0.out.rp ha (Lst.nil _) HA.out).mono ?_
  rintro e w1 ⟨rfl, hp, hf⟩
  have H1 := hid (H0.out.call hp hf)
  have HR1 := hid (own_fr HR0.out hf (Nat.le_refl _) H0.out.pl)
  clear hp hf
  go_wp2_with fail
  refine (HS.out rb tb cap nest (a + 1) b1 false r1 _ HT1.out hn hnest H1.out.rp).mono ?_
  rintro e w2 ⟨op, t, ao, m, c, rfl, hp, hf, hx⟩
  have H2 := hid ((H1.out.call hp hf).alloc (.cells #[.int .u8 op, .string t, .slice ao m c] 232))
  have HR2 := hid (old_heap (.cells #[.int .u8 op, .string t, .slice ao m c] 232) (own_fr HR1.out hf (Nat.le_refl _) H0.out.pl))
  have HE2 := hid (new_heap w2 (.cells #[.int .u8 op, .string t, .slice ao m c] 232))
  have hsz : Hid (w.heap.size ≤ w2.heap.size) := hid (Nat.le_of_lt (heap_lt (own_fr HR1.out hf (Nat.le_refl _) H0.out.pl)))
  have HX := hid hx
  clear hp hf hx
  go_wp2_with fail
  refine (rpass_any HW.out rb tb cap b1 nest r1.isNone _ [⟨#[41]⟩] _ (H2.out.alloc _).rp hb1 (Lst.lit1n (by simp)) HT2.out).mono ?_
  rintro e w3 ⟨rfl, hp, hf⟩
  have H3 := hid ((H2.out.alloc _).call hp hf)
  have hr := own_fr (old_heap _ HR2.out) hf (Nat.le_refl _) H0.out.pl
  have he := own_fr (old_heap _ HE2.out) hf hsz.out H0.out.pl
  have HL3 := hid ((((Later.refl KK w2).alloc _).alloc _).trans (Later.of_fr hf hK.out))
  clear hp hf
  have r0 : World.cell? _ ⟨w.heap.size, 0, none⟩ = some (.int .u8 0) := heap_cell (i := 0) hr
  have fr0 : World.frozen? _ ⟨w.heap.size, 0, none⟩ = false := heap_frozen hr
  have r1 : World.cell? _ ⟨w.heap.size, 1, none⟩ = some (.string ⟨#[]⟩) := heap_cell (i := 1) hr
  have fr1 : World.frozen? _ ⟨w.heap.size, 1, none⟩ = false := heap_frozen hr
  have r2 : World.cell? _ ⟨w.heap.size, 2, none⟩ = some (.slice none 0 0) := heap_cell (i := 2) hr
  have fr2 : World.frozen? _ ⟨w.heap.size, 2, none⟩ = false := heap_frozen hr
  have e0 : World.cell? _ ⟨w2.heap.size, 0, none⟩ = some (.int .u8 op) := heap_cell (i := 0) he
  have fe0 : World.frozen? _ ⟨w2.heap.size, 0, none⟩ = false := heap_frozen he
  have e1 : World.cell? _ ⟨w2.heap.size, 1, none⟩ = some (.string t) := heap_cell (i := 1) he
  have fe1 : World.frozen? _ ⟨w2.heap.size, 1, none⟩ = false := heap_frozen he
  have e2 : World.cell? _ ⟨w2.heap.size, 2, none⟩ = some (.slice ao m c) := heap_cell (i := 2) he
  have fe2 : World.frozen? _ ⟨w2.heap.size, 2, none⟩ = false := heap_frozen he
  have hy := put3_same hr (.int .u8 op) (.string t) (.slice ao m c)
  have y0 : World.cell? _ ⟨w.heap.size, 0, none⟩ = some (.int .u8 op) := heap_cell (i := 0) hy
  have y1 : World.cell? _ ⟨w.heap.size, 1, none⟩ = some (.string t) := heap_cell (i := 1) hy
  have y2 : World.cell? _ ⟨w.heap.size, 2, none⟩ = some (.slice ao m c) := heap_cell (i := 2) hy
  go_wp2
  refine bodyPost_ret (v := .agg #[.int .u8 op, .string t, .slice ao m c]) (by simp [results, Tryz.results230, go_sem, y0, y1, y2]; try rfl) rfl ?_
  have hd := H3.out.put (Nat.le_refl _) (.int .u8 op) (.string t) (.slice ao m c)
  refine ⟨op, t, ao, m, c, rfl, by rw [HNO.out]; exact hd.rp, hd.fr, fun x hx => ?_⟩
  obtain ⟨h1, h2⟩ := HOK.out x hx
  obtain ⟨n, hn, hr⟩ := HX.out x h1
  subst hKK
  exact ⟨n, by omega, rep_later (rep_mono hr fun k _ h2 => hK2.out k (Nat.lt_trans (heap_lt HR1.out) h2)) (HL3.out.put3 hK3.out _ _ _)⟩

set_option maxRecDepth 100000 in
set_option maxHeartbeats 2000000 in
theorem rinner_choice {toks : List Tok} (hw : Wf toks) {g : Nat} (hs : RL toks 0 g) (rb tb cap nest a b : Nat) (r : Option Value) (w : World)
    (h : (andP (P toks g 0 nest (a + 1) .nilIface) fun b x =>
          if isT toks b [116, 104, 101, 110] then andP (P toks g 0 nest (b + 1) .nilIface) fun c y =>
            if isT toks c [101, 108, 115, 101] then andP (P toks g 0 nest (c + 1) .nilIface) fun d z =>
              if isT toks d [101, 110, 100] then some (d + 1, some (mkChoice x y z)) else some (d, none)
            else some (c, none)
          else some (b, none)) = some (b, r))
    (ha : a < toks.length) (hT : isT toks a [105, 102] = true) (hnest : nest ≤ 20) (hP : RP toks rb tb cap a nest false w.heap) :
    Calls Tryz.prog 230 #[.pointer (some ⟨rb, 0, none⟩), .string ⟨#[105, 102]⟩] w (RPost toks rb tb cap a nest b r w) := by
  have hn := hw.next_isT ha hT
  obtain ⟨b1, r1, b1', n1, b2, r2, b2', n2, b3, r3, n4, hst⟩ := steps3 hw hn h
  have HS := hid hs
  have HW := hid hw
  have HP := hid hP
  have HST := hid hst
  have HA := hid (passS_any (isT_ne hT))
  have i1 := hst.i1
  have i1' := hst.i1'
  have i2 := hst.i2
  have i2' := hst.i2'
  have i3 := hst.i3
  clear h hs hw hP hT hst
  have H0 := hid ((DS.refl HP.out).alloc (.cells zE 232))
  have HR0 := hid (new_heap w (.cells zE 232))
  obtain ⟨KK, hKK⟩ : ∃ K : Nat → Prop, K = fun k => w.heap.size < k := ⟨_, rfl⟩
  have hK : Hid (∀ k, KK k → k ≠ rb) := hid (by subst hKK; intro k h e; have := H0.out.pl; have h2 : w.heap.size < k := h; omega)
  have hK2 : Hid (∀ k, w.heap.size < k → KK k) := hid (by subst hKK; exact fun k h => h)
  have hK3 : Hid (¬ KK w.heap.size) := hid (by subst hKK; exact Nat.lt_irrefl _)
  go_enter Tryz.func230, Tryz.ntmps230
  go_wp2_with fail
  refine (rpass_any HW.out rb tb cap a nest false _ [] _ H0.out.rp ha (Lst.nil _) HA.out).mono ?_
  rintro e w1 ⟨rfl, hp, hf⟩
  have H1 := hid (H0.out.call hp hf)
  have HR1 := hid (own_fr HR0.out hf (Nat.le_refl _) H0.out.pl)
  clear hp hf
  go_wp2_with fail
  refine (HS.out rb tb cap nest (a + 1) b1 false r1 _ HST.out.l1 hn hnest H1.out.rp).mono ?_
  rintro e w2 ⟨op1, t1, ao1, m1, c1, rfl, hp, hf, hx⟩
  have H2 := hid ((H1.out.call hp hf).alloc (.cells #[.int .u8 op1, .string t1, .slice ao1 m1 c1] 232))
  have HR2 := hid (old_heap (.cells #[.int .u8 op1, .string t1, .slice ao1 m1 c1] 232) (own_fr HR1.out hf (Nat.le_refl _) H0.out.pl))
  have HE2_2 := hid (new_heap w2 (.cells #[.int .u8 op1, .string t1, .slice ao1 m1 c1] 232))
  have hsz2 : Hid (w.heap.size < w2.heap.size) := hid (heap_lt (own_fr HR1.out hf (Nat.le_refl _) H0.out.pl))
  have HX1 := hid (fun x h => by obtain ⟨n, h1, h2⟩ := hx x h; exact ⟨n, h1, rep_mono h2 (fun k _ h3 => hK2.out k (Nat.lt_trans (heap_lt HR1.out) h3))⟩ : ∀ x, r1 = some x → ∃ n, n + (a + 1) ≤ b1 ∧ Rep KK w2 n (.agg #[.int .u8 op1, .string t1, .slice ao1 m1 c1]) x)
  clear hp hf hx
  go_wp2_with fail
  refine (rpass_any HW.out rb tb cap b1 nest r1.isNone _ [⟨#[116, 104, 101, 110]⟩] _ (H2.out.alloc _).rp i1 (Lst.lit1n (by simp)) HST.out.t1).mono ?_
  rintro e w3 ⟨rfl, hp, hf⟩
  have H3 := hid ((H2.out.alloc _).call hp hf)
  have HR3 := hid (own_fr (old_heap _ HR2.out) hf (Nat.le_refl _) H0.out.pl)
  have HE2_3 := hid (own_fr (old_heap _ HE2_2.out) hf (Nat.le_of_lt hsz2.out) H0.out.pl)
  have HL1_3 := hid ((((Later.refl KK w2).alloc (.cells #[.int .u8 op1, .string t1, .slice ao1 m1 c1] 232)).alloc _).trans (Later.of_fr hf hK.out))
  clear hp hf
  go_wp2_with fail
  refine (HS.out rb tb cap nest b1' b2 n1 r2 _ HST.out.l2 i1' hnest H3.out.rp).mono ?_
  rintro e w4 ⟨op2, t2, ao2, m2, c2, rfl, hp, hf, hx⟩
  have H4 := hid ((H3.out.call hp hf).alloc (.cells #[.int .u8 op2, .string t2, .slice ao2 m2 c2] 232))
  have HR4 := hid (old_heap (.cells #[.int .u8 op2, .string t2, .slice ao2 m2 c2] 232) (own_fr HR3.out hf (Nat.le_refl _) H0.out.pl))
  have HE4_4 := hid (new_heap w4 (.cells #[.int .u8 op2, .string t2, .slice ao2 m2 c2] 232))
  have hsz4 : Hid (w.heap.size < w4.heap.size) := hid (heap_lt (own_fr HR3.out hf (Nat.le_refl _) H0.out.pl))
  have HX2 := hid (fun x h => by obtain ⟨n, h1, h2⟩ := hx x h; exact ⟨n, h1, rep_mono h2 (fun k _ h3 => hK2.out k (Nat.lt_trans (heap_lt HR3.out) h3))⟩ : ∀ x, r2 = some x → ∃ n, n + b1' ≤ b2 ∧ Rep KK w4 n (.agg #[.int .u8 op2, .string t2, .slice ao2 m2 c2]) x)
  have HE2_4 := hid (old_heap (.cells #[.int .u8 op2, .string t2, .slice ao2 m2 c2] 232) (own_fr HE2_3.out hf (Nat.le_of_lt hsz2.out) H0.out.pl))
  have HL1_4 := hid ((HL1_3.out.trans (Later.of_fr hf hK.out)).alloc (.cells #[.int .u8 op2, .string t2, .slice ao2 m2 c2] 232))
  clear hp hf hx
  go_wp2_with fail
  refine (rpass_any HW.out rb tb cap b2 nest r2.isNone _ [⟨#[101, 108, 115, 101]⟩] _ (H4.out.alloc _).rp i2 (Lst.lit1n (by simp)) HST.out.t2).mono ?_
  rintro e w5 ⟨rfl, hp, hf⟩
  have H5 := hid ((H4.out.alloc _).call hp hf)
  have HR5 := hid (own_fr (old_heap _ HR4.out) hf (Nat.le_refl _) H0.out.pl)
  have HE4_5 := hid (own_fr (old_heap _ HE4_4.out) hf (Nat.le_of_lt hsz4.out) H0.out.pl)
  have HL2_5 := hid ((((Later.refl KK w4).alloc (.cells #[.int .u8 op2, .string t2, .slice ao2 m2 c2] 232)).alloc _).trans (Later.of_fr hf hK.out))
  have HE2_5 := hid (own_fr (old_heap _ HE2_4.out) hf (Nat.le_of_lt hsz2.out) H0.out.pl)
  have HL1_5 := hid ((HL1_4.out.alloc _).trans (Later.of_fr hf hK.out))
  clear hp hf
  go_wp2_with fail
  refine (HS.out rb tb cap nest b2' b3 n2 r3 _ HST.out.l3 i2' hnest H5.out.rp).mono ?_
  rintro e w6 ⟨op3, t3, ao3, m3, c3, rfl, hp, hf, hx⟩
  have H6 := hid ((H5.out.call hp hf).alloc (.cells #[.int .u8 op3, .string t3, .slice ao3 m3 c3] 232))
  have HR6 := hid (old_heap (.cells #[.int .u8 op3, .string t3, .slice ao3 m3 c3] 232) (own_fr HR5.out hf (Nat.le_refl _) H0.out.pl))
  have HE6_6 := hid (new_heap w6 (.cells #[.int .u8 op3, .string t3, .slice ao3 m3 c3] 232))
  have hsz6 : Hid (w.heap.size < w6.heap.size) := hid (heap_lt (own_fr HR5.out hf (Nat.le_refl _) H0.out.pl))
  have HX3 := hid (fun x h => by obtain ⟨n, h1, h2⟩ := hx x h; exact ⟨n, h1, rep_mono h2 (fun k _ h3 => hK2.out k (Nat.lt_trans (heap_lt HR5.out) h3))⟩ : ∀ x, r3 = some x → ∃ n, n + b2' ≤ b3 ∧ Rep KK w6 n (.agg #[.int .u8 op3, .string t3, .slice ao3 m3 c3]) x)
  have HE2_6 := hid (old_heap (.cells #[.int .u8 op3, .string t3, .slice ao3 m3 c3] 232) (own_fr HE2_5.out hf (Nat.le_of_lt hsz2.out) H0.out.pl))
  have HL1_6 := hid ((HL1_5.out.trans (Later.of_fr hf hK.out)).alloc (.cells #[.int .u8 op3, .string t3, .slice ao3 m3 c3] 232))
  have HE4_6 := hid (old_heap (.cells #[.int .u8 op3, .string t3, .slice ao3 m3 c3] 232) (own_fr HE4_5.out hf (Nat.le_of_lt hsz4.out) H0.out.pl))
  have HL2_6 := hid ((HL2_5.out.trans (Later.of_fr hf hK.out)).alloc (.cells #[.int .u8 op3, .string t3, .slice ao3 m3 c3] 232))
  clear hp hf hx
  go_wp2_with fail
  refine (rpass_any HW.out rb tb cap b3 nest r3.isNone _ [⟨#[101, 110, 100]⟩] _ (H6.out.alloc _).rp i3 (Lst.lit1n (by simp)) HST.out.t3).mono ?_
  rintro e w7 ⟨rfl, hp, hf⟩
  have H7 := hid ((H6.out.alloc _).call hp hf)
  have HR7 := hid (own_fr (old_heap _ HR6.out) hf (Nat.le_refl _) H0.out.pl)
  have HE6_7 := hid (own_fr (old_heap _ HE6_6.out) hf (Nat.le_of_lt hsz6.out) H0.out.pl)
  have HL3_7 := hid ((((Later.refl KK w6).alloc (.cells #[.int .u8 op3, .string t3, .slice ao3 m3 c3] 232)).alloc _).trans (Later.of_fr hf hK.out))
  have HE2_7 := hid (own_fr (old_heap _ HE2_6.out) hf (Nat.le_of_lt hsz2.out) H0.out.pl)
  have HL1_7 := hid ((HL1_6.out.alloc _).trans (Later.of_fr hf hK.out))
  have HE4_7 := hid (own_fr (old_heap _ HE4_6.out) hf (Nat.le_of_lt hsz4.out) H0.out.pl)
  have HL2_7 := hid ((HL2_6.out.alloc _).trans (Later.of_fr hf hK.out))
  clear hp hf
  have he1 := HE2_7.out
  have e1_0 : World.cell? _ ⟨w2.heap.size, 0, none⟩ = some (.int .u8 op1) := heap_cell (i := 0) he1
  have fe1_0 : World.frozen? _ ⟨w2.heap.size, 0, none⟩ = false := heap_frozen he1
  have e1_1 : World.cell? _ ⟨w2.heap.size, 1, none⟩ = some (.string t1) := heap_cell (i := 1) he1
  have fe1_1 : World.frozen? _ ⟨w2.heap.size, 1, none⟩ = false := heap_frozen he1
  have e1_2 : World.cell? _ ⟨w2.heap.size, 2, none⟩ = some (.slice ao1 m1 c1) := heap_cell (i := 2) he1
  have fe1_2 : World.frozen? _ ⟨w2.heap.size, 2, none⟩ = false := heap_frozen he1
  have he2 := HE4_7.out
  have e2_0 : World.cell? _ ⟨w4.heap.size, 0, none⟩ = some (.int .u8 op2) := heap_cell (i := 0) he2
  have fe2_0 : World.frozen? _ ⟨w4.heap.size, 0, none⟩ = false := heap_frozen he2
  have e2_1 : World.cell? _ ⟨w4.heap.size, 1, none⟩ = some (.string t2) := heap_cell (i := 1) he2
  have fe2_1 : World.frozen? _ ⟨w4.heap.size, 1, none⟩ = false := heap_frozen he2
  have e2_2 : World.cell? _ ⟨w4.heap.size, 2, none⟩ = some (.slice ao2 m2 c2) := heap_cell (i := 2) he2
  have fe2_2 : World.frozen? _ ⟨w4.heap.size, 2, none⟩ = false := heap_frozen he2
  have he3 := HE6_7.out
  have e3_0 : World.cell? _ ⟨w6.heap.size, 0, none⟩ = some (.int .u8 op3) := heap_cell (i := 0) he3
  have fe3_0 : World.frozen? _ ⟨w6.heap.size, 0, none⟩ = false := heap_frozen he3
  have e3_1 : World.cell? _ ⟨w6.heap.size, 1, none⟩ = some (.string t3) := heap_cell (i := 1) he3
  have fe3_1 : World.frozen? _ ⟨w6.heap.size, 1, none⟩ = false := heap_frozen he3
  have e3_2 : World.cell? _ ⟨w6.heap.size, 2, none⟩ = some (.slice ao3 m3 c3) := heap_cell (i := 2) he3
  have fe3_2 : World.frozen? _ ⟨w6.heap.size, 2, none⟩ = false := heap_frozen he3
  have hr := old_heap (.cells #[.int .u8 op1, .string t1, .slice ao1 m1 c1, .int .u8 op2, .string t2, .slice ao2 m2 c2, .int .u8 op3, .string t3, .slice ao3 m3 c3] 232) HR7.out
  have r0 : World.cell? _ ⟨w.heap.size, 0, none⟩ = some (.int .u8 0) := heap_cell (i := 0) hr
  have fr0 : World.frozen? _ ⟨w.heap.size, 0, none⟩ = false := heap_frozen hr
  have r1 : World.cell? _ ⟨w.heap.size, 1, none⟩ = some (.string ⟨#[]⟩) := heap_cell (i := 1) hr
  have fr1 : World.frozen? _ ⟨w.heap.size, 1, none⟩ = false := heap_frozen hr
  have r2 : World.cell? _ ⟨w.heap.size, 2, none⟩ = some (.slice none 0 0) := heap_cell (i := 2) hr
  have fr2 : World.frozen? _ ⟨w.heap.size, 2, none⟩ = false := heap_frozen hr
  have hy := put3_same hr (.int .u8 63) (.string ⟨#[]⟩) (.slice (some ⟨w7.heap.size, 0, none⟩) 3 3)
  have y0 : World.cell? _ ⟨w.heap.size, 0, none⟩ = some (.int .u8 63) := heap_cell (i := 0) hy
  have y1 : World.cell? _ ⟨w.heap.size, 1, none⟩ = some (.string ⟨#[]⟩) := heap_cell (i := 1) hy
  have y2 : World.cell? _ ⟨w.heap.size, 2, none⟩ = some (.slice (some ⟨w7.heap.size, 0, none⟩) 3 3) := heap_cell (i := 2) hy
  go_wp2
  refine bodyPost_ret (v := .agg #[.int .u8 63, .string ⟨#[]⟩, .slice (some ⟨w7.heap.size, 0, none⟩) 3 3]) (by simp [results, Tryz.results230, go_sem, y0, y1, y2]; try rfl) rfl ?_
  have hd := (H7.out.alloc (.cells #[.int .u8 op1, .string t1, .slice ao1 m1 c1, .int .u8 op2, .string t2, .slice ao2 m2 c2, .int .u8 op3, .string t3, .slice ao3 m3 c3] 232)).put (Nat.le_refl _) (.int .u8 63) (.string ⟨#[]⟩) (.slice (some ⟨w7.heap.size, 0, none⟩) 3 3)
  have hlt := heap_lt HR7.out
  refine ⟨63, _, _, 3, 3, rfl, by rw [HST.out.no]; exact hd.rp, hd.fr, fun x hx => ?_⟩
  obtain ⟨x1, x2, x3, e1, e2, e3, rfl, e4, e5, e6⟩ := HST.out.ok x hx
  obtain ⟨k1, l1, hr1⟩ := HX1.out x1 e1
  obtain ⟨k2, l2, hr2⟩ := HX2.out x2 e2
  obtain ⟨k3, l3, hr3⟩ := HX3.out x3 e3
  subst hKK
  exact ⟨k1 + k2 + k3 + 4, by omega, rep_choice ((put3_other (by omega) _ _ _).trans (new_heap _ _)) hlt (rep_later hr1 ((HL1_7.out.alloc _).put3 hK3.out _ _ _)) (rep_later hr2 ((HL2_7.out.alloc _).put3 hK3.out _ _ _)) (rep_later hr3 ((HL3_7.out.alloc _).put3 hK3.out _ _ _))⟩

end Go.Proofs.YtfekglokoafpiaaGreatDoor
