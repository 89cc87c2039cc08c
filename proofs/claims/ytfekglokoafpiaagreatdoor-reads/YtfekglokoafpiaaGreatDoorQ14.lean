/-
  The document's parser: all items.
  The document's parser: Parse.
  The program's write of an item, the document's line of an item.
-/
import Derived.Test.YtfekglokoafpiaaGreatDoorQ13
import Derived.Maps.AppendAt

set_option linter.unusedVariables false
set_option linter.unusedSimpArgs false

namespace Go.Proofs.YtfekglokoafpiaaGreatDoor
open Go.RowKit

theorem ritem_any {toks : List Tok} (hw : Wf toks) (hs : RL toks 0 1700) (rb tb cap a : Nat) (w : World) (ha : a < toks.length) (hP : RP toks rb tb cap a 0 false w.heap) :
    Calls Tryz.prog 173 #[.pointer (some ⟨rb, 0, none⟩)] w (IPost toks rb tb cap (itemP toks a).1 (itemP toks a).2 w) := by
  cases h0 : isT toks a [117, 115, 101] with
  | true => exact ritem_use hw rb tb cap a w ha hP h0
  | false =>
  cases h1 : isT toks a [112, 117, 98] with
  | true =>
    have hn := hw.next_isT ha h1
    have hip : itemP toks a = letP toks 2 (a + 1) := by simp [itemP, h0, h1]
    rw [hip, letP_tail]
    cases h2 : isT toks (a + 1) [108, 101, 116] with
    | true =>
      have := ritem_pub hw hs rb tb cap a w ha hP h1 (a + 2) false (passS_yes h2) (hw.next_isT hn h2)
      simpa using this
    | false =>
      have := ritem_pub hw hs rb tb cap a w ha hP h1 (a + 1) true (passS_no h2) hn
      simpa using this
  | false =>
    have hip : itemP toks a = letP toks 1 a := by simp [itemP, h0, h1]
    rw [hip, letP_tail]
    cases h2 : isT toks a [108, 101, 116] with
    | true =>
      have := ritem_let hw hs rb tb cap a w ha hP ⟨#[108, 101, 116]⟩ (a + 1) false (pass3_let h2) (pass3_letT h2) (by simp [ByteArray.toList_eq]) (by simp [ByteArray.toList_eq]) (fun _ => rfl) (hw.next_isT ha h2)
      simpa using this
    | false =>
      have := ritem_let hw hs rb tb cap a w ha hP ⟨#[]⟩ a true (pass3_no h0 h1 h2) (pass3_noT h0 h1 h2) (by simp [ByteArray.toList_eq]) (by simp [ByteArray.toList_eq]) (fun h => by cases h) ha
      simpa using this

theorem RI.mono {K J : Nat → Prop} {w : World} {at_ : Int} {word nm ty : ByteArray} {e : Value} {i : It} (h : RI K w at_ word nm ty e i) (hJ : ∀ k, k < w.heap.size → K k → J k) : RI J w at_ word nm ty e i := by
  obtain ⟨h1, h2, h3, h4 | ⟨h4, h5, h6, n, hn, hr⟩⟩ := h
  · exact ⟨h1, h2, h3, .inl h4⟩
  · exact ⟨h1, h2, h3, .inr ⟨h4, h5, h6, n, hn, rep_mono hr hJ⟩⟩

theorem RI.later {K : Nat → Prop} {w w' : World} {at_ : Int} {word nm ty : ByteArray} {e : Value} {i : It} (h : RI K w at_ word nm ty e i) (hl : Later K w w') : RI K w' at_ word nm ty e i := by
  obtain ⟨h1, h2, h3, h4 | ⟨h4, h5, h6, n, hn, hr⟩⟩ := h
  · exact ⟨h1, h2, h3, .inl h4⟩
  · exact ⟨h1, h2, h3, .inr ⟨h4, h5, h6, n, hn, rep_later hr hl⟩⟩

/-- The cells of the document's items, and the program's items. -/
def Its (K : Nat → Prop) (w : World) : List It → List Value → Prop
  | [], xs => xs = []
  | i :: is, xs => ∃ (at_ : Nat) (word nm ty : ByteArray) (op : Int) (t : ByteArray) (ao : Option Addr) (m c : Nat) (ys : List Value),
      xs = [.int .i64 at_, .string word, .string nm, .string ty, .int .u8 op, .string t, .slice ao m c] ++ ys ∧ RI K w at_ word nm ty (.agg #[.int .u8 op, .string t, .slice ao m c]) i ∧ Its K w is ys

theorem Its.mono {K J : Nat → Prop} {w : World} (hJ : ∀ k, k < w.heap.size → K k → J k) : ∀ {l : List It} {xs : List Value}, Its K w l xs → Its J w l xs
  | [], _, h => h
  | _ :: _, _, h => by
    obtain ⟨at_, word, nm, ty, op, t, ao, m, c, ys, h1, h2, h3⟩ := h
    exact ⟨at_, word, nm, ty, op, t, ao, m, c, ys, h1, h2.mono hJ, Its.mono hJ h3⟩

theorem Its.later {K : Nat → Prop} {w w' : World} (hl : Later K w w') : ∀ {l : List It} {xs : List Value}, Its K w l xs → Its K w' l xs
  | [], _, h => h
  | _ :: _, _, h => by
    obtain ⟨at_, word, nm, ty, op, t, ao, m, c, ys, h1, h2, h3⟩ := h
    exact ⟨at_, word, nm, ty, op, t, ao, m, c, ys, h1, h2.later hl, Its.later hl h3⟩

theorem Its.snoc {K : Nat → Prop} {w : World} {i : It} {at_ : Nat} {word nm ty : ByteArray} {op : Int} {t : ByteArray} {ao : Option Addr} {m c : Nat} (hi : RI K w at_ word nm ty (.agg #[.int .u8 op, .string t, .slice ao m c]) i) :
    ∀ {l : List It} {xs : List Value}, Its K w l xs → Its K w (l ++ [i]) (xs ++ [.int .i64 at_, .string word, .string nm, .string ty, .int .u8 op, .string t, .slice ao m c])
  | [], xs, h => by
    have : xs = [] := h
    subst this
    exact ⟨at_, word, nm, ty, op, t, ao, m, c, [], rfl, hi, rfl⟩
  | _ :: _, xs, h => by
    obtain ⟨a2, word2, nm2, ty2, op2, t2, ao2, m2, c2, ys, rfl, h2, h3⟩ := h
    refine ⟨a2, word2, nm2, ty2, op2, t2, ao2, m2, c2, ys ++ _, ?_, h2, Its.snoc hi h3⟩
    simp

theorem Tryz.infoRItem : (Tryz.prog.info? 234).map (fun i => (i.zero, i.size, i.bytes)) = some (some (.agg #[.int .i64 0, .string ⟨#[]⟩, .string ⟨#[]⟩, .string ⟨#[]⟩, .int .u8 0, .string ⟨#[]⟩, .slice none 0 0]), 7, 104) := by kernel_rfl

/-- Within Parse: the reading in block B, where the heap ended. -/
structure QS (toks : List Tok) (tb cap : Nat) (w wr : World) (a : Nat) (no : Bool) (v : Value) (acc : List It) (xs : List Value) : Prop where
  tl : tb < w.heap.size
  lt : w.heap.size < wr.heap.size
  rp : RP toks w.heap.size tb cap a 0 no wr.heap
  bl : Below w.heap.size w wr
  own : wr.ownsRow (w.heap.size + 1) 234 7 v acc.length xs
  its : Its (fun k => w.heap.size < k ∧ v.ownBlock ≠ some k) wr acc xs

theorem QS.start {toks : List Tok} {tb cap : Nat} {w : World} (ht : ∃ cur, w.heap[tb]? = some (.cells cur 238) ∧ cur.toList.take (3 * toks.length) = tokCells toks) :
    QS toks tb cap w (w.alloc (.cells #[.slice (some ⟨tb, 0, none⟩) toks.length cap, .int .i64 0, .int .i64 0, .bool false] 263)) 0 false (.slice none 0 0) [] [] := by
  obtain ⟨cur, hc, hcc⟩ := ht
  have hlt := heap_lt hc
  exact ⟨hlt, by simp, ⟨by omega, new_heap _ _, cur, old_heap _ hc, hcc⟩, (Below.refl _ _).alloc (Nat.le_refl _) _, World.ownsRow_nil _ _ _ _, rfl⟩

section
variable {toks : List Tok} {tb cap : Nat} {w wr : World} {a : Nat} {no : Bool} {v : Value} {acc : List It} {xs : List Value}

theorem QS.shape (h : QS toks tb cap w wr a no v acc xs) : ∃ ao m c, v = .slice ao m c := by
  obtain ⟨_, ⟨h, _⟩ | ⟨g, c, _, h, _⟩⟩ := h.own
  · exact ⟨none, 0, 0, h⟩
  · exact ⟨_, _, _, h⟩

theorem QS.call (h : QS toks tb cap w wr a no v acc xs) {w' : World} {b : Nat} {no' : Bool} (hf : Fr [w.heap.size] wr w') (hp : RP toks w.heap.size tb cap b 0 no' w'.heap) : QS toks tb cap w w' b no' v acc xs :=
  ⟨h.tl, by have := h.lt; have := hf.size; omega, hp, ⟨hf.os.trans h.bl.os, hf.tape.trans h.bl.tape, hf.output.trans h.bl.output, Nat.le_trans h.bl.size hf.size, fun k hk => (hf.block k (by have := h.bl.size; omega) (by simp; omega)).trans (h.bl.block k hk)⟩,
    own_block h.own fun g hg hlt => hf.block g hlt (by simp; omega), Its.later (Later.of_fr hf fun k hk e => by have := hk.1; omega) h.its⟩

theorem QS.alloc (h : QS toks tb cap w wr a no v acc xs) (o : Obj) : QS toks tb cap w (wr.alloc o) a no v acc xs :=
  ⟨h.tl, by have := h.lt; simp; omega, h.rp.below ((Below.refl _ _).alloc (Nat.le_refl _) _), h.bl.alloc h.bl.size _, h.own.alloc _, Its.later ((Later.refl _ _).alloc _) h.its⟩

theorem QS.drewN (h : QS toks tb cap w wr a no v acc xs) (n : Nat) : QS toks tb cap w (wr.drewN n) a no v acc xs :=
  ⟨h.tl, h.lt, h.rp, ⟨h.bl.os, h.bl.tape, h.bl.output, h.bl.size, h.bl.block⟩, h.own, Its.later (.of_below (below_drewN _ _)) h.its⟩

theorem QS.put (h : QS toks tb cap w wr a no v acc xs) {w' : World} {v' : Value} {i : It} {at_ : Nat} {word nm ty : ByteArray} {op : Int} {t : ByteArray} {ao : Option Addr} {m c : Nat} (hi : RI (fun k => w.heap.size < k ∧ v.ownBlock ≠ some k) wr at_ word nm ty (.agg #[.int .u8 op, .string t, .slice ao m c]) i)
    (hown : w'.ownsRow (w.heap.size + 1) 234 7 v' (acc.length + 1) (xs ++ [.int .i64 at_, .string word, .string nm, .string ty, .int .u8 op, .string t, .slice ao m c])) (hg : wr.grownBy w' v.ownBlock) (hv : v'.ownBlock = v.ownBlock ∨ v'.ownBlock = some wr.heap.size) :
    QS toks tb cap w w' a no v' (acc ++ [i]) (xs ++ [.int .i64 at_, .string word, .string nm, .string ty, .int .u8 op, .string t, .slice ao m c]) := by
  have hlt := fun k hk => (h.own.lt k hk).1
  have hb : ∀ k, k < w.heap.size + 1 → w'.heap[k]? = wr.heap[k]? := fun k hk => hg.block k (by have := h.lt; omega) fun e => by have := hlt k e.symm; omega
  obtain ⟨cur, hc, hcc⟩ := h.rp.t
  have hl : Later (fun k => w.heap.size < k ∧ v.ownBlock ≠ some k) wr w' := ⟨hg.size, fun k hk hn => hg.block k hk fun e => hn.2 e.symm⟩
  have hnew := Its.snoc hi h.its
  have hm : Its (fun k => w.heap.size < k ∧ v.ownBlock ≠ some k ∧ v'.ownBlock ≠ some k) wr _ _ := Its.mono (fun k hk hn => ⟨hn.1, hn.2, by
    rcases hv with e | e
    · rw [e]; exact hn.2
    · rw [e]; intro e2; have := Option.some.inj e2; omega⟩) hnew
  exact ⟨h.tl, Nat.lt_of_lt_of_le h.lt hg.size, ⟨h.rp.ne, (hb _ (by omega)).trans h.rp.p, cur, (hb _ (by have := h.tl; omega)).trans hc, hcc⟩, h.bl.grown hg h.bl.size (fun k hk => by have := hlt k hk; omega), by simpa using hown,
    Its.mono (fun k _ hn => ⟨hn.1, hn.2.2⟩) (Its.later (hl.mono fun k hn => ⟨hn.1, hn.2.1⟩) hm)⟩
end

end Go.Proofs.YtfekglokoafpiaaGreatDoor

namespace Go.Proofs.YtfekglokoafpiaaGreatDoor
open Go.RowKit

def PAt (toks : List Tok) (tb cap : Nat) (w : World) (k : Nat) (v : Value) (wr : World) : Prop :=
  ∃ a acc xs f, k = f + 1 ∧ a < toks.length ∧ toks.length - a ≤ f + 1 ∧ acc.length ≤ a ∧ QS toks tb cap w wr a false v acc xs ∧ (acc ++ (treeP toks (f + 1) a).1, (treeP toks (f + 1) a).2) = treeAll toks

theorem seven_cells (w : World) (b : Nat) (hb : b = w.heap.size) (x0 x1 x2 x3 x4 x5 x6 : Value) (T : TypeId) : ∀ j u, [x0, x1, x2, x3, x4, x5, x6][j]? = some u → (w.alloc (.cells #[x0, x1, x2, x3, x4, x5, x6] T)).cell? ((⟨b, 0, none⟩ : Addr).add j) = some u := by
  subst hb
  intro j u hj
  match j, hj with
  | 0, hj | 1, hj | 2, hj | 3, hj | 4, hj | 5, hj | 6, hj => simp at hj; subst hj; simp [Addr.add]
  | (n + 7), hj => simp at hj

theorem last_tok {toks : List Tok} (hw : Wf toks) {a : Nat} (ha : a < toks.length) (h : eqB (tx toks a) ⟨#[]⟩ = true) : a + 1 = toks.length := by
  rcases Nat.lt_or_ge (a + 1) toks.length with h1 | h1
  · have := hw.mid a h1
    rw [eqB_iff.1 h] at this
    exact absurd rfl this
  · omega

def ParsePost (toks : List Tok) (w : World) : Ending → World → Prop := fun e w' =>
  ∃ v xs, e = .returned (.tuple #[v, faultV (treeAll toks).2]) ∧ w'.ownsRow w.heap.size 234 7 v (treeAll toks).1.length xs ∧ Its (fun k => w.heap.size < k ∧ v.ownBlock ≠ some k) w' (treeAll toks).1 xs ∧ Below w.heap.size w w'

theorem QS.post {toks : List Tok} {tb cap : Nat} {w wr : World} {a : Nat} {no : Bool} {v : Value} {acc : List It} {xs : List Value} (h : QS toks tb cap w wr a no v acc xs) {fl : Option Nat} (ht : (acc, fl) = treeAll toks) : ParsePost toks w (.returned (.tuple #[v, faultV fl])) wr := by
  have e1 : (treeAll toks).1 = acc := by rw [← ht]
  have e2 : (treeAll toks).2 = fl := by rw [← ht]
  refine ⟨v, xs, by rw [e2], ?_, by rw [e1]; exact h.its, h.bl⟩
  rw [e1]
  obtain ⟨hl, h2 | ⟨g, c, cur, hv, hb, hr⟩⟩ := h.own
  · exact ⟨hl, .inl h2⟩
  · exact ⟨hl, .inr ⟨g, c, cur, hv, by omega, hr⟩⟩

set_option maxRecDepth 100000 in
set_option maxHeartbeats 2000000 in
theorem parse_any {toks : List Tok} (hw : Wf toks) (hs : RL toks 0 1700) (tb cap : Nat) (w : World) (ht : ∃ cur, w.heap[tb]? = some (.cells cur 238) ∧ cur.toList.take (3 * toks.length) = tokCells toks) :
    Calls Tryz.prog 145 #[.slice (some ⟨tb, 0, none⟩) toks.length cap] w (ParsePost toks w) := by
  obtain ⟨i0', hi', hz0, hz1, hz2⟩ := info_parts Tryz.infoRItem
  have HT0 := hid (QS.start (cap := cap) ht)
  have HW := hid hw
  have HS := hid hs
  have HL := hid hw.le
  have hpos := hw.pos
  have hwr : wrap64 ((toks.length : Int) - 1) = (toks.length : Int) - 1 := by have := hw.le; unfold wrap64; omega
  clear hw ht hs
  go_enter Tryz.func145, Tryz.ntmps145
  go_wp2
  go_loopg [5] toks.length (fun k v wr => PAt toks tb cap w k v wr)
  case atStart => exact ⟨0, [], [], toks.length - 1, by omega, hpos, by omega, by simp, HT0.out, by rw [show toks.length - 1 + 1 = toks.length from by omega]; rfl⟩
  case round =>
    clear HT0
    obtain ⟨a, acc, xs, f, rfl, ha, hf, hacc, hqs, heq⟩ := hrel
    obtain ⟨ao, m, c, rfl⟩ := hqs.shape
    have HQ := hid hqs
    have HE := hid heq
    have c1 := hqs.rp.c1
    clear hqs heq
    cases he : eqB (tx toks a) ⟨#[]⟩ with
    | true =>
      have HT : Hid ((acc, (none : Option Nat)) = treeAll toks) := hid (by have h := HE.out; simpa [treeP, he] using h)
      have hlast := last_tok HW.out ha he
      have hnl : ¬ ((a : Int) < (toks.length : Int) - 1) := by omega
      clear he HE
      go_wp2
      go_ret2
      exact HQ.out.post HT.out
    | false =>
      rcases hip : itemP toks a with ⟨b, r⟩
      have HIP := hid hip
      have hnext := HW.out.next ha (fun e => by rw [e] at he; simp [eqB] at he)
      have hnl : ((a : Int) < (toks.length : Int) - 1) := by omega
      cases r with
      | none =>
        have HT : Hid ((acc, some b) = treeAll toks) := hid (by have h := HE.out; simpa [treeP, he, hip] using h)
        clear hip HE he
        go_wp2_with fail
        refine (ritem_any HW.out HS.out _ tb cap a _ ha HQ.out.rp).mono ?_
        rw [HIP.out]
        rintro e w2 ⟨at_, word, nm, ty, op, t, ao2, m2, c2, rfl, hp, hf2, hb2, hx⟩
        have HQ2 := hid ((HQ.out.call hf2 hp).alloc (.cells #[.int .i64 at_, .string word, .string nm, .string ty, .int .u8 op, .string t, .slice ao2 m2 c2] 234))
        clear hp hf2 hx
        have p1 := HQ2.out.rp.c1
        have p3 := HQ2.out.rp.c3
        go_wp2
        go_quiet (fail)
        go_wp2
        go_ret2
        exact (HQ2.out.drewN _).post HT.out
      | some i =>
        have HT : Hid ((acc ++ [i] ++ (treeP toks f b).1, (treeP toks f b).2) = treeAll toks) := hid (by have h := HE.out; simpa [treeP, he, hip] using h)
        have HGE := hid (itemP_ge HW.out hip)
        clear hip HE he
        go_wp2_with fail
        refine (ritem_any HW.out HS.out _ tb cap a _ ha HQ.out.rp).mono ?_
        rw [HIP.out]
        rintro e w2 ⟨at_, word, nm, ty, op, t, ao2, m2, c2, rfl, hp, hf2, hb2, hx⟩
        have HQ2 := hid ((HQ.out.call hf2 hp).alloc (.cells #[.int .i64 at_, .string word, .string nm, .string ty, .int .u8 op, .string t, .slice ao2 m2 c2] 234))
        have HX2 := hid (((hx i rfl).mono (fun k hk h => ⟨Nat.lt_trans HQ.out.lt h, fun e => by have := (HQ.out.own.lt k e).2; omega⟩ : ∀ k, k < w2.heap.size → wr.heap.size < k → (w.heap.size < k ∧ (Value.slice ao m c).ownBlock ≠ some k))).later (((Later.refl _ w2).alloc (.cells #[.int .i64 at_, .string word, .string nm, .string ty, .int .u8 op, .string t, .slice ao2 m2 c2] 234)).alloc (.cells #[.int .i64 at_, .string word, .string nm, .string ty, .int .u8 op, .string t, .slice ao2 m2 c2] 234)))
        clear hp hf2 hx
        have p1 := HQ2.out.rp.c1
        have p3 := HQ2.out.rp.c3
        obtain ⟨f, rfl⟩ : ∃ g, f = g + 1 := ⟨f - 1, by have := HGE.out; omega⟩
        have z0 : World.cell? _ ⟨w2.heap.size, 0, none⟩ = some (.int .i64 at_) := heap_cell (i := 0) (new_heap w2 (.cells #[.int .i64 at_, .string word, .string nm, .string ty, .int .u8 op, .string t, .slice ao2 m2 c2] 234))
        have z1 : World.cell? _ ⟨w2.heap.size, 1, none⟩ = some (.string word) := heap_cell (i := 1) (new_heap w2 (.cells #[.int .i64 at_, .string word, .string nm, .string ty, .int .u8 op, .string t, .slice ao2 m2 c2] 234))
        have z2 : World.cell? _ ⟨w2.heap.size, 2, none⟩ = some (.string nm) := heap_cell (i := 2) (new_heap w2 (.cells #[.int .i64 at_, .string word, .string nm, .string ty, .int .u8 op, .string t, .slice ao2 m2 c2] 234))
        have z3 : World.cell? _ ⟨w2.heap.size, 3, none⟩ = some (.string ty) := heap_cell (i := 3) (new_heap w2 (.cells #[.int .i64 at_, .string word, .string nm, .string ty, .int .u8 op, .string t, .slice ao2 m2 c2] 234))
        have z4 : World.cell? _ ⟨w2.heap.size, 4, none⟩ = some (.int .u8 op) := heap_cell (i := 4) (new_heap w2 (.cells #[.int .i64 at_, .string word, .string nm, .string ty, .int .u8 op, .string t, .slice ao2 m2 c2] 234))
        have z5 : World.cell? _ ⟨w2.heap.size, 5, none⟩ = some (.string t) := heap_cell (i := 5) (new_heap w2 (.cells #[.int .i64 at_, .string word, .string nm, .string ty, .int .u8 op, .string t, .slice ao2 m2 c2] 234))
        have z6 : World.cell? _ ⟨w2.heap.size, 6, none⟩ = some (.slice ao2 m2 c2) := heap_cell (i := 6) (new_heap w2 (.cells #[.int .i64 at_, .string word, .string nm, .string ty, .int .u8 op, .string t, .slice ao2 m2 c2] 234))
        have HOB := hid (fun k hk => (HQ2.out.own.lt k hk).1 : ∀ k, (Value.slice ao m c).ownBlock = some k → w.heap.size + 1 ≤ k)
        go_wp2_with (at_builtin; go_must (refine wpList_append_own_at _ rfl _ _ 224 rfl (w.heap.size + 1) 234 i0' (.agg #[.int .i64 0, .string ⟨#[]⟩, .string ⟨#[]⟩, .string ⟨#[]⟩, .int .u8 0, .string ⟨#[]⟩, .slice none 0 0]) 7 104 Tryz.underlying224 hi' hz0 hz1 hz2 rfl (by decide) _ _ _ rfl (HQ2.out.own.alloc _) ⟨_, 0, none⟩ 1 1 [.int .i64 at_, .string word, .string nm, .string ty, .int .u8 op, .string t, .slice ao2 m2 c2] rfl rfl (seven_cells _ _ (by simp) _ _ _ _ _ _ _ _) ?c2 ?c3 ?c4 ?c5 ?_))
        case c2 => intro u hu; simp at hu; rcases hu with rfl | rfl | rfl | rfl | rfl | rfl | rfl <;> rfl
        case c3 => have := HL.out; unfold maxLen; omega
        case c4 => have := HL.out; omega
        case c5 => have := HQ2.out.lt; simp at *; omega
        intro v' w4 hown' hgrow _ hob
        have hq4 := (HQ2.out.alloc (.cells #[.int .i64 at_, .string word, .string nm, .string ty, .int .u8 op, .string t, .slice ao2 m2 c2] 234)).put HX2.out hown' hgrow (by simpa using hob)
        obtain ⟨ao', m', c', rfl⟩ := hq4.shape
        have HQ4 := hid hq4
        clear hq4 hown' hgrow hob
        go_wp2
        go_roundg (f + 1)
        all_goals first
          | omega
          | exact ⟨b, acc ++ [i], _, f, rfl, hb2, by have := HGE.out; omega, by have := HGE.out; simp; omega, HQ4.out, HT.out⟩

end Go.Proofs.YtfekglokoafpiaaGreatDoor

namespace Go.Proofs.YtfekglokoafpiaaGreatDoor
open Go.RowKit Go.Sort

def decT (n : Nat) : ByteArray := ⟨(Lib.decDigits n).toArray⟩

theorem itoa_nat (n : Nat) : (⟨(Lib.itoa (n : Int)).toArray⟩ : ByteArray) = decT n := by
  unfold Lib.itoa decT
  rw [if_neg (by omega)]; simp

theorem decDigits_len (n : Nat) : (Lib.decDigits n).length ≤ n + 1 := by
  induction n using Nat.strongRecOn with
  | _ n ih =>
    rw [Lib.decDigits]
    split
    · simp
    · have := ih (n / 10) (by omega)
      simp; omega

theorem decT_size (n : Nat) : (decT n).size ≤ n + 1 := by
  have h : (decT n).size = (Lib.decDigits n).length := bsz1 _
  rw [h]; exact decDigits_len n

def itemU (n : ByteArray) (word nm : ByteArray) : ByteArray := ((n ++ word) ++ nm) ++ ⟨#[10]⟩
def itemL (n : ByteArray) (word nm ty x : ByteArray) : ByteArray := ((((((n ++ word) ++ nm) ++ ⟨#[58]⟩) ++ ty) ++ ⟨#[61]⟩) ++ x) ++ ⟨#[10]⟩

set_option maxRecDepth 100000 in
set_option maxHeartbeats 2000000 in
theorem wItem_use (num : Nat) (hnum : num ≤ 1000) (nm ty : ByteArray)  (B b : Nat) (bs : List Value) (w : World) (hb : IsB B b bs w) (hl : bs.length + (itemU (decT num) ⟨#[58, 117, 115, 101, 32]⟩ nm).size ≤ LIM) (hB : B ≤ w.heap.size) (hp : PT B w) :
    Calls Tryz.prog 67 #[.agg #[.int .i64 0, .int .i64 (num : Nat), .string nm, .string ty, .nilIface], .pointer (some ⟨b, 0, none⟩)] w fun e w' => (∃ r, e = .returned r) ∧ Adds B b bs (itemU (decT num) ⟨#[58, 117, 115, 101, 32]⟩ nm) w w' := by
  have hbl := below_new w (.cells #[.int .i64 0, .int .i64 (num : Nat), .string nm, .string ty, .nilIface] 135)
  have HB := hid (hb.below hbl)
  have HBL := hid hbl
  have HP := hid (hp.on (below_mono hB hbl))
  have HN := hid (new_heap w (.cells #[.int .i64 0, .int .i64 (num : Nat), .string nm, .string ty, .nilIface] 135))
  have hne : w.heap.size ≠ b := Nat.ne_of_gt hb.lt
  have hB1 : B ≤ (w.alloc (.cells #[.int .i64 0, .int .i64 (num : Nat), .string nm, .string ty, .nilIface] 135)).heap.size := by simp; omega
  have HB1 := hid hB1
  have HLN := hid hl
  clear hb hp hbl hB1 hl
  go_enter Tryz.func67, Tryz.ntmps67
  go_wp2_with fail
  refine (Tryz.strconv_Itoa (num : Int) (by omega) (by omega) _ (Lib.TabBelow.here HP.out)).mono ?_
  rintro e w0 ⟨rfl, kk, os, hw0⟩
  rw [itoa_nat]
  have hg : Below (w.alloc (.cells #[.int .i64 0, .int .i64 (num : Nat), .string nm, .string ty, .nilIface] 135)).heap.size (w.alloc (.cells #[.int .i64 0, .int .i64 (num : Nat), .string nm, .string ty, .nilIface] 135)) w0 := by rw [hw0]; exact below_growN _ _ _
  have HG := hid hg
  have HB0 := hid (HB.out.below hg)
  have HP0 := hid (HP.out.on (below_mono HB1.out hg))
  have HN0 := hid (below_heap hg (heap_lt HN.out) HN.out)
  have HS0 := hid (Nat.le_trans HB1.out hg.size)
  clear hw0 hg
  go_wp2_with fail
  refine (bWriteString B b bs (decT num) _ HB0.out (by have := HLN.out; simp only [itemU, itemL, List.length_append, Lib.strCells_length, ByteArray.size_append, bsz1, sz1, LIM, List.length_cons, List.length_nil] at *; omega) HS0.out).mono ?_
  rintro e w1 ⟨rfl, hadd1, hadd2, hadd3⟩
  have hadd := Adds.mk hadd1 hadd2 hadd3
  clear hadd1 hadd2 hadd3
  have HA1 := hid hadd
  have hk := HA1.out.kt.get HN0.out hne (by decide)
  have k1_0 : World.cell? _ ⟨w.heap.size, 0, none⟩ = some (.int .i64 0) := heap_cell (i := 0) hk
  have k1_1 : World.cell? _ ⟨w.heap.size, 1, none⟩ = some (.int .i64 (num : Nat)) := heap_cell (i := 1) hk
  have k1_2 : World.cell? _ ⟨w.heap.size, 2, none⟩ = some (.string nm) := heap_cell (i := 2) hk
  have k1_3 : World.cell? _ ⟨w.heap.size, 3, none⟩ = some (.string ty) := heap_cell (i := 3) hk
  have k1_4 : World.cell? _ ⟨w.heap.size, 4, none⟩ = some (.nilIface) := heap_cell (i := 4) hk
  clear hk hadd
  go_wp2_with fail
  refine (bWriteString B b (bs ++ Lib.strCells ((decT num))) ⟨#[58, 117, 115, 101, 32]⟩ _ HA1.out.bd (by have := HLN.out; simp only [itemU, itemL, List.length_append, Lib.strCells_length, ByteArray.size_append, bsz1, sz1, LIM, List.length_cons, List.length_nil] at *; omega) (Nat.le_trans HS0.out HA1.out.bl.size)).mono ?_
  rintro e w2 ⟨rfl, hadd1, hadd2, hadd3⟩
  have hadd := Adds.mk hadd1 hadd2 hadd3
  clear hadd1 hadd2 hadd3
  have HA2 := hid (HA1.out.trans hadd)
  have hk := HA2.out.kt.get HN0.out hne (by decide)
  have k2_0 : World.cell? _ ⟨w.heap.size, 0, none⟩ = some (.int .i64 0) := heap_cell (i := 0) hk
  have k2_1 : World.cell? _ ⟨w.heap.size, 1, none⟩ = some (.int .i64 (num : Nat)) := heap_cell (i := 1) hk
  have k2_2 : World.cell? _ ⟨w.heap.size, 2, none⟩ = some (.string nm) := heap_cell (i := 2) hk
  have k2_3 : World.cell? _ ⟨w.heap.size, 3, none⟩ = some (.string ty) := heap_cell (i := 3) hk
  have k2_4 : World.cell? _ ⟨w.heap.size, 4, none⟩ = some (.nilIface) := heap_cell (i := 4) hk
  clear hk hadd
  go_wp2_with fail
  refine (bWriteString B b (bs ++ Lib.strCells ((decT num) ++ ⟨#[58, 117, 115, 101, 32]⟩)) nm _ HA2.out.bd (by have := HLN.out; simp only [itemU, itemL, List.length_append, Lib.strCells_length, ByteArray.size_append, bsz1, sz1, LIM, List.length_cons, List.length_nil] at *; omega) (Nat.le_trans HS0.out HA2.out.bl.size)).mono ?_
  rintro e w3 ⟨rfl, hadd1, hadd2, hadd3⟩
  have hadd := Adds.mk hadd1 hadd2 hadd3
  clear hadd1 hadd2 hadd3
  have HA3 := hid (HA2.out.trans hadd)
  have hk := HA3.out.kt.get HN0.out hne (by decide)
  have k3_0 : World.cell? _ ⟨w.heap.size, 0, none⟩ = some (.int .i64 0) := heap_cell (i := 0) hk
  have k3_1 : World.cell? _ ⟨w.heap.size, 1, none⟩ = some (.int .i64 (num : Nat)) := heap_cell (i := 1) hk
  have k3_2 : World.cell? _ ⟨w.heap.size, 2, none⟩ = some (.string nm) := heap_cell (i := 2) hk
  have k3_3 : World.cell? _ ⟨w.heap.size, 3, none⟩ = some (.string ty) := heap_cell (i := 3) hk
  have k3_4 : World.cell? _ ⟨w.heap.size, 4, none⟩ = some (.nilIface) := heap_cell (i := 4) hk
  clear hk hadd
  go_wp2_with fail
  refine (bWriteByte B b (bs ++ Lib.strCells ((decT num) ++ ⟨#[58, 117, 115, 101, 32]⟩ ++ nm)) 10 _ HA3.out.bd (by have := HLN.out; simp only [itemU, itemL, List.length_append, Lib.strCells_length, ByteArray.size_append, bsz1, sz1, LIM, List.length_cons, List.length_nil] at *; omega) (Nat.le_trans HS0.out HA3.out.bl.size)).mono ?_
  rintro e w4 ⟨rfl, hadd⟩
  have hadd := Adds.byte (c := 10) hadd
  have HA4 := hid (HA3.out.trans hadd)
  have hk := HA4.out.kt.get HN0.out hne (by decide)
  have k4_0 : World.cell? _ ⟨w.heap.size, 0, none⟩ = some (.int .i64 0) := heap_cell (i := 0) hk
  have k4_1 : World.cell? _ ⟨w.heap.size, 1, none⟩ = some (.int .i64 (num : Nat)) := heap_cell (i := 1) hk
  have k4_2 : World.cell? _ ⟨w.heap.size, 2, none⟩ = some (.string nm) := heap_cell (i := 2) hk
  have k4_3 : World.cell? _ ⟨w.heap.size, 3, none⟩ = some (.string ty) := heap_cell (i := 3) hk
  have k4_4 : World.cell? _ ⟨w.heap.size, 4, none⟩ = some (.nilIface) := heap_cell (i := 4) hk
  clear hk hadd
  go_wp2
  go_end0
  exact ⟨⟨_, rfl⟩, (HA4.out.from HG.out HB1.out).from HBL.out hB⟩

set_option maxRecDepth 100000 in
set_option maxHeartbeats 2000000 in
theorem wItem_let (num : Nat) (hnum : num ≤ 1000) (nm ty : ByteArray) (T1 : TypeId) (v1 u1 : Value) (F1 : FuncId) (sx : ByteArray) (m1 : ∀ w, (method 453 T1 v1 "almanac/lang.write").run Tryz.prog w = .ok (F1, u1) w) (e1 : ∀ args w, (callFunc F1 args).run Tryz.prog w = .ok (.enter F1 args) w) (c1 : ∀ (B b : Nat) (bs : List Value) (w : World), IsB B b bs w → bs.length + sx.size ≤ LIM → B ≤ w.heap.size → PT B w → Calls Tryz.prog F1 #[u1, .pointer (some ⟨b, 0, none⟩)] w fun e w' => (∃ r, e = .returned r) ∧ Adds B b bs sx w w') (B b : Nat) (bs : List Value) (w : World) (hb : IsB B b bs w) (hl : bs.length + (itemL (decT num) ⟨#[58, 108, 101, 116, 32]⟩ nm ty sx).size ≤ LIM) (hB : B ≤ w.heap.size) (hp : PT B w) :
    Calls Tryz.prog 67 #[.agg #[.int .i64 1, .int .i64 (num : Nat), .string nm, .string ty, .iface T1 v1], .pointer (some ⟨b, 0, none⟩)] w fun e w' => (∃ r, e = .returned r) ∧ Adds B b bs (itemL (decT num) ⟨#[58, 108, 101, 116, 32]⟩ nm ty sx) w w' := by
  have HC1 := hid c1
  clear c1
  have hbl := below_new w (.cells #[.int .i64 1, .int .i64 (num : Nat), .string nm, .string ty, .iface T1 v1] 135)
  have HB := hid (hb.below hbl)
  have HBL := hid hbl
  have HP := hid (hp.on (below_mono hB hbl))
  have HN := hid (new_heap w (.cells #[.int .i64 1, .int .i64 (num : Nat), .string nm, .string ty, .iface T1 v1] 135))
  have hne : w.heap.size ≠ b := Nat.ne_of_gt hb.lt
  have hB1 : B ≤ (w.alloc (.cells #[.int .i64 1, .int .i64 (num : Nat), .string nm, .string ty, .iface T1 v1] 135)).heap.size := by simp; omega
  have HB1 := hid hB1
  have HLN := hid hl
  clear hb hp hbl hB1 hl
  go_enter Tryz.func67, Tryz.ntmps67
  go_wp2_with fail
  refine (Tryz.strconv_Itoa (num : Int) (by omega) (by omega) _ (Lib.TabBelow.here HP.out)).mono ?_
  rintro e w0 ⟨rfl, kk, os, hw0⟩
  rw [itoa_nat]
  have hg : Below (w.alloc (.cells #[.int .i64 1, .int .i64 (num : Nat), .string nm, .string ty, .iface T1 v1] 135)).heap.size (w.alloc (.cells #[.int .i64 1, .int .i64 (num : Nat), .string nm, .string ty, .iface T1 v1] 135)) w0 := by rw [hw0]; exact below_growN _ _ _
  have HG := hid hg
  have HB0 := hid (HB.out.below hg)
  have HP0 := hid (HP.out.on (below_mono HB1.out hg))
  have HN0 := hid (below_heap hg (heap_lt HN.out) HN.out)
  have HS0 := hid (Nat.le_trans HB1.out hg.size)
  clear hw0 hg
  go_wp2_with fail
  refine (bWriteString B b bs (decT num) _ HB0.out (by have := HLN.out; simp only [itemU, itemL, List.length_append, Lib.strCells_length, ByteArray.size_append, bsz1, sz1, LIM, List.length_cons, List.length_nil] at *; omega) HS0.out).mono ?_
  rintro e w1 ⟨rfl, hadd1, hadd2, hadd3⟩
  have hadd := Adds.mk hadd1 hadd2 hadd3
  clear hadd1 hadd2 hadd3
  have HA1 := hid hadd
  have hk := HA1.out.kt.get HN0.out hne (by decide)
  have k1_0 : World.cell? _ ⟨w.heap.size, 0, none⟩ = some (.int .i64 1) := heap_cell (i := 0) hk
  have k1_1 : World.cell? _ ⟨w.heap.size, 1, none⟩ = some (.int .i64 (num : Nat)) := heap_cell (i := 1) hk
  have k1_2 : World.cell? _ ⟨w.heap.size, 2, none⟩ = some (.string nm) := heap_cell (i := 2) hk
  have k1_3 : World.cell? _ ⟨w.heap.size, 3, none⟩ = some (.string ty) := heap_cell (i := 3) hk
  have k1_4 : World.cell? _ ⟨w.heap.size, 4, none⟩ = some (.iface T1 v1) := heap_cell (i := 4) hk
  clear hk hadd
  go_wp2_with fail
  refine (bWriteString B b (bs ++ Lib.strCells ((decT num))) ⟨#[58, 108, 101, 116, 32]⟩ _ HA1.out.bd (by have := HLN.out; simp only [itemU, itemL, List.length_append, Lib.strCells_length, ByteArray.size_append, bsz1, sz1, LIM, List.length_cons, List.length_nil] at *; omega) (Nat.le_trans HS0.out HA1.out.bl.size)).mono ?_
  rintro e w2 ⟨rfl, hadd1, hadd2, hadd3⟩
  have hadd := Adds.mk hadd1 hadd2 hadd3
  clear hadd1 hadd2 hadd3
  have HA2 := hid (HA1.out.trans hadd)
  have hk := HA2.out.kt.get HN0.out hne (by decide)
  have k2_0 : World.cell? _ ⟨w.heap.size, 0, none⟩ = some (.int .i64 1) := heap_cell (i := 0) hk
  have k2_1 : World.cell? _ ⟨w.heap.size, 1, none⟩ = some (.int .i64 (num : Nat)) := heap_cell (i := 1) hk
  have k2_2 : World.cell? _ ⟨w.heap.size, 2, none⟩ = some (.string nm) := heap_cell (i := 2) hk
  have k2_3 : World.cell? _ ⟨w.heap.size, 3, none⟩ = some (.string ty) := heap_cell (i := 3) hk
  have k2_4 : World.cell? _ ⟨w.heap.size, 4, none⟩ = some (.iface T1 v1) := heap_cell (i := 4) hk
  clear hk hadd
  go_wp2_with fail
  refine (bWriteString B b (bs ++ Lib.strCells ((decT num) ++ ⟨#[58, 108, 101, 116, 32]⟩)) nm _ HA2.out.bd (by have := HLN.out; simp only [itemU, itemL, List.length_append, Lib.strCells_length, ByteArray.size_append, bsz1, sz1, LIM, List.length_cons, List.length_nil] at *; omega) (Nat.le_trans HS0.out HA2.out.bl.size)).mono ?_
  rintro e w3 ⟨rfl, hadd1, hadd2, hadd3⟩
  have hadd := Adds.mk hadd1 hadd2 hadd3
  clear hadd1 hadd2 hadd3
  have HA3 := hid (HA2.out.trans hadd)
  have hk := HA3.out.kt.get HN0.out hne (by decide)
  have k3_0 : World.cell? _ ⟨w.heap.size, 0, none⟩ = some (.int .i64 1) := heap_cell (i := 0) hk
  have k3_1 : World.cell? _ ⟨w.heap.size, 1, none⟩ = some (.int .i64 (num : Nat)) := heap_cell (i := 1) hk
  have k3_2 : World.cell? _ ⟨w.heap.size, 2, none⟩ = some (.string nm) := heap_cell (i := 2) hk
  have k3_3 : World.cell? _ ⟨w.heap.size, 3, none⟩ = some (.string ty) := heap_cell (i := 3) hk
  have k3_4 : World.cell? _ ⟨w.heap.size, 4, none⟩ = some (.iface T1 v1) := heap_cell (i := 4) hk
  clear hk hadd
  go_wp2_with fail
  refine (bWriteByte B b (bs ++ Lib.strCells ((decT num) ++ ⟨#[58, 108, 101, 116, 32]⟩ ++ nm)) 58 _ HA3.out.bd (by have := HLN.out; simp only [itemU, itemL, List.length_append, Lib.strCells_length, ByteArray.size_append, bsz1, sz1, LIM, List.length_cons, List.length_nil] at *; omega) (Nat.le_trans HS0.out HA3.out.bl.size)).mono ?_
  rintro e w4 ⟨rfl, hadd⟩
  have hadd := Adds.byte (c := 58) hadd
  have HA4 := hid (HA3.out.trans hadd)
  have hk := HA4.out.kt.get HN0.out hne (by decide)
  have k4_0 : World.cell? _ ⟨w.heap.size, 0, none⟩ = some (.int .i64 1) := heap_cell (i := 0) hk
  have k4_1 : World.cell? _ ⟨w.heap.size, 1, none⟩ = some (.int .i64 (num : Nat)) := heap_cell (i := 1) hk
  have k4_2 : World.cell? _ ⟨w.heap.size, 2, none⟩ = some (.string nm) := heap_cell (i := 2) hk
  have k4_3 : World.cell? _ ⟨w.heap.size, 3, none⟩ = some (.string ty) := heap_cell (i := 3) hk
  have k4_4 : World.cell? _ ⟨w.heap.size, 4, none⟩ = some (.iface T1 v1) := heap_cell (i := 4) hk
  clear hk hadd
  go_wp2_with fail
  refine (bWriteString B b (bs ++ Lib.strCells ((decT num) ++ ⟨#[58, 108, 101, 116, 32]⟩ ++ nm ++ ⟨#[58]⟩)) ty _ HA4.out.bd (by have := HLN.out; simp only [itemU, itemL, List.length_append, Lib.strCells_length, ByteArray.size_append, bsz1, sz1, LIM, List.length_cons, List.length_nil] at *; omega) (Nat.le_trans HS0.out HA4.out.bl.size)).mono ?_
  rintro e w5 ⟨rfl, hadd1, hadd2, hadd3⟩
  have hadd := Adds.mk hadd1 hadd2 hadd3
  clear hadd1 hadd2 hadd3
  have HA5 := hid (HA4.out.trans hadd)
  have hk := HA5.out.kt.get HN0.out hne (by decide)
  have k5_0 : World.cell? _ ⟨w.heap.size, 0, none⟩ = some (.int .i64 1) := heap_cell (i := 0) hk
  have k5_1 : World.cell? _ ⟨w.heap.size, 1, none⟩ = some (.int .i64 (num : Nat)) := heap_cell (i := 1) hk
  have k5_2 : World.cell? _ ⟨w.heap.size, 2, none⟩ = some (.string nm) := heap_cell (i := 2) hk
  have k5_3 : World.cell? _ ⟨w.heap.size, 3, none⟩ = some (.string ty) := heap_cell (i := 3) hk
  have k5_4 : World.cell? _ ⟨w.heap.size, 4, none⟩ = some (.iface T1 v1) := heap_cell (i := 4) hk
  clear hk hadd
  go_wp2_with fail
  refine (bWriteByte B b (bs ++ Lib.strCells ((decT num) ++ ⟨#[58, 108, 101, 116, 32]⟩ ++ nm ++ ⟨#[58]⟩ ++ ty)) 61 _ HA5.out.bd (by have := HLN.out; simp only [itemU, itemL, List.length_append, Lib.strCells_length, ByteArray.size_append, bsz1, sz1, LIM, List.length_cons, List.length_nil] at *; omega) (Nat.le_trans HS0.out HA5.out.bl.size)).mono ?_
  rintro e w6 ⟨rfl, hadd⟩
  have hadd := Adds.byte (c := 61) hadd
  have HA6 := hid (HA5.out.trans hadd)
  have hk := HA6.out.kt.get HN0.out hne (by decide)
  have k6_0 : World.cell? _ ⟨w.heap.size, 0, none⟩ = some (.int .i64 1) := heap_cell (i := 0) hk
  have k6_1 : World.cell? _ ⟨w.heap.size, 1, none⟩ = some (.int .i64 (num : Nat)) := heap_cell (i := 1) hk
  have k6_2 : World.cell? _ ⟨w.heap.size, 2, none⟩ = some (.string nm) := heap_cell (i := 2) hk
  have k6_3 : World.cell? _ ⟨w.heap.size, 3, none⟩ = some (.string ty) := heap_cell (i := 3) hk
  have k6_4 : World.cell? _ ⟨w.heap.size, 4, none⟩ = some (.iface T1 v1) := heap_cell (i := 4) hk
  clear hk hadd
  go_wp2_with fail
  refine (HC1.out B b (bs ++ Lib.strCells ((decT num) ++ ⟨#[58, 108, 101, 116, 32]⟩ ++ nm ++ ⟨#[58]⟩ ++ ty ++ ⟨#[61]⟩)) _ HA6.out.bd (by have := HLN.out; simp only [itemU, itemL, List.length_append, Lib.strCells_length, ByteArray.size_append, bsz1, sz1, LIM, List.length_cons, List.length_nil] at *; omega) (Nat.le_trans HS0.out HA6.out.bl.size) (HP0.out.on HA6.out.bl)).mono ?_
  rintro e w7 ⟨⟨rv7, rfl⟩, hadd⟩
  have HA7 := hid (HA6.out.trans hadd)
  have hk := HA7.out.kt.get HN0.out hne (by decide)
  have k7_0 : World.cell? _ ⟨w.heap.size, 0, none⟩ = some (.int .i64 1) := heap_cell (i := 0) hk
  have k7_1 : World.cell? _ ⟨w.heap.size, 1, none⟩ = some (.int .i64 (num : Nat)) := heap_cell (i := 1) hk
  have k7_2 : World.cell? _ ⟨w.heap.size, 2, none⟩ = some (.string nm) := heap_cell (i := 2) hk
  have k7_3 : World.cell? _ ⟨w.heap.size, 3, none⟩ = some (.string ty) := heap_cell (i := 3) hk
  have k7_4 : World.cell? _ ⟨w.heap.size, 4, none⟩ = some (.iface T1 v1) := heap_cell (i := 4) hk
  clear hk hadd
  go_wp2_with fail
  refine (bWriteByte B b (bs ++ Lib.strCells ((decT num) ++ ⟨#[58, 108, 101, 116, 32]⟩ ++ nm ++ ⟨#[58]⟩ ++ ty ++ ⟨#[61]⟩ ++ sx)) 10 _ HA7.out.bd (by have := HLN.out; simp only [itemU, itemL, List.length_append, Lib.strCells_length, ByteArray.size_append, bsz1, sz1, LIM, List.length_cons, List.length_nil] at *; omega) (Nat.le_trans HS0.out HA7.out.bl.size)).mono ?_
  rintro e w8 ⟨rfl, hadd⟩
  have hadd := Adds.byte (c := 10) hadd
  have HA8 := hid (HA7.out.trans hadd)
  have hk := HA8.out.kt.get HN0.out hne (by decide)
  have k8_0 : World.cell? _ ⟨w.heap.size, 0, none⟩ = some (.int .i64 1) := heap_cell (i := 0) hk
  have k8_1 : World.cell? _ ⟨w.heap.size, 1, none⟩ = some (.int .i64 (num : Nat)) := heap_cell (i := 1) hk
  have k8_2 : World.cell? _ ⟨w.heap.size, 2, none⟩ = some (.string nm) := heap_cell (i := 2) hk
  have k8_3 : World.cell? _ ⟨w.heap.size, 3, none⟩ = some (.string ty) := heap_cell (i := 3) hk
  have k8_4 : World.cell? _ ⟨w.heap.size, 4, none⟩ = some (.iface T1 v1) := heap_cell (i := 4) hk
  clear hk hadd
  go_wp2
  go_end0
  exact ⟨⟨_, rfl⟩, (HA8.out.from HG.out HB1.out).from HBL.out hB⟩

set_option maxRecDepth 100000 in
set_option maxHeartbeats 2000000 in
theorem wItem_pub (num : Nat) (hnum : num ≤ 1000) (nm ty : ByteArray) (T1 : TypeId) (v1 u1 : Value) (F1 : FuncId) (sx : ByteArray) (m1 : ∀ w, (method 453 T1 v1 "almanac/lang.write").run Tryz.prog w = .ok (F1, u1) w) (e1 : ∀ args w, (callFunc F1 args).run Tryz.prog w = .ok (.enter F1 args) w) (c1 : ∀ (B b : Nat) (bs : List Value) (w : World), IsB B b bs w → bs.length + sx.size ≤ LIM → B ≤ w.heap.size → PT B w → Calls Tryz.prog F1 #[u1, .pointer (some ⟨b, 0, none⟩)] w fun e w' => (∃ r, e = .returned r) ∧ Adds B b bs sx w w') (B b : Nat) (bs : List Value) (w : World) (hb : IsB B b bs w) (hl : bs.length + (itemL (decT num) ⟨#[58, 112, 117, 98, 32]⟩ nm ty sx).size ≤ LIM) (hB : B ≤ w.heap.size) (hp : PT B w) :
    Calls Tryz.prog 67 #[.agg #[.int .i64 2, .int .i64 (num : Nat), .string nm, .string ty, .iface T1 v1], .pointer (some ⟨b, 0, none⟩)] w fun e w' => (∃ r, e = .returned r) ∧ Adds B b bs (itemL (decT num) ⟨#[58, 112, 117, 98, 32]⟩ nm ty sx) w w' := by
  have HC1 := hid c1
  clear c1
  have hbl := below_new w (.cells #[.int .i64 2, .int .i64 (num : Nat), .string nm, .string ty, .iface T1 v1] 135)
  have HB := hid (hb.below hbl)
  have HBL := hid hbl
  have HP := hid (hp.on (below_mono hB hbl))
  have HN := hid (new_heap w (.cells #[.int .i64 2, .int .i64 (num : Nat), .string nm, .string ty, .iface T1 v1] 135))
  have hne : w.heap.size ≠ b := Nat.ne_of_gt hb.lt
  have hB1 : B ≤ (w.alloc (.cells #[.int .i64 2, .int .i64 (num : Nat), .string nm, .string ty, .iface T1 v1] 135)).heap.size := by simp; omega
  have HB1 := hid hB1
  have HLN := hid hl
  clear hb hp hbl hB1 hl
  go_enter Tryz.func67, Tryz.ntmps67
  go_wp2_with fail
  refine (Tryz.strconv_Itoa (num : Int) (by omega) (by omega) _ (Lib.TabBelow.here HP.out)).mono ?_
  rintro e w0 ⟨rfl, kk, os, hw0⟩
  rw [itoa_nat]
  have hg : Below (w.alloc (.cells #[.int .i64 2, .int .i64 (num : Nat), .string nm, .string ty, .iface T1 v1] 135)).heap.size (w.alloc (.cells #[.int .i64 2, .int .i64 (num : Nat), .string nm, .string ty, .iface T1 v1] 135)) w0 := by rw [hw0]; exact below_growN _ _ _
  have HG := hid hg
  have HB0 := hid (HB.out.below hg)
  have HP0 := hid (HP.out.on (below_mono HB1.out hg))
  have HN0 := hid (below_heap hg (heap_lt HN.out) HN.out)
  have HS0 := hid (Nat.le_trans HB1.out hg.size)
  clear hw0 hg
  go_wp2_with fail
  refine (bWriteString B b bs (decT num) _ HB0.out (by have := HLN.out; simp only [itemU, itemL, List.length_append, Lib.strCells_length, ByteArray.size_append, bsz1, sz1, LIM, List.length_cons, List.length_nil] at *; omega) HS0.out).mono ?_
  rintro e w1 ⟨rfl, hadd1, hadd2, hadd3⟩
  have hadd := Adds.mk hadd1 hadd2 hadd3
  clear hadd1 hadd2 hadd3
  have HA1 := hid hadd
  have hk := HA1.out.kt.get HN0.out hne (by decide)
  have k1_0 : World.cell? _ ⟨w.heap.size, 0, none⟩ = some (.int .i64 2) := heap_cell (i := 0) hk
  have k1_1 : World.cell? _ ⟨w.heap.size, 1, none⟩ = some (.int .i64 (num : Nat)) := heap_cell (i := 1) hk
  have k1_2 : World.cell? _ ⟨w.heap.size, 2, none⟩ = some (.string nm) := heap_cell (i := 2) hk
  have k1_3 : World.cell? _ ⟨w.heap.size, 3, none⟩ = some (.string ty) := heap_cell (i := 3) hk
  have k1_4 : World.cell? _ ⟨w.heap.size, 4, none⟩ = some (.iface T1 v1) := heap_cell (i := 4) hk
  clear hk hadd
  go_wp2_with fail
  refine (bWriteString B b (bs ++ Lib.strCells ((decT num))) ⟨#[58, 112, 117, 98, 32]⟩ _ HA1.out.bd (by have := HLN.out; simp only [itemU, itemL, List.length_append, Lib.strCells_length, ByteArray.size_append, bsz1, sz1, LIM, List.length_cons, List.length_nil] at *; omega) (Nat.le_trans HS0.out HA1.out.bl.size)).mono ?_
  rintro e w2 ⟨rfl, hadd1, hadd2, hadd3⟩
  have hadd := Adds.mk hadd1 hadd2 hadd3
  clear hadd1 hadd2 hadd3
  have HA2 := hid (HA1.out.trans hadd)
  have hk := HA2.out.kt.get HN0.out hne (by decide)
  have k2_0 : World.cell? _ ⟨w.heap.size, 0, none⟩ = some (.int .i64 2) := heap_cell (i := 0) hk
  have k2_1 : World.cell? _ ⟨w.heap.size, 1, none⟩ = some (.int .i64 (num : Nat)) := heap_cell (i := 1) hk
  have k2_2 : World.cell? _ ⟨w.heap.size, 2, none⟩ = some (.string nm) := heap_cell (i := 2) hk
  have k2_3 : World.cell? _ ⟨w.heap.size, 3, none⟩ = some (.string ty) := heap_cell (i := 3) hk
  have k2_4 : World.cell? _ ⟨w.heap.size, 4, none⟩ = some (.iface T1 v1) := heap_cell (i := 4) hk
  clear hk hadd
  go_wp2_with fail
  refine (bWriteString B b (bs ++ Lib.strCells ((decT num) ++ ⟨#[58, 112, 117, 98, 32]⟩)) nm _ HA2.out.bd (by have := HLN.out; simp only [itemU, itemL, List.length_append, Lib.strCells_length, ByteArray.size_append, bsz1, sz1, LIM, List.length_cons, List.length_nil] at *; omega) (Nat.le_trans HS0.out HA2.out.bl.size)).mono ?_
  rintro e w3 ⟨rfl, hadd1, hadd2, hadd3⟩
  have hadd := Adds.mk hadd1 hadd2 hadd3
  clear hadd1 hadd2 hadd3
  have HA3 := hid (HA2.out.trans hadd)
  have hk := HA3.out.kt.get HN0.out hne (by decide)
  have k3_0 : World.cell? _ ⟨w.heap.size, 0, none⟩ = some (.int .i64 2) := heap_cell (i := 0) hk
  have k3_1 : World.cell? _ ⟨w.heap.size, 1, none⟩ = some (.int .i64 (num : Nat)) := heap_cell (i := 1) hk
  have k3_2 : World.cell? _ ⟨w.heap.size, 2, none⟩ = some (.string nm) := heap_cell (i := 2) hk
  have k3_3 : World.cell? _ ⟨w.heap.size, 3, none⟩ = some (.string ty) := heap_cell (i := 3) hk
  have k3_4 : World.cell? _ ⟨w.heap.size, 4, none⟩ = some (.iface T1 v1) := heap_cell (i := 4) hk
  clear hk hadd
  go_wp2_with fail
  refine (bWriteByte B b (bs ++ Lib.strCells ((decT num) ++ ⟨#[58, 112, 117, 98, 32]⟩ ++ nm)) 58 _ HA3.out.bd (by have := HLN.out; simp only [itemU, itemL, List.length_append, Lib.strCells_length, ByteArray.size_append, bsz1, sz1, LIM, List.length_cons, List.length_nil] at *; omega) (Nat.le_trans HS0.out HA3.out.bl.size)).mono ?_
  rintro e w4 ⟨rfl, hadd⟩
  have hadd := Adds.byte (c := 58) hadd
  have HA4 := hid (HA3.out.trans hadd)
  have hk := HA4.out.kt.get HN0.out hne (by decide)
  have k4_0 : World.cell? _ ⟨w.heap.size, 0, none⟩ = some (.int .i64 2) := heap_cell (i := 0) hk
  have k4_1 : World.cell? _ ⟨w.heap.size, 1, none⟩ = some (.int .i64 (num : Nat)) := heap_cell (i := 1) hk
  have k4_2 : World.cell? _ ⟨w.heap.size, 2, none⟩ = some (.string nm) := heap_cell (i := 2) hk
  have k4_3 : World.cell? _ ⟨w.heap.size, 3, none⟩ = some (.string ty) := heap_cell (i := 3) hk
  have k4_4 : World.cell? _ ⟨w.heap.size, 4, none⟩ = some (.iface T1 v1) := heap_cell (i := 4) hk
  clear hk hadd
  go_wp2_with fail
  refine (bWriteString B b (bs ++ Lib.strCells ((decT num) ++ ⟨#[58, 112, 117, 98, 32]⟩ ++ nm ++ ⟨#[58]⟩)) ty _ HA4.out.bd (by have := HLN.out; simp only [itemU, itemL, List.length_append, Lib.strCells_length, ByteArray.size_append, bsz1, sz1, LIM, List.length_cons, List.length_nil] at *; omega) (Nat.le_trans HS0.out HA4.out.bl.size)).mono ?_
  rintro e w5 ⟨rfl, hadd1, hadd2, hadd3⟩
  have hadd := Adds.mk hadd1 hadd2 hadd3
  clear hadd1 hadd2 hadd3
  have HA5 := hid (HA4.out.trans hadd)
  have hk := HA5.out.kt.get HN0.out hne (by decide)
  have k5_0 : World.cell? _ ⟨w.heap.size, 0, none⟩ = some (.int .i64 2) := heap_cell (i := 0) hk
  have k5_1 : World.cell? _ ⟨w.heap.size, 1, none⟩ = some (.int .i64 (num : Nat)) := heap_cell (i := 1) hk
  have k5_2 : World.cell? _ ⟨w.heap.size, 2, none⟩ = some (.string nm) := heap_cell (i := 2) hk
  have k5_3 : World.cell? _ ⟨w.heap.size, 3, none⟩ = some (.string ty) := heap_cell (i := 3) hk
  have k5_4 : World.cell? _ ⟨w.heap.size, 4, none⟩ = some (.iface T1 v1) := heap_cell (i := 4) hk
  clear hk hadd
  go_wp2_with fail
  refine (bWriteByte B b (bs ++ Lib.strCells ((decT num) ++ ⟨#[58, 112, 117, 98, 32]⟩ ++ nm ++ ⟨#[58]⟩ ++ ty)) 61 _ HA5.out.bd (by have := HLN.out; simp only [itemU, itemL, List.length_append, Lib.strCells_length, ByteArray.size_append, bsz1, sz1, LIM, List.length_cons, List.length_nil] at *; omega) (Nat.le_trans HS0.out HA5.out.bl.size)).mono ?_
  rintro e w6 ⟨rfl, hadd⟩
  have hadd := Adds.byte (c := 61) hadd
  have HA6 := hid (HA5.out.trans hadd)
  have hk := HA6.out.kt.get HN0.out hne (by decide)
  have k6_0 : World.cell? _ ⟨w.heap.size, 0, none⟩ = some (.int .i64 2) := heap_cell (i := 0) hk
  have k6_1 : World.cell? _ ⟨w.heap.size, 1, none⟩ = some (.int .i64 (num : Nat)) := heap_cell (i := 1) hk
  have k6_2 : World.cell? _ ⟨w.heap.size, 2, none⟩ = some (.string nm) := heap_cell (i := 2) hk
  have k6_3 : World.cell? _ ⟨w.heap.size, 3, none⟩ = some (.string ty) := heap_cell (i := 3) hk
  have k6_4 : World.cell? _ ⟨w.heap.size, 4, none⟩ = some (.iface T1 v1) := heap_cell (i := 4) hk
  clear hk hadd
  go_wp2_with fail
  refine (HC1.out B b (bs ++ Lib.strCells ((decT num) ++ ⟨#[58, 112, 117, 98, 32]⟩ ++ nm ++ ⟨#[58]⟩ ++ ty ++ ⟨#[61]⟩)) _ HA6.out.bd (by have := HLN.out; simp only [itemU, itemL, List.length_append, Lib.strCells_length, ByteArray.size_append, bsz1, sz1, LIM, List.length_cons, List.length_nil] at *; omega) (Nat.le_trans HS0.out HA6.out.bl.size) (HP0.out.on HA6.out.bl)).mono ?_
  rintro e w7 ⟨⟨rv7, rfl⟩, hadd⟩
  have HA7 := hid (HA6.out.trans hadd)
  have hk := HA7.out.kt.get HN0.out hne (by decide)
  have k7_0 : World.cell? _ ⟨w.heap.size, 0, none⟩ = some (.int .i64 2) := heap_cell (i := 0) hk
  have k7_1 : World.cell? _ ⟨w.heap.size, 1, none⟩ = some (.int .i64 (num : Nat)) := heap_cell (i := 1) hk
  have k7_2 : World.cell? _ ⟨w.heap.size, 2, none⟩ = some (.string nm) := heap_cell (i := 2) hk
  have k7_3 : World.cell? _ ⟨w.heap.size, 3, none⟩ = some (.string ty) := heap_cell (i := 3) hk
  have k7_4 : World.cell? _ ⟨w.heap.size, 4, none⟩ = some (.iface T1 v1) := heap_cell (i := 4) hk
  clear hk hadd
  go_wp2_with fail
  refine (bWriteByte B b (bs ++ Lib.strCells ((decT num) ++ ⟨#[58, 112, 117, 98, 32]⟩ ++ nm ++ ⟨#[58]⟩ ++ ty ++ ⟨#[61]⟩ ++ sx)) 10 _ HA7.out.bd (by have := HLN.out; simp only [itemU, itemL, List.length_append, Lib.strCells_length, ByteArray.size_append, bsz1, sz1, LIM, List.length_cons, List.length_nil] at *; omega) (Nat.le_trans HS0.out HA7.out.bl.size)).mono ?_
  rintro e w8 ⟨rfl, hadd⟩
  have hadd := Adds.byte (c := 10) hadd
  have HA8 := hid (HA7.out.trans hadd)
  have hk := HA8.out.kt.get HN0.out hne (by decide)
  have k8_0 : World.cell? _ ⟨w.heap.size, 0, none⟩ = some (.int .i64 2) := heap_cell (i := 0) hk
  have k8_1 : World.cell? _ ⟨w.heap.size, 1, none⟩ = some (.int .i64 (num : Nat)) := heap_cell (i := 1) hk
  have k8_2 : World.cell? _ ⟨w.heap.size, 2, none⟩ = some (.string nm) := heap_cell (i := 2) hk
  have k8_3 : World.cell? _ ⟨w.heap.size, 3, none⟩ = some (.string ty) := heap_cell (i := 3) hk
  have k8_4 : World.cell? _ ⟨w.heap.size, 4, none⟩ = some (.iface T1 v1) := heap_cell (i := 4) hk
  clear hk hadd
  go_wp2
  go_end0
  exact ⟨⟨_, rfl⟩, (HA8.out.from HG.out HB1.out).from HBL.out hB⟩

end Go.Proofs.YtfekglokoafpiaaGreatDoor
