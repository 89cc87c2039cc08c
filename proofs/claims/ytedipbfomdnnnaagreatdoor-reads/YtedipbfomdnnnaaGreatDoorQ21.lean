/-
  The document's engine: Ask of Tree. Both sessions, side by side.
  Both sessions at a first Set.
  shown.
  THE WALK of Reads.
-/
import Derived.Test.YtedipbfomdnnnaaGreatDoorQ20

set_option linter.unusedVariables false
set_option linter.unusedSimpArgs false

namespace Go.Proofs.YtedipbfomdnnnaaGreatDoor
open Go.RowKit

theorem yask_3 {w : World} {sb B : Nat} {fv : Value} {rev : Int} {text : ByteArray} {there : Bool} (h : YSess w sb B fv 2 rev) (hB : B ≤ w.heap.size) (hfl : Fl fv text there w) (hlt : ∀ b, fv.ownBlock = some b → b < B ∧ b ≠ sb) (hd : DocT text)
    {items : List It} {fl : Option Nat} (ht : TreeOk text items fl) (ss : List ByteArray) (hss : LinesOf items ss) (hp : PT w.heap.size w) :
    Calls Tryz.prog 10 #[.pointer (some ⟨sb, 0, none⟩), .int .i64 3, .string ⟨#[97]⟩, .string ⟨#[]⟩] w fun e w' => e = .returned (.tuple #[.string (treeT ss fl), .int .i64 0]) ∧ YSess w' sb B fv 3 rev ∧ Keep B sb w w' :=
  ask_step h hB (by omega) 3 rfl 2 _ (fun wx => looks_3 fv wx) (.inr ⟨by omega, by omega⟩) (fun wx hk => (ans_tree ⟨#[]⟩ items fl ht.tree wx (hfl.keep hlt hk) hd ht.len ht.num ht.fault).mono fun e w' ⟨⟨tt, h1, h2, h3⟩, hb⟩ => by
    subst h3
    rw [lines_uniq hss ⟨h1, h2⟩ w hp]
    exact ⟨rfl, hb⟩)

theorem lines_ex {w : World} {fv : Value} {text : ByteArray} {there : Bool} (hfl : Fl fv text there w) (hd : DocT text) {items : List It} {fl : Option Nat} (ht : TreeOk text items fl) : ∃ ss, LinesOf items ss := by
  obtain ⟨_, _, ⟨tt, h1, h2, _⟩, _⟩ := Calls.ex (ans_tree ⟨#[]⟩ items fl ht.tree w hfl hd ht.len ht.num ht.fault)
  exact ⟨tt, h1, h2⟩

theorem LinesOf.ex {items : List It} {ss : List ByteArray} (h : LinesOf items ss) : ∀ i ∈ items, i.ex = .nilIface ∨ ∃ T v, i.ex = .iface T v := by
  intro i hi
  obtain ⟨k, hk, rfl⟩ := List.getElem_of_mem hi
  have hs : k < ss.length := by rw [h.1]; exact hk
  exact (h.2 k items[k] ss[k] (List.getElem?_eq_getElem hk) (List.getElem?_eq_getElem hs)).ex

/-- Both sessions behind n kinds asked; W0 is the world at the beginning. -/
structure Bo (W0 w : World) (bs br B lb : Nat) (fv : Value) (text : ByteArray) (there : Bool) (n : Nat) (rev : Int) : Prop where
  base : Below W0.heap.size W0 w
  xs : XS w bs text there
  xb : bs < B ∧ bs ≠ br ∧ (∀ bm, w.cell? ⟨bs, 0, none⟩ = some (.map (some bm)) → bm < B ∧ bm ≠ br)
  ys : YSess w br B fv n rev
  fl : Fl fv text there w
  lt : ∀ b, fv.ownBlock = some b → b < B ∧ b ≠ br
  hB : B ≤ w.heap.size
  l : w.cell? ⟨lb, 0, none⟩ = some (.string ⟨#[]⟩)
  lb : lb < B ∧ lb ≠ br
  w0 : W0.heap.size ≤ B ∧ W0.heap.size ≤ br

theorem Bo.below {W0 w w' : World} {bs br B lb : Nat} {fv : Value} {text : ByteArray} {there : Bool} {n : Nat} {rev : Int} (h : Bo W0 w bs br B lb fv text there n rev) (hb : Below w.heap.size w w') : Bo W0 w' bs br B lb fv text there n rev :=
  ⟨below_seq h.base hb, h.xs.below hb, ⟨h.xb.1, h.xb.2.1, fun bm e => h.xb.2.2 bm (by
      rw [← e]; exact (World.cell?_of_block (w := w) (hb.block bs (by have := h.xb.1; have := h.hB; omega))).symm)⟩,
    h.ys.below hb, h.fl.below hb, h.lt, by have := h.hB; have := hb.size; omega, cell_kept hb h.l, h.lb, h.w0⟩

theorem XS.keep {w w' : World} {bs br B : Nat} {text : ByteArray} {there : Bool} (h : XS w bs text there) (hx : bs < B ∧ bs ≠ br ∧ (∀ bm, w.cell? ⟨bs, 0, none⟩ = some (.map (some bm)) → bm < B ∧ bm ≠ br)) (hk : Keep B br w w') : XS w' bs text there := by
  rcases h with ⟨h1, h2, h3⟩ | ⟨h1, bm, h2⟩
  · exact .inl ⟨h1, h2, (hk.2 bs hx.1 hx.2.1).trans h3⟩
  · obtain ⟨h4, h5⟩ := hx.2.2 bm h2.c0
    exact .inr ⟨h1, bm, (hk.2 bs hx.1 hx.2.1).trans h2.hs, (hk.2 bm h4 h5).trans h2.hm⟩

theorem Bo.ask {W0 w w' : World} {bs br B lb : Nat} {fv : Value} {text : ByteArray} {there : Bool} {n m : Nat} {rev : Int} (h : Bo W0 w bs br B lb fv text there n rev) (hy : YSess w' br B fv m rev) (hk : Keep B br w w') : Bo W0 w' bs br B lb fv text there m rev :=
  ⟨⟨hk.env.1.trans h.base.os, hk.env.2.1.trans h.base.tape, hk.env.2.2.trans h.base.output, Nat.le_trans h.base.size hk.size, fun q hq => (hk.2 q (by have := h.w0.1; omega) (by have := h.w0.2; omega)).trans (h.base.block q hq)⟩,
    h.xs.keep h.xb hk, ⟨h.xb.1, h.xb.2.1, fun bm e => h.xb.2.2 bm (by
      rw [← e]; exact (World.cell?_of_block (w := w) (hk.2 bs h.xb.1 h.xb.2.1)).symm)⟩,
    hy, h.fl.keep h.lt hk, h.lt, by have := h.hB; have := hk.size; omega, (World.cell?_of_block (w := w) (hk.2 lb h.lb.1 h.lb.2)).trans h.l, h.lb, h.w0⟩

/-- What a text is asked to be: its tokens, items, lines. -/
structure TextOk (text : ByteArray) (items : List It) (fl : Option Nat) (ss : List ByteArray) : Prop where
  d : DocT text
  t : TreeOk text items fl
  l : LinesOf items ss

def ansT (text : ByteArray) (there : Bool) (items : List It) (fl : Option Nat) (ss : List ByteArray) (k : Nat) : ByteArray :=
  if k = 1 then knownT there else if k = 2 then joinT ((lexAll text).map tokT) else if k = 3 then treeT ss fl else joinT (docE items)

theorem both_x {W0 w : World} {bs br B lb : Nat} {fv : Value} {text : ByteArray} {there : Bool} {n : Nat} {rev : Int} {items : List It} {fl : Option Nat} {ss : List ByteArray} (h : Bo W0 w bs br B lb fv text there n rev) (hp : PT W0.heap.size W0) (ho : TextOk text items fl ss) (hn : n ≤ 3) (k : Nat) (hk : k = n + 1) :
    Calls Tryz.prog 9 #[.pointer (some ⟨bs, 0, none⟩), .int .i64 (k : Nat), .string ⟨#[97]⟩, .string ⟨#[]⟩] w fun e w' => e = .returned (.tuple #[.string (ansT text there items fl ss k), .int .i64 0]) ∧ Bo W0 w' bs br B lb fv text there n rev := by
  have hpw := hp.up h.base
  have key : ∀ (e : Ending) (w' : World) (t : ByteArray), ansT text there items fl ss k = t → (e = .returned (.tuple #[.string t, .int .i64 0]) ∧ Below w.heap.size w w') → (e = .returned (.tuple #[.string (ansT text there items fl ss k), .int .i64 0]) ∧ Bo W0 w' bs br B lb fv text there n rev) := by
    rintro e w' t ht ⟨rfl, hb⟩
    exact ⟨by rw [ht], h.below hb⟩
  subst hk
  rcases (by omega : n = 0 ∨ n = 1 ∨ n = 2 ∨ n = 3) with rfl | rfl | rfl | rfl
  · exact (xask_1 ⟨#[]⟩ h.xs).mono fun e w' hh => key e w' _ (by simp [ansT, knownT, knownX]) hh
  · exact (xask_2 ⟨#[]⟩ h.xs ho.d hpw).mono fun e w' hh => key e w' _ (by simp [ansT]) hh
  · exact (xask_3 ⟨#[]⟩ h.xs ho.d hpw items fl ho.t.tree ss ho.l.1 ho.l.2 ho.t.len ho.t.fault).mono fun e w' hh => key e w' _ (by simp [ansT]) hh
  · exact (xask_4 ⟨#[]⟩ h.xs ho.d items fl ho.t.tree ho.t.len ho.l.ex ho.t.name).mono fun e w' hh => key e w' _ (by simp [ansT]) hh

theorem both_y {W0 w : World} {bs br B lb : Nat} {fv : Value} {text : ByteArray} {there : Bool} {n : Nat} {rev : Int} {items : List It} {fl : Option Nat} {ss : List ByteArray} (h : Bo W0 w bs br B lb fv text there n rev) (hp : PT W0.heap.size W0) (ho : TextOk text items fl ss) (hn : n ≤ 3) (k : Nat) (hk : k = n + 1) :
    Calls Tryz.prog 10 #[.pointer (some ⟨br, 0, none⟩), .int .i64 (k : Nat), .string ⟨#[97]⟩, .string ⟨#[]⟩] w fun e w' => e = .returned (.tuple #[.string (ansT text there items fl ss k), .int .i64 0]) ∧ Bo W0 w' bs br B lb fv text there (n + 1) rev := by
  have hpw := hp.up h.base
  have key : ∀ (e : Ending) (w' : World) (t : ByteArray), ansT text there items fl ss k = t → (e = .returned (.tuple #[.string t, .int .i64 0]) ∧ YSess w' br B fv (n + 1) rev ∧ Keep B br w w') → (e = .returned (.tuple #[.string (ansT text there items fl ss k), .int .i64 0]) ∧ Bo W0 w' bs br B lb fv text there (n + 1) rev) := by
    rintro e w' t ht ⟨rfl, hy, hkp⟩
    exact ⟨by rw [ht], h.ask hy hkp⟩
  subst hk
  rcases (by omega : n = 0 ∨ n = 1 ∨ n = 2 ∨ n = 3) with rfl | rfl | rfl | rfl
  · exact (yask_1 h.ys h.hB h.fl h.lt).mono fun e w' hh => key e w' _ (by simp [ansT]) hh
  · exact (yask_2 h.ys h.hB h.fl h.lt ho.d).mono fun e w' hh => key e w' _ (by simp [ansT]) hh
  · exact (yask_3 h.ys h.hB h.fl h.lt ho.d ho.t ss ho.l hpw).mono fun e w' hh => key e w' _ (by simp [ansT]) hh
  · exact (yask_4 h.ys h.hB h.fl h.lt ho.d items fl ho.t.tree ho.t.len ho.t.num ho.t.name).mono fun e w' hh => key e w' _ (by simp [ansT]) hh

end Go.Proofs.YtedipbfomdnnnaaGreatDoor

namespace Go.Proofs.YtedipbfomdnnnaaGreatDoor
open Go.RowKit

theorem Ses.Fr.heap {S : List Nat} {w w' : World} (h : Ses.Fr S w w') {b : Nat} {o : Obj} (hb : w.heap[b]? = some o) (hn : b ∉ S) : w'.heap[b]? = some o :=
  (h.block b (Ses.heap_lt hb) hn).trans hb

theorem below_fr {B : Nat} {S : List Nat} {a w w' : World} (h : Below B a w) (hB : B ≤ w.heap.size) (hF : Ses.Fr S w w') (hS : ∀ k, k ∈ S → B ≤ k) : Below B a w' :=
  ⟨hF.os.trans h.os, hF.tape.trans h.tape, hF.output.trans h.output, Nat.le_trans h.size hF.size, fun q hq => (hF.block q (by omega) (fun e => by have := hS q e; omega)).trans (h.block q hq)⟩

theorem XS.fr {w w' : World} {bs br : Nat} {text : ByteArray} {there : Bool} (h : XS w bs text there) (hne : bs ≠ br) (hbm : ∀ bm, w.cell? ⟨bs, 0, none⟩ = some (.map (some bm)) → bm ≠ br) (hF : Ses.Fr [br] w w') : XS w' bs text there := by
  rcases h with ⟨h1, h2, h3⟩ | ⟨h1, bm, h2⟩
  · exact .inl ⟨h1, h2, hF.heap h3 (by simpa using hne)⟩
  · exact .inr ⟨h1, bm, hF.heap h2.hs (by simpa using hne), hF.heap h2.hm (by simpa using hbm bm h2.c0)⟩

/-- Does the text fit? -/
def fitB (text : ByteArray) : Bool := decide (text.size ≤ 400)
def fitT (text : ByteArray) : ByteArray := if fitB text then text else ⟨#[]⟩
def fitC (text : ByteArray) : Int := if fitB text then 0 else 2

theorem fitT_size (text : ByteArray) : (fitT text).size ≤ 400 := by
  unfold fitT fitB
  split
  · rename_i h; simpa using h
  · exact Nat.zero_le _

theorem xset_any (text : ByteArray) (ht : text.size ≤ maxLen) (bs : Nat) (w : World) (h : w.heap[bs]? = some (Ses.sBlk none 0)) :
    Calls Tryz.prog 6 #[.pointer (some ⟨bs, 0, none⟩), .string ⟨#[97]⟩, .string text] w fun e w' => e = .returned (.int .i64 (fitC text)) ∧ XS w' bs (fitT text) (fitB text) ∧ (∀ bm, w'.cell? ⟨bs, 0, none⟩ = some (.map (some bm)) → w.heap.size ≤ bm ∧ bm < w'.heap.size) ∧ Ses.Fr [bs] w w' := by
  by_cases hl : text.size ≤ 400
  · have hb : fitB text = true := by simp [fitB, hl]
    have ht' : fitT text = text := by simp [fitT, hb]
    have hc : fitC text = 0 := by simp [fitC, hb]
    rw [hb, ht', hc]
    refine (Ses.set_new text bs 0 w hl (by omega) (by omega) h).mono ?_
    rintro e w' ⟨rfl, bm, hbm, hP, hF⟩
    refine ⟨rfl, .inr ⟨rfl, bm, hP⟩, fun bm' e => ?_, hF⟩
    rw [hP.c0] at e
    injection e with e
    injection e with e
    injection e with e
    subst e
    exact ⟨hbm, Ses.heap_lt hP.hm⟩
  · have hb : fitB text = false := by simp [fitB, hl]
    have ht' : fitT text = ⟨#[]⟩ := by simp [fitT, hb]
    have hc : fitC text = 2 := by simp [fitC, hb]
    rw [hb, ht', hc]
    refine (Ses.set_long text _ w (by omega) ht).mono ?_
    rintro e w' ⟨rfl, rfl⟩
    refine ⟨rfl, .inl ⟨rfl, rfl, h⟩, fun bm' e => ?_, Ses.Fr.refl _ _⟩
    rw [Ses.heap_cell h] at e
    simp at e

/-- The document's session behind its first Set. -/
structure Y0 (w w' : World) (br : Nat) (fv : Value) (text : ByteArray) (there : Bool) (rev : Int) : Prop where
  s : w'.heap[br]? = some (.cells #[fv, .slice none 0 0, .int .i64 rev, .int .i64 0, .slice none 0 0] 32)
  fl : Fl fv text there w'
  lt : ∀ b, fv.ownBlock = some b → b < w'.heap.size ∧ b ≠ br

theorem yset_any (text : ByteArray) (ht : text.size ≤ maxLen) (br : Nat) (w : World) (h : w.heap[br]? = some (Ses.rBlk (.slice none 0 0) 0)) :
    Calls Tryz.prog 8 #[.pointer (some ⟨br, 0, none⟩), .string ⟨#[97]⟩, .string text] w fun e w' => e = .returned (.int .i64 (fitC text)) ∧ (∃ fv rev, Y0 w w' br fv (fitT text) (fitB text) rev) ∧ Ses.Fr [br] w w' := by
  by_cases hl : text.size ≤ 400
  · have hb : fitB text = true := by simp [fitB, hl]
    have ht' : fitT text = text := by simp [fitT, hb]
    have hc : fitC text = 0 := by simp [fitC, hb]
    rw [hb, ht', hc]
    refine (Ses.rset_first text br w hl h).mono ?_
    rintro e w' ⟨rfl, bf, cap, hbf, ⟨g1, g2, rest, g3⟩, hF⟩
    refine ⟨rfl, ⟨_, 1, g2, .inr ⟨bf, cap, 1, rfl, rfl, (Ses.fc_of (rest := rest) g3).k0, (Ses.fc_of (rest := rest) g3).k1, (Ses.fc_of (rest := rest) g3).k2, (Ses.fc_of (rest := rest) g3).k3⟩, fun b hb => ?_⟩, hF⟩
    have : bf = b := by simpa [Value.ownBlock] using hb
    subst this
    exact ⟨Ses.heap_lt g3, g1⟩
  · have hb : fitB text = false := by simp [fitB, hl]
    have ht' : fitT text = ⟨#[]⟩ := by simp [fitT, hb]
    have hc : fitC text = 2 := by simp [fitC, hb]
    rw [hb, ht', hc]
    refine (Ses.rset_long text br w _ _ (by omega) ht h).mono ?_
    rintro e w' ⟨rfl, hbl⟩
    exact ⟨rfl, ⟨_, 0, Ses.below_heap hbl h, .inl ⟨rfl, rfl, rfl⟩, fun b hb => by simp [Value.ownBlock] at hb⟩, Ses.Fr.of_below hbl⟩

theorem below_seq' {B : Nat} {a w w' : World} (h : Below B a w) (hB : B ≤ w.heap.size) (h' : Below w.heap.size w w') : Below B a w' :=
  ⟨h'.os.trans h.os, h'.tape.trans h.tape, h'.output.trans h.output, Nat.le_trans h.size h'.size, fun q hq => (h'.block q (by omega)).trans (h.block q hq)⟩

/-- The sessions stand side by side. -/
theorem start_bo {text : ByteArray} {W0 W1 w3 w4 W5 : World} {fv : Value} {rev : Int} {lb : Nat} (hbl : Below W0.heap.size W0 W1) (hsz : W1.heap.size = W0.heap.size + 2) (hx : XS w3 W0.heap.size (fitT text) (fitB text))
    (hbm : ∀ bm, w3.cell? ⟨W0.heap.size, 0, none⟩ = some (.map (some bm)) → W1.heap.size ≤ bm ∧ bm < w3.heap.size) (hF : Ses.Fr [W0.heap.size] W1 w3) (hy : Y0 w3 w4 (W0.heap.size + 1) fv (fitT text) (fitB text) rev) (hF2 : Ses.Fr [W0.heap.size + 1] w3 w4)
    (hb5 : Below w4.heap.size w4 W5) (hl : W5.cell? ⟨lb, 0, none⟩ = some (.string ⟨#[]⟩)) (hlb : w4.heap.size ≤ lb ∧ lb < W5.heap.size) :
    Bo W0 W5 W0.heap.size (W0.heap.size + 1) W5.heap.size lb fv (fitT text) (fitB text) 0 rev := by
  have z1 := hF.size
  have z2 := hF2.size
  have z3 := hb5.size
  have hx4 : XS w4 W0.heap.size (fitT text) (fitB text) := hx.fr (by omega) (fun bm e => by have := hbm bm e; omega) hF2
  refine ⟨below_seq' (below_fr (below_fr hbl (by omega) hF (by simp)) (by omega) hF2 (by simp)) (by omega) hb5, hx4.below hb5, ⟨by omega, by omega, fun bm e => ?_⟩, ?_, hy.fl.below hb5, fun b hb => ?_, Nat.le_refl _, hl, ⟨hlb.2, by omega⟩, ⟨by omega, by omega⟩⟩
  · have e1 : w4.cell? ⟨W0.heap.size, 0, none⟩ = some (.map (some bm)) := by
      rw [← e]; exact (World.cell?_of_block (w := w4) (hb5.block W0.heap.size (by omega))).symm
    have e2 : w3.cell? ⟨W0.heap.size, 0, none⟩ = some (.map (some bm)) := by
      rw [← e1]; exact (World.cell?_of_block (w := w3) (hF2.block W0.heap.size (by omega) (by simp))).symm
    have := hbm bm e2
    omega
  · refine ⟨.slice none 0 0, .slice none 0 0, [], [], 0, ⟨?_, by omega, World.ownsRow_nil _ _ _ _, World.ownsRow_nil _ _ _ _, fun b hb => by simp [Value.ownBlock] at hb⟩, fun j hj => by omega, by omega, by omega⟩
    exact Ses.below_heap hb5 hy.s
  · have := hy.lt b hb
    omega

end Go.Proofs.YtedipbfomdnnnaaGreatDoor

namespace Go.Proofs.YtedipbfomdnnnaaGreatDoor
open Go.RowKit

set_option maxRecDepth 100000 in
set_option maxHeartbeats 1000000 in
theorem xshown_any (text : ByteArray) (ht : text.size ≤ maxLen) (W0 : World) (hp : PT W0.heap.size W0) :
    Calls Tryz.prog 4 #[.string text, .slice none 0 0, .int .i64 1, .int .i64 4] W0 fun e w' => e = .returned (.bool true) ∧ Below W0.heap.size W0 w' := by
  have HT := hid ht
  have HP := hid hp
  clear ht hp
  go_enter Tryz.func4, Tryz.ntmps4
  go_wp2_with fail
  refine (Ses.new_any _).mono ?_
  rintro e w1 ⟨rfl, rfl⟩
  go_wp2_with fail
  have hA := new_heap W0 (.cells #[.map none, .int .i64 0] 43)
  have hA2 := old_heap (.cells #[.slice none 0 0, .slice none 0 0, .int .i64 0, .int .i64 0, .slice none 0 0] 32) hA
  have hR := new_heap (W0.alloc (.cells #[.map none, .int .i64 0] 43)) (.cells #[.slice none 0 0, .slice none 0 0, .int .i64 0, .int .i64 0, .slice none 0 0] 32)
  rw [show (W0.alloc (.cells #[.map none, .int .i64 0] 43)).heap.size = W0.heap.size + 1 from by simp] at hR
  have hbl : Below W0.heap.size W0 ((W0.alloc (.cells #[.map none, .int .i64 0] 43)).alloc (.cells #[.slice none 0 0, .slice none 0 0, .int .i64 0, .int .i64 0, .slice none 0 0] 32)) := ((Below.refl _ _).alloc (Nat.le_refl _) _).alloc (by simp) _
  have hsz : ((W0.alloc (.cells #[.map none, .int .i64 0] 43)).alloc (.cells #[.slice none 0 0, .slice none 0 0, .int .i64 0, .int .i64 0, .slice none 0 0] 32)).heap.size = W0.heap.size + 2 := by simp
  generalize (W0.alloc (.cells #[.map none, .int .i64 0] 43)).alloc (.cells #[.slice none 0 0, .slice none 0 0, .int .i64 0, .int .i64 0, .slice none 0 0] 32) = W1 at hA2 hR hbl hsz ⊢
  have HR := hid hR
  have HBL := hid hbl
  have HSZ := hid hsz
  have HXS := hid (xset_any text HT.out W0.heap.size W1 hA2)
  clear hA hA2 hR hbl hsz
  refine (HXS.out).mono ?_
  rintro e w2 ⟨rfl, hx, hbm, hF⟩
  have HX := hid hx
  have HBM := hid hbm
  have HF := hid hF
  have HR2 := hid (hF.heap HR.out (by simp))
  clear hx hbm hF HXS
  go_wp2_with fail
  refine (Ses.num_any _ _).mono ?_
  rintro e w3 ⟨rfl, rfl⟩
  go_wp2_with fail
  refine (yset_any text HT.out (W0.heap.size + 1) _ HR2.out).mono ?_
  rintro e w4 ⟨rfl, ⟨fv, rev, hy⟩, hF2⟩
  have HY := hid hy
  have HF2 := hid hF2
  clear hy hF2
  go_wp2_with fail
  obtain ⟨cc, hcc⟩ : ∃ cc, cc = (Question.appendCap 1 0 9).cut (w4.tape w4.drawn (Question.appendCap 1 0 9)) := ⟨_, rfl⟩
  rw [← hcc]
  have hl5 : ((w4.alloc (.cells #[.string ⟨#[]⟩] 9)).alloc (.cells (#[.string ⟨#[]⟩] ++ Builtin.zeroCells #[.string ⟨#[]⟩] (cc - 1)) 9)).drew.cell? ⟨w4.heap.size + 1, 0, none⟩ = some (.string ⟨#[]⟩) := by
    have h1 := new_heap (w4.alloc (.cells #[.string ⟨#[]⟩] 9)) (.cells (#[.string ⟨#[]⟩] ++ Builtin.zeroCells #[.string ⟨#[]⟩] (cc - 1)) 9)
    rw [show (w4.alloc (.cells #[.string ⟨#[]⟩] 9)).heap.size = w4.heap.size + 1 from by simp] at h1
    have h2 := heap_cell (i := 0) h1
    rw [Array.getElem?_append_left (by simp)] at h2
    exact h2
  have hb5 : Below w4.heap.size w4 ((w4.alloc (.cells #[.string ⟨#[]⟩] 9)).alloc (.cells (#[.string ⟨#[]⟩] ++ Builtin.zeroCells #[.string ⟨#[]⟩] (cc - 1)) 9)).drew := (((Below.refl _ _).alloc (Nat.le_refl _) _).alloc (by simp) _).drew
  have hz5 : w4.heap.size + 1 < ((w4.alloc (.cells #[.string ⟨#[]⟩] 9)).alloc (.cells (#[.string ⟨#[]⟩] ++ Builtin.zeroCells #[.string ⟨#[]⟩] (cc - 1)) 9)).drew.heap.size := by
    rw [drew_heap]; simp
  generalize ((w4.alloc (.cells #[.string ⟨#[]⟩] 9)).alloc (.cells (#[.string ⟨#[]⟩] ++ Builtin.zeroCells #[.string ⟨#[]⟩] (cc - 1)) 9)).drew = W5 at hl5 hb5 hz5 ⊢
  have hbo := start_bo HBL.out HSZ.out HX.out HBM.out HF.out HY.out HF2.out hb5 hl5 ⟨by omega, hz5⟩
  have HBO := hid hbo
  have hd := docT (fitT text) (fitT_size text)
  have hto := treeOk hd.wf W5
  obtain ⟨ss, hss⟩ := lines_ex hbo.fl hd hto
  obtain ⟨items, fl, htl⟩ : ∃ items fl, TextOk (fitT text) items fl ss := ⟨_, _, hd, hto, hss⟩
  have HTL := hid htl
  clear hcc hl5 hb5 hz5 hbo hd hto hss htl HBL HSZ HX HBM HF HY HF2 HR HR2
  generalize w4.heap.size + 1 = lb at HBO ⊢
  generalize W0.heap.size + 1 = br at HBO ⊢
  generalize W0.heap.size = bs at HBO ⊢
  go_loopg [13] 4 (fun f kv wr => ∃ k n : Nat, k = n + 1 ∧ n + f = 4 ∧ kv = .int .i64 (k : Nat) ∧ Bo W0 wr bs br W5.heap.size lb fv (fitT text) (fitB text) n rev)
  case atStart => exact ⟨1, 0, by omega, by omega, rfl, HBO.out⟩
  case round =>
    obtain ⟨k, n, hkn, hn, rfl, hbo⟩ := hrel
    have HB := hid hbo
    have HKN := hid hkn
    have l0 : wr.cell? ⟨lb, 0, none⟩ = some (.string ⟨#[]⟩) := hbo.l
    by_cases hlt : n < 4
    · have hk4 : (k : Int) ≤ 4 := by omega
      clear hbo hkn
      go_wp2_with fail
      refine wp_loop_rounds 2 ?_
      rw [rounds_succ]
      go_wp2_with fail
      refine (both_x HB.out HP.out HTL.out (by omega) k HKN.out).mono ?_
      rintro e w6 ⟨rfl, hb6⟩
      have HB6 := hid hb6
      have l6 : w6.cell? ⟨lb, 0, none⟩ = some (.string ⟨#[]⟩) := hb6.l
      clear hb6
      go_wp2_with fail
      refine (both_y HB6.out HP.out HTL.out (by omega) k HKN.out).mono ?_
      rintro e w7 ⟨rfl, hb7⟩
      have HB7 := hid hb7
      clear hb7
      generalize ansT (fitT text) (fitB text) items fl ss k = at_
      go_wp2_with fail
      refine (Ses.num_any _ _).mono ?_
      rintro e w8 ⟨rfl, rfl⟩
      go_wp2
      rw [rounds_succ]
      go_wp2
      go_roundg (4 - (n + 1))
      case rel => exact ⟨k + 1, n + 1, by have := HKN.out; omega, by omega, by go_num, HB7.out⟩
      case measure => omega
    · have hk4 : ¬ ((k : Int) ≤ 4) := by omega
      clear hbo hkn
      go_wp2
      go_ret
      exact ⟨rfl, HB.out.base⟩

end Go.Proofs.YtedipbfomdnnnaaGreatDoor

namespace Go.Proofs.YtedipbfomdnnnaaGreatDoor
open Go.RowKit

set_option maxRecDepth 100000 in
set_option maxHeartbeats 1000000 in
theorem reads_any (text : ByteArray) (ht : text.size ≤ maxLen) (W0 : World) (hp : PT W0.heap.size W0) :
    Calls Tryz.prog 3 #[.string text] W0 fun e w' => e = .returned (.bool true) ∧ Below W0.heap.size W0 w' := by
  have HT := hid ht
  have HP := hid hp
  clear ht hp
  go_enter Tryz.func3, Tryz.ntmps3
  go_wp2_with fail
  refine (xshown_any _ ?hlen W0 HP.out).mono ?_
  case hlen => decide
  rintro e w1 ⟨rfl, hb1⟩
  have HB1 := hid hb1
  clear hb1
  go_wp2_with fail
  refine (xshown_any _ HT.out w1 (HP.out.up HB1.out)).mono ?_
  rintro e w2 ⟨rfl, hb2⟩
  go_wp2
  go_ret
  exact ⟨rfl, below_seq HB1.out hb2⟩

end Go.Proofs.YtedipbfomdnnnaaGreatDoor
