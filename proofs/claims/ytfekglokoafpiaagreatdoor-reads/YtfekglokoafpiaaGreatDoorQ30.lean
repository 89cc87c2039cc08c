/-
  The document's engine: Ask of Tree. Both sessions, side by side.
  Both sessions at a first Set.
  shown.
  THE WALK of Reads.
-/
import Derived.Test.YtfekglokoafpiaaGreatDoorQ29

set_option linter.unusedVariables false
set_option linter.unusedSimpArgs false

namespace Go.Proofs.YtfekglokoafpiaaGreatDoor
open Go.RowKit

theorem yask_3 {w : World} {sb B : Nat} {fv : Value} {rev : Int} {text : ByteArray} {there : Bool} (h : YSess w sb B fv 2 rev) (hB : B ≤ w.heap.size) (hfl : Fl fv text there w) (hlt : ∀ b, fv.ownBlock = some b → b < B ∧ b ≠ sb) (hd : DocT text)
    {items : List It} {fl : Option Nat} (ht : TreeOk text items fl) (ss : List ByteArray) (hss : LinesOf items ss) (hp : PT w.heap.size w) :
    Calls Tryz.prog 10 #[.pointer (some ⟨sb, 0, none⟩), .int .i64 3, .string ⟨#[97]⟩, .string ⟨#[]⟩] w fun e w' => e = .returned (.tuple #[.string (treeT ss fl), .int .i64 0]) ∧ YSess w' sb B fv 3 rev ∧ Keep B sb w w' :=
  ask_step h hB (by omega) 3 rfl 2 _ (fun wx => looks_3 fv wx) (.inr ⟨by omega, by omega⟩) (fun wx hk => (ans_tree ⟨#[]⟩ items fl ht.tree wx (hfl.keep hlt hk) hd ht.len ht.num ht.fault).mono fun e w' ⟨⟨tt, h1, h2, h3⟩, hb⟩ => by
    subst h3
    rw [lines_uniq hss ⟨h1, h2⟩ w hp]
    exact ⟨rfl, hb⟩)

theorem lines_ex {w : World} {fv : Value} {text : ByteArray} {there : Bool} (hfl : Fl fv text there w) (hd : DocT text) {items : List It} {fl : Option Nat} (ht : TreeOk text items fl) : ∃ ss, LinesOf items ss := by
  obtain ⟨_, _, ⟨tt, h1, h2, _⟩, _⟩ := Calls.ex (ans_tree ⟨#[]⟩ items fl ht.tree w hfl hd ht.len ht.num ht.fault)
  exact ⟨tt, h1, h2⟩

theorem LinesOf.ex {items : List It} {ss : List ByteArray} (h : LinesOf items ss) : ∀ i ∈ items, i.ex = .nilIface ∨ ∃ T v, i.ex = .iface T v := by
  intro i hi
  obtain ⟨k, hk, rfl⟩ := List.getElem_of_mem hi
  have hs : k < ss.length := by rw [h.1]; exact hk
  exact (h.2 k items[k] ss[k] (List.getElem?_eq_getElem hk) (List.getElem?_eq_getElem hs)).ex

/-- The program's session behind m questions. -/
def XSt (w : World) (bs B : Nat) (text : ByteArray) (there : Bool) (items : List It) : Nat → Prop
  | 0 => X0 w bs B text there
  | 1 => X1 w bs B text there
  | 2 => X2 w bs B text there
  | 3 => X3 w bs B text there items
  | _ => True

theorem XSt.below {w w' : World} {bs B : Nat} {text : ByteArray} {there : Bool} {items : List It} {m : Nat} (h : XSt w bs B text there items m) (hb : Below w.heap.size w w') : XSt w' bs B text there items m := by
  match m, h with
  | 0, h => exact X0.below h hb
  | 1, h => exact X1.below h hb
  | 2, h => exact X2.below h hb
  | 3, h => exact X3.below h hb
  | _ + 4, _ => exact trivial

/-- What the document's session leaves as it is. -/
structure KY (br : Nat) (w w' : World) : Prop where
  size : w.heap.size ≤ w'.heap.size
  same : ∀ q o, w.heap[q]? = some o → q ≠ br → (∀ cs fr, o ≠ .cells cs 70 fr) → w'.heap[q]? = some o

theorem Keep.ky {B br : Nat} {w w' : World} (h : Keep B br w w') : KY br w w' :=
  ⟨h.size, fun q o hq hn ht => (h.tag q (by
    rcases Nat.lt_or_ge q w.heap.size with h1 | h1
    · exact h1
    · rw [Array.getElem?_eq_none h1] at hq; simp at hq) hn (fun cs fr e => ht cs fr (Option.some.inj (hq.symm.trans e)))).trans hq⟩

theorem KY.cells {br : Nat} {w w' : World} (h : KY br w w') {q : Nat} {cs : Array Value} {T : TypeId} {fr : Nat × Nat} (hq : w.heap[q]? = some (.cells cs T fr)) (hn : q ≠ br) (hT : T ≠ 70) : w'.heap[q]? = some (.cells cs T fr) :=
  h.same q _ hq hn (fun cs2 fr2 e => by
    injection e with _ e _
    exact hT e)
theorem KY.map {br : Nat} {w w' : World} (h : KY br w w') {q : Nat} {es : Array MapEntry} {n : Nat} (hq : w.heap[q]? = some (.map es n)) (hb : ∃ cs T fr, w.heap[br]? = some (.cells cs T fr)) : w'.heap[q]? = some (.map es n) := by
  refine h.same q _ hq (fun e => ?_) (fun cs fr e => by simp at e)
  obtain ⟨cs, T, fr, h1⟩ := hb
  subst e
  have := hq.symm.trans h1
  simp at this

theorem own_ky {br : Nat} {w w' : World} (h : KY br w w') {N : Nat} {e : TypeId} {z n : Nat} {v : Value} {ys : List Value} (ho : w.ownsRow N e z v n ys) (hN : br < N) (he : e ≠ 70) : w'.ownsRow N e z v n ys := by
  obtain ⟨hl, h1 | ⟨g, c, cur, hv, hB, hg, hr⟩⟩ := ho
  · exact ⟨hl, .inl h1⟩
  · exact ⟨hl, .inr ⟨g, c, cur, hv, hB, h.cells hg (by omega) he, hr⟩⟩

theorem Tg.ky {br : Nat} {w w' : World} (h : KY br w w') {l : List (TypeId × Nat)} (ht : Tg w l) (hl : ∀ (i : Nat) T p, l[i]? = some (T, p) → p ≠ br) : Tg w' l := fun i T p hi => by
  obtain ⟨cs, TT, h1, h2⟩ := ht i T p hi
  exact ⟨cs, TT, h.cells h1 (hl i T p hi) h2.ne.1, h2⟩

theorem SQ.ky {br : Nat} {w w' : World} (h : KY br w w') {q : Value} (hq : SQ w q) (hb : ∃ cs T fr, w.heap[br]? = some (.cells cs T fr)) : SQ w' q := by
  obtain ⟨bq, bc, rfl, h1⟩ := hq
  exact ⟨bq, bc, rfl, h.map (es := Ses.qEs bc) (n := 1) h1 hb⟩

theorem XB.ky {br : Nat} {w w' : World} (h : KY br w w') {bs B : Nat} {text : ByteArray} {there : Bool} {f q sm : Value} {rv us : Int} {bg kv : Value} {l : List (TypeId × Nat)} {ul : List Int} (hx : XB w bs B text there f q sm rv us bg kv l ul) (h1 : bs ≠ br) (h2 : br < B) (hb : ∃ cs T fr, w.heap[br]? = some (.cells cs T fr)) : XB w' bs B text there f q sm rv us bg kv l ul := by
  have hp : ∀ (i : Nat) T p, l[i]? = some (T, p) → p ≠ br := fun i T p hi => by have := (hx.es.blk i T p hi).1; omega
  refine ⟨⟨h.cells hx.es.s h1 (by decide), hx.es.lt, own_ky h hx.es.own h2 (by decide), hx.es.ulen, hx.es.ty, fun i T p hi => ?_, fun i T p u hi hu => ?_, hx.es.le, hx.es.up⟩, ?_, hx.rv, hx.us, hx.tg.ky h hp⟩
  · obtain ⟨a, b, c⟩ := hx.es.blk i T p hi
    exact ⟨a, b, Nat.lt_of_lt_of_le c h.size⟩
  · obtain ⟨cs, TT, h3, h4⟩ := hx.tg i T p hi
    exact (World.cell?_of_block (w := w) ((h.cells h3 (hp i T p hi) h4.ne.1).trans h3.symm)).trans (hx.es.used i T p u hi hu)
  · rcases hx.xf with h3 | ⟨h3, bm, h4, h5⟩
    · exact .inl h3
    · exact .inr ⟨h3, bm, h4, h.map (es := Ses.mEs text) (n := 1) h5 hb⟩

theorem XSt.ky {br : Nat} {w w' : World} (h : KY br w w') {bs B : Nat} {text : ByteArray} {there : Bool} {items : List It} {m : Nat} (hx : XSt w bs B text there items m) (h1 : bs ≠ br) (h2 : br < B) (hb : ∃ cs T fr, w.heap[br]? = some (.cells cs T fr)) : XSt w' bs B text there items m := by
  match m, hx with
  | 0, hx =>
    obtain ⟨f, q, rv, bg, kv, hx, hq⟩ := hx
    exact ⟨f, q, rv, bg, kv, hx.ky h h1 h2 hb, hq.imp id (fun hq => hq.ky h hb)⟩
  | 1, hx =>
    obtain ⟨f, q, rv, us, bg, kv, p1, u1, ms, hx, hq, h3, h4, h5⟩ := hx
    exact ⟨f, q, rv, us, bg, kv, p1, u1, ms, hx.ky h h1 h2 hb, hq.ky h hb, h3, h4, h.map h5 hb⟩
  | 2, hx =>
    obtain ⟨f, q, rv, us, bg, kv, p1, u1, p2, u2, ms, lk, x, N, hx, hq, h3, h4, h5, h6, h7, h8, h9⟩ := hx
    have hp2 := hx.es.blk 1 _ p2 rfl
    exact ⟨f, q, rv, us, bg, kv, p1, u1, p2, u2, ms, lk, x, N, hx.ky h h1 h2 hb, hq.ky h hb, h3, h4, h.map h5 hb, h.cells h6 (by omega) (by decide), own_ky h h7 (by omega) (by decide), h8, h9⟩
  | 3, hx =>
    obtain ⟨f, q, rv, us, bg, kv, p1, u1, p2, u2, p3, u3, ms, lk, x, N, hx, hq, h3, h4, h5, h6, h7, h8, h9⟩ := hx
    have hp3 := hx.es.blk 2 _ p3 rfl
    exact ⟨f, q, rv, us, bg, kv, p1, u1, p2, u2, p3, u3, ms, lk, x, N, hx.ky h h1 h2 hb, hq.ky h hb, h3, h4, h.map h5 hb, h.cells h6 (by omega) (by decide), own_ky h h7 (by omega) (by decide), h8, h9⟩
  | _ + 4, _ => exact trivial

/-- Both sessions, the program's behind m kinds asked, the document's behind n; W0 is the world at the beginning. -/
structure Bo (W0 w : World) (bs br B lb : Nat) (fv : Value) (text : ByteArray) (there : Bool) (items : List It) (m n : Nat) (rev : Int) : Prop where
  base : Below W0.heap.size W0 w
  xs : XSt w bs B text there items m
  xb : bs < B ∧ bs ≠ br ∧ br < B
  ys : YSess w br B fv n rev
  fl : Fl fv text there w
  lt : ∀ b, fv.ownBlock = some b → b < B ∧ b ≠ br ∧ b ≠ bs
  hB : B ≤ w.heap.size
  l : w.cell? ⟨lb, 0, none⟩ = some (.string ⟨#[]⟩)
  lb : lb < B ∧ lb ≠ br ∧ lb ≠ bs
  w0 : W0.heap.size ≤ B ∧ W0.heap.size ≤ br ∧ W0.heap.size ≤ bs

theorem YSess.kx {w w' : World} {bs br B : Nat} {fv : Value} {n : Nat} {rev : Int} (h : YSess w br B fv n rev) (hk : KX B bs w w') (hne : bs ≠ br) (hbs : bs < B) : YSess w' br B fv n rev := by
  obtain ⟨slv, ranv, xs, rs, clk, h1, h2⟩ := h
  have hbr := heap_lt h1.s
  refine ⟨slv, ranv, xs, rs, clk, ⟨(hk.low br h1.lt hbr (Ne.symm hne)).trans h1.s, h1.lt, own_far h1.own (fun g hg => ?_), own_far h1.ran (fun g hg => ?_), h1.ne⟩, h2⟩
  · obtain ⟨h3, cs, fr, h4⟩ := own_tag h1.own g hg
    exact hk.tag g cs _ fr h4 (by omega) (.inl rfl)
  · obtain ⟨h3, cs, fr, h4⟩ := own_tag h1.ran g hg
    exact hk.tag g cs _ fr h4 (by omega) (.inr rfl)

theorem Bo.kxBase {W0 w w' : World} {bs br B lb : Nat} {fv : Value} {text : ByteArray} {there : Bool} {items : List It} {m n : Nat} {rev : Int} (h : Bo W0 w bs br B lb fv text there items m n rev) (hk : KX B bs w w') : Below W0.heap.size W0 w' :=
  ⟨hk.os.trans h.base.os, hk.tape.trans h.base.tape, hk.output.trans h.base.output, Nat.le_trans h.base.size hk.size, fun q hq => (hk.low q (by have := h.w0.1; omega) (by have := h.base.size; omega) (by have := h.w0.2.2; omega)).trans (h.base.block q hq)⟩

theorem Bo.x {W0 w w' : World} {bs br B lb : Nat} {fv : Value} {text : ByteArray} {there : Bool} {items : List It} {m m' n : Nat} {rev : Int} (h : Bo W0 w bs br B lb fv text there items m n rev) (hx : XSt w' bs B text there items m') (hk : KX B bs w w') : Bo W0 w' bs br B lb fv text there items m' n rev := by
  refine ⟨h.kxBase hk, hx, h.xb, h.ys.kx hk h.xb.2.1 h.xb.1, ?_, h.lt, Nat.le_trans h.hB hk.size, (World.cell?_of_block (w := w) (hk.low lb h.lb.1 (by have := h.lb.1; have := h.hB; omega) h.lb.2.2)).trans h.l, h.lb, h.w0⟩
  rcases h.fl with h1 | ⟨fb, c, ch, h1, h2, h3, h4, h5, h6⟩
  · exact .inl h1
  · obtain ⟨h7, h8, h9⟩ := h.lt fb (by rw [h1]; rfl)
    have e : ∀ i, w'.cell? ⟨fb, i, none⟩ = w.cell? ⟨fb, i, none⟩ := fun i => World.cell?_of_block (w := w) (hk.low fb h7 (by have := h.hB; omega) h9)
    exact .inr ⟨fb, c, ch, h1, h2, (e _).trans h3, (e _).trans h4, (e _).trans h5, (e _).trans h6⟩

theorem Bo.ask {W0 w w' : World} {bs br B lb : Nat} {fv : Value} {text : ByteArray} {there : Bool} {items : List It} {m n n' : Nat} {rev : Int} (h : Bo W0 w bs br B lb fv text there items m n rev) (hy : YSess w' br B fv n' rev) (hk : Keep B br w w') : Bo W0 w' bs br B lb fv text there items m n' rev := by
  have hb : ∃ cs T fr, w.heap[br]? = some (.cells cs T fr) := by
    obtain ⟨slv, ranv, xs, rs, clk, h1, h2⟩ := h.ys
    exact ⟨_, _, _, h1.s⟩
  exact ⟨⟨hk.env.1.trans h.base.os, hk.env.2.1.trans h.base.tape, hk.env.2.2.trans h.base.output, Nat.le_trans h.base.size hk.size, fun q hq => (hk.block q (by have := h.w0.1; omega) (by have := h.w0.2.1; omega)).trans (h.base.block q hq)⟩,
    h.xs.ky hk.ky h.xb.2.1 h.xb.2.2 hb, h.xb,
    hy, h.fl.keep (fun b hb => ⟨(h.lt b hb).1, (h.lt b hb).2.1⟩) hk, h.lt, by have := h.hB; have := hk.size; omega, (World.cell?_of_block (w := w) (hk.block lb h.lb.1 h.lb.2.1)).trans h.l, h.lb, h.w0⟩

/-- What a text is asked to be: its tokens, items, lines. -/
structure TextOk (text : ByteArray) (items : List It) (fl : Option Nat) (ss : List ByteArray) : Prop where
  d : DocT text
  t : TreeOk text items fl
  l : LinesOf items ss

def ansT (text : ByteArray) (there : Bool) (items : List It) (fl : Option Nat) (ss : List ByteArray) (k : Nat) : ByteArray :=
  if k = 1 then knownT there else if k = 2 then joinT ((lexAll text).map tokT) else if k = 3 then treeT ss fl else joinT (docE items)

theorem both_x {W0 w : World} {bs br B lb : Nat} {fv : Value} {text : ByteArray} {there : Bool} {n : Nat} {rev : Int} {items : List It} {fl : Option Nat} {ss : List ByteArray} (h : Bo W0 w bs br B lb fv text there items n n rev) (hp : PT W0.heap.size W0) (ho : TextOk text items fl ss) (hn : n ≤ 3) (k : Nat) (hk : k = n + 1) :
    Calls Tryz.prog 9 #[.pointer (some ⟨bs, 0, none⟩), .int .i64 (k : Nat), .string ⟨#[97]⟩, .string ⟨#[]⟩] w fun e w' => e = .returned (.tuple #[.string (ansT text there items fl ss k), .int .i64 0]) ∧ Bo W0 w' bs br B lb fv text there items (n + 1) n rev := by
  have hpt : ∀ w', KX B bs w w' → PT w'.heap.size w' := fun w' hk => hp.up (h.kxBase hk)
  subst hk
  rcases (by omega : n = 0 ∨ n = 1 ∨ n = 2 ∨ n = 3) with rfl | rfl | rfl | rfl
  · refine (ask1 (show X0 w bs B text there from h.xs) h.hB).mono ?_
    rintro e w' ⟨he, h1, h2⟩
    exact ⟨by rw [he]; simp [ansT, knownT, knownX], h.x (m' := 1) h1 h2⟩
  · refine (ask2 (show X1 w bs B text there from h.xs) h.hB ho.d hpt).mono ?_
    rintro e w' ⟨he, h1, h2⟩
    exact ⟨by rw [he]; simp [ansT], h.x (m' := 2) h1 h2⟩
  · refine (ask3 (show X2 w bs B text there from h.xs) h.hB ho.d hpt items fl ho.t.tree ss ho.l.1 ho.l.2 ho.t.len ho.t.fault).mono ?_
    rintro e w' ⟨he, h1, h2⟩
    exact ⟨by rw [he]; simp [ansT], h.x (m' := 3) h1 h2⟩
  · refine (ask4 (show X3 w bs B text there items from h.xs) h.hB ho.t.len ho.l.ex ho.t.name).mono ?_
    rintro e w' ⟨he, h2⟩
    exact ⟨by rw [he]; simp [ansT], h.x (m' := 4) trivial h2⟩

theorem both_y {W0 w : World} {bs br B lb : Nat} {fv : Value} {text : ByteArray} {there : Bool} {m n : Nat} {rev : Int} {items : List It} {fl : Option Nat} {ss : List ByteArray} (h : Bo W0 w bs br B lb fv text there items m n rev) (hp : PT W0.heap.size W0) (ho : TextOk text items fl ss) (hn : n ≤ 3) (k : Nat) (hk : k = n + 1) :
    Calls Tryz.prog 10 #[.pointer (some ⟨br, 0, none⟩), .int .i64 (k : Nat), .string ⟨#[97]⟩, .string ⟨#[]⟩] w fun e w' => e = .returned (.tuple #[.string (ansT text there items fl ss k), .int .i64 0]) ∧ Bo W0 w' bs br B lb fv text there items m (n + 1) rev := by
  have hpw := hp.up h.base
  have hlt : ∀ b, fv.ownBlock = some b → b < B ∧ b ≠ br := fun b hb => ⟨(h.lt b hb).1, (h.lt b hb).2.1⟩
  have key : ∀ (e : Ending) (w' : World) (t : ByteArray), ansT text there items fl ss k = t → (e = .returned (.tuple #[.string t, .int .i64 0]) ∧ YSess w' br B fv (n + 1) rev ∧ Keep B br w w') → (e = .returned (.tuple #[.string (ansT text there items fl ss k), .int .i64 0]) ∧ Bo W0 w' bs br B lb fv text there items m (n + 1) rev) := by
    rintro e w' t ht ⟨rfl, hy, hkp⟩
    exact ⟨by rw [ht], h.ask hy hkp⟩
  subst hk
  rcases (by omega : n = 0 ∨ n = 1 ∨ n = 2 ∨ n = 3) with rfl | rfl | rfl | rfl
  · exact (yask_1 h.ys h.hB h.fl hlt).mono fun e w' hh => key e w' _ (by simp [ansT]) hh
  · exact (yask_2 h.ys h.hB h.fl hlt ho.d).mono fun e w' hh => key e w' _ (by simp [ansT]) hh
  · exact (yask_3 h.ys h.hB h.fl hlt ho.d ho.t ss ho.l hpw).mono fun e w' hh => key e w' _ (by simp [ansT]) hh
  · exact (yask_4 h.ys h.hB h.fl hlt ho.d items fl ho.t.tree ho.t.len ho.t.num ho.t.name).mono fun e w' hh => key e w' _ (by simp [ansT]) hh

end Go.Proofs.YtfekglokoafpiaaGreatDoor

namespace Go.Proofs.YtfekglokoafpiaaGreatDoor
open Go.RowKit

theorem Ses.Fr.heap {S : List Nat} {w w' : World} (h : Ses.Fr S w w') {b : Nat} {o : Obj} (hb : w.heap[b]? = some o) (hn : b ∉ S) : w'.heap[b]? = some o :=
  (h.block b (Ses.heap_lt hb) hn).trans hb

theorem below_fr {B : Nat} {S : List Nat} {a w w' : World} (h : Below B a w) (hB : B ≤ w.heap.size) (hF : Ses.Fr S w w') (hS : ∀ k, k ∈ S → B ≤ k) : Below B a w' :=
  ⟨hF.os.trans h.os, hF.tape.trans h.tape, hF.output.trans h.output, Nat.le_trans h.size hF.size, fun q hq => (hF.block q (by omega) (fun e => by have := hS q e; omega)).trans (h.block q hq)⟩

/-- Does the text fit? -/
def fitB (text : ByteArray) : Bool := decide (text.size ≤ 400)
def fitT (text : ByteArray) : ByteArray := if fitB text then text else ⟨#[]⟩
def fitC (text : ByteArray) : Int := if fitB text then 0 else 2

theorem fitT_size (text : ByteArray) : (fitT text).size ≤ 400 := by
  unfold fitT fitB
  split
  · rename_i h; simpa using h
  · exact Nat.zero_le _

theorem es_nil {w : World} {bs B : Nat} {f q : Value} {rv : Int} (hs : w.heap[bs]? = some (.cells #[f, .int .i64 rv, q, .map none, .slice none 0 0, .slice none 0 0, .int .u64 0] 51)) (hB : bs < B) : ES w bs B f q (.map none) rv 0 (.slice none 0 0) (.slice none 0 0) [] [] :=
  ⟨hs, hB, World.ownsRow_nil _ _ _ _, rfl, fun i T p hi => by simp at hi, fun i T p hi => by simp at hi, fun i T p u hi => by simp at hi, fun i u hi => by simp at hi, fun i j ui uj _ hi => by simp at hi⟩

theorem xset_any (text : ByteArray) (ht : text.size ≤ maxLen) (bs : Nat) (w : World) (h : w.heap[bs]? = some (Ses.sBlk none none 0)) :
    Calls Tryz.prog 6 #[.pointer (some ⟨bs, 0, none⟩), .string ⟨#[97]⟩, .string text] w fun e w' => e = .returned (.int .i64 (fitC text)) ∧ (∀ B, bs < B → X0 w' bs B (fitT text) (fitB text)) ∧ Ses.Fr [bs] w w' := by
  by_cases hl : text.size ≤ 400
  · have hb : fitB text = true := by simp [fitB, hl]
    have ht' : fitT text = text := by simp [fitT, hb]
    have hc : fitC text = 0 := by simp [fitC, hb]
    rw [hb, ht', hc]
    refine (Ses.set_new text bs 0 w hl (by omega) (by omega) h).mono ?_
    rintro e w' ⟨rfl, bm, bq, bc, hN⟩
    exact ⟨rfl, fun B hB => ⟨.map (some bm), .map (some bq), 0 + 1, _, _, ⟨es_nil hN.p.hs hB, .inr ⟨rfl, bm, rfl, hN.p.hm⟩, by decide, by decide, fun i T p hi => by simp at hi⟩, .inr ⟨bq, bc, rfl, hN.p.hq⟩⟩, hN.f⟩
  · have hb : fitB text = false := by simp [fitB, hl]
    have ht' : fitT text = ⟨#[]⟩ := by simp [fitT, hb]
    have hc : fitC text = 2 := by simp [fitC, hb]
    rw [hb, ht', hc]
    refine (Ses.set_long text bs none none 0 w (by omega) ht h).mono ?_
    rintro e w' ⟨rfl, rfl⟩
    exact ⟨rfl, fun B hB => ⟨.map none, .map none, 0, _, _, ⟨es_nil h hB, .inl ⟨rfl, rfl, rfl⟩, by decide, by decide, fun i T p hi => by simp at hi⟩, .inl rfl⟩, Ses.Fr.refl _ _⟩

/-- The document's session behind its first Set. -/
structure Y0 (w w' : World) (br : Nat) (fv : Value) (text : ByteArray) (there : Bool) (rev : Int) : Prop where
  s : w'.heap[br]? = some (.cells #[fv, .slice none 0 0, .int .i64 rev, .int .i64 0, .slice none 0 0] 32)
  fl : Fl fv text there w'
  lt : ∀ b, fv.ownBlock = some b → b < w'.heap.size ∧ b ≠ br

theorem yset_any (text : ByteArray) (ht : text.size ≤ maxLen) (br : Nat) (w : World) (h : w.heap[br]? = some (Ses.rBlk (.slice none 0 0) 0)) :
    Calls Tryz.prog 8 #[.pointer (some ⟨br, 0, none⟩), .string ⟨#[97]⟩, .string text] w fun e w' => e = .returned (.int .i64 (fitC text)) ∧ (∃ fv rev, Y0 w w' br fv (fitT text) (fitB text) rev) ∧ Ses.Fr [br] w w' := by
  by_cases hl : text.size ≤ 400
  · have hb : fitB text = true := by simp [fitB, hl]
    have ht' : fitT text = text := by simp [fitT, hb]
    have hc : fitC text = 0 := by simp [fitC, hb]
    rw [hb, ht', hc]
    refine (Ses.rset_first text br w hl h).mono ?_
    rintro e w' ⟨rfl, bf, cap, hbf, ⟨g1, g2, rest, g3⟩, hF⟩
    refine ⟨rfl, ⟨_, 1, g2, .inr ⟨bf, cap, 1, rfl, rfl, (Ses.fc_of (rest := rest) g3).k0, (Ses.fc_of (rest := rest) g3).k1, (Ses.fc_of (rest := rest) g3).k2, (Ses.fc_of (rest := rest) g3).k3⟩, fun b hb => ?_⟩, hF⟩
    have : bf = b := by simpa [Value.ownBlock] using hb
    subst this
    exact ⟨Ses.heap_lt g3, g1⟩
  · have hb : fitB text = false := by simp [fitB, hl]
    have ht' : fitT text = ⟨#[]⟩ := by simp [fitT, hb]
    have hc : fitC text = 2 := by simp [fitC, hb]
    rw [hb, ht', hc]
    refine (Ses.rset_long text br w _ _ (by omega) ht h).mono ?_
    rintro e w' ⟨rfl, hbl⟩
    exact ⟨rfl, ⟨_, 0, Ses.below_heap hbl h, .inl ⟨rfl, rfl, rfl⟩, fun b hb => by simp [Value.ownBlock] at hb⟩, Ses.Fr.of_below hbl⟩

theorem below_seq' {B : Nat} {a w w' : World} (h : Below B a w) (hB : B ≤ w.heap.size) (h' : Below w.heap.size w w') : Below B a w' :=
  ⟨h'.os.trans h.os, h'.tape.trans h.tape, h'.output.trans h.output, Nat.le_trans h.size h'.size, fun q hq => (h'.block q (by omega)).trans (h.block q hq)⟩

/-- The sessions stand side by side. -/
theorem start_bo {text : ByteArray} {W0 W1 w3 w4 W5 : World} {fv : Value} {rev : Int} {lb : Nat} (items : List It) (hbl : Below W0.heap.size W0 W1) (hsz : W1.heap.size = W0.heap.size + 2) (hx : ∀ B, W0.heap.size < B → X0 w3 W0.heap.size B (fitT text) (fitB text))
    (hF : Ses.Fr [W0.heap.size] W1 w3) (hbr : w3.heap[W0.heap.size + 1]? = some (Ses.rBlk (.slice none 0 0) 0)) (hy : Y0 w3 w4 (W0.heap.size + 1) fv (fitT text) (fitB text) rev) (hF2 : Ses.Fr [W0.heap.size + 1] w3 w4)
    (hb5 : Below w4.heap.size w4 W5) (hl : W5.cell? ⟨lb, 0, none⟩ = some (.string ⟨#[]⟩)) (hlb : w4.heap.size ≤ lb ∧ lb < W5.heap.size) :
    Bo W0 W5 W0.heap.size (W0.heap.size + 1) W5.heap.size lb fv (fitT text) (fitB text) items 0 0 rev := by
  have z1 := hF.size
  have z2 := hF2.size
  have z3 := hb5.size
  have hky : KY (W0.heap.size + 1) w3 w4 := ⟨z2, fun q o hq hn _ => (hF2.block q (by
    rcases Nat.lt_or_ge q w3.heap.size with h1 | h1
    · exact h1
    · rw [Array.getElem?_eq_none h1] at hq; simp at hq) (by simpa using hn)).trans hq⟩
  have hx4 : XSt w4 W0.heap.size W5.heap.size (fitT text) (fitB text) items 0 := XSt.ky (m := 0) hky (hx W5.heap.size (by omega)) (by omega) (by omega) ⟨_, _, _, hbr⟩
  have hfn : fv.ownBlock ≠ some W0.heap.size := by
    intro e
    obtain ⟨f, q, rv, bg, kv, hx5, _⟩ := hx4
    have h0 : w4.cell? ⟨W0.heap.size, 0, none⟩ = some f := heap_cell (i := 0) hx5.es.s
    rcases hy.fl with ⟨h1, _⟩ | ⟨fb, c, ch, h1, h2, h3, _⟩
    · rw [h1] at e; simp [Value.ownBlock] at e
    · rw [h1] at e
      have h4 : fb = W0.heap.size := by simpa [Value.ownBlock] using e
      subst h4
      rw [h0] at h3
      rcases hx5.xf with ⟨_, _, h5⟩ | ⟨_, bm, h5, _⟩ <;> rw [h5] at h3 <;> simp at h3
  refine ⟨below_seq' (below_fr (below_fr hbl (by omega) hF (by simp)) (by omega) hF2 (by simp)) (by omega) hb5, hx4.below hb5, ⟨by omega, by omega, by omega⟩, ?_, hy.fl.below hb5, fun b hb => ?_, Nat.le_refl _, hl, ⟨hlb.2, by omega, by omega⟩, ⟨by omega, by omega, by omega⟩⟩
  · refine ⟨.slice none 0 0, .slice none 0 0, [], [], 0, ⟨?_, by omega, World.ownsRow_nil _ _ _ _, World.ownsRow_nil _ _ _ _, fun b hb => by simp [Value.ownBlock] at hb⟩, fun j hj => by omega, by omega, by omega⟩
    exact Ses.below_heap hb5 hy.s
  · have := hy.lt b hb
    exact ⟨by omega, this.2, fun e => hfn (by rw [← e]; exact hb)⟩

end Go.Proofs.YtfekglokoafpiaaGreatDoor

namespace Go.Proofs.YtfekglokoafpiaaGreatDoor
open Go.RowKit

set_option maxRecDepth 100000 in
set_option maxHeartbeats 1000000 in
theorem xshown_any (text : ByteArray) (ht : text.size ≤ maxLen) (W0 : World) (hp : PT W0.heap.size W0) :
    Calls Tryz.prog 4 #[.string text, .slice none 0 0, .int .i64 1, .int .i64 4] W0 fun e w' => e = .returned (.bool true) ∧ Below W0.heap.size W0 w' := by
  have HT := hid ht
  have HP := hid hp
  clear ht hp
  go_enter Tryz.func4, Tryz.ntmps4
  go_wp2_with fail
  refine (Ses.new_any _).mono ?_
  rintro e w1 ⟨rfl, rfl⟩
  go_wp2_with fail
  have hA := new_heap W0 (.cells #[.map none, .int .i64 0, .map none, .map none, .slice none 0 0, .slice none 0 0, .int .u64 0] 51)
  have hA2 := old_heap (.cells #[.slice none 0 0, .slice none 0 0, .int .i64 0, .int .i64 0, .slice none 0 0] 32) hA
  have hR := new_heap (W0.alloc (.cells #[.map none, .int .i64 0, .map none, .map none, .slice none 0 0, .slice none 0 0, .int .u64 0] 51)) (.cells #[.slice none 0 0, .slice none 0 0, .int .i64 0, .int .i64 0, .slice none 0 0] 32)
  rw [show (W0.alloc (.cells #[.map none, .int .i64 0, .map none, .map none, .slice none 0 0, .slice none 0 0, .int .u64 0] 51)).heap.size = W0.heap.size + 1 from by simp] at hR
  have hbl : Below W0.heap.size W0 ((W0.alloc (.cells #[.map none, .int .i64 0, .map none, .map none, .slice none 0 0, .slice none 0 0, .int .u64 0] 51)).alloc (.cells #[.slice none 0 0, .slice none 0 0, .int .i64 0, .int .i64 0, .slice none 0 0] 32)) := ((Below.refl _ _).alloc (Nat.le_refl _) _).alloc (by simp) _
  have hsz : ((W0.alloc (.cells #[.map none, .int .i64 0, .map none, .map none, .slice none 0 0, .slice none 0 0, .int .u64 0] 51)).alloc (.cells #[.slice none 0 0, .slice none 0 0, .int .i64 0, .int .i64 0, .slice none 0 0] 32)).heap.size = W0.heap.size + 2 := by simp
  generalize (W0.alloc (.cells #[.map none, .int .i64 0, .map none, .map none, .slice none 0 0, .slice none 0 0, .int .u64 0] 51)).alloc (.cells #[.slice none 0 0, .slice none 0 0, .int .i64 0, .int .i64 0, .slice none 0 0] 32) = W1 at hA2 hR hbl hsz ⊢
  have HR := hid hR
  have HBL := hid hbl
  have HSZ := hid hsz
  have HXS := hid (xset_any text HT.out W0.heap.size W1 hA2)
  clear hA hA2 hR hbl hsz
  refine (HXS.out).mono ?_
  rintro e w2 ⟨rfl, hx, hF⟩
  have HX := hid hx
  have HF := hid hF
  have HR2 := hid (hF.heap HR.out (by simp))
  clear hx hF HXS
  go_wp2_with fail
  refine (Ses.num_any _ _).mono ?_
  rintro e w3 ⟨rfl, rfl⟩
  go_wp2_with fail
  refine (yset_any text HT.out (W0.heap.size + 1) _ HR2.out).mono ?_
  rintro e w4 ⟨rfl, ⟨fv, rev, hy⟩, hF2⟩
  have HY := hid hy
  have HF2 := hid hF2
  clear hy hF2
  go_wp2_with fail
  obtain ⟨cc, hcc⟩ : ∃ cc, cc = (Question.appendCap 1 0 9).cut (w4.tape w4.drawn (Question.appendCap 1 0 9)) := ⟨_, rfl⟩
  rw [← hcc]
  have hl5 : ((w4.alloc (.cells #[.string ⟨#[]⟩] 9)).alloc (.cells (#[.string ⟨#[]⟩] ++ Builtin.zeroCells #[.string ⟨#[]⟩] (cc - 1)) 9)).drew.cell? ⟨w4.heap.size + 1, 0, none⟩ = some (.string ⟨#[]⟩) := by
    have h1 := new_heap (w4.alloc (.cells #[.string ⟨#[]⟩] 9)) (.cells (#[.string ⟨#[]⟩] ++ Builtin.zeroCells #[.string ⟨#[]⟩] (cc - 1)) 9)
    rw [show (w4.alloc (.cells #[.string ⟨#[]⟩] 9)).heap.size = w4.heap.size + 1 from by simp] at h1
    have h2 := heap_cell (i := 0) h1
    rw [Array.getElem?_append_left (by simp)] at h2
    exact h2
  have hb5 : Below w4.heap.size w4 ((w4.alloc (.cells #[.string ⟨#[]⟩] 9)).alloc (.cells (#[.string ⟨#[]⟩] ++ Builtin.zeroCells #[.string ⟨#[]⟩] (cc - 1)) 9)).drew := (((Below.refl _ _).alloc (Nat.le_refl _) _).alloc (by simp) _).drew
  have hz5 : w4.heap.size + 1 < ((w4.alloc (.cells #[.string ⟨#[]⟩] 9)).alloc (.cells (#[.string ⟨#[]⟩] ++ Builtin.zeroCells #[.string ⟨#[]⟩] (cc - 1)) 9)).drew.heap.size := by
    rw [drew_heap]; simp
  generalize ((w4.alloc (.cells #[.string ⟨#[]⟩] 9)).alloc (.cells (#[.string ⟨#[]⟩] ++ Builtin.zeroCells #[.string ⟨#[]⟩] (cc - 1)) 9)).drew = W5 at hl5 hb5 hz5 ⊢
  have hd := docT (fitT text) (fitT_size text)
  have hto := treeOk hd.wf W5
  have hbo := start_bo (treeAll (lexAll (fitT text))).1 HBL.out HSZ.out HX.out HF.out HR2.out HY.out HF2.out hb5 hl5 ⟨by omega, hz5⟩
  obtain ⟨ss, hss⟩ := lines_ex hbo.fl hd hto
  obtain ⟨items, fl, hbo, htl⟩ : ∃ items fl, Bo W0 W5 W0.heap.size (W0.heap.size + 1) W5.heap.size (w4.heap.size + 1) fv (fitT text) (fitB text) items 0 0 rev ∧ TextOk (fitT text) items fl ss := ⟨_, _, hbo, hd, hto, hss⟩
  have HBO := hid hbo
  have HTL := hid htl
  clear hcc hl5 hb5 hz5 hbo hd hto hss htl HBL HSZ HX HF HY HF2 HR HR2
  generalize w4.heap.size + 1 = lb at HBO ⊢
  generalize W0.heap.size + 1 = br at HBO ⊢
  generalize W0.heap.size = bs at HBO ⊢
  go_loopg [13] 4 (fun f kv wr => ∃ k n : Nat, k = n + 1 ∧ n + f = 4 ∧ kv = .int .i64 (k : Nat) ∧ Bo W0 wr bs br W5.heap.size lb fv (fitT text) (fitB text) items n n rev)
  case atStart => exact ⟨1, 0, by omega, by omega, rfl, HBO.out⟩
  case round =>
    obtain ⟨k, n, hkn, hn, rfl, hbo⟩ := hrel
    have HB := hid hbo
    have HKN := hid hkn
    have l0 : wr.cell? ⟨lb, 0, none⟩ = some (.string ⟨#[]⟩) := hbo.l
    by_cases hlt : n < 4
    · have hk4 : (k : Int) ≤ 4 := by omega
      clear hbo hkn
      go_wp2_with fail
      refine wp_loop_rounds 2 ?_
      rw [rounds_succ]
      go_wp2_with fail
      refine (both_x HB.out HP.out HTL.out (by omega) k HKN.out).mono ?_
      rintro e w6 ⟨rfl, hb6⟩
      have HB6 := hid hb6
      have l6 : w6.cell? ⟨lb, 0, none⟩ = some (.string ⟨#[]⟩) := hb6.l
      clear hb6
      go_wp2_with fail
      refine (both_y HB6.out HP.out HTL.out (by omega) k HKN.out).mono ?_
      rintro e w7 ⟨rfl, hb7⟩
      have HB7 := hid hb7
      clear hb7
      generalize ansT (fitT text) (fitB text) items fl ss k = at_
      go_wp2_with fail
      refine (Ses.num_any _ _).mono ?_
      rintro e w8 ⟨rfl, rfl⟩
      go_wp2
      rw [rounds_succ]
      go_wp2
      go_roundg (4 - (n + 1))
      case rel => exact ⟨k + 1, n + 1, by have := HKN.out; omega, by omega, by go_num, HB7.out⟩
      case measure => omega
    · have hk4 : ¬ ((k : Int) ≤ 4) := by omega
      clear hbo hkn
      go_wp2
      go_ret
      exact ⟨rfl, HB.out.base⟩

end Go.Proofs.YtfekglokoafpiaaGreatDoor

namespace Go.Proofs.YtfekglokoafpiaaGreatDoor
open Go.RowKit

set_option maxRecDepth 100000 in
set_option maxHeartbeats 1000000 in
theorem reads_any (text : ByteArray) (ht : text.size ≤ maxLen) (W0 : World) (hp : PT W0.heap.size W0) :
    Calls Tryz.prog 3 #[.string text] W0 fun e w' => e = .returned (.bool true) ∧ Below W0.heap.size W0 w' := by
  have HT := hid ht
  have HP := hid hp
  clear ht hp
  go_enter Tryz.func3, Tryz.ntmps3
  go_wp2_with fail
  refine (xshown_any _ ?hlen W0 HP.out).mono ?_
  case hlen => decide
  rintro e w1 ⟨rfl, hb1⟩
  have HB1 := hid hb1
  clear hb1
  go_wp2_with fail
  refine (xshown_any _ HT.out w1 (HP.out.up HB1.out)).mono ?_
  rintro e w2 ⟨rfl, hb2⟩
  go_wp2
  go_ret
  exact ⟨rfl, below_seq HB1.out hb2⟩

end Go.Proofs.YtfekglokoafpiaaGreatDoor
