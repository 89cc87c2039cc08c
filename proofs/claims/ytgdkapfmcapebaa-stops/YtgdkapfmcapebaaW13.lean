/-
  Both sessions, side by side: what a Set of the file a does to the two.
-/
import Derived.Test.YtgdkapfmcapebaaW12
namespace Go.Proofs.Ytgdkapfmcapebaa
open Go.RowKit

/-- Of what was there nothing has turned. -/
structure Env (W0 : World) (os : Os) (tape : Nat → Question → Nat) (output : Array (Nat × ByteArray)) (hp : Array Obj) : Prop where
  os : os = W0.os
  tape : tape = W0.tape
  output : output = W0.output
  size : W0.heap.size ≤ hp.size
  old : ∀ k, k < W0.heap.size → hp[k]? = W0.heap[k]?

def EnvW (W0 w : World) : Prop := Env W0 w.os w.tape w.output w.heap

theorem EnvW.below {W0 w : World} (h : EnvW W0 w) : Below W0.heap.size W0 w := ⟨h.os, h.tape, h.output, h.size, h.old⟩
theorem EnvW.of_below {W0 w : World} (h : Below W0.heap.size W0 w) : EnvW W0 w := ⟨h.os, h.tape, h.output, h.size, h.block⟩
theorem EnvW.fr {W0 w w' : World} {S : List Nat} (h : EnvW W0 w) (hF : Fr S w w') (hS : ∀ k, k ∈ S → W0.heap.size ≤ k) : EnvW W0 w' :=
  ⟨hF.os.trans h.os, hF.tape.trans h.tape, hF.output.trans h.output, Nat.le_trans h.size hF.size, fun k hk =>
    (hF.block k (Nat.lt_of_lt_of_le hk h.size) (fun e => by have := hS k e; omega)).trans (h.old k hk)⟩
theorem EnvW.grow {W0 w w' : World} (h : EnvW W0 w) (hb : Below w.heap.size w w') : EnvW W0 w' := h.fr (Fr.of_below (S := []) hb) (by simp)

theorem Fr.heap {S : List Nat} {w w' : World} (h : Fr S w w') {b : Nat} {o : Obj} (hb : w.heap[b]? = some o) (hn : b ∉ S) : w'.heap[b]? = some o :=
  (h.block b (heap_lt hb) hn).trans hb

def pBlk (bs br : Nat) : Obj := .cells #[.pointer (some ⟨bs, 0, none⟩), .pointer (some ⟨br, 0, none⟩)] 33
def sPtr (b : Nat) : Value := .pointer (some ⟨b, 0, none⟩)

/-- No file yet. -/
structure S0 (bp bs br : Nat) (hp : Array Obj) : Prop where
  p : hp[bp]? = some (pBlk bs br)
  s : hp[bs]? = some (sBlk none 0)
  r : hp[br]? = some (rBlk (.slice none 0 0) 0)

/-- The file a has the text t, in both. -/
structure S1 (bp bs br bm bf cap : Nat) (t : ByteArray) (r r0 : Int) (rest : Array Value) (hp : Array Obj) : Prop where
  p : hp[bp]? = some (pBlk bs br)
  s : PC hp bs bm r (mBlk t)
  r : hp[br]? = some (rBlk (.slice (some ⟨bf, 0, none⟩) 1 cap) r)
  f : hp[bf]? = some (fBlk t r0 rest)

structure Far (B bp bs br bm bf : Nat) : Prop where
  lm : B ≤ bm
  lf : B ≤ bf
  ne : bm ≠ bs ∧ bm ≠ br ∧ bm ≠ bp ∧ bf ≠ bs ∧ bf ≠ br ∧ bf ≠ bp ∧ bm ≠ bf

structure Near (B bp bs br : Nat) : Prop where
  lp : B ≤ bp
  ls : B ≤ bs
  lr : B ≤ br
  ne : bp ≠ bs ∧ bp ≠ br ∧ bs ≠ br

def St (B bp bs br : Nat) (hp : Array Obj) : Prop :=
  S0 bp bs br hp ∨ ∃ bm bf cap t r r0 rest, Far B bp bs br bm bf ∧ 0 ≤ r ∧ r ≤ 1000 ∧ S1 bp bs br bm bf cap t r r0 rest hp

theorem S0.grow {bp bs br : Nat} {w w' : World} (h : S0 bp bs br w.heap) (hb : Below w.heap.size w w') : S0 bp bs br w'.heap :=
  ⟨below_heap hb h.p, below_heap hb h.s, below_heap hb h.r⟩
theorem S1.grow {bp bs br bm bf cap : Nat} {t : ByteArray} {r r0 : Int} {rest : Array Value} {w w' : World} (h : S1 bp bs br bm bf cap t r r0 rest w.heap) (hb : Below w.heap.size w w') : S1 bp bs br bm bf cap t r r0 rest w'.heap :=
  ⟨below_heap hb h.p, h.s.below hb, below_heap hb h.r, below_heap hb h.f⟩

def BothSet (W0 w : World) (bp bs br : Nat) (T : ByteArray) : Prop :=
  ∃ (c : Int) (Q : Array Obj → Prop),
    Calls Try.prog 5 #[sPtr bs, .string ⟨#[97]⟩, .string T] w (fun e w' => e = .returned (.int .i64 c) ∧ EnvW W0 w' ∧ Q w'.heap) ∧
    (∀ hp, Q hp → hp[bp]? = some (pBlk bs br)) ∧
    ∀ W, EnvW W0 W → Q W.heap → Calls Try.prog 7 #[sPtr br, .string ⟨#[97]⟩, .string T] W (fun e w' => e = .returned (.int .i64 c) ∧ EnvW W0 w' ∧ St W0.heap.size bp bs br w'.heap)

theorem PC.belowS {w w' : World} {bs bm : Nat} {r : Int} {o : Obj} {S : List Nat} (h : PC w.heap bs bm r o) (hF : Fr S w w') (h1 : bs ∉ S) (h2 : bm ∉ S) : PC w'.heap bs bm r o := ⟨hF.heap h.hs h1, hF.heap h.hm h2⟩

theorem both (W0 w : World) (bp bs br : Nat) (T : ByteArray) (hT : T.size ≤ maxLen) (hE : EnvW W0 w) (hN : Near W0.heap.size bp bs br) (hS : St W0.heap.size bp bs br w.heap) : BothSet W0 w bp bs br T := by
  obtain ⟨lp, ls, lr, n1, n2, n3⟩ := hN
  by_cases hlong : 400 < T.size
  · -- too long: nothing
    refine ⟨2, fun hp => St W0.heap.size bp bs br hp, (set_long T _ w hlong hT).mono ?_, ?_, ?_⟩
    · rintro e w' ⟨rfl, rfl⟩; exact ⟨rfl, hE, hS⟩
    · rintro hp (h | ⟨_, _, _, _, _, _, _, _, _, _, h⟩)
      · exact h.p
      · exact h.p
    · rintro W hEW (h | ⟨bm, bf, cap, t, r, r0, rest, hf, h1, h2, h⟩)
      · refine (rset_long T br W _ _ hlong hT h.r).mono ?_
        rintro e w' ⟨rfl, hb⟩
        exact ⟨rfl, hEW.grow hb, .inl (h.grow hb)⟩
      · refine (rset_long T br W _ _ hlong hT h.r).mono ?_
        rintro e w' ⟨rfl, hb⟩
        exact ⟨rfl, hEW.grow hb, .inr ⟨bm, bf, cap, t, r, r0, rest, hf, h1, h2, h.grow hb⟩⟩
  have hl : T.size ≤ 400 := by omega
  rcases hS with h | ⟨bm, bf, cap, t, r, r0, rest, hf, h1, h2, h⟩
  · -- the first text
    refine ⟨0, fun hp => hp[bp]? = some (pBlk bs br) ∧ hp[br]? = some (rBlk (.slice none 0 0) 0) ∧ ∃ bm, W0.heap.size ≤ bm ∧ bm ≠ bs ∧ bm ≠ br ∧ bm ≠ bp ∧ PC hp bs bm 1 (mBlk T), (set_new T bs 0 w hl (by omega) (by omega) h.s).mono ?_, fun hp q => q.1, ?_⟩
    · rintro e w' ⟨rfl, bm, hbm, hP, hF⟩
      have := heap_lt h.p; have := heap_lt h.s; have := heap_lt h.r
      have := hE.size
      exact ⟨rfl, hE.fr hF (by simp; exact ls), hF.heap h.p (by simpa using n1), hF.heap h.r (by simpa using n3.symm), bm, by omega, by omega, by omega, by omega, hP⟩
    · rintro W hEW ⟨hp, hr, bm, lm, m1, m2, m3, hP⟩
      refine (rset_first T br W hl hr).mono ?_
      rintro e w' ⟨rfl, bf, cap, hbf, ⟨g1, g2, rest, g3⟩, hF⟩
      have := heap_lt hp; have := heap_lt hP.hs; have := heap_lt hr; have := heap_lt hP.hm
      have := hEW.size
      refine ⟨rfl, hEW.fr hF (by simp; exact lr), .inr ⟨bm, bf, cap, T, 1, 1, rest, ⟨lm, by omega, m1, m2, m3, by omega, by omega, by omega, by omega⟩, by omega, by omega, ⟨hF.heap hp (by simpa using n2), hP.belowS hF (by simpa using n3) (by simpa using m2), g2, g3⟩⟩⟩
  obtain ⟨lm, lf, m1, m2, m3, f1, f2, f3, mf⟩ := hf
  have hfar : Far W0.heap.size bp bs br bm bf := ⟨lm, lf, m1, m2, m3, f1, f2, f3, mf⟩
  by_cases hs : (t.toList == T.toList) = true
  · -- the same text
    refine ⟨0, S1 bp bs br bm bf cap t r r0 rest, (set_same T t bs bm r w hl hs h.s).mono ?_, fun hp q => q.p, ?_⟩
    · rintro e w' ⟨rfl, hb⟩; exact ⟨rfl, hE.grow hb, h.grow hb⟩
    · intro W hEW q
      refine (rset_same T t br bf cap r r0 rest W hl hs q.r q.f).mono ?_
      rintro e w' ⟨rfl, hb⟩
      exact ⟨rfl, hEW.grow hb, .inr ⟨bm, bf, cap, t, r, r0, rest, hfar, h1, h2, q.grow hb⟩⟩
  have hs' : (t.toList == T.toList) = false := by simpa using hs
  by_cases hr : r = 1000
  · subst hr
    refine ⟨5, S1 bp bs br bm bf cap t 1000 r0 rest, (set_full T t bs bm w hl hs' h.s).mono ?_, fun hp q => q.p, ?_⟩
    · rintro e w' ⟨rfl, hb⟩; exact ⟨rfl, hE.grow hb, h.grow hb⟩
    · intro W hEW q
      refine (rset_full T t br bf cap r0 rest W hl hs' q.r q.f).mono ?_
      rintro e w' ⟨rfl, hb⟩
      exact ⟨rfl, hEW.grow hb, .inr ⟨bm, bf, cap, t, 1000, r0, rest, hfar, h1, h2, q.grow hb⟩⟩
  · refine ⟨0, fun hp => hp[bp]? = some (pBlk bs br) ∧ PC hp bs bm (r + 1) (mBlk T) ∧ hp[br]? = some (rBlk (.slice (some ⟨bf, 0, none⟩) 1 cap) r) ∧ hp[bf]? = some (fBlk t r0 rest), (set_next T t bs bm r w hl hs' h1 (by omega) m1 h.s).mono ?_, fun hp q => q.1, ?_⟩
    · rintro e w' ⟨rfl, hP, hF⟩
      exact ⟨rfl, hE.fr hF (by simp; exact ⟨ls, lm⟩), hF.heap h.p (by simp; exact ⟨n1, m3.symm⟩), hP, hF.heap h.r (by simp; exact ⟨n3.symm, m2.symm⟩), hF.heap h.f (by simp; exact ⟨f1, mf.symm⟩)⟩
    · rintro W hEW ⟨hp, hP, hr1, hf1⟩
      refine (rset_next T t br bf cap r r0 rest W hl hs' h1 (by omega) f2 hr1 hf1).mono ?_
      rintro e w' ⟨rfl, g1, g2, hF⟩
      refine ⟨rfl, hEW.fr hF (by simp; exact ⟨lr, lf⟩), .inr ⟨bm, bf, cap, T, r + 1, r + 1, rest, hfar, by omega, by omega, ⟨hF.heap hp (by simp; exact ⟨n2, f3.symm⟩), hP.belowS hF (by simp; exact ⟨n3, f1.symm⟩) (by simp; exact ⟨m2, mf⟩), g1, g2⟩⟩⟩
end Go.Proofs.Ytgdkapfmcapebaa
