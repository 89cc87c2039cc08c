/-
  Both sessions, side by side: what a Set of the file a does to the two.
-/
import Derived.Test.YtigolgnppcfceaaW12
namespace Go.Proofs.Ytigolgnppcfceaa
open Go.RowKit

/-- Of what was there nothing has turned. -/
structure Env (W0 : World) (os : Os) (tape : Nat → Question → Nat) (output : Array (Nat × ByteArray)) (hp : Array Obj) : Prop where
  os : os = W0.os
  tape : tape = W0.tape
  output : output = W0.output
  size : W0.heap.size ≤ hp.size
  old : ∀ k, k < W0.heap.size → hp[k]? = W0.heap[k]?

def EnvW (W0 w : World) : Prop := Env W0 w.os w.tape w.output w.heap

theorem EnvW.below {W0 w : World} (h : EnvW W0 w) : Below W0.heap.size W0 w := ⟨h.os, h.tape, h.output, h.size, h.old⟩
theorem EnvW.of_below {W0 w : World} (h : Below W0.heap.size W0 w) : EnvW W0 w := ⟨h.os, h.tape, h.output, h.size, h.block⟩
theorem EnvW.fr {W0 w w' : World} {S : List Nat} (h : EnvW W0 w) (hF : Fr S w w') (hS : ∀ k, k ∈ S → W0.heap.size ≤ k) : EnvW W0 w' :=
  ⟨hF.os.trans h.os, hF.tape.trans h.tape, hF.output.trans h.output, Nat.le_trans h.size hF.size, fun k hk =>
    (hF.block k (Nat.lt_of_lt_of_le hk h.size) (fun e => by have := hS k e; omega)).trans (h.old k hk)⟩
theorem EnvW.grow {W0 w w' : World} (h : EnvW W0 w) (hb : Below w.heap.size w w') : EnvW W0 w' := h.fr (Fr.of_below (S := []) hb) (by simp)

theorem Fr.heap {S : List Nat} {w w' : World} (h : Fr S w w') {b : Nat} {o : Obj} (hb : w.heap[b]? = some o) (hn : b ∉ S) : w'.heap[b]? = some o :=
  (h.block b (heap_lt hb) hn).trans hb

def pBlk (bs br : Nat) : Obj := .cells #[.pointer (some ⟨bs, 0, none⟩), .pointer (some ⟨br, 0, none⟩)] 33
def sPtr (b : Nat) : Value := .pointer (some ⟨b, 0, none⟩)

/-- No file yet. -/
structure S0 (bp bs br : Nat) (hp : Array Obj) : Prop where
  p : hp[bp]? = some (pBlk bs br)
  s : hp[bs]? = some (sBlk none none 0)
  r : hp[br]? = some (rBlk (.slice none 0 0) 0)

/-- The file a has the text t, in both. -/
structure S1 (bp bs br bm bq bc bf cap : Nat) (t : ByteArray) (r r0 : Int) (rest : Array Value) (hp : Array Obj) : Prop where
  p : hp[bp]? = some (pBlk bs br)
  s : PC hp bs bm bq bc r (mBlk t)
  r : hp[br]? = some (rBlk (.slice (some ⟨bf, 0, none⟩) 1 cap) r)
  f : hp[bf]? = some (fBlk t r0 rest)

structure Aw (B bp br k : Nat) : Prop where
  l : B ≤ k
  p : k ≠ bp
  r : k ≠ br

structure Far (B bp bs br bm bq bc bf : Nat) : Prop where
  d : Dis bs bm bq bc
  m : Aw B bp br bm
  q : Aw B bp br bq
  c : Aw B bp br bc
  lf : B ≤ bf
  ne : bf ≠ bs ∧ bf ≠ br ∧ bf ≠ bp ∧ bf ≠ bm ∧ bf ≠ bq ∧ bf ≠ bc

structure Near (B bp bs br : Nat) : Prop where
  lp : B ≤ bp
  ls : B ≤ bs
  lr : B ≤ br
  ne : bp ≠ bs ∧ bp ≠ br ∧ bs ≠ br

def St (B bp bs br : Nat) (hp : Array Obj) : Prop :=
  S0 bp bs br hp ∨ ∃ bm bq bc bf cap t r r0 rest, Far B bp bs br bm bq bc bf ∧ 0 ≤ r ∧ r ≤ 1000 ∧ S1 bp bs br bm bq bc bf cap t r r0 rest hp

theorem S0.grow {bp bs br : Nat} {w w' : World} (h : S0 bp bs br w.heap) (hb : Below w.heap.size w w') : S0 bp bs br w'.heap :=
  ⟨below_heap hb h.p, below_heap hb h.s, below_heap hb h.r⟩
theorem S1.grow {bp bs br bm bq bc bf cap : Nat} {t : ByteArray} {r r0 : Int} {rest : Array Value} {w w' : World} (h : S1 bp bs br bm bq bc bf cap t r r0 rest w.heap) (hb : Below w.heap.size w w') : S1 bp bs br bm bq bc bf cap t r r0 rest w'.heap :=
  ⟨below_heap hb h.p, h.s.below hb, below_heap hb h.r, below_heap hb h.f⟩

def BothSet (W0 w : World) (bp bs br : Nat) (T : ByteArray) : Prop :=
  ∃ (c : Int) (Q : Array Obj → Prop),
    Calls Try.prog 5 #[sPtr bs, .string ⟨#[97]⟩, .string T] w (fun e w' => e = .returned (.int .i64 c) ∧ EnvW W0 w' ∧ Q w'.heap) ∧
    (∀ hp, Q hp → hp[bp]? = some (pBlk bs br)) ∧
    ∀ W, EnvW W0 W → Q W.heap → Calls Try.prog 7 #[sPtr br, .string ⟨#[97]⟩, .string T] W (fun e w' => e = .returned (.int .i64 c) ∧ EnvW W0 w' ∧ St W0.heap.size bp bs br w'.heap)

theorem PC.belowS {w w' : World} {bs bm bq bc : Nat} {r : Int} {o : Obj} {S : List Nat} (h : PC w.heap bs bm bq bc r o) (hF : Fr S w w') (h1 : bs ∉ S) (h2 : bm ∉ S) (h3 : bq ∉ S) (h4 : bc ∉ S) : PC w'.heap bs bm bq bc r o := ⟨hF.heap h.hs h1, hF.heap h.hm h2, hF.heap h.hq h3, h.hc.imp fun _ e => hF.heap e h4⟩

theorem PC.lts {w : World} {bs bm bq bc : Nat} {r : Int} {o : Obj} (h : PC w.heap bs bm bq bc r o) : bs < w.heap.size ∧ bm < w.heap.size ∧ bq < w.heap.size ∧ bc < w.heap.size := by
  obtain ⟨c, hc⟩ := h.hc
  exact ⟨heap_lt h.hs, heap_lt h.hm, heap_lt h.hq, heap_lt hc⟩

set_option maxHeartbeats 1000000 in
theorem both (W0 w : World) (bp bs br : Nat) (T : ByteArray) (hT : T.size ≤ maxLen) (hE : EnvW W0 w) (hN : Near W0.heap.size bp bs br) (hS : St W0.heap.size bp bs br w.heap) : BothSet W0 w bp bs br T := by
  obtain ⟨lp, ls, lr, n1, n2, n3⟩ := hN
  by_cases hlong : 400 < T.size
  · -- too long: nothing
    have hset : Calls Try.prog 5 #[sPtr bs, .string ⟨#[97]⟩, .string T] w (fun e w' => e = .returned (.int .i64 2) ∧ w' = w) := by
      rcases hS with h | ⟨_, _, _, _, _, _, _, _, _, _, _, _, h⟩
      · exact set_long T bs none none 0 w hlong hT h.s
      · exact set_long T bs _ _ _ w hlong hT h.s.hs
    refine ⟨2, fun hp => St W0.heap.size bp bs br hp, hset.mono ?_, ?_, ?_⟩
    · rintro e w' ⟨rfl, rfl⟩; exact ⟨rfl, hE, hS⟩
    · rintro hp (h | ⟨_, _, _, _, _, _, _, _, _, _, _, _, h⟩)
      · exact h.p
      · exact h.p
    · rintro W hEW (h | ⟨bm, bq, bc, bf, cap, t, r, r0, rest, hf, h1, h2, h⟩)
      · refine (rset_long T br W _ _ hlong hT h.r).mono ?_
        rintro e w' ⟨rfl, hb⟩
        exact ⟨rfl, hEW.grow hb, .inl (h.grow hb)⟩
      · refine (rset_long T br W _ _ hlong hT h.r).mono ?_
        rintro e w' ⟨rfl, hb⟩
        exact ⟨rfl, hEW.grow hb, .inr ⟨bm, bq, bc, bf, cap, t, r, r0, rest, hf, h1, h2, h.grow hb⟩⟩
  have hl : T.size ≤ 400 := by omega
  rcases hS with h | ⟨bm, bq, bc, bf, cap, t, r, r0, rest, hf, h1, h2, h⟩
  · -- the first text
    refine ⟨0, fun hp => hp[bp]? = some (pBlk bs br) ∧ hp[br]? = some (rBlk (.slice none 0 0) 0) ∧ ∃ bm bq bc, Dis bs bm bq bc ∧ Aw W0.heap.size bp br bm ∧ Aw W0.heap.size bp br bq ∧ Aw W0.heap.size bp br bc ∧ PC hp bs bm bq bc 1 (mBlk T), (set_new T bs 0 w hl (by omega) (by omega) h.s).mono ?_, fun hp q => q.1, ?_⟩
    · rintro e w' ⟨rfl, bm, bq, bc, hn⟩
      have := heap_lt h.p; have := heap_lt h.s; have := heap_lt h.r
      have := hE.size
      have := hn.lm; have := hn.lq; have := hn.lc
      exact ⟨rfl, hE.fr hn.f (by simp; exact ls), hn.f.heap h.p (by simpa using n1), hn.f.heap h.r (by simpa using n3.symm), bm, bq, bc, hn.d, ⟨by omega, by omega, by omega⟩, ⟨by omega, by omega, by omega⟩, ⟨by omega, by omega, by omega⟩, hn.p⟩
    · rintro W hEW ⟨hp, hr, bm, bq, bc, hd, am, aq, ac, hP⟩
      refine (rset_first T br W hl hr).mono ?_
      rintro e w' ⟨rfl, bf, cap, hbf, ⟨g1, g2, rest, g3⟩, hF⟩
      have := heap_lt hp; have := heap_lt hr; have hlt := hP.lts
      have := hEW.size
      have z1 := am.r; have z2 := aq.r; have z3 := ac.r
      refine ⟨rfl, hEW.fr hF (by simp; exact lr), .inr ⟨bm, bq, bc, bf, cap, T, 1, 1, rest, ⟨hd, am, aq, ac, by omega, by omega, by omega, by omega, by omega, by omega, by omega⟩, by omega, by omega, ⟨hF.heap hp (by simpa using n2), hP.belowS hF (by simpa using n3) (by simpa using z1) (by simpa using z2) (by simpa using z3), g2, g3⟩⟩⟩
  have hfar := hf
  obtain ⟨hd, am, aq, ac, lf, f1, f2, f3, f4, f5, f6⟩ := hf
  by_cases hs : (t.toList == T.toList) = true
  · -- the same text
    refine ⟨0, S1 bp bs br bm bq bc bf cap t r r0 rest, (set_same T t bs bm bq bc r w hl hs h.s).mono ?_, fun hp q => q.p, ?_⟩
    · rintro e w' ⟨rfl, hb⟩; exact ⟨rfl, hE.grow hb, h.grow hb⟩
    · intro W hEW q
      refine (rset_same T t br bf cap r r0 rest W hl hs q.r q.f).mono ?_
      rintro e w' ⟨rfl, hb⟩
      exact ⟨rfl, hEW.grow hb, .inr ⟨bm, bq, bc, bf, cap, t, r, r0, rest, hfar, h1, h2, q.grow hb⟩⟩
  have hs' : (t.toList == T.toList) = false := by simpa using hs
  by_cases hr : r = 1000
  · subst hr
    refine ⟨5, S1 bp bs br bm bq bc bf cap t 1000 r0 rest, (set_full T t bs bm bq bc w hl hs' h.s).mono ?_, fun hp q => q.p, ?_⟩
    · rintro e w' ⟨rfl, hb⟩; exact ⟨rfl, hE.grow hb, h.grow hb⟩
    · intro W hEW q
      refine (rset_full T t br bf cap r0 rest W hl hs' q.r q.f).mono ?_
      rintro e w' ⟨rfl, hb⟩
      exact ⟨rfl, hEW.grow hb, .inr ⟨bm, bq, bc, bf, cap, t, 1000, r0, rest, hfar, h1, h2, q.grow hb⟩⟩
  · have m1 := hd.ms; have m2 := hd.qs; have m3 := hd.cs; have m4 := hd.mq; have m5 := hd.mc; have m6 := hd.qc
    have a1 := am.p; have a2 := am.r; have a3 := am.l; have b1 := aq.p; have b2 := aq.r; have c1 := ac.p; have c2 := ac.r; have c3 := ac.l
    have j1 : bp ∉ [bs, bm, bc] := by simp; omega
    have j2 : br ∉ [bs, bm, bc] := by simp; omega
    have j3 : bf ∉ [bs, bm, bc] := by simp; omega
    have j4 : ∀ k, k ∈ [bs, bm, bc] → W0.heap.size ≤ k := by simp; omega
    have k1 : bp ∉ [br, bf] := by simp; omega
    have k2 : bs ∉ [br, bf] := by simp; omega
    have k3 : bm ∉ [br, bf] := by simp; omega
    have k4 : bq ∉ [br, bf] := by simp; omega
    have k5 : bc ∉ [br, bf] := by simp; omega
    have k6 : ∀ k, k ∈ [br, bf] → W0.heap.size ≤ k := by simp; omega
    have hr3 : r < 1000 := by omega
    have hr4 : 0 ≤ r + 1 := by omega
    have hr5 : r + 1 ≤ 1000 := by omega
    refine ⟨0, fun hp => hp[bp]? = some (pBlk bs br) ∧ PC hp bs bm bq bc (r + 1) (mBlk T) ∧ hp[br]? = some (rBlk (.slice (some ⟨bf, 0, none⟩) 1 cap) r) ∧ hp[bf]? = some (fBlk t r0 rest), (set_next T t bs bm bq bc r w hl hs' h1 hr3 hd h.s).mono ?_, fun hp q => q.1, ?_⟩
    · rintro e w' ⟨rfl, hP, hF⟩
      exact ⟨rfl, hE.fr hF j4, hF.heap h.p j1, hP, hF.heap h.r j2, hF.heap h.f j3⟩
    · rintro W hEW ⟨hp, hP, hr1, hf1⟩
      refine (rset_next T t br bf cap r r0 rest W hl hs' h1 hr3 f2 hr1 hf1).mono ?_
      rintro e w' ⟨rfl, g1, g2, hF⟩
      exact ⟨rfl, hEW.fr hF k6, .inr ⟨bm, bq, bc, bf, cap, T, r + 1, r + 1, rest, hfar, hr4, hr5, ⟨hF.heap hp k1, hP.belowS hF k2 k3 k4 k5, g1, g2⟩⟩⟩
end Go.Proofs.Ytigolgnppcfceaa
