/-
  Both sessions, side by side: what a Remove of the file a does to the two, and what Look then tells.
-/
import Derived.Test.YtigolgnppcfceaaW13
namespace Go.Proofs.Ytigolgnppcfceaa
open Go.RowKit

/-- The file a is gone, in both. -/
structure S2 (bp bs br bm bq bc bf cap : Nat) (r : Int) (rest : Array Value) (hp : Array Obj) : Prop where
  p : hp[bp]? = some (pBlk bs br)
  s : PC hp bs bm bq bc r (.map #[] 1)
  q : hp[br]? = some (rBlk (.slice (some ⟨bf, 0, none⟩) 1 cap) r)
  f : hp[bf]? = some (gBlk r rest)

def Fin (bp bs br : Nat) (hp : Array Obj) : Prop :=
  S0 bp bs br hp ∨ (∃ bm bq bc bf cap t r r0 rest, S1 bp bs br bm bq bc bf cap t r r0 rest hp) ∨ ∃ bm bq bc bf cap r rest, S2 bp bs br bm bq bc bf cap r rest hp

def BothGone (W0 w : World) (bp bs br : Nat) : Prop :=
  ∃ (c : Int) (Q : Array Obj → Prop),
    Calls Try.prog 8 #[sPtr bs, .string ⟨#[97]⟩] w (fun e w' => e = .returned (.int .i64 c) ∧ EnvW W0 w' ∧ Q w'.heap) ∧
    (∀ hp, Q hp → hp[bp]? = some (pBlk bs br)) ∧
    ∀ W, EnvW W0 W → Q W.heap → Calls Try.prog 9 #[sPtr br, .string ⟨#[97]⟩] W (fun e w' => e = .returned (.int .i64 c) ∧ EnvW W0 w' ∧ Fin bp bs br w'.heap)

set_option maxHeartbeats 1000000 in
theorem gone (W0 w : World) (bp bs br : Nat) (hE : EnvW W0 w) (hN : Near W0.heap.size bp bs br) (hS : St W0.heap.size bp bs br w.heap) : BothGone W0 w bp bs br := by
  obtain ⟨lp, ls, lr, n1, n2, n3⟩ := hN
  rcases hS with h | ⟨bm, bq, bc, bf, cap, t, r, r0, rest, hf, h1, h2, h⟩
  · refine ⟨4, S0 bp bs br, (remove_nil bs none 0 w h.s).mono ?_, fun hp q => q.p, ?_⟩
    · rintro e w' ⟨rfl, hb⟩; exact ⟨rfl, hE.grow hb, h.grow hb⟩
    · intro W hEW q
      refine (rremove_none br W 0 q.r).mono ?_
      rintro e w' ⟨rfl, hb⟩
      exact ⟨rfl, hEW.grow hb, .inl (q.grow hb)⟩
  obtain ⟨hd, am, aq, ac, lf, f1, f2, f3, f4, f5, f6⟩ := hf
  by_cases hr : r = 1000
  · subst hr
    refine ⟨5, S1 bp bs br bm bq bc bf cap t 1000 r0 rest, (remove_full t bs bm bq bc w h.s).mono ?_, fun hp q => q.p, ?_⟩
    · rintro e w' ⟨rfl, hb⟩; exact ⟨rfl, hE.grow hb, h.grow hb⟩
    · intro W hEW q
      refine (rremove_full t br bf cap r0 rest W q.r q.f).mono ?_
      rintro e w' ⟨rfl, hb⟩
      exact ⟨rfl, hEW.grow hb, .inr (.inl ⟨bm, bq, bc, bf, cap, t, 1000, r0, rest, q.grow hb⟩)⟩
  · have m1 := hd.ms; have m2 := hd.qs; have m3 := hd.cs; have m4 := hd.mq; have m5 := hd.mc; have m6 := hd.qc
    have a1 := am.p; have a2 := am.r; have a3 := am.l; have b1 := aq.p; have b2 := aq.r; have c1 := ac.p; have c2 := ac.r; have c3 := ac.l
    have j1 : bp ∉ [bs, bm, bc] := by simp; omega
    have j2 : br ∉ [bs, bm, bc] := by simp; omega
    have j3 : bf ∉ [bs, bm, bc] := by simp; omega
    have j4 : ∀ k, k ∈ [bs, bm, bc] → W0.heap.size ≤ k := by simp; omega
    have k1 : bp ∉ [br, bf] := by simp; omega
    have k2 : bs ∉ [br, bf] := by simp; omega
    have k3 : bm ∉ [br, bf] := by simp; omega
    have k4 : bq ∉ [br, bf] := by simp; omega
    have k5 : bc ∉ [br, bf] := by simp; omega
    have k6 : ∀ k, k ∈ [br, bf] → W0.heap.size ≤ k := by simp; omega
    have hr3 : r < 1000 := by omega
    refine ⟨0, fun hp => hp[bp]? = some (pBlk bs br) ∧ PC hp bs bm bq bc (r + 1) (.map #[] 1) ∧ hp[br]? = some (rBlk (.slice (some ⟨bf, 0, none⟩) 1 cap) r) ∧ hp[bf]? = some (fBlk t r0 rest), (remove_yes t bs bm bq bc r w h1 hr3 hd h.s).mono ?_, fun hp q => q.1, ?_⟩
    · rintro e w' ⟨rfl, hP, hF⟩
      exact ⟨rfl, hE.fr hF j4, hF.heap h.p j1, hP, hF.heap h.r j2, hF.heap h.f j3⟩
    · rintro W hEW ⟨hp, hP, hr1, hf1⟩
      refine (rremove_yes t br bf cap r r0 rest W h1 hr3 f2 hr1 hf1).mono ?_
      rintro e w' ⟨rfl, g1, g2, hF⟩
      exact ⟨rfl, hEW.fr hF k6, .inr (.inr ⟨bm, bq, bc, bf, cap, r + 1, rest, ⟨hF.heap hp k1, hP.belowS hF k2 k3 k4 k5, g1, g2⟩⟩)⟩

theorem gcell2 {w : World} {bf : Nat} {r : Int} {rest : Array Value} (h : w.heap[bf]? = some (gBlk r rest)) : w.cell? ⟨bf, 2, none⟩ = some (.bool false) := by
  rw [heap_cell h, Array.getElem?_append_left (by simp)]; rfl

theorem looked (w : World) (bp bs br : Nat) (hS : Fin bp bs br w.heap) :
    Calls Try.prog 10 #[sPtr bp] w fun e w' => e = .returned (.bool true) ∧ Below w.heap.size w w' := by
  rcases hS with h | ⟨bm, bq, bc, bf, cap, t, r, r0, rest, h⟩ | ⟨bm, bq, bc, bf, cap, r, rest, h⟩
  · refine pairlook bp bs br 0 0 w h.p (fun W hb => ?_) (fun W hb => ?_)
    · exact look_any bs none none 0 0 W (below_heap hb h.s) fun W2 _ => Maps.len_nil Try.underlying42 3
    · refine rlook_any br W _ 0 0 (below_heap hb h.r) fun wx hx => count_nil br wx ?_
      exact heap_cell (below_heap hx (below_heap hb h.r))
  · refine pairlook bp bs br r 1 w h.p (fun W hb => ?_) (fun W hb => ?_)
    · exact look_any bs (some bm) (some bq) r 1 W (below_heap hb h.s.hs) fun W2 h2 => len_some W2 bm (mEs t) 1 3 (below_heap h2 (below_heap hb h.s.hm))
    · refine rlook_any br W _ r 1 (below_heap hb h.r) fun wx hx => count_one br bf cap true wx ?_ ?_
      · exact heap_cell (below_heap hx (below_heap hb h.r))
      · exact (fc_of (below_heap hx (below_heap hb h.f))).k2
  · refine pairlook bp bs br r 0 w h.p (fun W hb => ?_) (fun W hb => ?_)
    · exact look_any bs (some bm) (some bq) r 0 W (below_heap hb h.s.hs) fun W2 h2 => len_some W2 bm #[] 1 3 (below_heap h2 (below_heap hb h.s.hm))
    · refine rlook_any br W _ r 0 (below_heap hb h.q) fun wx hx => count_one br bf cap false wx ?_ ?_
      · exact heap_cell (below_heap hx (below_heap hb h.q))
      · exact gcell2 (below_heap hx (below_heap hb h.f))
end Go.Proofs.Ytigolgnppcfceaa
