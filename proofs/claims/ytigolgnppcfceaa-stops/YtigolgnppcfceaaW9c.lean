/-
  Change at a first file; put.
-/
import Derived.Test.YtigolgnppcfceaaW9b
namespace Go.Proofs.Ytigolgnppcfceaa
open Go.RowKit

theorem Chn.cell {w w1 : World} {bs bq bc : Nat} {M : Option Nat} {r c : Int} (h : Chn w w1 bs bq bc M r c) (hb : bs < w.heap.size) : Chn w (w1.setCell ⟨bc, 0, none⟩ (.int .i64 r)) bs bq bc M r r := by
  have := h.lc
  exact ⟨(heap_setCell_ne (by omega) _).trans h.s, (heap_setCell_ne h.ne _).trans h.q, heap_setCell_lit (i := 0) h.c _, h.lq, h.lc, h.ne, h.f.setCell _ (.inr h.lc) _⟩

theorem Chn.lower {w W w1 : World} {bs bq bc : Nat} {M : Option Nat} {r c : Int} (h : Chn W w1 bs bq bc M r c) (hF : Fr [bs] w W) : Chn w w1 bs bq bc M r c :=
  ⟨h.s, h.q, h.c, Nat.le_trans hF.size h.lq, Nat.le_trans hF.size h.lc, h.ne, hF.trans h.f⟩

theorem Chn.drew {w w1 : World} {bs bq bc : Nat} {M : Option Nat} {r c : Int} (h : Chn w w1 bs bq bc M r c) : Chn w w1.drew bs bq bc M r c :=
  ⟨h.s, h.q, h.c, h.lq, h.lc, h.ne, h.f.drew⟩

theorem Chn.drewL {w w1 : World} {bs bq bc : Nat} {M : Option Nat} {r c : Int} (h : Chn w.drew w1 bs bq bc M r c) : Chn w w1 bs bq bc M r c :=
  h.lower (Fr.refl _ _).drew

set_option maxHeartbeats 1000000 in
theorem change_first (bs : Nat) (M : Option Nat) (r : Int) (w : World) (hr : 0 ≤ r) (hr2 : r < 1000) (h : w.heap[bs]? = some (sBlk M none r)) :
    Calls Try.prog 20 #[.pointer (some ⟨bs, 1, none⟩), .string ⟨#[97]⟩] w fun e w' => e = .returned (.tuple #[]) ∧ ∃ bq bc, Chn w w' bs bq bc M (r + 1) (r + 1) := by
  have c1 : w.cell? ⟨bs, 1, none⟩ = some (.int .i64 r) := heap_cell h
  have f1 : w.frozen? ⟨bs, 1, none⟩ = false := heap_frozen h
  have HS : Hid ((w.setCell ⟨bs, 1, none⟩ (.int .i64 (r + 1))).heap[bs]? = some (sBlk M none (r + 1))) := heap_setCell_lit (i := 1) h (.int .i64 (r + 1))
  have HF : Hid (Fr [bs] w (w.setCell ⟨bs, 1, none⟩ (.int .i64 (r + 1)))) := (Fr.refl _ _).setCell _ (.inl (by simp)) _
  have HL : Hid (bs < (w.setCell ⟨bs, 1, none⟩ (.int .i64 (r + 1))).heap.size) := by have := heap_lt h; show _ < _; simpa using this
  clear h
  go_enter Try.func20, Try.ntmps20
  go_wp2
  generalize w.setCell ⟨bs, 1, none⟩ (.int .i64 (r + 1)) = W at HS HF HL ⊢
  have d1 : W.cell? ⟨bs, 1, none⟩ = some (.int .i64 (r + 1)) := heap_cell HS.out
  clear c1 f1
  go_region_with (go_at_call 27; go_must (refine (source_new bs M (r + 1) _ (by exact HS.out)).mono ?_; rintro e w' ⟨rfl, hC⟩; have HC : Hid (Chn W w' bs (W.heap.size + 1) W.heap.size M (r + 1) 0) := (by first | exact hC | exact Chn.drewL hC); have d1' : w'.cell? ⟨bs, 1, none⟩ = some (.int .i64 (r + 1)) := heap_cell HC.out.s; have e0' : w'.cell? ⟨W.heap.size, 0, none⟩ = some (.int .i64 0) := heap_cell HC.out.c; have k0' : w'.frozen? ⟨W.heap.size, 0, none⟩ = false := heap_frozen HC.out.c; clear hC))
  all_goals go_wp2
  all_goals go_end0
  all_goals first
    | exact ⟨rfl, _, _, (HC.out.cell HL.out).lower HF.out⟩
    | exact ⟨rfl, _, _, ((HC.out.cell HL.out).lower HF.out).drew⟩

structure Dis (bs bm bq bc : Nat) : Prop where
  ms : bm ≠ bs
  qs : bq ≠ bs
  cs : bc ≠ bs
  mq : bm ≠ bq
  mc : bm ≠ bc
  qc : bq ≠ bc

theorem PC.setO {w : World} {bs bm bq bc : Nat} {r : Int} {o : Obj} (hd : Dis bs bm bq bc) (h : PC w.heap bs bm bq bc r o) (o' : Obj) : PC (setO w bm o').heap bs bm bq bc r o' :=
  ⟨(setO_ne _ _ _ _ hd.ms.symm).trans h.hs, setO_eq _ h.hm, (setO_ne _ _ _ _ hd.mq.symm).trans h.hq, h.hc.imp fun _ e => (setO_ne _ _ _ _ hd.mc.symm).trans e⟩

theorem PC.chg {w w' : World} {bs bm bq bc : Nat} {r r' : Int} {o : Obj} (hd : Dis bs bm bq bc) (h : PC w.heap bs bm bq bc r o) (hc : Chg w w' bs bq bc (some bm) r') : PC w'.heap bs bm bq bc r' o :=
  ⟨hc.s, (hc.f.block bm (heap_lt h.hm) (by simp; exact ⟨hd.ms, hd.mc⟩)).trans h.hm, hc.q, _, hc.c⟩

set_option maxHeartbeats 1000000 in
theorem put_old (t t0 : ByteArray) (bs bm bq bc : Nat) (r : Int) (w : World) (hl : t.size ≤ 400) (hr : 0 ≤ r) (hr2 : r < 1000) (hd : Dis bs bm bq bc) (h : PC w.heap bs bm bq bc r (mBlk t0)) :
    Calls Try.prog 16 #[.pointer (some ⟨bs, 0, none⟩), .string ⟨#[97]⟩, .string t] w fun e w' => e = .returned (.tuple #[]) ∧ PC w'.heap bs bm bq bc (r + 1) (mBlk t) ∧ Fr [bs, bm, bc] w w' := by
  have c0 := h.c0
  have hP : Hid (PC w.heap bs bm bq bc r (mBlk t0)) := h
  clear h
  have hF : Hid (Fr [bs, bm, bc] w w) := Fr.refl _ _
  have hmn : ∀ W : World, (binOp .eql 42 (.map (some bm)) (.map none)).run Try.prog W = .ok (.bool false) W := fun W => run_eql_map_nil W 42 9 65 (some bm) Try.underlying42
  have hst : ∀ W : World, W.heap[bm]? = some (mBlk t0) → (Instr.mapUpdate 42 (.map (some bm)) (.string ⟨#[97]⟩) (.agg #[.string t])).run Try.prog W = .ok () (setO W bm (mBlk t)) := fun W hW => store_old W bm t t0 hW
  have HD : Hid (Dis bs bm bq bc) := hd
  clear hd
  go_enter Try.func16, Try.ntmps16
  go_wp2
  go_region_with (go_at_call 25; go_must (refine (clone_any _ _ ?hh).mono ?_; (case hh => (first | exact hl | decide)); rintro e w' ⟨rfl, hb⟩; have hF : Hid (Fr [bs, bm, bc] w w') := (by first | exact Fr.step hF hb | exact Fr.step (Fr.dr hF) hb | exact Fr.step (Fr.dr (Fr.dr hF)) hb); have hP := PC.hid hb hP; have hm' := hP.out.hm; have c0' := hP.out.c0))
  all_goals
    have HP2 : Hid (PC (setO w' bm (mBlk t)).heap bs bm bq bc r (mBlk t)) := PC.setO HD.out hP.out (mBlk t)
    have HF2 : Hid (Fr [bs, bm, bc] w (setO w' bm (mBlk t))) := hF.out.setO bm (.inl (by simp)) (mBlk t)
    obtain ⟨cc, hcc⟩ := HP2.out.hc
  all_goals go_wp2_with fail
  all_goals refine (change_old bs bq bc (some bm) r cc _ hr hr2 (by exact HP2.out.hs) (by exact HP2.out.hq) (by exact hcc) HD.out.cs HD.out.qs HD.out.qc).mono ?_
  all_goals rintro e w2 ⟨rfl, hch⟩
  all_goals
    have HCH : Hid (Chg (setO w' bm (mBlk t)) w2 bs bq bc (some bm) (r + 1)) := (by first | exact hch | exact ⟨hch.s, hch.q, hch.c, ⟨hch.f.os, hch.f.tape, hch.f.output, hch.f.size, hch.f.block⟩⟩)
  all_goals go_wp2
  all_goals go_end0
  all_goals exact ⟨rfl, HP2.out.chg HD.out HCH.out, HF2.out.trans (HCH.out.f.mono (fun k hk => .inl (by simp at hk ⊢; omega)))⟩

end Go.Proofs.Ytigolgnppcfceaa
