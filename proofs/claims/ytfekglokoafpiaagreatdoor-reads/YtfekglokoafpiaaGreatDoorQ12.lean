/-
  The parser: ReadTree.
  The document's parser: an item's steps.
-/
import Derived.Test.YtfekglokoafpiaaGreatDoorQ11

set_option linter.unusedVariables false
set_option linter.unusedSimpArgs false

namespace Go.Proofs.YtfekglokoafpiaaGreatDoor
open Go.RowKit

theorem Tryz.infoItem : (Tryz.prog.info? 135).map (fun i => (i.zero, i.size, i.bytes)) = some (some (.agg #[.int .i64 0, .int .i64 0, .string ⟨#[]⟩, .string ⟨#[]⟩, .nilIface]), 5, 64) := by kernel_rfl

/-- What ReadTree's loop holds: k the fuel. -/
def TreeAt (toks : List Tok) (tb cap : Nat) (w : World) (k : Nat) (wr : World) : Prop :=
  ∃ a v acc f, k = f + 1 ∧ a < toks.length ∧ toks.length - a ≤ f + 1 ∧ acc.length ≤ a ∧ TS toks tb cap w wr a v acc.length (acc.flatMap itCells) (-1) ∧ (acc ++ (treeP toks (f + 1) a).1, (treeP toks (f + 1) a).2) = treeAll toks

theorem five_cells (w : World) (b : Nat) (hb : b = w.heap.size) (x y z u1 u2 : Value) (T : TypeId) : ∀ j u, [x, y, z, u1, u2][j]? = some u → (w.alloc (.cells #[x, y, z, u1, u2] T)).cell? ((⟨b, 0, none⟩ : Addr).add j) = some u := by
  subst hb
  intro j u hj
  match j, hj with
  | 0, hj | 1, hj | 2, hj | 3, hj | 4, hj => simp at hj; subst hj; simp [Addr.add]
  | (n + 5), hj => simp at hj

theorem grown_tree {toks : List Tok} {tb cap : Nat} {w wr w' : World} {a : Nat} {v : Value} {n : Nat} {xs : List Value} {fault : Int} (h : TS toks tb cap w wr a v n xs fault) (hg : wr.grownBy w' v.ownBlock) :
    w'.cell? ⟨w.heap.size + 1 + 1, 0, none⟩ = some v ∧ w'.frozen? ⟨w.heap.size + 1 + 1, 0, none⟩ = false := by
  have hlt := fun k hk => (h.own.lt k hk).1
  have := (hg.block (w.heap.size + 1 + 1) (heap_lt h.tr) fun e => by have := hlt _ e.symm; omega).trans h.tr
  exact ⟨heap_cell this, heap_frozen this⟩

set_option maxRecDepth 100000 in
set_option maxHeartbeats 2000000 in
theorem readTree_any {toks : List Tok} (hw : Wf toks) (tb cap : Nat) (w : World) (ht : ∃ cur, w.heap[tb]? = some (.cells cur 118) ∧ cur.toList.take (3 * toks.length) = tokCells toks) :
    Calls Tryz.prog 93 #[.slice (some ⟨tb, 0, none⟩) toks.length cap] w fun e w' => ∃ v, e = .returned (.agg #[v, faultV (treeAll toks).2]) ∧ w'.ownsRow w.heap.size 135 5 v (treeAll toks).1.length ((treeAll toks).1.flatMap itCells) ∧ Below w.heap.size w w' := by
  obtain ⟨i0', hi', hz0, hz1, hz2⟩ := info_parts Tryz.infoItem
  have HT0 := hid (TS.start (cap := cap) ht)
  have HW := hid hw
  clear hw ht
  go_enter Tryz.func93, Tryz.ntmps93
  go_wp2
  go_loopg [5, 6] toks.length (fun k v5 v6 wr => TreeAt toks tb cap w k wr)
  case atStart => exact ⟨0, _, [], toks.length - 1, by have := HW.out.pos; omega, HW.out.pos, by omega, by simp, HT0.out, by rw [show toks.length - 1 + 1 = toks.length from by have := HW.out.pos; omega]; rfl⟩
  case round =>
    clear HT0
    obtain ⟨a, v, acc, f, rfl, ha, hf, hacc, hts, heq⟩ := hrel
    obtain ⟨ao, m, c, rfl⟩ := hts.shape
    have HTS := hid hts
    have HE := hid heq
    have HL := hid HW.out.le
    clear hts heq
    cases he : eqB (tx toks a) ⟨#[]⟩ with
    | true =>
      have HT : Hid ((acc, (none : Option Nat)) = treeAll toks) := hid (by have h := HE.out; simpa [treeP, he] using h)
      have HB := hid he
      clear he HE
      go_wp2_with (go_at_call 121; go_must (refine (atEnd_any toks _ tb cap a 0 _ HTS.out.ps ha).mono ?_; rw [HB.out]; rintro e w1 ⟨rfl, hb⟩; have HT1 := hid (HTS.out.call (Fr.of_below hb) (HTS.out.ps.below hb)); clear hb; have q0 := HT1.out.r0; have q1 := HT1.out.r1; have f0 := HT1.out.rf 0; have f1 := HT1.out.rf 1; have t0 := HT1.out.t0; have t1 := HT1.out.t1))
      obtain ⟨hr, hown, hbl⟩ := HT1.out.setR (.slice ao m c) (.int .i64 (-1))
      have y0 := heap_cell (i := 0) hr
      have y1 := heap_cell (i := 1) hr
      refine bodyPost_ret (v := .agg #[.slice ao m c, .int .i64 (-1)]) (by simp [results, Tryz.results93, go_sem, y0, y1]; try rfl) rfl ?_
      rw [← HT.out]
      exact ⟨_, rfl, hown, hbl⟩
    | false =>
      rcases hip : itemP toks a with ⟨b, r⟩
      have HIP := hid hip
      cases r with
      | none =>
        have HT : Hid ((acc, some b) = treeAll toks) := hid (by have h := HE.out; simpa [treeP, he, hip] using h)
        clear hip HE
        have HB := hid he
        clear he
        go_wp2_with fail
        refine (atEnd_any toks _ tb cap a 0 _ HTS.out.ps ha).mono ?_
        rw [HB.out]
        rintro e w1 ⟨rfl, hb⟩
        have HT1 := hid (HTS.out.call (Fr.of_below hb) (HTS.out.ps.below hb))
        clear hb
        go_wp2_with fail
        refine (item_any HW.out _ tb cap a _ ha HT1.out.ps).mono ?_
        rw [HIP.out]
        rintro e w2 ⟨⟨v2, rfl, ⟨i0, i1, s2, s3, x4, rfl, hi⟩, hx⟩, hP2, hb2, hF2⟩
        have HT2 := hid (HT1.out.call hF2 hP2)
        clear hP2 hF2
        clear hx
        rcases hi with rfl | ⟨t4, v4, rfl⟩
        · have ht3 := HT2.out.alloc (.cells #[.int .i64 i0, .int .i64 i1, .string s2, .string s3, .nilIface] 135)
          have p1 := ht3.ps.c1
          have u1 := ht3.t1
          have uf1 := ht3.tf 1
          have ht4 := ht3.faulty b
          have t0 := ht4.t0
          have t1 := ht4.t1
          have q0 := ht4.r0
          have q1 := ht4.r1
          have f0 := ht4.rf 0
          have f1 := ht4.rf 1
          obtain ⟨hr, hown, hbl⟩ := ht4.setR (.slice ao m c) (.int .i64 b)
          have y0 : World.cell? _ ⟨w.heap.size, 0, none⟩ = some (.slice ao m c) := heap_cell (i := 0) hr
          have y1 : World.cell? _ ⟨w.heap.size, 1, none⟩ = some (.int .i64 b) := heap_cell (i := 1) hr
          have HR := hid hown
          have HBL := hid hbl
          clear ht3 ht4 hr hown hbl
          go_wp2
          refine bodyPost_ret (v := .agg #[.slice ao m c, .int .i64 b]) (by simp [results, Tryz.results93, go_sem, y0, y1]; try rfl) rfl ?_
          rw [← HT.out]
          exact ⟨_, rfl, HR.out, HBL.out⟩
        · have ht3 := HT2.out.alloc (.cells #[.int .i64 i0, .int .i64 i1, .string s2, .string s3, .iface t4 v4] 135)
          have p1 := ht3.ps.c1
          have u1 := ht3.t1
          have uf1 := ht3.tf 1
          have ht4 := ht3.faulty b
          have t0 := ht4.t0
          have t1 := ht4.t1
          have q0 := ht4.r0
          have q1 := ht4.r1
          have f0 := ht4.rf 0
          have f1 := ht4.rf 1
          obtain ⟨hr, hown, hbl⟩ := ht4.setR (.slice ao m c) (.int .i64 b)
          have y0 : World.cell? _ ⟨w.heap.size, 0, none⟩ = some (.slice ao m c) := heap_cell (i := 0) hr
          have y1 : World.cell? _ ⟨w.heap.size, 1, none⟩ = some (.int .i64 b) := heap_cell (i := 1) hr
          have HR := hid hown
          have HBL := hid hbl
          clear ht3 ht4 hr hown hbl
          go_wp2
          refine bodyPost_ret (v := .agg #[.slice ao m c, .int .i64 b]) (by simp [results, Tryz.results93, go_sem, y0, y1]; try rfl) rfl ?_
          rw [← HT.out]
          exact ⟨_, rfl, HR.out, HBL.out⟩
      | some i =>
        obtain ⟨ik, inum, inm, ity, iex⟩ := i
        have HT : Hid ((acc ++ [⟨ik, inum, inm, ity, iex⟩] ++ (treeP toks f b).1, (treeP toks f b).2) = treeAll toks) := hid (by have h := HE.out; simpa [treeP, he, hip] using h)
        have HGE := hid (itemP_ge HW.out hip)
        clear hip HE
        have HB := hid he
        clear he
        go_wp2_with fail
        refine (atEnd_any toks _ tb cap a 0 _ HTS.out.ps ha).mono ?_
        rw [HB.out]
        rintro e w1 ⟨rfl, hb⟩
        have HT1 := hid (HTS.out.call (Fr.of_below hb) (HTS.out.ps.below hb))
        clear hb
        go_wp2_with fail
        refine (item_any HW.out _ tb cap a _ ha HT1.out.ps).mono ?_
        rw [HIP.out]
        rintro e w2 ⟨⟨v2, rfl, ⟨i0, i1, s2, s3, x4, rfl, hi⟩, hx⟩, hP2, hb2, hF2⟩
        have HT2 := hid (HT1.out.call hF2 hP2)
        clear hP2 hF2
        obtain ⟨f, rfl⟩ : ∃ g, f = g + 1 := ⟨f - 1, by have := HGE.out; omega⟩
        have hxi := hx _ rfl
        simp only [itV, Value.agg.injEq, Array.mk.injEq, List.cons.injEq, Value.int.injEq, Value.string.injEq, true_and, and_true] at hxi
        obtain ⟨rfl, rfl, rfl, rfl, rfl⟩ := hxi
        clear hx
        rcases hi with rfl | ⟨t4, v4, rfl⟩
        · have HT3 := hid (HT2.out.alloc (.cells #[.int .i64 ik, .int .i64 inum, .string s2, .string s3, .nilIface] 135))
          have t0 := HT3.out.t0
          have z0 : (w2.alloc (.cells #[.int .i64 ik, .int .i64 inum, .string s2, .string s3, .nilIface] 135)).cell? ⟨w2.heap.size, 0, none⟩ = some (.int .i64 ik) := heap_cell (i := 0) (new_heap w2 _)
          have z1 : (w2.alloc (.cells #[.int .i64 ik, .int .i64 inum, .string s2, .string s3, .nilIface] 135)).cell? ⟨w2.heap.size, 1, none⟩ = some (.int .i64 inum) := heap_cell (i := 1) (new_heap w2 _)
          have z2 : (w2.alloc (.cells #[.int .i64 ik, .int .i64 inum, .string s2, .string s3, .nilIface] 135)).cell? ⟨w2.heap.size, 2, none⟩ = some (.string s2) := heap_cell (i := 2) (new_heap w2 _)
          have z3 : (w2.alloc (.cells #[.int .i64 ik, .int .i64 inum, .string s2, .string s3, .nilIface] 135)).cell? ⟨w2.heap.size, 3, none⟩ = some (.string s3) := heap_cell (i := 3) (new_heap w2 _)
          have z4 : (w2.alloc (.cells #[.int .i64 ik, .int .i64 inum, .string s2, .string s3, .nilIface] 135)).cell? ⟨w2.heap.size, 4, none⟩ = some (.nilIface) := heap_cell (i := 4) (new_heap w2 _)
          go_wp2_with (at_builtin; go_must (refine wpList_append_own _ rfl _ _ 84 rfl (w.heap.size + 3) 135 i0' (.agg #[.int .i64 0, .int .i64 0, .string ⟨#[]⟩, .string ⟨#[]⟩, .nilIface]) 5 64 Tryz.underlying84 hi' hz0 hz1 hz2 rfl (by decide) _ _ _ rfl (HT3.out.own.alloc _) ⟨_, 0, none⟩ 1 1 [.int .i64 ik, .int .i64 inum, .string s2, .string s3, .nilIface] rfl rfl (five_cells _ _ (by simp) _ _ _ _ _ _) ?c2 ?c3 ?c4 ?c5 ?_))
          case c2 => intro u hu; simp at hu; rcases hu with rfl | rfl | rfl | rfl | rfl <;> rfl
          case c3 => have := HL.out; unfold maxLen; omega
          case c4 => have := HL.out; omega
          case c5 => have := heap_lt HT3.out.tr; simp at *; omega
          intro v' w4 hown' hgrow _
          have ht4 := ((HT3.out.alloc _).put hown' hgrow)
          have g0 := (grown_tree (HT3.out.alloc _) hgrow).1
          have g1 := (grown_tree (HT3.out.alloc _) hgrow).2
          obtain ⟨ao', m', c', rfl⟩ := ht4.shape
          have HT4 := hid ht4
          clear ht4 hown' hgrow
          go_wp2
          go_roundg (f + 1)
          all_goals first
            | omega
            | exact ⟨b, _, acc ++ [⟨ik, inum, s2, s3, .nilIface⟩], f, rfl, hb2, by have := HGE.out; omega, by have := HGE.out; simp; omega, by simpa [itCells] using HT4.out, HT.out⟩
        · have HT3 := hid (HT2.out.alloc (.cells #[.int .i64 ik, .int .i64 inum, .string s2, .string s3, .iface t4 v4] 135))
          have t0 := HT3.out.t0
          have z0 : (w2.alloc (.cells #[.int .i64 ik, .int .i64 inum, .string s2, .string s3, .iface t4 v4] 135)).cell? ⟨w2.heap.size, 0, none⟩ = some (.int .i64 ik) := heap_cell (i := 0) (new_heap w2 _)
          have z1 : (w2.alloc (.cells #[.int .i64 ik, .int .i64 inum, .string s2, .string s3, .iface t4 v4] 135)).cell? ⟨w2.heap.size, 1, none⟩ = some (.int .i64 inum) := heap_cell (i := 1) (new_heap w2 _)
          have z2 : (w2.alloc (.cells #[.int .i64 ik, .int .i64 inum, .string s2, .string s3, .iface t4 v4] 135)).cell? ⟨w2.heap.size, 2, none⟩ = some (.string s2) := heap_cell (i := 2) (new_heap w2 _)
          have z3 : (w2.alloc (.cells #[.int .i64 ik, .int .i64 inum, .string s2, .string s3, .iface t4 v4] 135)).cell? ⟨w2.heap.size, 3, none⟩ = some (.string s3) := heap_cell (i := 3) (new_heap w2 _)
          have z4 : (w2.alloc (.cells #[.int .i64 ik, .int .i64 inum, .string s2, .string s3, .iface t4 v4] 135)).cell? ⟨w2.heap.size, 4, none⟩ = some (.iface t4 v4) := heap_cell (i := 4) (new_heap w2 _)
          go_wp2_with (at_builtin; go_must (refine wpList_append_own _ rfl _ _ 84 rfl (w.heap.size + 3) 135 i0' (.agg #[.int .i64 0, .int .i64 0, .string ⟨#[]⟩, .string ⟨#[]⟩, .nilIface]) 5 64 Tryz.underlying84 hi' hz0 hz1 hz2 rfl (by decide) _ _ _ rfl (HT3.out.own.alloc _) ⟨_, 0, none⟩ 1 1 [.int .i64 ik, .int .i64 inum, .string s2, .string s3, .iface t4 v4] rfl rfl (five_cells _ _ (by simp) _ _ _ _ _ _) ?c2 ?c3 ?c4 ?c5 ?_))
          case c2 => intro u hu; simp at hu; rcases hu with rfl | rfl | rfl | rfl | rfl <;> rfl
          case c3 => have := HL.out; unfold maxLen; omega
          case c4 => have := HL.out; omega
          case c5 => have := heap_lt HT3.out.tr; simp at *; omega
          intro v' w4 hown' hgrow _
          have ht4 := ((HT3.out.alloc _).put hown' hgrow)
          have g0 := (grown_tree (HT3.out.alloc _) hgrow).1
          have g1 := (grown_tree (HT3.out.alloc _) hgrow).2
          obtain ⟨ao', m', c', rfl⟩ := ht4.shape
          have HT4 := hid ht4
          clear ht4 hown' hgrow
          go_wp2
          go_roundg (f + 1)
          all_goals first
            | omega
            | exact ⟨b, _, acc ++ [⟨ik, inum, s2, s3, .iface t4 v4⟩], f, rfl, hb2, by have := HGE.out; omega, by have := HGE.out; simp; omega, by simpa [itCells] using HT4.out, HT.out⟩

end Go.Proofs.YtfekglokoafpiaaGreatDoor

namespace Go.Proofs.YtfekglokoafpiaaGreatDoor
open Go.RowKit

theorem Lst.lit3n {w : World} {x y z : ByteArray} {T : TypeId} {n : Nat} (hn : n = w.heap.size) : Lst (.slice (some ⟨n, 0, none⟩) 3 3) [x, y, z] (w.alloc (.cells #[.string x, .string y, .string z] T)) := by
  subst hn
  refine .inr ⟨w.heap.size, #[.string x, .string y, .string z], T, rfl, by simp, by simp, new_heap _ _, fun i hi => ?_⟩
  simp only [List.length_cons, List.length_nil] at hi
  match i, hi with
  | 0, _ | 1, _ | 2, _ => rfl

theorem Lst.lit2n {w : World} {x y : ByteArray} {T : TypeId} {n : Nat} (hn : n = w.heap.size) : Lst (.slice (some ⟨n, 0, none⟩) 2 2) [x, y] (w.alloc (.cells #[.string x, .string y] T)) := by
  subst hn
  refine .inr ⟨w.heap.size, #[.string x, .string y], T, rfl, by simp, by simp, new_heap _ _, fun i hi => ?_⟩
  simp only [List.length_cons, List.length_nil] at hi
  match i, hi with
  | 0, _ | 1, _ => rfl

def nameS (toks : List Tok) (a : Nat) (no : Bool) : Nat × Bool := if nameB (nx toks a no) then (a + 1, no) else (a, true)
def nameT (toks : List Tok) (a : Nat) (no : Bool) : ByteArray := if nameB (nx toks a no) then tx toks a else ⟨#[]⟩

theorem rname_any {toks : List Tok} (hw : Wf toks) (rb tb cap a nest : Nat) (no : Bool) (w : World) (h : RP toks rb tb cap a nest no w.heap) (ha : a < toks.length) {b : Nat} {n1 : Bool} (hs : nameS toks a no = (b, n1)) :
    Calls Tryz.prog 207 #[.pointer (some ⟨rb, 0, none⟩)] w fun e w' => e = .returned (.string (nameT toks a no)) ∧ RP toks rb tb cap b nest n1 w'.heap ∧ Fr [rb] w w' := by
  unfold nameS at hs
  unfold nameT
  cases hp : nameB (nx toks a no) with
  | true =>
    rw [hp, if_pos rfl] at hs
    have e1 := (Prod.mk.inj hs).1
    have e2 := (Prod.mk.inj hs).2
    subst e1; subst e2
    exact rname_yes hw rb tb cap a nest no w h ha hp
  | false =>
    rw [hp, if_neg (by simp)] at hs
    have e1 := (Prod.mk.inj hs).1
    have e2 := (Prod.mk.inj hs).2
    subst e1; subst e2
    exact rname_no hw rb tb cap a nest no w h ha hp

theorem nameS_dead (toks : List Tok) (a : Nat) : nameS toks a true = (a, true) := by
  have : nameB ⟨#[]⟩ = false := by decide
  simp [nameS, nx, this]
theorem nameS_yes {toks : List Tok} {a : Nat} (h : nameB (tx toks a) = true) : nameS toks a false = (a + 1, false) := by simp [nameS, nx, h]
theorem nameS_no {toks : List Tok} {a : Nat} (h : nameB (tx toks a) = false) : nameS toks a false = (a, true) := by simp [nameS, nx, h]
theorem nameT_yes {toks : List Tok} {a : Nat} (h : nameB (tx toks a) = true) : nameT toks a false = tx toks a := by simp [nameT, nx, h]

theorem passB_more (toks : List Tok) (a : Nat) (l : List UInt8) (hl : l ≠ []) (r : List ByteArray) (h : r ≠ []) : passB toks a false (⟨⟨l⟩⟩ :: r) = (isT toks a l || passB toks a false r) := by
  unfold passB
  rw [show nx toks a false = tx toks a from rfl, List.isEmpty_cons, Bool.false_or]
  have hr : r.isEmpty = false := by cases r with
    | nil => exact absurd rfl h
    | cons => rfl
  rw [hr, Bool.false_or]
  have hh : hasB (⟨⟨l⟩⟩ :: r) (tx toks a) = (isT toks a l || hasB r (tx toks a)) := by
    have := hasB_one l (tx toks a)
    simp only [hasB, List.any_cons, List.any_nil, Bool.or_false] at this ⊢
    rw [this]; rfl
  rw [hh]
  cases he : emp (tx toks a) with
  | false => simp
  | true =>
    have : isT toks a l = false := by
      rw [isT, emp_iff.1 he]
      cases l with
      | nil => exact absurd rfl hl
      | cons => simp
    rw [this]; simp

abbrev IW : List ByteArray := [⟨#[117, 115, 101]⟩, ⟨#[112, 117, 98]⟩, ⟨#[108, 101, 116]⟩]

theorem pass3 (toks : List Tok) (a : Nat) : passB toks a false IW = (isT toks a [117, 115, 101] || (isT toks a [112, 117, 98] || isT toks a [108, 101, 116])) := by
  rw [IW, passB_more toks a _ (by simp) _ (by simp), passB_more toks a _ (by simp) _ (by simp), passB_one]

theorem isT_tx {toks : List Tok} {a : Nat} {l : List UInt8} (h : isT toks a l = true) : tx toks a = ⟨⟨l⟩⟩ := eqB_iff.1 ((isT_eqB toks a l).symm.trans h)

theorem pass3_use {toks : List Tok} {a : Nat} (h : isT toks a [117, 115, 101] = true) : passS toks IW a false = (a + 1, false) := by simp only [passS, pass3, h, Bool.true_or, if_true]
theorem pass3_useT {toks : List Tok} {a : Nat} (h : isT toks a [117, 115, 101] = true) : passT toks IW a false = ⟨#[117, 115, 101]⟩ := by simp only [passT, pass3, h, Bool.true_or, if_true]; exact isT_tx h
theorem pass3_pub {toks : List Tok} {a : Nat} (h : isT toks a [112, 117, 98] = true) : passS toks IW a false = (a + 1, false) := by simp only [passS, pass3, h, Bool.true_or, Bool.or_true, if_true]
theorem pass3_pubT {toks : List Tok} {a : Nat} (h : isT toks a [112, 117, 98] = true) : passT toks IW a false = ⟨#[112, 117, 98]⟩ := by simp only [passT, pass3, h, Bool.true_or, Bool.or_true, if_true]; exact isT_tx h
theorem pass3_let {toks : List Tok} {a : Nat} (h : isT toks a [108, 101, 116] = true) : passS toks IW a false = (a + 1, false) := by simp only [passS, pass3, h, Bool.or_true, if_true]
theorem pass3_letT {toks : List Tok} {a : Nat} (h : isT toks a [108, 101, 116] = true) : passT toks IW a false = ⟨#[108, 101, 116]⟩ := by simp only [passT, pass3, h, Bool.or_true, if_true]; exact isT_tx h
theorem pass3_no {toks : List Tok} {a : Nat} (h1 : isT toks a [117, 115, 101] = false) (h2 : isT toks a [112, 117, 98] = false) (h3 : isT toks a [108, 101, 116] = false) : passS toks IW a false = (a, true) := by simp [passS, pass3, h1, h2, h3]
theorem pass3_noT {toks : List Tok} {a : Nat} (h1 : isT toks a [117, 115, 101] = false) (h2 : isT toks a [112, 117, 98] = false) (h3 : isT toks a [108, 101, 116] = false) : passT toks IW a false = ⟨#[]⟩ := by simp [passT, pass3, h1, h2, h3]

/-- The type's word. -/
theorem passTy (toks : List Tok) (a : Nat) : passB toks a false [⟨#[105, 110, 116]⟩, ⟨#[98, 111, 111, 108]⟩] = isTy toks a := by
  rw [passB_more toks a _ (by simp) _ (by simp), passB_one]; rfl

/-- An item of the document's and one of the program's are one item. -/
def RI (K : Nat → Prop) (w : World) (at_ : Int) (word nm ty : ByteArray) (e : Value) (i : It) : Prop :=
  at_ = i.num ∧ nm = i.name ∧ i.name.size ≤ 8 ∧ ((i.kind = 0 ∧ word = ⟨#[117, 115, 101]⟩ ∧ i.ex = .nilIface) ∨
    (((i.kind = 1 ∧ word = ⟨#[108, 101, 116]⟩) ∨ (i.kind = 2 ∧ word = ⟨#[112, 117, 98]⟩)) ∧ ty = i.typ ∧ (i.typ = ⟨#[105, 110, 116]⟩ ∨ i.typ = ⟨#[98, 111, 111, 108]⟩) ∧ ∃ n, n ≤ 401 ∧ Rep K w n e i.ex))

def IPost (toks : List Tok) (rb tb cap b : Nat) (r : Option It) (w : World) : Ending → World → Prop := fun e w' =>
  ∃ (at_ : Nat) (word nm ty : ByteArray) (op : Int) (t : ByteArray) (ao : Option Addr) (m c : Nat), e = .returned (.agg #[.int .i64 at_, .string word, .string nm, .string ty, .int .u8 op, .string t, .slice ao m c]) ∧
    RP toks rb tb cap b 0 r.isNone w'.heap ∧ Fr [rb] w w' ∧ b < toks.length ∧ ∀ i, r = some i → RI (fun k => w.heap.size < k) w' at_ word nm ty (.agg #[.int .u8 op, .string t, .slice ao m c]) i

abbrev put7 (w : World) (b : Nat) (v0 v1 v2 v3 v4 v5 v6 : Value) : World := ((((((w.setCell ⟨b, 0, none⟩ v0).setCell ⟨b, 1, none⟩ v1).setCell ⟨b, 2, none⟩ v2).setCell ⟨b, 3, none⟩ v3).setCell ⟨b, 4, none⟩ v4).setCell ⟨b, 5, none⟩ v5).setCell ⟨b, 6, none⟩ v6

theorem put7_same {w : World} {b : Nat} {x0 x1 x2 x3 x4 x5 x6 : Value} {T : TypeId} {fr : Nat × Nat} (h : w.heap[b]? = some (.cells #[x0, x1, x2, x3, x4, x5, x6] T fr)) (v0 v1 v2 v3 v4 v5 v6 : Value) : (put7 w b v0 v1 v2 v3 v4 v5 v6).heap[b]? = some (.cells #[v0, v1, v2, v3, v4, v5, v6] T fr) := by
  have h0 : (w.setCell ⟨b, 0, none⟩ v0).heap[b]? = some (.cells #[v0, x1, x2, x3, x4, x5, x6] T fr) := heap_setCell_lit (i := 0) h v0
  have h1 : ((w.setCell ⟨b, 0, none⟩ v0).setCell ⟨b, 1, none⟩ v1).heap[b]? = some (.cells #[v0, v1, x2, x3, x4, x5, x6] T fr) := heap_setCell_lit (i := 1) h0 v1
  have h2 : (((w.setCell ⟨b, 0, none⟩ v0).setCell ⟨b, 1, none⟩ v1).setCell ⟨b, 2, none⟩ v2).heap[b]? = some (.cells #[v0, v1, v2, x3, x4, x5, x6] T fr) := heap_setCell_lit (i := 2) h1 v2
  have h3 : ((((w.setCell ⟨b, 0, none⟩ v0).setCell ⟨b, 1, none⟩ v1).setCell ⟨b, 2, none⟩ v2).setCell ⟨b, 3, none⟩ v3).heap[b]? = some (.cells #[v0, v1, v2, v3, x4, x5, x6] T fr) := heap_setCell_lit (i := 3) h2 v3
  have h4 : (((((w.setCell ⟨b, 0, none⟩ v0).setCell ⟨b, 1, none⟩ v1).setCell ⟨b, 2, none⟩ v2).setCell ⟨b, 3, none⟩ v3).setCell ⟨b, 4, none⟩ v4).heap[b]? = some (.cells #[v0, v1, v2, v3, v4, x5, x6] T fr) := heap_setCell_lit (i := 4) h3 v4
  have h5 : ((((((w.setCell ⟨b, 0, none⟩ v0).setCell ⟨b, 1, none⟩ v1).setCell ⟨b, 2, none⟩ v2).setCell ⟨b, 3, none⟩ v3).setCell ⟨b, 4, none⟩ v4).setCell ⟨b, 5, none⟩ v5).heap[b]? = some (.cells #[v0, v1, v2, v3, v4, v5, x6] T fr) := heap_setCell_lit (i := 5) h4 v5
  have h6 : (((((((w.setCell ⟨b, 0, none⟩ v0).setCell ⟨b, 1, none⟩ v1).setCell ⟨b, 2, none⟩ v2).setCell ⟨b, 3, none⟩ v3).setCell ⟨b, 4, none⟩ v4).setCell ⟨b, 5, none⟩ v5).setCell ⟨b, 6, none⟩ v6).heap[b]? = some (.cells #[v0, v1, v2, v3, v4, v5, v6] T fr) := heap_setCell_lit (i := 6) h5 v6
  exact h6

theorem DS.put7 {toks : List Tok} {rb tb cap c nest : Nat} {no : Bool} {w wr : World} (h : DS toks rb tb cap w wr c nest no) {b : Nat} (hb : w.heap.size ≤ b) (v0 v1 v2 v3 v4 v5 v6 : Value) : DS toks rb tb cap w (put7 wr b v0 v1 v2 v3 v4 v5 v6) c nest no :=
  ((((((h.set hb 0 v0).set hb 1 v1).set hb 2 v2).set hb 3 v3).set hb 4 v4).set hb 5 v5).set hb 6 v6

theorem Later.put7 {K : Nat → Prop} {a b : World} (h : Later K a b) {p : Nat} (hp : ¬ K p) (v0 v1 v2 v3 v4 v5 v6 : Value) : Later K a (put7 b p v0 v1 v2 v3 v4 v5 v6) :=
  ((((((h.set (p := ⟨p, 0, none⟩) hp v0).set (p := ⟨p, 1, none⟩) hp v1).set (p := ⟨p, 2, none⟩) hp v2).set (p := ⟨p, 3, none⟩) hp v3).set (p := ⟨p, 4, none⟩) hp v4).set (p := ⟨p, 5, none⟩) hp v5).set (p := ⟨p, 6, none⟩) hp v6

theorem nameB_size {t : ByteArray} (h : nameB t = true) : t.size ≤ 8 := by
  simp only [nameB, Bool.and_eq_true, decide_eq_true_eq] at h
  exact h.1.1.2

/-- The steps of a use behind its word, at token a. -/
theorem usteps {toks : List Tok} (hw : Wf toks) {a : Nat} (ha : a < toks.length) : ∃ a2 n2 b nf, nameS toks a false = (a2, n2) ∧ passS toks [⟨#[59]⟩] a2 n2 = (b, nf) ∧ a2 < toks.length ∧
    (b < toks.length ∧ b = (useP toks a).1 ∧ nf = (useP toks a).2.isNone ∧ ∀ i, (useP toks a).2 = some i → i = ⟨0, a, tx toks a, ⟨#[]⟩, .nilIface⟩ ∧ nameT toks a false = tx toks a ∧ (tx toks a).size ≤ 8) := by
  cases hn : nameB (tx toks a) with
  | false =>
    exact ⟨a, true, a, true, nameS_no hn, passS_dead _ _ _, ha, ha, by simp [useP, hn], by simp [useP, hn], by simp [useP, hn]⟩
  | true =>
    have h2 := hw.next ha (nameB_ne hn)
    cases hs : isT toks (a + 1) [59] with
    | false => exact ⟨a + 1, false, a + 1, true, nameS_yes hn, passS_no hs, h2, h2, by simp [useP, hn, hs], by simp [useP, hn, hs], by simp [useP, hn, hs]⟩
    | true =>
      refine ⟨a + 1, false, a + 2, false, nameS_yes hn, passS_yes hs, h2, hw.next_isT h2 hs, by simp [useP, hn, hs], by simp [useP, hn, hs], fun i hi => ?_⟩
      simp [useP, hn, hs] at hi
      exact ⟨hi.symm, nameT_yes hn, nameB_size hn⟩

theorem use_post {toks : List Tok} {rb tb cap a b : Nat} {nf : Bool} {w w' : World} {op : Int} {t ty : ByteArray} {ao : Option Addr} {m c : Nat}
    (h : b < toks.length ∧ b = (useP toks a).1 ∧ nf = (useP toks a).2.isNone ∧ ∀ i, (useP toks a).2 = some i → i = ⟨0, a, tx toks a, ⟨#[]⟩, .nilIface⟩ ∧ nameT toks a false = tx toks a ∧ (tx toks a).size ≤ 8) (hd : DS toks rb tb cap w w' b 0 nf) :
    IPost toks rb tb cap (useP toks a).1 (useP toks a).2 w (.returned (.agg #[.int .i64 ((a : Nat) : Int), .string ⟨#[117, 115, 101]⟩, .string (nameT toks a false), .string ty, .int .u8 op, .string t, .slice ao m c])) w' := by
  obtain ⟨h1, h2, h3, h4⟩ := h
  refine ⟨a, _, _, _, op, t, ao, m, c, rfl, by rw [← h2, ← h3]; exact hd.rp, hd.fr, by rw [← h2]; exact h1, fun i hi => ?_⟩
  obtain ⟨rfl, e, hs⟩ := h4 i hi
  exact ⟨rfl, e, hs, .inl ⟨rfl, rfl, rfl⟩⟩

/-- A let behind its word, its name being token a. -/
def tailP (toks : List Tok) (k a : Nat) : Nat × Option It :=
  if nameB (tx toks a) then
    if isT toks (a + 1) [58] then
      if isTy toks (a + 2) then
        if isT toks (a + 3) [61] then
          match exprP toks (a + 4) with
          | (b, none) => (b, none)
          | (b, some x) => if isT toks b [59] then (b + 1, some ⟨k, a, tx toks a, tx toks (a + 2), x⟩) else (b, none)
        else (a + 3, none)
      else (a + 2, none)
    else (a + 1, none)
  else (a, none)

theorem letP_tail (toks : List Tok) (k a : Nat) : letP toks k a = if isT toks a [108, 101, 116] then tailP toks k (a + 1) else (a, none) := rfl

structure LSteps (toks : List Tok) (k a1 : Nat) (n1 : Bool) (a2 : Nat) (n2 : Bool) (a3 : Nat) (n3 : Bool) (a4 : Nat) (n4 : Bool) (a5 : Nat) (n5 : Bool) (b6 : Nat) (r6 : Option Value) (b : Nat) (nf : Bool) : Prop where
  s2 : nameS toks a1 n1 = (a2, n2)
  s3 : passS toks [⟨#[58]⟩] a2 n2 = (a3, n3)
  s4 : passS toks [⟨#[105, 110, 116]⟩, ⟨#[98, 111, 111, 108]⟩] a3 n3 = (a4, n4)
  s5 : passS toks [⟨#[61]⟩] a4 n4 = (a5, n5)
  s6 : (if n5 then some (a5, none) else P toks 1700 0 0 a5 .nilIface) = some (b6, r6)
  s7 : passS toks [⟨#[59]⟩] b6 r6.isNone = (b, nf)
  i2 : a2 < toks.length
  i3 : a3 < toks.length
  i4 : a4 < toks.length
  i5 : a5 < toks.length
  i6 : b6 < toks.length
  i7 : b < toks.length
  e1 : b = (if n1 then (a1, none) else tailP toks k a1).1
  e2 : nf = (if n1 then (a1, none) else tailP toks k a1).2.isNone
  ok : ∀ i, (if n1 then (a1, none) else tailP toks k a1).2 = some i → ∃ x, i = ⟨k, a1, tx toks a1, tx toks (a1 + 2), x⟩ ∧ r6 = some x ∧ nameT toks a1 n1 = tx toks a1 ∧ (tx toks a1).size ≤ 8 ∧
    passT toks [⟨#[105, 110, 116]⟩, ⟨#[98, 111, 111, 108]⟩] a3 n3 = tx toks (a1 + 2) ∧ (tx toks (a1 + 2) = ⟨#[105, 110, 116]⟩ ∨ tx toks (a1 + 2) = ⟨#[98, 111, 111, 108]⟩)

theorem isTy_cases {toks : List Tok} {a : Nat} (h : isTy toks a = true) : tx toks a = ⟨#[105, 110, 116]⟩ ∨ tx toks a = ⟨#[98, 111, 111, 108]⟩ := by
  simp only [isTy, Bool.or_eq_true] at h
  rcases h with h | h
  · exact .inl (isT_tx h)
  · exact .inr (isT_tx h)

theorem dead_steps {toks : List Tok} {k a1 : Nat} {n1 : Bool} {a : Nat} (ha : a < toks.length) (h : (if n1 then (a1, none) else tailP toks k a1) = (a, none)) : a = (if n1 then (a1, none) else tailP toks k a1).1 ∧ true = (if n1 then (a1, none) else tailP toks k a1).2.isNone ∧ ∀ i, (if n1 then (a1, none) else tailP toks k a1).2 = some i → False := by
  rw [h]; exact ⟨rfl, rfl, fun i hi => by cases hi⟩

theorem lsteps {toks : List Tok} (hw : Wf toks) (k a1 : Nat) (n1 : Bool) (h1 : a1 < toks.length) : ∃ a2 n2 a3 n3 a4 n4 a5 n5 b6 r6 b nf, LSteps toks k a1 n1 a2 n2 a3 n3 a4 n4 a5 n5 b6 r6 b nf := by
  cases n1 with
  | true => exact ⟨a1, true, a1, true, a1, true, a1, true, a1, none, a1, true, nameS_dead _ _, passS_dead _ _ _, passS_dead _ _ _, passS_dead _ _ _, rfl, passS_dead _ _ _, h1, h1, h1, h1, h1, h1, rfl, rfl, fun i hi => by cases hi⟩
  | false =>
  cases c2 : nameB (tx toks a1) with
  | false =>
    have hz : (if false then (a1, none) else tailP toks k a1) = (a1, none) := by simp [tailP, c2]
    obtain ⟨e1, e2, e3⟩ := dead_steps h1 hz
    exact ⟨a1, true, a1, true, a1, true, a1, true, a1, none, a1, true, nameS_no c2, passS_dead _ _ _, passS_dead _ _ _, passS_dead _ _ _, rfl, passS_dead _ _ _, h1, h1, h1, h1, h1, h1, e1, e2, fun i hi => (e3 i hi).elim⟩
  | true =>
  have h2 := hw.next h1 (nameB_ne c2)
  cases c3 : isT toks (a1 + 1) [58] with
  | false =>
    have hz : (if false then (a1, none) else tailP toks k a1) = (a1 + 1, none) := by simp [tailP, c2, c3]
    obtain ⟨e1, e2, e3⟩ := dead_steps h2 hz
    exact ⟨a1 + 1, false, a1 + 1, true, a1 + 1, true, a1 + 1, true, a1 + 1, none, a1 + 1, true, nameS_yes c2, passS_no c3, passS_dead _ _ _, passS_dead _ _ _, rfl, passS_dead _ _ _, h2, h2, h2, h2, h2, h2, e1, e2, fun i hi => (e3 i hi).elim⟩
  | true =>
  have h3 : a1 + 2 < toks.length := hw.next_isT h2 c3
  cases c4 : isTy toks (a1 + 2) with
  | false =>
    have hz : (if false then (a1, none) else tailP toks k a1) = (a1 + 2, none) := by simp [tailP, c2, c3, c4]
    obtain ⟨e1, e2, e3⟩ := dead_steps h3 hz
    exact ⟨a1 + 1, false, a1 + 2, false, a1 + 2, true, a1 + 2, true, a1 + 2, none, a1 + 2, true, nameS_yes c2, passS_yes c3, by simp [passS, passTy, c4], passS_dead _ _ _, rfl, passS_dead _ _ _, h2, h3, h3, h3, h3, h3, e1, e2, fun i hi => (e3 i hi).elim⟩
  | true =>
  have h4 : a1 + 3 < toks.length := hw.next h3 (isTy_ne c4)
  have s4 : passS toks [⟨#[105, 110, 116]⟩, ⟨#[98, 111, 111, 108]⟩] (a1 + 2) false = (a1 + 3, false) := by simp [passS, passTy, c4]
  cases c5 : isT toks (a1 + 3) [61] with
  | false =>
    have hz : (if false then (a1, none) else tailP toks k a1) = (a1 + 3, none) := by simp [tailP, c2, c3, c4, c5]
    obtain ⟨e1, e2, e3⟩ := dead_steps h4 hz
    exact ⟨a1 + 1, false, a1 + 2, false, a1 + 3, false, a1 + 3, true, a1 + 3, none, a1 + 3, true, nameS_yes c2, passS_yes c3, s4, passS_no c5, rfl, passS_dead _ _ _, h2, h3, h4, h4, h4, h4, e1, e2, fun i hi => (e3 i hi).elim⟩
  | true =>
  have h5 : a1 + 4 < toks.length := hw.next_isT h4 c5
  have hP := exprP_eq hw (a1 + 4)
  rcases hep : exprP toks (a1 + 4) with ⟨b6, r6⟩
  rw [hep] at hP
  have h6 : b6 < toks.length := P_lt hw _ _ _ _ _ _ hP h5
  cases r6 with
  | none =>
    have hz : (if false then (a1, none) else tailP toks k a1) = (b6, none) := by simp [tailP, c2, c3, c4, c5, hep]
    obtain ⟨e1, e2, e3⟩ := dead_steps h6 hz
    exact ⟨a1 + 1, false, a1 + 2, false, a1 + 3, false, a1 + 4, false, b6, none, b6, true, nameS_yes c2, passS_yes c3, s4, passS_yes c5, by simpa using hP, passS_dead _ _ _, h2, h3, h4, h5, h6, h6, e1, e2, fun i hi => (e3 i hi).elim⟩
  | some x =>
  cases c7 : isT toks b6 [59] with
  | false =>
    have hz : (if false then (a1, none) else tailP toks k a1) = (b6, none) := by simp [tailP, c2, c3, c4, c5, hep, c7]
    obtain ⟨e1, e2, e3⟩ := dead_steps h6 hz
    exact ⟨a1 + 1, false, a1 + 2, false, a1 + 3, false, a1 + 4, false, b6, some x, b6, true, nameS_yes c2, passS_yes c3, s4, passS_yes c5, by simpa using hP, passS_no c7, h2, h3, h4, h5, h6, h6, e1, e2, fun i hi => (e3 i hi).elim⟩
  | true =>
    have h7 := hw.next_isT h6 c7
    have hz : (if false then (a1, none) else tailP toks k a1) = (b6 + 1, some ⟨k, a1, tx toks a1, tx toks (a1 + 2), x⟩) := by simp [tailP, c2, c3, c4, c5, hep, c7]
    refine ⟨a1 + 1, false, a1 + 2, false, a1 + 3, false, a1 + 4, false, b6, some x, b6 + 1, false, nameS_yes c2, passS_yes c3, s4, passS_yes c5, by simpa using hP, passS_yes c7, h2, h3, h4, h5, h6, h7, by rw [hz], by rw [hz]; rfl, fun i hi => ?_⟩
    rw [hz] at hi
    cases hi
    exact ⟨x, rfl, rfl, nameT_yes c2, nameB_size c2, by simp [passT, passTy, c4], isTy_cases c4⟩

theorem let_post {toks : List Tok} {rb tb cap k a1 : Nat} {n1 : Bool} {a2 : Nat} {n2 : Bool} {a3 : Nat} {n3 : Bool} {a4 : Nat} {n4 : Bool} {a5 : Nat} {n5 : Bool} {b6 : Nat} {r6 : Option Value} {b : Nat} {nf : Bool} {w w' : World} {word : ByteArray} {op : Int} {t : ByteArray} {ao : Option Addr} {m c : Nat}
    (hle : toks.length ≤ 401) (h : LSteps toks k a1 n1 a2 n2 a3 n3 a4 n4 a5 n5 b6 r6 b nf) (hd : DS toks rb tb cap w w' b 0 nf) (hk : (k = 1 ∧ (n1 = false → word = ⟨#[108, 101, 116]⟩)) ∨ (k = 2 ∧ word = ⟨#[112, 117, 98]⟩))
    (hx : ∀ x, r6 = some x → ∃ n, n + a5 ≤ b6 ∧ Rep (fun k => w.heap.size < k) w' n (.agg #[.int .u8 op, .string t, .slice ao m c]) x) :
    IPost toks rb tb cap (if n1 then (a1, none) else tailP toks k a1).1 (if n1 then (a1, none) else tailP toks k a1).2 w (.returned (.agg #[.int .i64 ((a1 : Nat) : Int), .string word, .string (nameT toks a1 n1), .string (passT toks [⟨#[105, 110, 116]⟩, ⟨#[98, 111, 111, 108]⟩] a3 n3), .int .u8 op, .string t, .slice ao m c])) w' := by
  refine ⟨a1, _, _, _, op, t, ao, m, c, rfl, by rw [← h.e1, ← h.e2]; exact hd.rp, hd.fr, by rw [← h.e1]; exact h.i7, fun i hi => ?_⟩
  obtain ⟨x, rfl, h1, h2, h3, h4, h5⟩ := h.ok i hi
  have hn : n1 = false := by
    cases n1 with
    | false => rfl
    | true => cases hi
  refine ⟨rfl, h2, h3, .inr ⟨?_, h4, h5, ?_⟩⟩
  · rcases hk with ⟨rfl, hk⟩ | ⟨rfl, hk⟩
    · exact .inl ⟨rfl, hk hn⟩
    · exact .inr ⟨rfl, hk⟩
  · obtain ⟨n, hn, hr⟩ := hx x h1
    exact ⟨n, by have := h.i6; omega, hr⟩

end Go.Proofs.YtfekglokoafpiaaGreatDoor
