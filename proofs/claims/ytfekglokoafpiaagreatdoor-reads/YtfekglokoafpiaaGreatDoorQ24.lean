/-
  settle of a new slot, whatever its type.
  Fetch of a new slot.
  What a slot looks at: a source; a file's text.
  The work of Known and Tokens.
  The questions of the session: begin, Keep, the Fetches.
  tree, of the session.
  write and Ask.
  
-/
import Derived.Test.YtfekglokoafpiaaGreatDoorQ23

set_option linter.unusedVariables false
set_option linter.unusedSimpArgs false

namespace Go.Proofs.YtfekglokoafpiaaGreatDoor
open Go.RowKit

/-- A world behind the work of a new slot, and behind its settle. -/
structure DN (w w' : World) (bs B p ms k : Nat) (TT TP : TypeId) (mo : Obj) (lk : Value) (rest : List Value) (f q : Value) (rv us : Int) (bg kv kv' : Value) (l : List (TypeId × Nat)) (ul : List Int) (S : List Nat) : Prop where
  es : ES w' bs B f q (.map (some ms)) rv (us + 1) bg kv' (l ++ [(TP, p)]) (ul ++ [us + 1])
  sb : SB w' p TT (slotL bs k false lk rv rv (l.length : Nat) (us + 1) rest)
  m : w'.heap[ms]? = some mo
  kb : ∀ g, kv'.ownBlock = some g → kv.ownBlock = some g ∨ w.heap.size ≤ g
  fr : Ses.Fr (bs :: ms :: kbk bs kv :: S) w w'

theorem kbk_lt {w : World} {bs B : Nat} {f q sm : Value} {rv us : Int} {bg kv : Value} {l : List (TypeId × Nat)} {ul : List Int} (h : ES w bs B f q sm rv us bg kv l ul) : kbk bs kv < w.heap.size := by
  unfold kbk
  cases hk : kv.ownBlock with
  | none => exact heap_lt h.s
  | some g => exact (h.own.lt g hk).2

set_option maxHeartbeats 1000000 in
theorem settledNew {w w1 : World} {bs B p ms n k : Nat} {es : Array MapEntry} {TT TP : TypeId} {F : FuncId} {f q sm q' : Value} {rv us us' : Int} {kv : Value} {l : List (TypeId × Nat)} {ul ul' : List Int} {rest : List Value} {mo : Obj} {S : List Nat} (V : Nat → List Value → World → Prop)
    (h : ES w bs B f q sm rv us (.slice none 0 0) kv l ul) (hrv : 0 ≤ rv) (hM : MT TP F) (hTT : TT ≠ 92)
    (hfn : FN w w1 bs p ms n es TT TP f rv q (.slice none 0 0) kv us (slotL bs k false (.slice none 0 0) (-1) 0 (-1) 0 rest) (k : Nat)) (hmo : w1.heap[ms]? = some mo) (hmo2 : ∀ cs T, mo ≠ .cells cs T) (hk1 : kv.ownBlock ≠ some ms) (hk2 : ∀ (i : Nat) T' p', l[i]? = some (T', p') → p' ≠ ms)
    (hul : ul'.length = l.length) (hS : ∀ b, b ∈ S → b < w.heap.size ∧ b ≠ ms ∧ b ≠ bs ∧ b ≠ kbk bs kv)
    (hVs : ∀ N r wa wb, V N r wa → St S N wa wb → V N r wb) (hVm : ∀ N N' r wa, V N r wa → N' ≤ N → V N' r wa)
    (hWO : ∀ wS, ES wS bs B f q (.map (some ms)) rv us (.slice none 0 0) kv l ul → SB wS p TT (newL bs k rest) → wS.heap[ms]? = some mo → w1.heap.size ≤ wS.heap.size → Ses.Fr [bs, ms] w wS →
      Calls Tryz.prog F #[.pointer (some ⟨p, 0, none⟩)] wS fun e w' => e = .returned (.tuple #[]) ∧ ∃ w2 rest' bg lk, Ses.Fr (bs :: S) wS w2 ∧ V wS.heap.size rest' w2 ∧ AN w2 w' bs B p k TT lk rest' f q' (.map (some ms)) rv us' bg kv l ul' TP) :
    Calls Tryz.prog 85 #[.iface TP (.pointer (some ⟨p, 0, none⟩)), .bool true] w1 fun e w' => e = .returned (.tuple #[]) ∧ ∃ rest' bg lk kv', DN w w' bs B p ms k TT TP mo lk rest' f q' rv us' bg kv kv' l ul' S ∧ V w.heap.size rest' w' := by
  have hbs := h.lt
  have hbw := heap_lt h.s
  have hpl := hfn.lp
  have hsz1 := hfn.fr.size
  have he1 := hfn.es h hk1 hk2
  have hs1 := hfn.sb
  have hp1 := hs1.lt
  have hne : bs ≠ p := by omega
  have hpg := hs1.row he1.own hTT
  have hmsp : ms ≠ p := fun e => by
    subst e
    exact hmo2 _ _ (Option.some.inj (hmo.symm.trans hs1))
  have hmsb : ms ≠ bs := fun e => by
    subst e
    exact hmo2 _ _ (Option.some.inj (hmo.symm.trans hfn.s))
  have hkb := kbk_lt h
  have hpS : p ∉ S := fun e => by have := (hS p e).1; omega
  -- the world of the work
  have he2 := (he1.other 4 (.bool true) hne hpg (.inl (by decide)))
  have hs2 : SB (w1.setCell ⟨p, 4, none⟩ (.bool true)) p TT (newL bs k rest) := hs1.set 4 (.bool true)
  have hm2 : (w1.setCell ⟨p, 4, none⟩ (.bool true)).heap[ms]? = some mo := (heap_setCell_ne hmsp _).trans hmo
  have hf2 := hfn.fr.setCell ⟨p, 4, none⟩ (.inr hpl) (.bool true)
  have hz2 : (w1.setCell ⟨p, 4, none⟩ (.bool true)).heap.size = w1.heap.size := by simp
  have hN := new_heap (w1.setCell ⟨p, 4, none⟩ (.bool true)) (.cells #[.iface TP (.pointer (some ⟨p, 0, none⟩))] 92)
  rw [hz2] at hN
  have hba := below_newE (w1.setCell ⟨p, 4, none⟩ (.bool true)) (.cells #[.iface TP (.pointer (some ⟨p, 0, none⟩))] 92)
  have hf3 := hf2.alloc (.cells #[.iface TP (.pointer (some ⟨p, 0, none⟩))] 92)
  have he3 := he2.below hba
  have hs3 := hs2.below hba
  have hm3 := below_heap hba (heap_lt hm2) hm2
  have hz3 : ((w1.setCell ⟨p, 4, none⟩ (.bool true)).alloc (.cells #[.iface TP (.pointer (some ⟨p, 0, none⟩))] 92)).heap.size = w1.heap.size + 1 := by simp
  have key := hWO _ he3 hs3 hm3 (by omega) hf3
  obtain ⟨wS, hwS⟩ : ∃ wS, wS = (w1.setCell ⟨p, 4, none⟩ (.bool true)).alloc (.cells #[.iface TP (.pointer (some ⟨p, 0, none⟩))] 92) := ⟨_, rfl⟩
  rw [← hwS] at key hN hf3 he3 hs3 hm3 hz3
  have hkS : ∀ b, b ∈ bs :: S → b < w.heap.size := fun b hb => by
    rcases List.mem_cons.1 hb with rfl | hb
    · exact hbw
    · exact (hS b hb).1
  refine (settle_new TP F hM p bs rv hrv w1 ⟨hs1.cell (i := 0) rfl, hs1.cell (i := 4) rfl, hs1.cell (i := 5) rfl, hs1.cell (i := 7) rfl, fun i => hs1.fr i⟩ (heap_cell (i := 1) hfn.s) hne hp1 (heap_lt hfn.s)
    (fun w' => ∃ w2 rest' bg lk, Ses.Fr (bs :: S) wS w2 ∧ V wS.heap.size rest' w2 ∧ AN w2 w' bs B p k TT lk rest' f q' (.map (some ms)) rv us' bg kv l ul' TP) ?_ (by rw [← hwS]; exact key)).mono ?_
  · rintro w' ⟨w2, rest', bg, lk, f2, -, han⟩
    have z2 := f2.size
    refine ⟨han.sb.cell (i := 4) rfl, han.sb.cell (i := 5) rfl, han.sb.fr 4, han.sb.fr 5, ?_⟩
    have b1 : w2.heap[w1.heap.size]? = some (.cells #[.iface TP (.pointer (some ⟨p, 0, none⟩))] 92) := (f2.block _ (by omega) (fun e => by have := hkS _ e; omega)).trans hN
    have b2 := (han.fr.block w1.heap.size (by omega) (fun e => by
      simp only [List.mem_cons, List.not_mem_nil, or_false] at e
      omega)).trans b1
    exact heap_cell (i := 0) b2
  · rintro e w' ⟨rfl, w3, ⟨w2, rest', bg, lk, f2, hv, han⟩, rfl⟩
    obtain ⟨kv', hes, hkv'⟩ := han.es
    have z2 := f2.size
    have z3 := han.fr.size
    have hpg' : kv'.ownBlock ≠ some p := fun e => by
      rcases hkv' p e with h1 | h1
      · have := (h.own.lt p h1).2; omega
      · omega
    have m2 : w2.heap[ms]? = some mo := (f2.block ms (heap_lt hm3) (fun e => by
      rcases List.mem_cons.1 e with e | e
      · exact hmsb e
      · exact (hS ms e).2.1 rfl)).trans hm3
    have m3 : w3.heap[ms]? = some mo := (han.fr.block ms (heap_lt m2) (fun e => by
      simp only [List.mem_cons, List.not_mem_nil, or_false] at e
      rcases e with e | e | e
      · exact hmsb e
      · exact hmsp e
      · unfold kbk at e
        cases hk : kv.ownBlock with
        | none => rw [hk] at e; exact hmsb e
        | some g => rw [hk] at e; exact hk1 (by rw [hk]; simp at e; rw [e]))).trans m2
    have hfr : Ses.Fr (bs :: ms :: kbk bs kv :: S) w w3 := by
      have z5 := hf3.size
      refine ⟨han.fr.os.trans (f2.os.trans hf3.os), han.fr.tape.trans (f2.tape.trans hf3.tape), han.fr.output.trans (f2.output.trans hf3.output), by omega, fun b hb hn => ?_⟩
      simp only [List.mem_cons, not_or] at hn
      obtain ⟨n1, n2, n3, n4⟩ := hn
      refine (han.fr.block b (by omega) (by simp only [List.mem_cons, List.not_mem_nil, or_false, not_or]; exact ⟨n1, by omega, n3⟩)).trans ((f2.block b (by omega) (by simp only [List.mem_cons, not_or]; exact ⟨n1, n4⟩)).trans (hf3.block b hb (by simp only [List.mem_cons, List.not_mem_nil, or_false, not_or]; exact ⟨n1, n2⟩)))
    refine ⟨rfl, rest', bg, lk, kv', ⟨(hes.other 4 (.bool false) hne hpg' (.inl (by decide))).other 5 (.bool false) hne hpg' (.inl (by decide)), (han.sb.set 4 (.bool false)).set 5 (.bool false), (heap_setCell_ne hmsp _).trans ((heap_setCell_ne hmsp _).trans m3), fun g hg => ?_, (hfr.setCell ⟨p, 4, none⟩ (.inr hpl) _).setCell ⟨p, 5, none⟩ (.inr hpl) _⟩, ?_⟩
    · rcases hkv' g hg with h1 | h1
      · exact .inl h1
      · exact .inr (by omega)
    · refine hVm _ _ _ _ (hVs _ _ _ _ (hVs _ _ _ _ (hVs _ _ _ _ hv (St.of_fr han.fr (fun b hb => ?_) (fun b hb => by have := (hS b hb).1; omega))) (St.of_fr (S' := [p]) ((Ses.Fr.refl [p] w3).setCell ⟨p, 4, none⟩ (.inl (by simp)) _) (fun b hb => ?_) (fun b hb => by have := (hS b hb).1; simp; omega))) (St.of_fr (S' := [p]) ((Ses.Fr.refl [p] _).setCell ⟨p, 5, none⟩ (.inl (by simp)) _) (fun b hb => ?_) (fun b hb => by have := (hS b hb).1; simp; omega))) (by omega)
      · simp only [List.mem_cons, List.not_mem_nil, or_false] at hb
        refine ⟨by omega, fun e => ?_⟩
        have := hS b e
        omega
      · simp only [List.mem_cons, List.not_mem_nil, or_false] at hb
        exact ⟨by omega, by rw [hb]; exact hpS⟩
      · simp only [List.mem_cons, List.not_mem_nil, or_false] at hb
        exact ⟨by omega, by rw [hb]; exact hpS⟩

end Go.Proofs.YtfekglokoafpiaaGreatDoor

namespace Go.Proofs.YtfekglokoafpiaaGreatDoor
open Go.RowKit

theorem share2 {α β : Type} {F : α → β → Prop} (T : α → β → Prop) {G : Prop} (main : (∀ a b, F a b → T a b) → G) (key : ∀ a b, F a b → T a b) : G := main key

theorem frNew {a W w' : World} {bs lb : Nat} {S : List Nat} (h : Ses.Fr [bs] a W) (h' : Ses.Fr (bs :: lb :: S) W w') (hl : a.heap.size ≤ lb) : Ses.Fr (bs :: S) a w' :=
  ⟨h'.os.trans h.os, h'.tape.trans h.tape, h'.output.trans h.output, Nat.le_trans h.size h'.size, fun b hb hn => by
    simp only [List.mem_cons, not_or] at hn
    have hz := h.size
    exact (h'.block b (by omega) (by simp only [List.mem_cons, not_or]; exact ⟨hn.1, by omega, hn.2⟩)).trans (h.block b hb (by simp only [List.mem_cons, List.not_mem_nil, or_false]; exact hn.1))⟩

theorem es_nlb {w : World} {bs B : Nat} {f q sm : Value} {rv us : Int} {bg kv : Value} {l : List (TypeId × Nat)} {ul : List Int} (h : ES w bs B f q sm rv us bg kv l ul) {lb : Nat} {a b : Value} (hlb : w.heap[lb]? = some (.cells #[a, b] 105)) : bs ≠ lb ∧ kv.ownBlock ≠ some lb ∧ ∀ (i : Nat) T' p', l[i]? = some (T', p') → p' ≠ lb := by
  refine ⟨fun e => ?_, (show SB w lb 105 [a, b] from hlb).row h.own (by decide), fun i T p hi e => ?_⟩
  · subst e
    have := hlb.symm.trans h.s
    simp at this
  · subst e
    have hil : i < ul.length := by rw [h.ulen]; exact (List.getElem?_eq_some_iff.1 hi).1
    have h1 := h.used i T p ul[i] hi (List.getElem?_eq_getElem hil)
    rw [heap_cell hlb] at h1
    simp at h1

theorem es_nms {w : World} {bs B : Nat} {f q sm : Value} {rv us : Int} {bg kv : Value} {l : List (TypeId × Nat)} {ul : List Int} (h : ES w bs B f q sm rv us bg kv l ul) {ms : Nat} {es : Array MapEntry} {n : Nat} (hm : w.heap[ms]? = some (.map es n) ∨ w.heap.size ≤ ms) : kv.ownBlock ≠ some ms ∧ ∀ (i : Nat) T' p', l[i]? = some (T', p') → p' ≠ ms := by
  rcases hm with hm | hm
  · refine ⟨fun e => ?_, fun i T p hi e => ?_⟩
    · obtain ⟨_, ⟨h1, _⟩ | ⟨g, c, cur, hv, _, hg, _⟩⟩ := h.own
      · rw [h1] at e; simp [Value.ownBlock] at e
      · rw [hv] at e
        have h2 : g = ms := by simpa [Value.ownBlock] using e
        subst h2
        have := hg.symm.trans hm
        simp at this
    · subst e
      have hil : i < ul.length := by rw [h.ulen]; exact (List.getElem?_eq_some_iff.1 hi).1
      have h1 := h.used i T p ul[i] hi (List.getElem?_eq_getElem hil)
      simp [World.cell?, hm] at h1
  · exact ⟨fun e => by have := (h.own.lt ms e).2; omega, fun i T p hi e => by have := (h.blk i T p hi).2.2; omega⟩

theorem FN.lower {w W w1 : World} {bs p ms n : Nat} {es : Array MapEntry} {TT T : TypeId} {f : Value} {rv : Int} {q bg kv : Value} {us : Int} {cs : List Value} {k : Int} (h : FN W w1 bs p ms n es TT T f rv q bg kv us cs k) (hb : Below w.heap.size w W) : FN w w1 bs p ms n es TT T f rv q bg kv us cs k :=
  ⟨h.s, h.sb, h.m, Nat.le_trans hb.size h.lp, (Ses.Fr.of_below hb).trans h.fr⟩

/-- Behind a Fetch of a new slot. -/
structure FD (w w' : World) (bs B p ms lb k : Nat) (TT TP : TypeId) (mo : Obj) (lk : Value) (rest : List Value) (f q : Value) (rv us : Int) (bg kv kv' : Value) (l : List (TypeId × Nat)) (ul : List Int) (S : List Nat) : Prop where
  es : ES w' bs B f q (.map (some ms)) rv (us + 1) bg kv' (l ++ [(TP, p)]) (ul ++ [us + 1])
  sb : SB w' p TT (slotL bs k false lk rv rv (l.length : Nat) (us + 1) rest)
  m : w'.heap[ms]? = some mo
  lp : w.heap.size ≤ p
  kb : ∀ g, kv'.ownBlock = some g → kv.ownBlock = some g ∨ w.heap.size ≤ g
  fr : Ses.Fr (bs :: ms :: lb :: kbk bs kv :: S) w w'

end Go.Proofs.YtfekglokoafpiaaGreatDoor

namespace Go.Proofs.YtfekglokoafpiaaGreatDoor
open Go.RowKit

set_option maxRecDepth 100000 in
set_option maxHeartbeats 1000000 in
theorem source_newE {bs : Nat} {f : Value} {rv : Int} {sm bg kv : Value} {us : Int} (w : World) (h : w.heap[bs]? = some (sB f none rv sm bg kv us)) :
    Calls Tryz.prog 56 #[.pointer (some ⟨bs, 1, none⟩), .string ⟨#[97]⟩] w fun e w' => ∃ bc q', e = .returned (.pointer (some ⟨bc, 0, none⟩)) ∧ SrcN w w' bs bc f q' rv sm bg kv us := by
  have c2 : w.cell? ⟨bs, 2, none⟩ = some (.map none) := heap_cell (i := 2) h
  have hb := heap_lt h
  have d2 : ∀ o, (w.alloc o).cell? ⟨bs, 2, none⟩ = some (.map none) := fun o => heap_cell (i := 2) (old_heap o h)
  have e2 : ∀ o p, ((w.alloc o).alloc p).cell? ⟨bs, 2, none⟩ = some (.map none) := fun o p => heap_cell (i := 2) (old_heap p (old_heap o h))
  have g2 : ∀ o p, ((w.alloc o).alloc p).frozen? ⟨bs, 2, none⟩ = false := fun o p => heap_frozen (old_heap p (old_heap o h))
  have hmn : ∀ W : World, (binOp .eql 42 (.map none) (.map none)).run Tryz.prog W = .ok (.bool true) W := fun W => run_eql_map_nil W 42 9 101 none Tryz.underlying42
  have hmk : ∀ W : World, (Instr.makeMap 42 none).run Tryz.prog W = .ok (.map (some W.heap.size)) (W.alloc (.map #[] 0)) := fun W => @run_makeMap Tryz.prog 42 W
  have hl := Ses.lookq_nil w
  have HP := hid (preE_of h)
  clear h
  go_enter Tryz.func56, Tryz.ntmps56
  go_wp2
  have HP2 : Hid (PreE w (((w.setCell ⟨bs, 2, none⟩ (.map (some (w.heap.size + 1)))).alloc (.cells #[.int .i64 0] 100)).alloc (.map #[] 0)) bs f rv sm bg kv us) := HP
  generalize ((w.setCell ⟨bs, 2, none⟩ (.map (some (w.heap.size + 1)))).alloc (.cells #[.int .i64 0] 100)).alloc (.map #[] 0) = W at HP2 ⊢
  have d2 : W.cell? ⟨bs, 2, none⟩ = some (.map (some (w.heap.size + 1))) := heap_cell (i := 2) HP2.out.s
  have hst : ∀ W : World, W.heap[w.heap.size + 1]? = some (.map #[] 0) → (Instr.mapUpdate 42 (.map (some (w.heap.size + 1))) (.string ⟨#[97]⟩) (.pointer (some ⟨w.heap.size, 0, none⟩))).run Tryz.prog W = .ok () (Ses.setO W (w.heap.size + 1) (Ses.qBlk w.heap.size)) := fun W hW => Ses.storeq_new W (w.heap.size + 1) w.heap.size hW
  clear HP c2 e2 g2 hmn hmk hl hb
  go_region_with (go_at_call 23; go_must (refine (Ses.clone_any _ _ ?hh).mono ?_; (case hh => decide); rintro e w' ⟨rfl, hb⟩; have HP3 : Hid (PreE w w' bs f rv sm bg kv us) := (by first | exact HP2.out.below hb | exact HP2.out.drew.below hb); have d2' : w'.cell? ⟨bs, 2, none⟩ = some (.map (some (w.heap.size + 1))) := heap_cell (i := 2) HP3.out.s; have q2' := HP3.out.q))
  all_goals go_wp2
  all_goals go_ret
  all_goals exact ⟨_, _, rfl, HP3.out.store⟩

theorem source_anyE {bs : Nat} {f q : Value} {rv : Int} {sm bg kv : Value} {us : Int} (w : World) (h : w.heap[bs]? = some (.cells #[f, .int .i64 rv, q, sm, bg, kv, .int .u64 us] 51)) (hq : q = .map none ∨ SQ w q) :
    Calls Tryz.prog 56 #[.pointer (some ⟨bs, 1, none⟩), .string ⟨#[97]⟩] w fun e w' => ∃ bc q', e = .returned (.pointer (some ⟨bc, 0, none⟩)) ∧ w'.heap[bs]? = some (.cells #[f, .int .i64 rv, q', sm, bg, kv, .int .u64 us] 51) ∧ SQ w' q' ∧ ((q' = q ∨ ∃ bq, q' = .map (some bq) ∧ w.heap.size ≤ bq) ∧ (q ≠ .map none → q' = q)) ∧ Ses.Fr [bs] w w' := by
  rcases hq with rfl | ⟨bq, bc, rfl, hq⟩
  · refine (source_newE w h).mono ?_
    rintro e w' ⟨bc, q', he, hs⟩
    exact ⟨bc, q', he, hs.s, hs.q, ⟨.inr hs.n, fun h => absurd rfl h⟩, hs.f⟩
  · refine (Ses.source_old bs bq bc w (heap_cell (i := 2) h) hq).mono ?_
    rintro e w' ⟨he, rfl⟩
    exact ⟨bc, _, he, h, ⟨bq, bc, rfl, hq⟩, ⟨.inl rfl, fun _ => rfl⟩, Ses.Fr.refl _ _⟩

/-- The sources' map stays, where its block does. -/
theorem SQ.fr {w w' : World} {q : Value} {S : List Nat} (h : SQ w q) (hf : Ses.Fr S w w') (hS : ∀ b, b ∈ S → ∃ cs T, w.heap[b]? = some (.cells cs T)) : SQ w' q := by
  obtain ⟨bq, bc, rfl, hq⟩ := h
  refine ⟨bq, bc, rfl, (hf.block bq (heap_lt hq) (fun e => ?_)).trans hq⟩
  obtain ⟨cs, T, h1⟩ := hS bq e
  have := h1.symm.trans hq
  simp [Ses.qBlk] at this

set_option maxRecDepth 100000 in
set_option maxHeartbeats 1000000 in
theorem src_any {bs lb : Nat} {f q : Value} {rv : Int} {sm bg kv : Value} {us : Int} (w : World) (h : w.heap[bs]? = some (.cells #[f, .int .i64 rv, q, sm, bg, kv, .int .u64 us] 51)) (hq : q = .map none ∨ SQ w q) (hlb : w.heap[lb]? = some (.cells #[.pointer (some ⟨bs, 1, none⟩), .slice none 0 0] 105)) :
    Calls Tryz.prog 116 #[.pointer (some ⟨lb, 0, none⟩), .string ⟨#[97]⟩] w fun e w' => e = .returned (.tuple #[]) ∧ ∃ q', w'.heap[bs]? = some (.cells #[f, .int .i64 rv, q', sm, bg, kv, .int .u64 us] 51) ∧ SQ w' q' ∧ ((q' = q ∨ ∃ bq, q' = .map (some bq) ∧ w.heap.size ≤ bq) ∧ (q ≠ .map none → q' = q)) ∧ Ses.Fr [bs, lb] w w' ∧ ∃ a m c, w'.heap[lb]? = some (.cells #[.pointer (some ⟨bs, 1, none⟩), .slice a m c] 105) := by
  have hne : bs ≠ lb := fun e => by
    subst e
    have := hlb.symm.trans h
    simp at this
  have l0 : w.cell? ⟨lb, 0, none⟩ = some (.pointer (some ⟨bs, 1, none⟩)) := heap_cell (i := 0) hlb
  have HH := hid h
  have HQ := hid hq
  have HL := hid hlb
  have HN := hid hne
  clear h hq hlb hne
  go_enter Tryz.func116, Tryz.ntmps116
  go_wp2_with fail
  refine (source_anyE w HH.out HQ.out).mono ?_
  rintro e w1 ⟨bc, q', rfl, hs, hq1, hor, hf⟩
  have hlb1 := (hf.block lb (heap_lt HL.out) (by simpa using HN.out.symm)).trans HL.out
  have HS := hid hs
  have HQ1 := hid hq1
  have HO := hid hor
  have HF := hid hf
  have HL1 := hid hlb1
  clear hs hq1 hor hf hlb1
  go_wp2_with fail
  refine (add_any lb bc _ 101 w1 HL1.out).mono ?_
  rintro e w2 ⟨rfl, hf2, hl2⟩
  have HF2 := hid hf2
  have HL2 := hid hl2
  clear hf2 hl2
  go_wp2
  go_end0
  exact ⟨rfl, q', (HF2.out.block bs (heap_lt HS.out) (by simpa using HN.out)).trans HS.out, HQ1.out.fr HF2.out (fun b hb => by simp at hb; subst hb; exact ⟨_, _, HL1.out⟩), HO.out, (HF.out.mono (T := [bs, lb]) (fun b hb => .inl (by simp at hb ⊢; simp [hb]))).trans (HF2.out.mono (T := [bs, lb]) (fun b hb => .inl (by simp at hb ⊢; simp [hb]))), HL2.out⟩

/-- The session's files: the file a with a text, or none. -/
def XF (w : World) (f : Value) (text : ByteArray) (there : Bool) : Prop :=
  (there = false ∧ text = ⟨#[]⟩ ∧ f = .map none) ∨ (there = true ∧ ∃ bm, f = .map (some bm) ∧ w.heap[bm]? = some (Ses.mBlk text))

theorem XF.fr {w w' : World} {f : Value} {text : ByteArray} {there : Bool} {S : List Nat} (h : XF w f text there) (hf : Ses.Fr S w w') (hS : ∀ b, b ∈ S → b < w.heap.size → ∃ cs T, w.heap[b]? = some (.cells cs T)) : XF w' f text there := by
  rcases h with h | ⟨h1, bm, h2, h3⟩
  · exact .inl h
  · refine .inr ⟨h1, bm, h2, (hf.block bm (heap_lt h3) (fun e => ?_)).trans h3⟩
    obtain ⟨cs, T, h4⟩ := hS bm e (heap_lt h3)
    have := h4.symm.trans h3
    simp [Ses.mBlk] at this

theorem xtextE {w : World} {bs : Nat} {f : Value} {text : ByteArray} {there : Bool} (h : XF w f text there) (h0 : w.cell? ⟨bs, 0, none⟩ = some f) :
    Calls Tryz.prog 13 #[.pointer (some ⟨bs, 0, none⟩), .string ⟨#[97]⟩] w fun e w' => e = .returned (.tuple #[.string text, .bool there]) ∧ Below w.heap.size w w' := by
  rcases h with ⟨rfl, rfl, rfl⟩ | ⟨rfl, bm, rfl, h⟩
  · exact Ses.text_nil bs w h0
  · exact Ses.text_one bs bm text w h0 h

theorem ES.sess {w w' : World} {bs B : Nat} {f q sm : Value} {rv us : Int} {bg kv : Value} {l : List (TypeId × Nat)} {ul : List Int} (h : ES w bs B f q sm rv us bg kv l ul) {lb : Nat} {q' : Value} (hf : Ses.Fr [bs, lb] w w') (hs : w'.heap[bs]? = some (.cells #[f, .int .i64 rv, q', sm, bg, kv, .int .u64 us] 51)) (h1 : kv.ownBlock ≠ some lb) (h2 : ∀ (i : Nat) T' p', l[i]? = some (T', p') → p' ≠ lb) : ES w' bs B f q' sm rv us bg kv l ul := by
  have hbs := h.lt
  refine ⟨hs, h.lt, own_far h.own fun g hg => hf.block g (h.own.lt g hg).2 ?_, h.ulen, h.ty, fun i T p hi => ?_, fun i T p u hi hu => ?_, h.le, h.up⟩
  · have h3 := (h.own.lt g hg).1
    simp only [List.mem_cons, List.not_mem_nil, or_false, not_or]
    exact ⟨by omega, fun e => h1 (by rw [← e]; exact hg)⟩
  · obtain ⟨a, b, c⟩ := h.blk i T p hi
    exact ⟨a, b, Nat.lt_of_lt_of_le c hf.size⟩
  · obtain ⟨a, b, c⟩ := h.blk i T p hi
    refine (World.cell?_of_block (w := w) (hf.block p c ?_)).trans (h.used i T p u hi hu)
    simp only [List.mem_cons, List.not_mem_nil, or_false, not_or]
    exact ⟨by omega, h2 i T p hi⟩

/-- Behind a look at the file. -/
structure LO (w w' : World) (bs B lb : Nat) (f q q' sm : Value) (rv us : Int) (bg kv : Value) (l : List (TypeId × Nat)) (ul : List Int) : Prop where
  es : ES w' bs B f q' sm rv us bg kv l ul
  sq : SQ w' q'
  or : q' = q ∨ ∃ bq, q' = .map (some bq) ∧ w.heap.size ≤ bq
  kq : q ≠ .map none → q' = q
  fr : Ses.Fr [bs, lb] w w'
  lo : ∃ a m c, w'.heap[lb]? = some (.cells #[.pointer (some ⟨bs, 1, none⟩), .slice a m c] 105)

theorem LO.lower {wA w w' : World} {bs B lb : Nat} {f q q' sm : Value} {rv us : Int} {bg kv : Value} {l : List (TypeId × Nat)} {ul : List Int} (h : LO w w' bs B lb f q q' sm rv us bg kv l ul) (hb : Below wA.heap.size wA w) : LO wA w' bs B lb f q q' sm rv us bg kv l ul :=
  ⟨h.es, h.sq, h.or.imp id (fun ⟨bq, h1, h2⟩ => ⟨bq, h1, Nat.le_trans hb.size h2⟩), h.kq, (Ses.Fr.of_below hb).trans h.fr, h.lo⟩

theorem XF.below {w w' : World} {f : Value} {text : ByteArray} {there : Bool} (h : XF w f text there) (hb : Below w.heap.size w w') : XF w' f text there := h.fr (S := []) (Ses.Fr.of_below hb) (fun b hb => by simp at hb)
theorem SQ.below {w w' : World} {q : Value} (h : SQ w q) (hb : Below w.heap.size w w') : SQ w' q := h.fr (S := []) (Ses.Fr.of_below hb) (fun b hb => by simp at hb)

set_option maxRecDepth 100000 in
set_option maxHeartbeats 1000000 in
theorem look_any {w : World} {bs B lb : Nat} {f q sm : Value} {rv us : Int} {bg kv : Value} {l : List (TypeId × Nat)} {ul : List Int} {text : ByteArray} {there : Bool} (h : ES w bs B f q sm rv us bg kv l ul) (hx : XF w f text there) (hq : q = .map none ∨ SQ w q) (hlb : w.heap[lb]? = some (.cells #[.pointer (some ⟨bs, 1, none⟩), .slice none 0 0] 105)) :
    Calls Tryz.prog 88 #[.pointer (some ⟨bs, 0, none⟩), .pointer (some ⟨lb, 0, none⟩), .string ⟨#[97]⟩] w fun e w' => e = .returned (.tuple #[.string text, .bool there]) ∧ ∃ q', LO w w' bs B lb f q q' sm rv us bg kv l ul := by
  have HH := hid h
  have HX := hid hx
  have HQ := hid hq
  have HL := hid hlb
  have HN := hid (es_nlb h hlb)
  clear h hx hq hlb
  go_enter Tryz.func88, Tryz.ntmps88
  go_wp2_with fail
  refine (src_any w HH.out.s HQ.out HL.out).mono ?_
  rintro e w1 ⟨rfl, q', hs, hq1, hor, hf, hlo⟩
  have HES := hid (HH.out.sess hf hs HN.out.2.1 HN.out.2.2)
  have HX1 := hid (HX.out.fr hf (fun b hb _ => by
    simp at hb
    rcases hb with rfl | rfl
    · exact ⟨_, _, HH.out.s⟩
    · exact ⟨_, _, HL.out⟩))
  have HQ1 := hid hq1
  have HO := hid hor
  have HF := hid hf
  have HLO := hid hlo
  clear hs hq1 hor hf hlo
  go_wp2_with fail
  refine (xtextE HX1.out (heap_cell (i := 0) HES.out.s)).mono ?_
  rintro e w2 ⟨rfl, hb⟩
  have HB := hid hb
  clear hb
  go_wp2
  go_ret2
  obtain ⟨a, m, c, hl⟩ := HLO.out
  obtain ⟨bq, bc, hq1, hq2⟩ := HQ1.out
  exact ⟨rfl, q', HES.out.below HB.out, ⟨bq, bc, hq1, below_heap HB.out (heap_lt hq2) hq2⟩, HO.out.1, HO.out.2, HF.out.trans (Ses.Fr.of_below HB.out), a, m, c, below_heap HB.out (heap_lt hl) hl⟩

end Go.Proofs.YtfekglokoafpiaaGreatDoor

namespace Go.Proofs.YtfekglokoafpiaaGreatDoor
open Go.RowKit

theorem own_down {w : World} {B B' : Nat} {T : TypeId} {z n : Nat} {v : Value} {xs : List Value} (h : w.ownsRow B T z v n xs) (hb : B' ≤ B) : w.ownsRow B' T z v n xs := by
  obtain ⟨hl, h2 | ⟨g, c, cur, hv, hg, hr⟩⟩ := h
  · exact ⟨hl, .inl h2⟩
  · exact ⟨hl, .inr ⟨g, c, cur, hv, by omega, hr⟩⟩

theorem LO.below {w w' w2 : World} {bs B lb : Nat} {f q q' sm : Value} {rv us : Int} {bg kv : Value} {l : List (TypeId × Nat)} {ul : List Int} (h : LO w w' bs B lb f q q' sm rv us bg kv l ul) (hb : Below w'.heap.size w' w2) : LO w w2 bs B lb f q q' sm rv us bg kv l ul := by
  obtain ⟨he, ⟨bq, bc, hq1, hq2⟩, ho, hk, hf, a, m, c, hl⟩ := h
  exact ⟨he.below hb, ⟨bq, bc, hq1, below_heap hb (heap_lt hq2) hq2⟩, ho, hk, hf.trans (Ses.Fr.of_below hb), a, m, c, below_heap hb (heap_lt hl) hl⟩

def knownX (there : Bool) : ByteArray := if there then ⟨#[121, 101, 115]⟩ else ⟨#[110, 111]⟩

set_option maxRecDepth 100000 in
set_option maxHeartbeats 400000 in
theorem workKnown_any {w : World} {bs B lb : Nat} {f q sm : Value} {rv us : Int} {bg kv : Value} {l : List (TypeId × Nat)} {ul : List Int} {text : ByteArray} {there : Bool} (h : ES w bs B f q sm rv us bg kv l ul) (hx : XF w f text there) (hq : q = .map none ∨ SQ w q) (hlb : w.heap[lb]? = some (.cells #[.pointer (some ⟨bs, 1, none⟩), .slice none 0 0] 105)) :
    Calls Tryz.prog 59 #[.pointer (some ⟨bs, 0, none⟩), .pointer (some ⟨lb, 0, none⟩), keyV 1] w fun e w' => e = .returned (.string (knownX there)) ∧ ∃ q', LO w w' bs B lb f q q' sm rv us bg kv l ul := by
  have HB0 := hid (below_newE w (.cells #[.int .i64 1, .string ⟨#[97]⟩, .string ⟨#[]⟩] 107))
  have HLX := hid (look_any (h.below HB0.out) (hx.below HB0.out) (hq.imp id (fun h => h.below HB0.out)) (old_heap (.cells #[.int .i64 1, .string ⟨#[97]⟩, .string ⟨#[]⟩] 107) hlb))
  have hA := new_heap w (.cells #[.int .i64 1, .string ⟨#[97]⟩, .string ⟨#[]⟩] 107)
  have a0 : (w.alloc (.cells #[.int .i64 1, .string ⟨#[97]⟩, .string ⟨#[]⟩] 107)).cell? ⟨w.heap.size, 0, none⟩ = some _ := heap_cell (i := 0) hA
  have a1 : (w.alloc (.cells #[.int .i64 1, .string ⟨#[97]⟩, .string ⟨#[]⟩] 107)).cell? ⟨w.heap.size, 1, none⟩ = some _ := heap_cell (i := 1) hA
  have a2 : (w.alloc (.cells #[.int .i64 1, .string ⟨#[97]⟩, .string ⟨#[]⟩] 107)).cell? ⟨w.heap.size, 2, none⟩ = some _ := heap_cell (i := 2) hA
  clear hA
  clear h hx hq hlb
  go_enter Tryz.func59, Tryz.ntmps59
  go_wp2_with fail
  refine HLX.out.mono ?_
  rintro e w1 ⟨rfl, hl⟩
  have HLO := hid hl
  clear hl
  cases there
  all_goals
    go_wp2
    go_ret
    obtain ⟨q', hlo⟩ := HLO.out
    exact ⟨rfl, q', hlo.lower HB0.out⟩

set_option maxRecDepth 100000 in
set_option maxHeartbeats 400000 in
theorem workTokens_any {w : World} {bs B lb : Nat} {f q sm : Value} {rv us : Int} {bg kv : Value} {l : List (TypeId × Nat)} {ul : List Int} {text : ByteArray} {there : Bool} (ht : text.size ≤ 400) (h : ES w bs B f q sm rv us bg kv l ul) (hx : XF w f text there) (hq : q = .map none ∨ SQ w q) (hlb : w.heap[lb]? = some (.cells #[.pointer (some ⟨bs, 1, none⟩), .slice none 0 0] 105)) :
    Calls Tryz.prog 64 #[.pointer (some ⟨bs, 0, none⟩), .pointer (some ⟨lb, 0, none⟩), keyV 2] w fun e w' => ∃ x : Option Addr × Nat × Nat, e = .returned (.slice x.1 x.2.1 x.2.2) ∧ w'.ownsRow w.heap.size 118 3 (.slice x.1 x.2.1 x.2.2) (lexAll text).length (tokCells (lexAll text)) ∧ ∃ q', LO w w' bs B lb f q q' sm rv us bg kv l ul := by
  have HB0 := hid (below_newE w (.cells #[.int .i64 2, .string ⟨#[97]⟩, .string ⟨#[]⟩] 107))
  have HLX := hid (look_any (h.below HB0.out) (hx.below HB0.out) (hq.imp id (fun h => h.below HB0.out)) (old_heap (.cells #[.int .i64 2, .string ⟨#[97]⟩, .string ⟨#[]⟩] 107) hlb))
  have hA := new_heap w (.cells #[.int .i64 2, .string ⟨#[97]⟩, .string ⟨#[]⟩] 107)
  have a0 : (w.alloc (.cells #[.int .i64 2, .string ⟨#[97]⟩, .string ⟨#[]⟩] 107)).cell? ⟨w.heap.size, 0, none⟩ = some _ := heap_cell (i := 0) hA
  have a1 : (w.alloc (.cells #[.int .i64 2, .string ⟨#[97]⟩, .string ⟨#[]⟩] 107)).cell? ⟨w.heap.size, 1, none⟩ = some _ := heap_cell (i := 1) hA
  have a2 : (w.alloc (.cells #[.int .i64 2, .string ⟨#[97]⟩, .string ⟨#[]⟩] 107)).cell? ⟨w.heap.size, 2, none⟩ = some _ := heap_cell (i := 2) hA
  clear hA
  clear h hx hq hlb
  go_enter Tryz.func64, Tryz.ntmps64
  go_wp2_with fail
  refine HLX.out.mono ?_
  rintro e w1 ⟨rfl, hl⟩
  have HLO := hid hl
  clear hl
  go_wp2_with fail
  refine (readTokens_any text _ ht).mono ?_
  rintro e w2 ⟨v, rfl, hown, hb2⟩
  have HO := hid hown
  have HB2 := hid hb2
  have hsh : ∃ ao m c, v = .slice ao m c := by
    obtain ⟨_, ⟨h, _⟩ | ⟨g, c, _, h, _⟩⟩ := hown
    · exact ⟨none, 0, 0, h⟩
    · exact ⟨_, _, _, h⟩
  obtain ⟨ao, m, c, rfl⟩ := hsh
  clear hown hb2
  go_wp2
  go_ret
  obtain ⟨q', hlo⟩ := HLO.out
  exact ⟨(ao, m, c), rfl, own_down HO.out (Nat.le_trans HB0.out.size hlo.fr.size), q', (hlo.below HB2.out).lower HB0.out⟩

end Go.Proofs.YtfekglokoafpiaaGreatDoor

namespace Go.Proofs.YtfekglokoafpiaaGreatDoor
open Go.RowKit

set_option maxRecDepth 100000 in
set_option maxHeartbeats 400000 in
theorem beginE {bs : Nat} {v : Value} (w : World) (c4 : w.cell? ⟨bs, 4, none⟩ = some v) (f4 : w.frozen? ⟨bs, 4, none⟩ = false) :
    Calls Tryz.prog 11 #[.pointer (some ⟨bs, 0, none⟩)] w fun e w' => e = .returned (.tuple #[]) ∧ w' = w.setCell ⟨bs, 4, none⟩ (.slice none 0 0) := by
  go_enter Tryz.func11, Tryz.ntmps11
  go_wp2
  go_end0
  exact ⟨rfl, rfl⟩

set_option maxRecDepth 100000 in
set_option maxHeartbeats 400000 in
theorem keepE {bs n : Nat} {a : Option Addr} {c : Nat} (w : World) (hn : n ≤ 4) (c5 : w.cell? ⟨bs, 5, none⟩ = some (.slice a n c)) :
    Calls Tryz.prog 22 #[.pointer (some ⟨bs, 1, none⟩), .int .i64 40] w fun e w' => e = .returned (.tuple #[]) ∧ w' = w := by
  have h40 : ¬ ((40 : Int) < (n : Int)) := by omega
  go_enter Tryz.func22, Tryz.ntmps22
  go_wp2
  refine wp_loop_rounds 1 ?_
  rw [rounds_succ]
  go_wp2
  go_end0
  exact ⟨rfl, rfl⟩

set_option maxRecDepth 100000 in
set_option maxHeartbeats 400000 in
theorem knownE {w : World} {bs lb : Nat} (Q : ByteArray → World → Prop) (HF : ∀ W, Below w.heap.size w W → Calls Tryz.prog 57 #[.pointer (some ⟨lb, 0, none⟩), keyV 1, .agg #[.func (.func 59) #[.pointer (some ⟨bs, 0, none⟩)] #[], .func (.func 87) #[] #[], .string ⟨#[]⟩]] W fun e w' => ∃ x, e = .returned (.string x) ∧ Q x w') :
    Calls Tryz.prog 34 #[.pointer (some ⟨bs, 0, none⟩), .pointer (some ⟨lb, 0, none⟩), .string ⟨#[97]⟩] w fun e w' => ∃ x, e = .returned (.string x) ∧ Q x w' := by
  have HFF := hid HF
  clear HF
  have hmf : ∀ (fn : Fn) (first cap : Array Value) (w : World), (Instr.makeFunc fn first cap).run Tryz.prog w = .ok (.func fn first cap) w := fun _ _ _ _ => rfl
  go_enter Tryz.func34, Tryz.ntmps34
  go_wp2_with fail
  refine (textRule_any 59 bs w).mono ?_
  rintro e w1 ⟨rfl, hb⟩
  have HB := hid hb
  clear hb
  go_wp2_with fail
  refine (HFF.out w1 HB.out).mono ?_
  rintro e w2 ⟨x, rfl, hq⟩
  have HQ := hid hq
  clear hq
  go_wp2
  go_ret
  exact ⟨x, rfl, HQ.out⟩

set_option maxRecDepth 100000 in
set_option maxHeartbeats 400000 in
theorem tokensE {w : World} {bs lb : Nat} (Q : (Option Addr × Nat × Nat) → World → Prop) (HF : ∀ W, Below w.heap.size w W → Calls Tryz.prog 66 #[.pointer (some ⟨lb, 0, none⟩), keyV 2, .agg #[.func (.func 64) #[.pointer (some ⟨bs, 0, none⟩)] #[], .func (.func 65) #[] #[], .slice none 0 0]] W fun e w' => ∃ x, e = .returned (.slice x.1 x.2.1 x.2.2) ∧ Q x w') :
    Calls Tryz.prog 36 #[.pointer (some ⟨bs, 0, none⟩), .pointer (some ⟨lb, 0, none⟩), .string ⟨#[97]⟩] w fun e w' => ∃ x, e = .returned (.slice x.1 x.2.1 x.2.2) ∧ Q x w' := by
  have HFF := hid (HF _ (below_newE w (.cells #[.func (.func 64) #[.pointer (some ⟨bs, 0, none⟩)] #[], .func (.func 65) #[] #[], .slice none 0 0] 129)))
  have hR := new_heap w (.cells #[.func (.func 64) #[.pointer (some ⟨bs, 0, none⟩)] #[], .func (.func 65) #[] #[], .slice none 0 0] 129)
  have r0 : (w.alloc (.cells #[.func (.func 64) #[.pointer (some ⟨bs, 0, none⟩)] #[], .func (.func 65) #[] #[], .slice none 0 0] 129)).cell? ⟨w.heap.size, 0, none⟩ = some _ := heap_cell (i := 0) hR
  have r1 : (w.alloc (.cells #[.func (.func 64) #[.pointer (some ⟨bs, 0, none⟩)] #[], .func (.func 65) #[] #[], .slice none 0 0] 129)).cell? ⟨w.heap.size, 1, none⟩ = some _ := heap_cell (i := 1) hR
  have r2 : (w.alloc (.cells #[.func (.func 64) #[.pointer (some ⟨bs, 0, none⟩)] #[], .func (.func 65) #[] #[], .slice none 0 0] 129)).cell? ⟨w.heap.size, 2, none⟩ = some _ := heap_cell (i := 2) hR
  clear HF hR
  have hmf : ∀ (fn : Fn) (first cap : Array Value) (w : World), (Instr.makeFunc fn first cap).run Tryz.prog w = .ok (.func fn first cap) w := fun _ _ _ _ => rfl
  go_enter Tryz.func36, Tryz.ntmps36
  go_wp2_with fail
  refine HFF.out.mono ?_
  rintro e w1 ⟨x, rfl, hq⟩
  have HQ := hid hq
  clear hq
  go_wp2
  go_ret
  exact ⟨x, rfl, HQ.out⟩

set_option maxRecDepth 100000 in
set_option maxHeartbeats 400000 in
theorem exportsE {w : World} {bs lb : Nat} (Q : (Option Addr × Nat × Nat) → World → Prop) (HF : ∀ W, Below w.heap.size w W → Calls Tryz.prog 74 #[.pointer (some ⟨lb, 0, none⟩), keyV 4, .agg #[.func (.func 72) #[.pointer (some ⟨bs, 0, none⟩)] #[], .func (.func 73) #[] #[], .slice none 0 0]] W fun e w' => ∃ x, e = .returned (.slice x.1 x.2.1 x.2.2) ∧ Q x w') :
    Calls Tryz.prog 40 #[.pointer (some ⟨bs, 0, none⟩), .pointer (some ⟨lb, 0, none⟩), .string ⟨#[97]⟩] w fun e w' => ∃ x, e = .returned (.slice x.1 x.2.1 x.2.2) ∧ Q x w' := by
  have HFF := hid (HF _ (below_newE w (.cells #[.func (.func 72) #[.pointer (some ⟨bs, 0, none⟩)] #[], .func (.func 73) #[] #[], .slice none 0 0] 145)))
  have hR := new_heap w (.cells #[.func (.func 72) #[.pointer (some ⟨bs, 0, none⟩)] #[], .func (.func 73) #[] #[], .slice none 0 0] 145)
  have r0 : (w.alloc (.cells #[.func (.func 72) #[.pointer (some ⟨bs, 0, none⟩)] #[], .func (.func 73) #[] #[], .slice none 0 0] 145)).cell? ⟨w.heap.size, 0, none⟩ = some _ := heap_cell (i := 0) hR
  have r1 : (w.alloc (.cells #[.func (.func 72) #[.pointer (some ⟨bs, 0, none⟩)] #[], .func (.func 73) #[] #[], .slice none 0 0] 145)).cell? ⟨w.heap.size, 1, none⟩ = some _ := heap_cell (i := 1) hR
  have r2 : (w.alloc (.cells #[.func (.func 72) #[.pointer (some ⟨bs, 0, none⟩)] #[], .func (.func 73) #[] #[], .slice none 0 0] 145)).cell? ⟨w.heap.size, 2, none⟩ = some _ := heap_cell (i := 2) hR
  clear HF hR
  have hmf : ∀ (fn : Fn) (first cap : Array Value) (w : World), (Instr.makeFunc fn first cap).run Tryz.prog w = .ok (.func fn first cap) w := fun _ _ _ _ => rfl
  go_enter Tryz.func40, Tryz.ntmps40
  go_wp2_with fail
  refine HFF.out.mono ?_
  rintro e w1 ⟨x, rfl, hq⟩
  have HQ := hid hq
  clear hq
  go_wp2
  go_ret
  exact ⟨x, rfl, HQ.out⟩

end Go.Proofs.YtfekglokoafpiaaGreatDoor

namespace Go.Proofs.YtfekglokoafpiaaGreatDoor
open Go.RowKit

set_option maxRecDepth 100000 in
set_option maxHeartbeats 400000 in
theorem treeE {w : World} {bs lb : Nat} (Q : World → (Option Addr × Nat × Nat × Int) → World → Prop) (Q' : (Option Addr × Nat × Nat × Int) → World → Prop)
    (HF : ∀ W, Below w.heap.size w W → Calls Tryz.prog 70 #[.pointer (some ⟨lb, 0, none⟩), keyV 3, .agg #[.func (.func 68) #[.pointer (some ⟨bs, 0, none⟩)] #[], .func (.func 69) #[] #[], .slice none 0 0, .int .i64 0]] W fun e w' => ∃ x : Option Addr × Nat × Nat × Int, e = .returned (.agg #[.slice x.1 x.2.1 x.2.2.1, .int .i64 x.2.2.2]) ∧ Q W x w')
    (hK : ∀ W x w' rb, Below w.heap.size w W → Q W x w' → w.heap.size ≤ rb → rb < W.heap.size → w'.heap[rb]? = W.heap[rb]?)
    (hQ : ∀ W x w' rb xs a b, Below w.heap.size w W → Q W x w' → SB w' rb 86 xs → w.heap.size ≤ rb → rb < W.heap.size → Q' x ((w'.setCell ⟨rb, 0, none⟩ a).setCell ⟨rb, 1, none⟩ b)) :
    Calls Tryz.prog 38 #[.pointer (some ⟨bs, 0, none⟩), .pointer (some ⟨lb, 0, none⟩), .string ⟨#[97]⟩] w fun e w' => ∃ x : Option Addr × Nat × Nat × Int, e = .returned (.agg #[.slice x.1 x.2.1 x.2.2.1, .int .i64 x.2.2.2]) ∧ Q' x w' := by
  have hmf : ∀ (fn : Fn) (first cap : Array Value) (w : World), (Instr.makeFunc fn first cap).run Tryz.prog w = .ok (.func fn first cap) w := fun _ _ _ _ => rfl
  go_enter Tryz.func38, Tryz.ntmps38
  go_wp2_with fail
  have hb0 := ((Below.refl w.heap.size w).alloc (Nat.le_refl _) (.cells #[.slice none 0 0, .int .i64 0] 86)).alloc (by simp) (.cells #[.func (.func 68) #[.pointer (some ⟨bs, 0, none⟩)] #[], .func (.func 69) #[] #[], .slice none 0 0, .int .i64 0] 140)
  have hT := old_heap (.cells #[.func (.func 68) #[.pointer (some ⟨bs, 0, none⟩)] #[], .func (.func 69) #[] #[], .slice none 0 0, .int .i64 0] 140) (new_heap w (.cells #[.slice none 0 0, .int .i64 0] 86))
  have hz : w.heap.size < ((w.alloc (.cells #[.slice none 0 0, .int .i64 0] 86)).alloc (.cells #[.func (.func 68) #[.pointer (some ⟨bs, 0, none⟩)] #[], .func (.func 69) #[] #[], .slice none 0 0, .int .i64 0] 140)).heap.size := by simp; omega
  generalize (w.alloc (.cells #[.slice none 0 0, .int .i64 0] 86)).alloc (.cells #[.func (.func 68) #[.pointer (some ⟨bs, 0, none⟩)] #[], .func (.func 69) #[] #[], .slice none 0 0, .int .i64 0] 140) = W at hb0 hT hz ⊢
  refine (HF W hb0).mono ?_
  rintro e w1 ⟨x, rfl, hq⟩
  have hT1 := (hK W x w1 w.heap.size hb0 hq (Nat.le_refl _) hz).trans hT
  have q0 : w1.cell? ⟨w.heap.size, 0, none⟩ = some (.slice none 0 0) := heap_cell (i := 0) hT1
  have q1 : w1.cell? ⟨w.heap.size, 1, none⟩ = some (.int .i64 0) := heap_cell (i := 1) hT1
  have f0 : w1.frozen? ⟨w.heap.size, 0, none⟩ = false := heap_frozen hT1
  have f1 : w1.frozen? ⟨w.heap.size, 1, none⟩ = false := heap_frozen hT1
  have HR5 := hid (heap_setCell_lit (i := 1) (heap_setCell_lit (i := 0) hT1 (.slice x.1 x.2.1 x.2.2.1)) (.int .i64 x.2.2.2))
  have HQ := hid (hQ W x w1 w.heap.size _ (.slice x.1 x.2.1 x.2.2.1) (.int .i64 x.2.2.2) hb0 hq hT1 (Nat.le_refl _) hz)
  clear HF hK hQ hq hT hT1 hb0 hz
  go_wp2
  have y0 := heap_cell (i := 0) HR5.out
  have y1 := heap_cell (i := 1) HR5.out
  refine bodyPost_ret (v := .agg #[.slice x.1 x.2.1 x.2.2.1, .int .i64 x.2.2.2]) (by simp [results, Tryz.results38, go_sem, y0, y1]; try rfl) rfl ?_
  exact ⟨x, rfl, HQ.out⟩

end Go.Proofs.YtfekglokoafpiaaGreatDoor

namespace Go.Proofs.YtfekglokoafpiaaGreatDoor
open Go.RowKit

abbrev LK (bs : Nat) : Obj := .cells #[.pointer (some ⟨bs, 1, none⟩), .slice none 0 0] 105

set_option maxRecDepth 100000 in
set_option maxHeartbeats 400000 in
theorem cloneE (s : ByteArray) (w : World) (hl : s.size ≤ 281474976710656) :
    Calls Tryz.prog 23 #[.string s] w fun e w' => e = .returned (.string s) ∧ Below w.heap.size w w' := by
  go_enter Tryz.func23, Tryz.ntmps23
  go_wp2_with (go_at_call 46; refine (Tryz.stringslite_Clone _ _ (by omega)).mono ?_; rintro e w' ⟨rfl, hb⟩)
  go_ret
  exact ⟨rfl, hb⟩

set_option maxRecDepth 100000 in
set_option maxHeartbeats 400000 in
theorem write1 {w : World} {bs : Nat} (Q : ByteArray → World → Prop) (HK : Calls Tryz.prog 34 #[.pointer (some ⟨bs, 0, none⟩), .pointer (some ⟨w.heap.size, 0, none⟩), .string ⟨#[97]⟩] (w.alloc (LK bs)) fun e w' => ∃ x, e = .returned (.string x) ∧ Q x w') :
    Calls Tryz.prog 21 #[.pointer (some ⟨bs, 0, none⟩), .int .i64 1, .string ⟨#[97]⟩, .string ⟨#[]⟩] w fun e w' => ∃ t, e = .returned (.string t) ∧ ∃ w1, Q t w1 ∧ Below w1.heap.size w1 w' := by
  have HKK := hid HK
  clear HK
  go_enter Tryz.func21, Tryz.ntmps21
  go_wp2_with fail
  refine (newLooks bs w).mono ?_
  rintro e w1 ⟨rfl, rfl⟩
  go_wp2_with fail
  refine HKK.out.mono ?_
  rintro e w2 ⟨x, rfl, hq⟩
  have HQ := hid hq
  clear hq
  go_wp2
  go_ret
  exact ⟨x, rfl, w2, HQ.out, Below.refl _ _⟩

set_option maxRecDepth 100000 in
set_option maxHeartbeats 400000 in
theorem write2 {w : World} {bs : Nat} {t : ByteArray} (Q : (Option Addr × Nat × Nat) → World → Prop) (HK : Calls Tryz.prog 36 #[.pointer (some ⟨bs, 0, none⟩), .pointer (some ⟨w.heap.size, 0, none⟩), .string ⟨#[97]⟩] (w.alloc (LK bs)) fun e w' => ∃ x, e = .returned (.slice x.1 x.2.1 x.2.2) ∧ Q x w')
    (HP : ∀ x w', Q x w' → Calls Tryz.prog 35 #[.slice x.1 x.2.1 x.2.2] w' fun e w'' => e = .returned (.string t) ∧ Below w'.heap.size w' w'') :
    Calls Tryz.prog 21 #[.pointer (some ⟨bs, 0, none⟩), .int .i64 2, .string ⟨#[97]⟩, .string ⟨#[]⟩] w fun e w' => e = .returned (.string t) ∧ ∃ x w1, Q x w1 ∧ Below w1.heap.size w1 w' := by
  have HKK := hid HK
  have HPP := hid HP
  clear HK HP
  go_enter Tryz.func21, Tryz.ntmps21
  go_wp2_with fail
  refine (newLooks bs w).mono ?_
  rintro e w1 ⟨rfl, rfl⟩
  go_wp2_with fail
  refine HKK.out.mono ?_
  rintro e w2 ⟨x, rfl, hq⟩
  have HQ := hid hq
  clear hq
  go_wp2_with fail
  refine (HPP.out x w2 HQ.out).mono ?_
  rintro e w3 ⟨rfl, hb⟩
  have HB := hid hb
  clear hb
  go_wp2
  go_ret
  exact ⟨rfl, x, w2, HQ.out, HB.out⟩

set_option maxRecDepth 100000 in
set_option maxHeartbeats 400000 in
theorem write3 {w : World} {bs : Nat} {t : ByteArray} (Q : (Option Addr × Nat × Nat × Int) → World → Prop) (HK : Calls Tryz.prog 38 #[.pointer (some ⟨bs, 0, none⟩), .pointer (some ⟨w.heap.size, 0, none⟩), .string ⟨#[97]⟩] (w.alloc (LK bs)) fun e w' => ∃ x : Option Addr × Nat × Nat × Int, e = .returned (.agg #[.slice x.1 x.2.1 x.2.2.1, .int .i64 x.2.2.2]) ∧ Q x w')
    (HP : ∀ x w', Q x w' → Calls Tryz.prog 37 #[.agg #[.slice x.1 x.2.1 x.2.2.1, .int .i64 x.2.2.2]] w' fun e w'' => e = .returned (.string t) ∧ Below w'.heap.size w' w'') :
    Calls Tryz.prog 21 #[.pointer (some ⟨bs, 0, none⟩), .int .i64 3, .string ⟨#[97]⟩, .string ⟨#[]⟩] w fun e w' => e = .returned (.string t) ∧ ∃ x w1, Q x w1 ∧ Below w1.heap.size w1 w' := by
  have HKK := hid HK
  have HPP := hid HP
  clear HK HP
  go_enter Tryz.func21, Tryz.ntmps21
  go_wp2_with fail
  refine (newLooks bs w).mono ?_
  rintro e w1 ⟨rfl, rfl⟩
  go_wp2_with fail
  refine HKK.out.mono ?_
  rintro e w2 ⟨x, rfl, hq⟩
  have HQ := hid hq
  clear hq
  go_wp2_with fail
  refine (HPP.out x w2 HQ.out).mono ?_
  rintro e w3 ⟨rfl, hb⟩
  have HB := hid hb
  clear hb
  go_wp2
  go_ret
  exact ⟨rfl, x, w2, HQ.out, HB.out⟩

set_option maxRecDepth 100000 in
set_option maxHeartbeats 400000 in
theorem write4 {w : World} {bs : Nat} {t : ByteArray} (Q : (Option Addr × Nat × Nat) → World → Prop) (HK : Calls Tryz.prog 40 #[.pointer (some ⟨bs, 0, none⟩), .pointer (some ⟨w.heap.size, 0, none⟩), .string ⟨#[97]⟩] (w.alloc (LK bs)) fun e w' => ∃ x, e = .returned (.slice x.1 x.2.1 x.2.2) ∧ Q x w')
    (HP : ∀ x w', Q x w' → Calls Tryz.prog 39 #[.slice x.1 x.2.1 x.2.2, .string ⟨#[32]⟩] w' fun e w'' => e = .returned (.string t) ∧ Below w'.heap.size w' w'') :
    Calls Tryz.prog 21 #[.pointer (some ⟨bs, 0, none⟩), .int .i64 4, .string ⟨#[97]⟩, .string ⟨#[]⟩] w fun e w' => e = .returned (.string t) ∧ ∃ x w1, Q x w1 ∧ Below w1.heap.size w1 w' := by
  have HKK := hid HK
  have HPP := hid HP
  clear HK HP
  go_enter Tryz.func21, Tryz.ntmps21
  go_wp2_with fail
  refine (newLooks bs w).mono ?_
  rintro e w1 ⟨rfl, rfl⟩
  go_wp2_with fail
  refine HKK.out.mono ?_
  rintro e w2 ⟨x, rfl, hq⟩
  have HQ := hid hq
  clear hq
  go_wp2_with fail
  refine (HPP.out x w2 HQ.out).mono ?_
  rintro e w3 ⟨rfl, hb⟩
  have HB := hid hb
  clear hb
  go_wp2
  go_ret
  exact ⟨rfl, x, w2, HQ.out, HB.out⟩

set_option maxRecDepth 100000 in
set_option maxHeartbeats 400000 in
theorem needs_small (k : Nat) (hk : k ≤ 4) (w : World) : Calls Tryz.prog 32 #[.int .i64 (k : Nat)] w fun e w' => e = .returned (.bool false) ∧ w' = w := by
  have h5 : ¬ ((5 : Int) ≤ (k : Int)) := by omega
  go_enter Tryz.func32, Tryz.ntmps32
  go_wp2
  go_ret
  exact ⟨rfl, rfl⟩

set_option maxRecDepth 100000 in
set_option maxHeartbeats 400000 in
theorem check_small (k : Nat) (hk0 : 1 ≤ k) (hk : k ≤ 4) (nm : ByteArray) (w : World) : Calls Tryz.prog 20 #[.int .i64 (k : Nat), .string ⟨#[97]⟩, .string nm] w fun e w' => e = .returned (.int .i64 0) ∧ w' = w := by
  have h1 : ¬ ((k : Int) < 1) := by omega
  have h8 : ¬ ((8 : Int) < (k : Int)) := by omega
  go_enter Tryz.func20, Tryz.ntmps20
  go_wp2_with (first
    | (go_at_call 12; refine (Ses.isFile_a _).mono ?_; rintro e w' ⟨rfl, rfl⟩)
    | (go_at_call 32; refine (needs_small k hk _).mono ?_; rintro e w' ⟨rfl, rfl⟩))
  go_ret
  exact ⟨rfl, rfl⟩

set_option maxRecDepth 100000 in
set_option maxHeartbeats 400000 in
theorem askE {w : World} {bs : Nat} {k : Nat} (hk0 : 1 ≤ k) (hk : k ≤ 4) {t : ByteArray} (ht : t.size ≤ 281474976710656) {v : Value} (c4 : w.cell? ⟨bs, 4, none⟩ = some v) (f4 : w.frozen? ⟨bs, 4, none⟩ = false) (R : World → Prop)
    (HW : Calls Tryz.prog 21 #[.pointer (some ⟨bs, 0, none⟩), .int .i64 (k : Nat), .string ⟨#[97]⟩, .string ⟨#[]⟩] (w.setCell ⟨bs, 4, none⟩ (.slice none 0 0)) fun e w' => e = .returned (.string t) ∧ R w')
    (HR : ∀ w', R w' → ∃ a n c, n ≤ 4 ∧ w'.cell? ⟨bs, 5, none⟩ = some (.slice a n c)) :
    Calls Tryz.prog 9 #[.pointer (some ⟨bs, 0, none⟩), .int .i64 (k : Nat), .string ⟨#[97]⟩, .string ⟨#[]⟩] w fun e w' => e = .returned (.tuple #[.string t, .int .i64 0]) ∧ ∃ w1, R w1 ∧ Below w1.heap.size w1 w' := by
  have HWW := hid HW
  have HRR := hid HR
  clear HW HR
  go_enter Tryz.func9, Tryz.ntmps9
  go_wp2_with fail
  refine (beginE w c4 f4).mono ?_
  rintro e w1 ⟨rfl, rfl⟩
  go_wp2_with fail
  refine (check_small k hk0 hk ⟨#[]⟩ _).mono ?_
  rintro e w1 ⟨rfl, rfl⟩
  go_wp2_with fail
  refine HWW.out.mono ?_
  rintro e w2 ⟨rfl, hr⟩
  obtain ⟨a, n, c, hn, c5⟩ := HRR.out w2 hr
  have HR2 := hid hr
  clear hr
  go_wp2_with fail
  refine (keepE w2 hn c5).mono ?_
  rintro e w3 ⟨rfl, rfl⟩
  go_wp2_with fail
  refine (cloneE t w3 ht).mono ?_
  rintro e w4 ⟨rfl, hb⟩
  have HB := hid hb
  clear hb
  go_wp2
  go_ret2
  exact ⟨rfl, w3, HR2.out, HB.out⟩

end Go.Proofs.YtfekglokoafpiaaGreatDoor

namespace Go.Proofs.YtfekglokoafpiaaGreatDoor
open Go.RowKit

set_option maxHeartbeats 1000000 in
theorem settledNew2 {w w1 : World} {bs B p ms n k : Nat} {es : Array MapEntry} {TT TP : TypeId} {F : FuncId} {f q sm : Value} {rv us us' : Int} {kv : Value} {l : List (TypeId × Nat)} {ul ul' : List Int} {rest : List Value} {mo : Obj} {S : List Nat} (V : Nat → List Value → Value → World → Prop)
    (h : ES w bs B f q sm rv us (.slice none 0 0) kv l ul) (hrv : 0 ≤ rv) (hM : MT TP F) (hTT : TT ≠ 92)
    (hfn : FN w w1 bs p ms n es TT TP f rv q (.slice none 0 0) kv us (slotL bs k false (.slice none 0 0) (-1) 0 (-1) 0 rest) (k : Nat)) (hmo : w1.heap[ms]? = some mo) (hmo2 : ∀ cs T, mo ≠ .cells cs T) (hk1 : kv.ownBlock ≠ some ms) (hk2 : ∀ (i : Nat) T' p', l[i]? = some (T', p') → p' ≠ ms)
    (hul : ul'.length = l.length) (hS : ∀ b, b ∈ S → b < w.heap.size ∧ b ≠ ms ∧ b ≠ bs ∧ b ≠ kbk bs kv)
    (hVs : ∀ N r q' wa wb, V N r q' wa → St S N wa wb → V N r q' wb) (hVm : ∀ N N' r q' wa, V N r q' wa → N' ≤ N → V N' r q' wa)
    (hWO : ∀ wS, ES wS bs B f q (.map (some ms)) rv us (.slice none 0 0) kv l ul → SB wS p TT (newL bs k rest) → wS.heap[ms]? = some mo → w1.heap.size ≤ wS.heap.size → Ses.Fr [bs, ms] w wS →
      Calls Tryz.prog F #[.pointer (some ⟨p, 0, none⟩)] wS fun e w' => e = .returned (.tuple #[]) ∧ ∃ w2 rest' bg lk q', Ses.Fr (bs :: S) wS w2 ∧ V wS.heap.size rest' q' w2 ∧ AN w2 w' bs B p k TT lk rest' f q' (.map (some ms)) rv us' bg kv l ul' TP) :
    Calls Tryz.prog 85 #[.iface TP (.pointer (some ⟨p, 0, none⟩)), .bool true] w1 fun e w' => e = .returned (.tuple #[]) ∧ ∃ rest' bg lk kv' q', DN w w' bs B p ms k TT TP mo lk rest' f q' rv us' bg kv kv' l ul' S ∧ V w.heap.size rest' q' w' := by
  have hbs := h.lt
  have hbw := heap_lt h.s
  have hpl := hfn.lp
  have hsz1 := hfn.fr.size
  have he1 := hfn.es h hk1 hk2
  have hs1 := hfn.sb
  have hp1 := hs1.lt
  have hne : bs ≠ p := by omega
  have hpg := hs1.row he1.own hTT
  have hmsp : ms ≠ p := fun e => by
    subst e
    exact hmo2 _ _ (Option.some.inj (hmo.symm.trans hs1))
  have hmsb : ms ≠ bs := fun e => by
    subst e
    exact hmo2 _ _ (Option.some.inj (hmo.symm.trans hfn.s))
  have hkb := kbk_lt h
  have hpS : p ∉ S := fun e => by have := (hS p e).1; omega
  -- the world of the work
  have he2 := (he1.other 4 (.bool true) hne hpg (.inl (by decide)))
  have hs2 : SB (w1.setCell ⟨p, 4, none⟩ (.bool true)) p TT (newL bs k rest) := hs1.set 4 (.bool true)
  have hm2 : (w1.setCell ⟨p, 4, none⟩ (.bool true)).heap[ms]? = some mo := (heap_setCell_ne hmsp _).trans hmo
  have hf2 := hfn.fr.setCell ⟨p, 4, none⟩ (.inr hpl) (.bool true)
  have hz2 : (w1.setCell ⟨p, 4, none⟩ (.bool true)).heap.size = w1.heap.size := by simp
  have hN := new_heap (w1.setCell ⟨p, 4, none⟩ (.bool true)) (.cells #[.iface TP (.pointer (some ⟨p, 0, none⟩))] 92)
  rw [hz2] at hN
  have hba := below_newE (w1.setCell ⟨p, 4, none⟩ (.bool true)) (.cells #[.iface TP (.pointer (some ⟨p, 0, none⟩))] 92)
  have hf3 := hf2.alloc (.cells #[.iface TP (.pointer (some ⟨p, 0, none⟩))] 92)
  have he3 := he2.below hba
  have hs3 := hs2.below hba
  have hm3 := below_heap hba (heap_lt hm2) hm2
  have hz3 : ((w1.setCell ⟨p, 4, none⟩ (.bool true)).alloc (.cells #[.iface TP (.pointer (some ⟨p, 0, none⟩))] 92)).heap.size = w1.heap.size + 1 := by simp
  have key := hWO _ he3 hs3 hm3 (by omega) hf3
  obtain ⟨wS, hwS⟩ : ∃ wS, wS = (w1.setCell ⟨p, 4, none⟩ (.bool true)).alloc (.cells #[.iface TP (.pointer (some ⟨p, 0, none⟩))] 92) := ⟨_, rfl⟩
  rw [← hwS] at key hN hf3 he3 hs3 hm3 hz3
  have hkS : ∀ b, b ∈ bs :: S → b < w.heap.size := fun b hb => by
    rcases List.mem_cons.1 hb with rfl | hb
    · exact hbw
    · exact (hS b hb).1
  refine (settle_new TP F hM p bs rv hrv w1 ⟨hs1.cell (i := 0) rfl, hs1.cell (i := 4) rfl, hs1.cell (i := 5) rfl, hs1.cell (i := 7) rfl, fun i => hs1.fr i⟩ (heap_cell (i := 1) hfn.s) hne hp1 (heap_lt hfn.s)
    (fun w' => ∃ w2 rest' bg lk q', Ses.Fr (bs :: S) wS w2 ∧ V wS.heap.size rest' q' w2 ∧ AN w2 w' bs B p k TT lk rest' f q' (.map (some ms)) rv us' bg kv l ul' TP) ?_ (by rw [← hwS]; exact key)).mono ?_
  · rintro w' ⟨w2, rest', bg, lk, q', f2, -, han⟩
    have z2 := f2.size
    refine ⟨han.sb.cell (i := 4) rfl, han.sb.cell (i := 5) rfl, han.sb.fr 4, han.sb.fr 5, ?_⟩
    have b1 : w2.heap[w1.heap.size]? = some (.cells #[.iface TP (.pointer (some ⟨p, 0, none⟩))] 92) := (f2.block _ (by omega) (fun e => by have := hkS _ e; omega)).trans hN
    have b2 := (han.fr.block w1.heap.size (by omega) (fun e => by
      simp only [List.mem_cons, List.not_mem_nil, or_false] at e
      omega)).trans b1
    exact heap_cell (i := 0) b2
  · rintro e w' ⟨rfl, w3, ⟨w2, rest', bg, lk, q', f2, hv, han⟩, rfl⟩
    obtain ⟨kv', hes, hkv'⟩ := han.es
    have z2 := f2.size
    have z3 := han.fr.size
    have hpg' : kv'.ownBlock ≠ some p := fun e => by
      rcases hkv' p e with h1 | h1
      · have := (h.own.lt p h1).2; omega
      · omega
    have m2 : w2.heap[ms]? = some mo := (f2.block ms (heap_lt hm3) (fun e => by
      rcases List.mem_cons.1 e with e | e
      · exact hmsb e
      · exact (hS ms e).2.1 rfl)).trans hm3
    have m3 : w3.heap[ms]? = some mo := (han.fr.block ms (heap_lt m2) (fun e => by
      simp only [List.mem_cons, List.not_mem_nil, or_false] at e
      rcases e with e | e | e
      · exact hmsb e
      · exact hmsp e
      · unfold kbk at e
        cases hk : kv.ownBlock with
        | none => rw [hk] at e; exact hmsb e
        | some g => rw [hk] at e; exact hk1 (by rw [hk]; simp at e; rw [e]))).trans m2
    have hfr : Ses.Fr (bs :: ms :: kbk bs kv :: S) w w3 := by
      have z5 := hf3.size
      refine ⟨han.fr.os.trans (f2.os.trans hf3.os), han.fr.tape.trans (f2.tape.trans hf3.tape), han.fr.output.trans (f2.output.trans hf3.output), by omega, fun b hb hn => ?_⟩
      simp only [List.mem_cons, not_or] at hn
      obtain ⟨n1, n2, n3, n4⟩ := hn
      refine (han.fr.block b (by omega) (by simp only [List.mem_cons, List.not_mem_nil, or_false, not_or]; exact ⟨n1, by omega, n3⟩)).trans ((f2.block b (by omega) (by simp only [List.mem_cons, not_or]; exact ⟨n1, n4⟩)).trans (hf3.block b hb (by simp only [List.mem_cons, List.not_mem_nil, or_false, not_or]; exact ⟨n1, n2⟩)))
    refine ⟨rfl, rest', bg, lk, kv', q', ⟨(hes.other 4 (.bool false) hne hpg' (.inl (by decide))).other 5 (.bool false) hne hpg' (.inl (by decide)), (han.sb.set 4 (.bool false)).set 5 (.bool false), (heap_setCell_ne hmsp _).trans ((heap_setCell_ne hmsp _).trans m3), fun g hg => ?_, (hfr.setCell ⟨p, 4, none⟩ (.inr hpl) _).setCell ⟨p, 5, none⟩ (.inr hpl) _⟩, ?_⟩
    · rcases hkv' g hg with h1 | h1
      · exact .inl h1
      · exact .inr (by omega)
    · refine hVm _ _ _ _ _ (hVs _ _ _ _ _ (hVs _ _ _ _ _ (hVs _ _ _ _ _ hv (St.of_fr han.fr (fun b hb => ?_) (fun b hb => by have := (hS b hb).1; omega))) (St.of_fr (S' := [p]) ((Ses.Fr.refl [p] w3).setCell ⟨p, 4, none⟩ (.inl (by simp)) _) (fun b hb => ?_) (fun b hb => by have := (hS b hb).1; simp; omega))) (St.of_fr (S' := [p]) ((Ses.Fr.refl [p] _).setCell ⟨p, 5, none⟩ (.inl (by simp)) _) (fun b hb => ?_) (fun b hb => by have := (hS b hb).1; simp; omega))) (by omega)
      · simp only [List.mem_cons, List.not_mem_nil, or_false] at hb
        refine ⟨by omega, fun e => ?_⟩
        have := hS b e
        omega
      · simp only [List.mem_cons, List.not_mem_nil, or_false] at hb
        exact ⟨by omega, by rw [hb]; exact hpS⟩
      · simp only [List.mem_cons, List.not_mem_nil, or_false] at hb
        exact ⟨by omega, by rw [hb]; exact hpS⟩

end Go.Proofs.YtfekglokoafpiaaGreatDoor
