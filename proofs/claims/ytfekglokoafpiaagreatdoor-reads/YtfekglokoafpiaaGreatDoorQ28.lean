/-
  The second question.
  
  
  The third question.
-/
import Derived.Test.YtfekglokoafpiaaGreatDoorQ27

set_option linter.unusedVariables false
set_option linter.unusedSimpArgs false

namespace Go.Proofs.YtfekglokoafpiaaGreatDoor
open Go.RowKit

def X2 (w : World) (bs B : Nat) (text : ByteArray) (there : Bool) : Prop :=
  ∃ f q rv us bg kv p1 u1 p2 u2 ms lk x N, XB w bs B text there f q (.map (some ms)) rv us bg kv [(157, p1), (170, p2)] [u1, u2] ∧ SQ w q ∧ B ≤ ms ∧ us ≤ 20 ∧ w.heap[ms]? = some (.map #[ent 1 (v1E p1) 0, ent 2 (v2E p2) 1] 2) ∧
    SB w p2 173 (slotL bs 2 false lk rv rv 1 u2 (cellsT bs x)) ∧ w.ownsRow N 118 3 (.slice x.1 x.2.1 x.2.2) (lexAll text).length (tokCells (lexAll text)) ∧ B ≤ N ∧ p1 ≠ p2

theorem own_below {w w' : World} {N : Nat} {e : TypeId} {z n : Nat} {v : Value} {ys : List Value} (h : w.ownsRow N e z v n ys) (hb : Below w.heap.size w w') : w'.ownsRow N e z v n ys := own_far h fun g hg => hb.block g (h.lt g hg).2

theorem own_tag {w : World} {N : Nat} {e : TypeId} {z n : Nat} {v : Value} {ys : List Value} (h : w.ownsRow N e z v n ys) (g : Nat) (hg : v.ownBlock = some g) : N ≤ g ∧ ∃ cs fr, w.heap[g]? = some (.cells cs e fr) := by
  obtain ⟨_, ⟨h1, _⟩ | ⟨g', c, cur, hv, hB, hg', _⟩⟩ := h
  · rw [h1] at hg; simp [Value.ownBlock] at hg
  · rw [hv] at hg
    have h2 : g' = g := by simpa [Value.ownBlock] using hg
    subst h2
    exact ⟨hB, _, _, hg'⟩

theorem own_st {S : List Nat} {N : Nat} {w w' : World} {e : TypeId} {z n : Nat} {v : Value} {ys : List Value} (h : w.ownsRow N e z v n ys) (hs : St S N w w') (he : e ≠ 86) : w'.ownsRow N e z v n ys :=
  own_far h fun g hg => hs.block g (h.lt g hg).1 (h.lt g hg).2 (fun cs h2 => by
    obtain ⟨_, cs2, fr, h3⟩ := own_tag h g hg
    have := h3.symm.trans h2
    injection this with this
    injection this with _ h4
    exact he h4)

theorem X2.below {w w' : World} {bs B : Nat} {text : ByteArray} {there : Bool} (h : X2 w bs B text there) (hb : Below w.heap.size w w') : X2 w' bs B text there := by
  obtain ⟨f, q, rv, us, bg, kv, p1, u1, p2, u2, ms, lk, x, N, h1, h2, h3, h4, h5, h6, h7, h8⟩ := h
  exact ⟨f, q, rv, us, bg, kv, p1, u1, p2, u2, ms, lk, x, N, h1.below hb, h2.below hb, h3, h4, below_heap hb (heap_lt h5) h5, h6.below hb, own_below h7 hb, h8⟩

theorem SQ.nn {w : World} {q : Value} (h : SQ w q) : q ≠ .map none := by
  obtain ⟨bq, bc, rfl, _⟩ := h
  simp

theorem toks_size {text : ByteArray} (hd : DocT text) : (joinT ((lexAll text).map tokT)).size ≤ 281474976710656 := by
  have h1 := joinT_size ((lexAll text).map tokT) 3000 (fun s hs => by
    obtain ⟨t, ht, rfl⟩ := List.mem_map.1 hs
    obtain ⟨i, hi, rfl⟩ := List.getElem_of_mem ht
    obtain ⟨a, b, c⟩ := tok_sizes hd.sz i _ (List.getElem?_eq_getElem hi)
    have h2 := decT_size (lexAll text)[i].line
    have h3 := decT_size (lexAll text)[i].col
    unfold tokT
    simp only [ByteArray.size_append]
    have e1 : (⟨#[64]⟩ : ByteArray).size = 1 := rfl
    have e2 : (⟨#[58]⟩ : ByteArray).size = 1 := rfl
    omega)
  have h2 := hd.wf.le
  simp only [List.length_map] at h1
  have h3 : (lexAll text).length * (3000 + 1) ≤ 401 * 3001 := Nat.mul_le_mul h2 (Nat.le_refl _)
  omega

/-- A slot of tokens' value. -/
def VT (text : ByteArray) (N : Nat) (x : Option Addr × Nat × Nat) (w : World) : Prop := w.ownsRow N 118 3 (.slice x.1 x.2.1 x.2.2) (lexAll text).length (tokCells (lexAll text))

theorem PT.up {w w1 : World} (h : PT w.heap.size w) (hb : Below w.heap.size w w1) : PT w1.heap.size w1 := fun w' h' => h w' (below_seq hb h')

set_option maxHeartbeats 1000000 in
theorem ask2 {w : World} {bs B : Nat} {text : ByteArray} {there : Bool} (h : X1 w bs B text there) (hB : B ≤ w.heap.size) (hd : DocT text) (hpt : ∀ w', KX B bs w w' → PT w'.heap.size w') :
    Calls Tryz.prog 9 #[.pointer (some ⟨bs, 0, none⟩), .int .i64 (2 : Nat), .string ⟨#[97]⟩, .string ⟨#[]⟩] w fun e w' => e = .returned (.tuple #[.string (joinT ((lexAll text).map tokT)), .int .i64 0]) ∧ X2 w' bs B text there ∧ KX B bs w w' := by
  obtain ⟨f, q, rv, us, bg, kv, p1, u1, ms, hx, hq, hmB, hus, hM⟩ := h
  have hbs := hx.es.lt
  have hx0 := hx.begin
  have hf0 := (Ses.Fr.refl [bs] w).setCell ⟨bs, 4, none⟩ (.inl (by simp)) (.slice none 0 0)
  have hp0 : ∀ b, b ∈ [bs] → PB w B bs b := fun b hb => by simp at hb; subst hb; exact pbS hx.es
  have hq0 := hq.pb hf0 hp0
  have hk0 := KX.of hf0 hp0
  have hz0 : (w.setCell ⟨bs, 4, none⟩ (.slice none 0 0)).heap.size = w.heap.size := by simp
  have hM0 : (w.setCell ⟨bs, 4, none⟩ (.slice none 0 0)).heap[ms]? = some (.map #[ent 1 (v1E p1) 0] 1) := (heap_setCell_ne (fun e => by
    subst e
    have := hM.symm.trans hx.es.s
    simp at this) _).trans hM
  refine (askE (t := joinT ((lexAll text).map tokT)) (by decide) (by decide) (toks_size hd) (heap_cell (i := 4) hx.es.s) (heap_frozen hx.es.s) (fun w' => X2 w' bs B text there ∧ KX B bs w w') ?_ ?_).mono ?_
  · generalize w.setCell ⟨bs, 4, none⟩ (.slice none 0 0) = w0 at hx0 hq0 hk0 hz0 hM0
    refine (write2 (t := joinT ((lexAll text).map tokT)) (fun x w' => (VT text B x w' ∧ X2 w' bs B text there) ∧ KX B bs w w') ?_ ?_).mono ?_
    · refine tokensE _ (fun W hb => ?_)
      have hbW : Below w0.heap.size w0 W := below_seq (below_newE w0 (LK bs)) hb
      have hLn := new_heap w0 (LK bs)
      have hlb := below_heap hb (heap_lt hLn) hLn
      have hxW := hx0.below hbW
      have hqW := hq0.below hbW
      have hMW := below_heap hbW (heap_lt hM0) hM0
      have hzW := hbW.size
      have hlbB : B ≤ w0.heap.size := by omega
      generalize w0.heap.size = lb at hlb hlbB hzW
      have hkW := hk0.trans (KX.below hbW)
      have hn := es_nlb hxW.es hlb
      refine (fetchNewT (G := 65) hxW.es (by omega) (by simp) hxW.rv hMW (fun w => fk2 (v1E p1) w) hlb q us [u1] rfl hxW.us.1 (by have := hxW.us.2; omega) [] (fun b hb => by simp at hb) (VT text) ?_ ?_ ?_).mono ?_
      · exact fun N x wa wb h1 hst => own_st h1 hst (by decide)
      · exact fun N N' x wa h1 hN => own_down h1 hN
      · intro W' bg' lb' p he hs hl hm hlp hll hf
        have hpp : ∀ b, b ∈ [bs, ms] → PB W B bs b := fun b hb => by
          simp only [List.mem_cons, List.not_mem_nil, or_false] at hb
          rcases hb with rfl | rfl
          · exact pbS hxW.es
          · exact pbM hmB hMW rfl
        have hx' := hxW.xf.pb hf hpp
        have hq' := hqW.pb hf hpp
        refine (workTokens_any hd.sz he hx' (.inr hq') hl).mono ?_
        rintro e w' ⟨x, he', hown, q', hlo⟩
        have hqq := hlo.kq hq'.nn
        subst hqq
        obtain ⟨la, lm, lc, hl'⟩ := hlo.lo
        have hpl : p ≠ lb' := fun e => by
          subst e
          have := hs.symm.trans hl
          simp [newL, slotL] at this
        have hpb : p ≠ bs := fun e => by
          subst e
          have := hs.symm.trans he.s
          simp [newL, slotL] at this
        exact ⟨x, _, he', ⟨hlo.es, hs.fr' hlo.fr (by simp [hpb, hpl]), hl', ⟨la, lm, lc, rfl⟩, hlo.fr.size⟩, hlo.fr, hown⟩
      · rintro e w' ⟨x, p, bg', lk, kv', he, hfd, hv, hlo⟩
        have hS : ∀ b, b ∈ [bs, ms, lb, kbk bs kv] → PB W B bs b := fun b hb => by
          simp only [List.mem_cons, List.not_mem_nil, or_false] at hb
          rcases hb with rfl | rfl | rfl | rfl
          · exact pbS hxW.es
          · exact pbM hmB hMW rfl
          · exact pbL hlbB hlb
          · exact pbK hxW.es
        have hp1 := (hxW.es.blk 0 _ p1 rfl)
        have hlp := hfd.lp
        have hv' : VT text B x w' := own_down hv (by omega)
        refine ⟨x, he, ⟨hv', f, q, rv, us + 1, bg', kv', p1, u1, p, us + 1, ms, lk, x, B, ⟨hfd.es, hxW.xf.pb hfd.fr hS, hxW.rv, ⟨by have := hxW.us.1; omega, by have := hxW.us.2; omega⟩, ?_⟩, hqW.pb hfd.fr hS, hmB, by omega, hfd.m, hfd.sb, hv', Nat.le_refl _, by omega⟩, hkW.trans (KX.of hfd.fr hS)⟩
        intro i T p' hi
        match i, hi with
        | 0, hi =>
          simp at hi
          obtain ⟨rfl, rfl⟩ := hi
          obtain ⟨cs, TT, h1, h2⟩ := hxW.tg 0 _ p1 rfl
          refine ⟨cs, TT, (hfd.fr.block p1 (heap_lt h1) ?_).trans h1, h2⟩
          simp only [List.mem_cons, List.not_mem_nil, or_false, not_or]
          exact ⟨by omega, (es_nms hxW.es (.inl hMW)).2 0 _ p1 rfl, hn.2.2 0 _ p1 rfl, kbk_mem (by omega) hp1.2.1⟩
        | 1, hi =>
          simp at hi
          obtain ⟨rfl, rfl⟩ := hi
          exact ⟨_, _, hfd.sb, .inr (.inl rfl)⟩
        | i + 2, hi => simp at hi
    · rintro x w' ⟨⟨hv, _⟩, hk⟩
      obtain ⟨tb, cap, cur, e1, hg, hc⟩ := own_tok hv hd.wf.pos
      rw [e1]
      exact writeTokens_any (lexAll text) hd.wf.le (fun i t h => tok_sizes hd.sz i t h) tb cap w' ⟨cur, hg, hc⟩ (hpt w' hk)
    · rintro e w' ⟨he, x, w1, ⟨⟨_, h1⟩, h2⟩, hb⟩
      exact ⟨he, h1.below hb, h2.trans (KX.below hb)⟩
  · rintro w' ⟨⟨f, q, rv, us, bg, kv, p1, u1, p2, u2, ms, lk, x, N, h1, _⟩, _⟩
    obtain ⟨a, c, e⟩ := h1.es.shape
    exact ⟨a, 2, c, by decide, (heap_cell (i := 5) h1.es.s).trans (congrArg some e)⟩
  · rintro e w' ⟨he, w1, ⟨h1, h2⟩, hb⟩
    exact ⟨he, h1.below hb, h2.trans (KX.below hb)⟩

end Go.Proofs.YtfekglokoafpiaaGreatDoor

namespace Go.Proofs.YtfekglokoafpiaaGreatDoor
open Go.RowKit

theorem asNoneR (w : World) (xT : TypeId) : (Instr.typeAssert .nilIface xT 176 true).run Tryz.prog w = .ok (.tuple #[.pointer none, .bool false]) w := by kernel_rfl

set_option maxRecDepth 100000 in
set_option maxHeartbeats 400000 in
theorem findNewR {f q bg kv : Value} {rv us : Int} (bs F G ms n : Nat) (es : Array MapEntry) (w : World) (hf : ∀ w, (Instr.findKey 107 (keyV 3) es.toList).run Tryz.prog w = .ok none w) (hM : w.heap[ms]? = some (.map es n)) (h3 : w.heap[bs]? = some (.cells #[f, .int .i64 rv, q, .map (some ms), bg, kv, .int .u64 us] 51)) :
    Calls Tryz.prog 95 #[.pointer (some ⟨bs, 1, none⟩), .agg #[.int .i64 3, .string ⟨#[97]⟩, .string ⟨#[]⟩], .agg #[.func (.func F) #[.pointer (some ⟨bs, 0, none⟩)] #[], .func (.func G) #[] #[], .slice none 0 0, .int .i64 0]] w fun e w' => ∃ p, e = .returned (.pointer (some ⟨p, 0, none⟩)) ∧ FN w w' bs p ms n es 179 176 f rv q bg kv us (slotL bs 3 false (.slice none 0 0) (-1) 0 (-1) 0 [.func (.func F) #[.pointer (some ⟨bs, 0, none⟩)] #[], .func (.func G) #[] #[], .slice none 0 0, .int .i64 0, .slice none 0 0, .int .i64 0]) 3 := by
  have hml := heap_lt hM
  have m2 := asNoneR
  have hA := new_heap w (.cells #[.int .i64 3, .string ⟨#[97]⟩, .string ⟨#[]⟩] 107)
  have hA2 := old_heap (.cells #[.func (.func F) #[.pointer (some ⟨bs, 0, none⟩)] #[], .func (.func G) #[] #[], .slice none 0 0, .int .i64 0] 140) hA
  have hR := new_heap (w.alloc (.cells #[.int .i64 3, .string ⟨#[97]⟩, .string ⟨#[]⟩] 107)) (.cells #[.func (.func F) #[.pointer (some ⟨bs, 0, none⟩)] #[], .func (.func G) #[] #[], .slice none 0 0, .int .i64 0] 140)
  rw [show (w.alloc (.cells #[.int .i64 3, .string ⟨#[97]⟩, .string ⟨#[]⟩] 107)).heap.size = w.heap.size + 1 from by simp] at hR
  have hS := old_heap (.cells #[.func (.func F) #[.pointer (some ⟨bs, 0, none⟩)] #[], .func (.func G) #[] #[], .slice none 0 0, .int .i64 0] 140) (old_heap (.cells #[.int .i64 3, .string ⟨#[97]⟩, .string ⟨#[]⟩] 107) h3)
  have HBL := hid (((Below.refl w.heap.size w).alloc (Nat.le_refl _) (.cells #[.int .i64 3, .string ⟨#[97]⟩, .string ⟨#[]⟩] 107)).alloc (by simp) (.cells #[.func (.func F) #[.pointer (some ⟨bs, 0, none⟩)] #[], .func (.func G) #[] #[], .slice none 0 0, .int .i64 0] 140))
  have HM1 := hid (old_heap (.cells #[.func (.func F) #[.pointer (some ⟨bs, 0, none⟩)] #[], .func (.func G) #[] #[], .slice none 0 0, .int .i64 0] 140) (old_heap (.cells #[.int .i64 3, .string ⟨#[97]⟩, .string ⟨#[]⟩] 107) hM))
  have HFK := hid hf
  clear hA hM hf
  go_enter Tryz.func95, Tryz.ntmps95
  go_wp2_with fail
  generalize (w.alloc (.cells #[.int .i64 3, .string ⟨#[97]⟩, .string ⟨#[]⟩] 107)).alloc (.cells #[.func (.func F) #[.pointer (some ⟨bs, 0, none⟩)] #[], .func (.func G) #[] #[], .slice none 0 0, .int .i64 0] 140) = W at hA2 hR hS HBL HM1 ⊢
  generalize hkb : w.heap.size = kb at hA2 hR ⊢
  have k0 : W.cell? ⟨kb, 0, none⟩ = some (.int .i64 3) := heap_cell (i := 0) hA2
  have k1 : W.cell? ⟨kb, 1, none⟩ = some (.string ⟨#[97]⟩) := heap_cell (i := 1) hA2
  have k2 : W.cell? ⟨kb, 2, none⟩ = some (.string ⟨#[]⟩) := heap_cell (i := 2) hA2
  have s3 : W.cell? ⟨bs, 3, none⟩ = some (.map (some ms)) := heap_cell (i := 3) hS
  have HS := hid hS
  have HA := hid hA2
  have HR := hid hR
  have HKB := hid hkb
  have hbk : bs < kb := by have := heap_lt h3; omega
  clear hA2 hR hS h3 hkb
  have hS : Below W.heap.size W W ∧ W.cell? ⟨kb, 0, none⟩ = some (.int .i64 3) ∧ W.cell? ⟨kb, 1, none⟩ = some (.string ⟨#[97]⟩) ∧ W.cell? ⟨kb, 2, none⟩ = some (.string ⟨#[]⟩) ∧ W.cell? ⟨bs, 3, none⟩ = some (.map (some ms)) := ⟨Below.refl _ _, k0, k1, k2, s3⟩
  clear k0 k1 k2 s3
  have m10 := look_by (w := W) HM1.out (ck 3) HFK.out
  have m11 := look_by (w := W.drew) HM1.out (ck 3) HFK.out
  have m12 := look_by (w := W.drew.drew) HM1.out (ck 3) HFK.out
  have m13 := look_by (w := W.drew.drew.drew) HM1.out (ck 3) HFK.out
  go_region_held3 (fun wx => Below W.heap.size W wx ∧ wx.cell? ⟨kb, 0, none⟩ = some (.int .i64 3) ∧ wx.cell? ⟨kb, 1, none⟩ = some (.string ⟨#[97]⟩) ∧ wx.cell? ⟨kb, 2, none⟩ = some (.string ⟨#[]⟩) ∧ wx.cell? ⟨bs, 3, none⟩ = some (.map (some ms)))
    (first
      | exact keepX4 (by assumption) (below_drew _)
      | exact keepX4 (by assumption) (Below.refl _ _)
      | exact keepX4 hS (below_drew _))
    (first | fail)
  have hHeld := (by assumption : Below W.heap.size W _ ∧ _)
  generalize W.drew = W1 at hHeld ⊢
  obtain ⟨hb1, k0, k1, k2, s3⟩ := hHeld
  have HS1 := hid (Ses.below_heap hb1 HS.out)
  have HA1 := hid (Ses.below_heap hb1 HA.out)
  have HR1 := hid (Ses.below_heap hb1 HR.out)
  have HB1 := hid hb1
  have g1 : W1.frozen? ⟨kb, 1, none⟩ = false := heap_frozen HA1.out
  have g2 : W1.frozen? ⟨kb, 2, none⟩ = false := heap_frozen HA1.out
  have hT : Inv5 W1 W1 kb bs (.int .i64 3) (.map (some ms)) := ⟨Below.refl _ _, k0, k1, k2, s3, g1, g2⟩
  have HM2 := hid (Ses.below_heap hb1 HM1.out)
  clear hb1 hS m10 m11 m12 m13 m2 k0 k1 k2 s3 g1 g2
  go_wp2
  go_region_held3 (fun wx => Below W1.heap.size W1 wx ∧ wx.cell? ⟨kb, 0, none⟩ = some (.int .i64 3) ∧ wx.cell? ⟨kb, 1, none⟩ = some (.string ⟨#[97]⟩) ∧ wx.cell? ⟨kb, 2, none⟩ = some (.string ⟨#[]⟩) ∧ wx.cell? ⟨bs, 3, none⟩ = some (.map (some ms)) ∧ wx.frozen? ⟨kb, 1, none⟩ = false ∧ wx.frozen? ⟨kb, 2, none⟩ = false)
    (first
      | exact keepX5 (by assumption) (below_drew _)
      | exact keepX5 (by assumption) (by assumption)
      | exact keepX5s1 (by assumption)
      | exact keepX5s2 (by assumption)
      | exact keepX5 (by assumption) (Below.refl _ _)
      | exact keepX5 hT (below_drew _))
    (first
      | (go_at_call 23; refine (Ses.clone_any _ _ (by decide)).mono ?_; rintro e w8 ⟨rfl, hb8⟩))
  have hHeld := (by assumption : Below W1.heap.size W1 _ ∧ _)
  generalize (w8.setCell ⟨kb, 1, none⟩ (.string ⟨#[97]⟩)).setCell ⟨kb, 2, none⟩ (.string ⟨#[]⟩) = W2 at hHeld ⊢
  obtain ⟨hb2, k0, k1, k2, s3, g1, g2⟩ := hHeld
  have HS2 := hid (Ses.below_heap hb2 HS1.out)
  have HA2 := hid (Ses.below_heap hb2 HA1.out)
  have hr2 := Ses.below_heap hb2 HR1.out
  have HB2 := hid hb2
  have HM3 := hid (Ses.below_heap hb2 HM2.out)
  have r0 : W2.cell? ⟨kb + 1, 0, none⟩ = some _ := heap_cell (i := 0) hr2
  have r1 : W2.cell? ⟨kb + 1, 1, none⟩ = some _ := heap_cell (i := 1) hr2
  have r3 : W2.cell? ⟨kb + 1, 3, none⟩ = some _ := heap_cell (i := 3) hr2
  have r2 : W2.cell? ⟨kb + 1, 2, none⟩ = some _ := heap_cell (i := 2) hr2
  have hs2 := HS2.out
  have ha2 := HA2.out
  have e3 : ∀ o, (W2.alloc o).cell? ⟨bs, 3, none⟩ = some (.map (some ms)) := fun o => heap_cell (i := 3) (old_heap o hs2)
  have f3 : ∀ o, (W2.alloc o).frozen? ⟨bs, 3, none⟩ = false := fun o => heap_frozen (old_heap o hs2)
  have e0 : ∀ o, (W2.alloc o).cell? ⟨kb, 0, none⟩ = some (.int .i64 3) := fun o => heap_cell (i := 0) (old_heap o ha2)
  have e1 : ∀ o, (W2.alloc o).cell? ⟨kb, 1, none⟩ = some (.string ⟨#[97]⟩) := fun o => heap_cell (i := 1) (old_heap o ha2)
  have e2 : ∀ o, (W2.alloc o).cell? ⟨kb, 2, none⟩ = some (.string ⟨#[]⟩) := fun o => heap_cell (i := 2) (old_heap o ha2)
  have e33 : ∀ o o', ((W2.alloc o).alloc o').cell? ⟨bs, 3, none⟩ = some (.map (some ms)) := fun o o' => heap_cell (i := 3) (old_heap o' (old_heap o hs2))
  have f33 : ∀ o o', ((W2.alloc o).alloc o').frozen? ⟨bs, 3, none⟩ = false := fun o o' => heap_frozen (old_heap o' (old_heap o hs2))
  have hmn : ∀ W : World, (binOp .eql 43 (.map (some ms)) (.map none)).run Tryz.prog W = .ok (.bool false) W := fun W => run_eql_map_nil W 43 107 92 (some ms) Tryz.underlying43
  clear hb2 hT hr2 g1 g2
  go_wp2
  have hsL := heap_lt hs2
  have haL := heap_lt ha2
  have hN := new_heap W2 (.cells #[.pointer (some ⟨bs, 1, none⟩), .int .i64 3, .string ⟨#[97]⟩, .string ⟨#[]⟩, .bool false, .bool false, .slice none 0 0, .int .i64 (-1), .int .i64 0, .bool false, .int .i64 (-1), .int .u64 0, .func (.func F) #[.pointer (some ⟨bs, 0, none⟩)] #[], .func (.func G) #[] #[], .slice none 0 0, .int .i64 0, .slice none 0 0, .int .i64 0] 179)
  have hP := hid (pre_old (f := f) (rv := rv) (q := q) (bg := bg) (kv := kv) (us := us) hs2 ha2 HM3.out hN)
  generalize hW3 : W2.alloc (.cells #[.pointer (some ⟨bs, 1, none⟩), .int .i64 3, .string ⟨#[97]⟩, .string ⟨#[]⟩, .bool false, .bool false, .slice none 0 0, .int .i64 (-1), .int .i64 0, .bool false, .int .i64 (-1), .int .u64 0, .func (.func F) #[.pointer (some ⟨bs, 0, none⟩)] #[], .func (.func G) #[] #[], .slice none 0 0, .int .i64 0, .slice none 0 0, .int .i64 0] 179) = W3 at hP ⊢
  clear hN hW3 e3 f3 e0 e1 e2 e33 f33 hmn k0 k1 k2 s3 r0 r1 r2 r3 hs2 ha2
  have q3 : W3.cell? ⟨bs, 3, none⟩ = some (.map (some ms)) := heap_cell (i := 3) hP.out.s
  have k0 : W3.cell? ⟨kb, 0, none⟩ = some (.int .i64 3) := heap_cell (i := 0) hP.out.k
  have k1 : W3.cell? ⟨kb, 1, none⟩ = some (.string ⟨#[97]⟩) := heap_cell (i := 1) hP.out.k
  have k2 : W3.cell? ⟨kb, 2, none⟩ = some (.string ⟨#[]⟩) := heap_cell (i := 2) hP.out.k
  have hm3 := hP.out.m
  have hst : ∀ W : World, W.heap[ms]? = some (.map es n) → (Instr.mapUpdate 43 (.map (some ms)) (keyV 3) (.iface 176 (.pointer (some ⟨W2.heap.size, 0, none⟩)))).run Tryz.prog W = .ok () (Ses.setO W ms (.map (es.push (ent 3 (.iface 176 (.pointer (some ⟨W2.heap.size, 0, none⟩))) n)) (n + 1))) := fun W hW => store_by _ hW (ck 3) HFK.out
  have hst0 := hst W3 hm3
  have hst1 := hst W3.drew hm3
  have hst2 := hst W3.drew.drew hm3
  clear hst
  go_region_with fail
  all_goals
    go_wp2
    go_ret
    refine ⟨_, rfl, hP.out.fn ?_ (Nat.le_refl _) _⟩
    have hw : Below w.heap.size w W := HBL.out
    exact (Ses.Fr.of_below hw).trans ((Ses.Fr.of_below HB1.out).trans (Ses.Fr.of_below HB2.out))
end Go.Proofs.YtfekglokoafpiaaGreatDoor

namespace Go.Proofs.YtfekglokoafpiaaGreatDoor
open Go.RowKit

theorem FD.outR {wA w w' : World} {bs B p ms lb k : Nat} {TT TP : TypeId} {mo : Obj} {lk : Value} {rest : List Value} {f q : Value} {rv us : Int} {bg kv kv' : Value} {l : List (TypeId × Nat)} {ul : List Int} {S : List Nat} (h : FD w w' bs B p ms lb k TT TP mo lk rest f q rv us bg kv kv' l ul S) (hb : Below wA.heap.size wA w) {rb : Nat} {xs : List Value} (hr : SB w' rb 86 xs) (h1 : bs ≠ rb) (h2 : p ≠ rb) (h3 : ms ≠ rb) (hw : wA.heap.size ≤ rb) (a b : Value) : FD wA ((w'.setCell ⟨rb, 0, none⟩ a).setCell ⟨rb, 1, none⟩ b) bs B p ms lb k TT TP mo lk rest f q rv us bg kv kv' l ul S :=
  ⟨(h.es.other 0 a h1 (hr.row h.es.own (by decide)) (.inl (by decide))).other 1 b h1 (hr.row h.es.own (by decide)) (.inl (by decide)), (h.sb.other h2 0 a).other h2 1 b, (heap_setCell_ne h3 _).trans ((heap_setCell_ne h3 _).trans h.m), Nat.le_trans hb.size h.lp, fun g hg => (h.kb g hg).imp id (fun e => Nat.le_trans hb.size e), (((Ses.Fr.of_below hb).trans h.fr).setCell ⟨rb, 0, none⟩ (.inr hw) _).setCell ⟨rb, 1, none⟩ (.inr hw) _⟩

set_option maxRecDepth 100000 in
set_option maxHeartbeats 1000000 in
theorem fetchNewR {wA : World} {bs B ms : Nat} {f q : Value} {rv us : Int} {kv : Value} {l : List (TypeId × Nat)} {ul : List Int} (h : ES wA bs B f q (.map (some ms)) rv us (.slice none 0 0) kv l ul) (hB : B ≤ wA.heap.size) (hm : l.length ≤ 3) (hrv : 0 ≤ rv)
    {lb G n : Nat} {es : Array MapEntry} (hM : wA.heap[ms]? = some (.map es n)) (hf : ∀ w, (Instr.findKey 107 (keyV 3) es.toList).run Tryz.prog w = .ok none w) (hlb : wA.heap[lb]? = some (.cells #[.pointer (some ⟨bs, 1, none⟩), .slice none 0 0] 105))
    (q' : Value) (us' : Int) (ul' : List Int) (hul : ul'.length = l.length) (hus : 0 ≤ us') (hus2 : us' ≤ 1000) (S : List Nat) (hS : ∀ b, b ∈ S → b < wA.heap.size ∧ b ≠ lb ∧ b ≠ bs ∧ b ≠ kbk bs kv ∧ b ≠ ms) (V : Nat → (Option Addr × Nat × Nat × Int) → World → Prop)
    (hVs : ∀ N x wa wb, V N x wa → St S N wa wb → V N x wb) (hVm : ∀ N N' x wa, V N x wa → N' ≤ N → V N' x wa)
    (HW : ∀ (W : World) (bg : Value) (lb' p : Nat), ES W bs B f q (.map (some ms)) rv us bg kv l ul → SB W p 179 (newL bs 3 [.func (.func 68) #[.pointer (some ⟨bs, 0, none⟩)] #[], .func (.func G) #[] #[], .slice none 0 0, .int .i64 0, .slice none 0 0, .int .i64 0]) → W.heap[lb']? = some (.cells #[.pointer (some ⟨bs, 1, none⟩), .slice none 0 0] 105) →
      W.heap[ms]? = some (.map (es.push (ent 3 (.iface 176 (.pointer (some ⟨p, 0, none⟩))) n)) (n + 1)) → wA.heap.size ≤ p → wA.heap.size ≤ lb' → Ses.Fr [bs, ms] wA W →
      Calls Tryz.prog 68 #[.pointer (some ⟨bs, 0, none⟩), .pointer (some ⟨lb', 0, none⟩), keyV 3] W fun e w' => ∃ x lk, e = .returned (.agg #[.slice x.1 x.2.1 x.2.2.1, .int .i64 x.2.2.2]) ∧ WK W w' bs B p lb' 3 179 [.func (.func 68) #[.pointer (some ⟨bs, 0, none⟩)] #[], .func (.func G) #[] #[], .slice none 0 0, .int .i64 0, .slice none 0 0, .int .i64 0] f q' (.map (some ms)) rv us' bg kv lk l ul' ∧ Ses.Fr (bs :: lb' :: S) W w' ∧ V W.heap.size x w' ∧ KeepT W w') :
    Calls Tryz.prog 70 #[.pointer (some ⟨lb, 0, none⟩), keyV 3, .agg #[.func (.func 68) #[.pointer (some ⟨bs, 0, none⟩)] #[], .func (.func G) #[] #[], .slice none 0 0, .int .i64 0]] wA fun e w' => ∃ x p bg lk kv', e = .returned (.agg #[.slice x.1 x.2.1 x.2.2.1, .int .i64 x.2.2.2]) ∧
      FD wA w' bs B p ms lb 3 179 176 (.map (es.push (ent 3 (.iface 176 (.pointer (some ⟨p, 0, none⟩))) n)) (n + 1)) lk [.func (.func 68) #[.pointer (some ⟨bs, 0, none⟩)] #[], .func (.func G) #[] #[], .slice none 0 0, .int .i64 0, .slice x.1 x.2.1 x.2.2.1, .int .i64 x.2.2.2] f q' rv us' bg kv kv' l ul' S ∧ V wA.heap.size x w' ∧ (∃ a m c, w'.heap[lb]? = some (.cells #[.pointer (some ⟨bs, 1, none⟩), .slice a m c] 105)) := by
  have HUL := hid hul
  have HFK := hid hf
  have HMA := hid hM
  have hlm : lb ≠ ms := fun e => by
    subst e
    have := hlb.symm.trans hM
    simp at this
  have HLM := hid hlm
  have HUS := hid hus
  have HUS2 := hid hus2
  have HRV := hid hrv
  have HBA := hid hB
  have HM := hid hm
  have l0 : wA.cell? ⟨lb, 0, none⟩ = some (.pointer (some ⟨bs, 1, none⟩)) := heap_cell (i := 0) hlb
  have hbs := h.lt
  have HHA := hid h
  have HLA := hid hlb
  have HWA := hid HW
  have HSA := hid hS
  have HVS := hid hVs
  have HVM := hid hVm
  clear hul hus hus2 hrv hB hm hM hf hlm h hlb HW hS hVs hVm
  go_enter Tryz.func70, Tryz.ntmps70
  go_wp2_with fail
  have hA := new_heap wA (.cells #[.int .i64 3, .string ⟨#[97]⟩, .string ⟨#[]⟩] 107)
  have hA2 := old_heap (.cells #[.slice none 0 0, .int .i64 0] 86) (old_heap (.cells #[.func (.func 68) #[.pointer (some ⟨bs, 0, none⟩)] #[], .func (.func G) #[] #[], .slice none 0 0, .int .i64 0] 140) hA)
  have hR := new_heap (wA.alloc (.cells #[.int .i64 3, .string ⟨#[97]⟩, .string ⟨#[]⟩] 107)) (.cells #[.func (.func 68) #[.pointer (some ⟨bs, 0, none⟩)] #[], .func (.func G) #[] #[], .slice none 0 0, .int .i64 0] 140)
  rw [show (wA.alloc (.cells #[.int .i64 3, .string ⟨#[97]⟩, .string ⟨#[]⟩] 107)).heap.size = wA.heap.size + 1 from by simp] at hR
  have hR2 := old_heap (.cells #[.slice none 0 0, .int .i64 0] 86) hR
  have hT := new_heap ((wA.alloc (.cells #[.int .i64 3, .string ⟨#[97]⟩, .string ⟨#[]⟩] 107)).alloc (.cells #[.func (.func 68) #[.pointer (some ⟨bs, 0, none⟩)] #[], .func (.func G) #[] #[], .slice none 0 0, .int .i64 0] 140)) (.cells #[.slice none 0 0, .int .i64 0] 86)
  rw [show ((wA.alloc (.cells #[.int .i64 3, .string ⟨#[97]⟩, .string ⟨#[]⟩] 107)).alloc (.cells #[.func (.func 68) #[.pointer (some ⟨bs, 0, none⟩)] #[], .func (.func G) #[] #[], .slice none 0 0, .int .i64 0] 140)).heap.size = wA.heap.size + 1 + 1 from by simp] at hT
  have hb0 := (((Below.refl wA.heap.size wA).alloc (Nat.le_refl _) (.cells #[.int .i64 3, .string ⟨#[97]⟩, .string ⟨#[]⟩] 107)).alloc (by simp) (.cells #[.func (.func 68) #[.pointer (some ⟨bs, 0, none⟩)] #[], .func (.func G) #[] #[], .slice none 0 0, .int .i64 0] 140)).alloc (by simp; omega) (.cells #[.slice none 0 0, .int .i64 0] 86)
  have hz0 : (((wA.alloc (.cells #[.int .i64 3, .string ⟨#[97]⟩, .string ⟨#[]⟩] 107)).alloc (.cells #[.func (.func 68) #[.pointer (some ⟨bs, 0, none⟩)] #[], .func (.func G) #[] #[], .slice none 0 0, .int .i64 0] 140)).alloc (.cells #[.slice none 0 0, .int .i64 0] 86)).heap.size = wA.heap.size + 1 + 1 + 1 := by simp
  clear hA hR
  generalize ((wA.alloc (.cells #[.int .i64 3, .string ⟨#[97]⟩, .string ⟨#[]⟩] 107)).alloc (.cells #[.func (.func 68) #[.pointer (some ⟨bs, 0, none⟩)] #[], .func (.func G) #[] #[], .slice none 0 0, .int .i64 0] 140)).alloc (.cells #[.slice none 0 0, .int .i64 0] 86) = w at hA2 hR2 hT hb0 hz0 ⊢
  have HKA := hid (kbk_lt HHA.out)
  have HAL := hid (show wA.heap.size ≤ wA.heap.size from Nat.le_refl _)
  have hbw0 := heap_lt HHA.out.s
  have hrb1 : wA.heap.size ≤ wA.heap.size + 1 + 1 := by omega
  have hrb2 : wA.heap.size + 1 + 1 < w.heap.size := by omega
  clear hz0
  have HSA' := hid (fun b hb => ((HSA.out b hb).1 : b < wA.heap.size))
  have HLL := hid (heap_lt HLA.out)
  have HML := hid (heap_lt HMA.out)
  generalize wA.heap.size + 1 + 1 = rb at hT hrb1 hrb2 ⊢
  generalize hkb : wA.heap.size = kb at hA2 hR2 ⊢
  have HKB := hid hkb
  clear hkb
  have k0 : w.cell? ⟨kb, 0, none⟩ = some (.int .i64 3) := heap_cell (i := 0) hA2
  have k1 : w.cell? ⟨kb, 1, none⟩ = some (.string ⟨#[97]⟩) := heap_cell (i := 1) hA2
  have k2 : w.cell? ⟨kb, 2, none⟩ = some (.string ⟨#[]⟩) := heap_cell (i := 2) hA2
  have r0 : w.cell? ⟨kb + 1, 0, none⟩ = some _ := heap_cell (i := 0) hR2
  have r1 : w.cell? ⟨kb + 1, 1, none⟩ = some _ := heap_cell (i := 1) hR2
  have r2 : w.cell? ⟨kb + 1, 2, none⟩ = some _ := heap_cell (i := 2) hR2
  have r3 : w.cell? ⟨kb + 1, 3, none⟩ = some _ := heap_cell (i := 3) hR2
  have l2 : w.cell? ⟨lb, 0, none⟩ = some (.pointer (some ⟨bs, 1, none⟩)) := cell_kept hb0 l0
  have HB0 := hid (Below.refl w.heap.size w)
  have HBA0 := hid hb0
  have HRB := hid hT
  have HRB1 := hid hrb1
  have HRB2 := hid hrb2
  have HH := hid (HHA.out.below hb0)
  have HLB := hid (below_heap hb0 HLL.out HLA.out)
  have HMM := hid (below_heap hb0 HML.out HMA.out)
  have HBB := hid (show B ≤ w.heap.size from Nat.le_trans HBA.out hb0.size)
  have HSS := hid (fun b hb => (⟨Nat.lt_of_lt_of_le (HSA.out b hb).1 hb0.size, (HSA.out b hb).2⟩ : b < w.heap.size ∧ b ≠ lb ∧ b ≠ bs ∧ b ≠ kbk bs kv ∧ b ≠ ms))
  clear hA2 hR2 hT hb0 l0 hrb1 hrb2 hbw0
  have HFD : Hid (∀ W : World, Below w.heap.size w W → Calls Tryz.prog 95 #[.pointer (some ⟨bs, 1, none⟩), keyV 3, .agg #[.func (.func 68) #[.pointer (some ⟨bs, 0, none⟩)] #[], .func (.func G) #[] #[], .slice none 0 0, .int .i64 0]] W fun e w1 => ∃ p, e = .returned (.pointer (some ⟨p, 0, none⟩)) ∧ (FN w w1 bs p ms n es 179 176 f rv q (.slice none 0 0) kv us (slotL bs 3 false (.slice none 0 0) (-1) 0 (-1) 0 [.func (.func 68) #[.pointer (some ⟨bs, 0, none⟩)] #[], .func (.func G) #[] #[], .slice none 0 0, .int .i64 0, .slice none 0 0, .int .i64 0]) 3)) := hid (fun W hb => (findNewR bs 68 G ms n es W HFK.out (below_heap hb (heap_lt HMM.out) HMM.out) (below_heap hb (heap_lt HH.out.s) HH.out.s)).mono (by
    rintro e w1 ⟨p, he, h2⟩
    exact ⟨p, he, h2.lower hb⟩))
  have hD2 := hid (below_seq HB0.out (below_drew w))
  have hD3 := hid (below_seq HB0.out (below_seq (below_drew w) (below_drew w.drew)))
  have hD4 := hid (below_seq HB0.out (below_seq (below_seq (below_drew w) (below_drew w.drew)) (below_drew w.drew.drew)))
  apply share2 (F := fun (p : Nat) (w1 : World) => FN w w1 bs p ms n es 179 176 f rv q (.slice none 0 0) kv us (slotL bs 3 false (.slice none 0 0) (-1) 0 (-1) 0 [.func (.func 68) #[.pointer (some ⟨bs, 0, none⟩)] #[], .func (.func G) #[] #[], .slice none 0 0, .int .i64 0, .slice none 0 0, .int .i64 0]) 3)
  case main =>
    intro KEY
    go_region_with (go_at_call 95; go_must (refine (HFD.out _ (by first | exact HB0.out | exact hD2.out | exact hD3.out | exact hD4.out)).mono ?_; rintro e w1 ⟨p, rfl, hfn⟩; have hfn2 := hid hfn; clear hfn))
    all_goals
      exact KEY _ _ (Hid.out hfn2)
  case key =>
    intro p w1 hfn
    have hn := es_nlb HH.out HLB.out
    have hlm := HLM.out
    have hlb1 : w1.heap[lb]? = some (.cells #[.pointer (some ⟨bs, 1, none⟩), .slice none 0 0] 105) := (hfn.fr.block lb (heap_lt HLB.out) (by simp only [List.mem_cons, List.not_mem_nil, or_false, not_or]; exact ⟨hn.1.symm, hlm⟩)).trans HLB.out
    have z1 : w1.cell? ⟨lb, 1, none⟩ = some (.slice none 0 0) := heap_cell (i := 1) hlb1
    have HLB1 := hid hlb1
    have HFN := hid hfn
    have HN := hid hn
    clear hlb1 hfn hn hlm HFD hD2 hD3 hD4 k0 k2 r0 r1 r2 r3 l2
    go_wp2_with fail
    refine (contains_nil _ _).mono ?_
    rintro e w2 ⟨rfl, rfl⟩
    have HSET : Hid (Calls Tryz.prog 85 #[.iface 176 (.pointer (some ⟨p, 0, none⟩)), .bool true] w2 fun e w' => e = .returned (.tuple #[]) ∧ ∃ rest' bg lk kv', DN w w' bs B p ms 3 179 176 (.map (es.push (ent 3 (.iface 176 (.pointer (some ⟨p, 0, none⟩))) n)) (n + 1)) lk rest' f q' rv us' bg kv kv' l ul' S ∧ (∃ x, rest' = [.func (.func 68) #[.pointer (some ⟨bs, 0, none⟩)] #[], .func (.func G) #[] #[], .slice none 0 0, .int .i64 0, .slice x.1 x.2.1 x.2.2.1, .int .i64 x.2.2.2] ∧ V w.heap.size x w')) := by
      have hms2 := es_nms HH.out (.inl HMM.out)
      have hmo := HFN.out.m
      have hmb : ms ≠ bs := fun e => by
        subst e
        have := hmo.symm.trans HFN.out.s
        simp at this
      refine settledNew (F := 284) (fun N r w => ∃ x, r = [.func (.func 68) #[.pointer (some ⟨bs, 0, none⟩)] #[], .func (.func G) #[] #[], .slice none 0 0, .int .i64 0, .slice x.1 x.2.1 x.2.2.1, .int .i64 x.2.2.2] ∧ V N x w) HH.out HRV.out mtR (by decide) HFN.out hmo (fun _ _ e => by simp at e) hms2.1 hms2.2 HUL.out (fun b hb => ⟨(HSS.out b hb).1, (HSS.out b hb).2.2.2.2, (HSS.out b hb).2.2.1, (HSS.out b hb).2.2.2.1⟩) ?_ ?_ ?_
      · rintro N r wa wb ⟨x, hr, hv⟩ hst
        exact ⟨x, hr, HVS.out _ _ _ _ hv hst⟩
      · rintro N N' r wa ⟨x, hr, hv⟩ hN
        exact ⟨x, hr, HVM.out _ _ _ _ hv hN⟩
      · intro wS heS hsS hmS hsz hfS
        have hwz := hfS.size
        have hlp := HFN.out.lp
        refine (workOutR heS (by have := HBB.out; omega) HM.out hsS (by have := HBB.out; omega) (fun i T' p' hi e => by have := (HH.out.blk i T' p' hi).2.2; omega) ⟨⟨_, _, _, rfl⟩, _, rfl⟩ q' us' ul' HUS.out HUS2.out (fun _ x w2 => Ses.Fr (bs :: S) wS w2 ∧ V wS.heap.size x w2) ?_ (fun _ x w8 w9 hp ht => ⟨⟨ht.os.trans hp.1.os, ht.tape.trans hp.1.tape, ht.output.trans hp.1.output, Nat.le_trans hp.1.size ht.size, fun b hb hn => (ht.block b (Nat.lt_of_lt_of_le hb hp.1.size) (.inl hb)).trans (hp.1.block b hb hn)⟩, HVS.out _ _ _ _ hp.2 ⟨ht.size, fun b _ hb hn => ht.block b hb (.inr hn), fun b hb => ht.block b (by have := (HSS.out b hb).1; have := hp.1.size; omega) (.inl (by have := (HSS.out b hb).1; omega))⟩⟩)).mono ?_
        · intro W bg lb' heW hsW hlW hlz hfW
          refine (HWA.out W bg lb' p heW hsW hlW ((hfW.block ms (heap_lt hmS) (by simpa using hmb)).trans hmS) (Nat.le_trans HBA0.out.size hlp) (by have := HBA0.out.size; omega) (((Ses.Fr.of_below HBA0.out).trans hfS).trans (hfW.mono (T := [bs, ms]) (fun b hb => .inl (by simp at hb ⊢; exact .inl hb))))).mono ?_
          rintro e w3 ⟨x, lk, he, hwk, hfr, hv, hkt⟩
          exact ⟨x, lk, he, hwk, ⟨frNew hfW hfr hlz, HVM.out _ _ _ _ hv hfW.size⟩, hkt⟩
        · rintro e w3 ⟨he, W, w2, x, bg, lk, -, -, ⟨h1, h2⟩, han⟩
          exact ⟨he, w2, _, bg, lk, h1, ⟨x, rfl, h2⟩, han⟩
    clear z1
    go_wp2_with fail
    refine HSET.out.mono ?_
    rintro e w3 ⟨rfl, rest', bg, lk, kv', hdn, x, rfl, hv⟩
    have hn := HN.out
    have hlw := heap_lt HLB.out
    have hlm := HLM.out
    have hlS : lb ∉ bs :: ms :: kbk bs kv :: S := by
      simp only [List.mem_cons, not_or]
      exact ⟨hn.1.symm, hlm, kbk_mem hn.1.symm hn.2.1, fun e => (HSS.out lb e).2.1 rfl⟩
    have hlb3 := (hdn.fr.block lb hlw hlS).trans HLB.out
    have HDN := hid hdn
    have HV := hid hv
    have HLB3 := hid hlb3
    clear hdn hv hlb3 hlS HSET hlm hlw hn
    go_wp2_with fail
    refine (add_any lb p _ _ w3 HLB3.out).mono ?_
    rintro e w4 ⟨rfl, hf4, la, lm, lc, hlb4⟩
    have hpw := HFN.out.lp
    have hlw := heap_lt HLB.out
    have hpl : p ≠ lb := by omega
    have hsb := HDN.out.sb.fr' hf4 (by simpa using hpl)
    have d16 := hsb.cell (i := 16) rfl
    have d17 := hsb.cell (i := 17) rfl
    have hrb1 := HRB1.out
    have hrb2 := HRB2.out
    have hlA := HLL.out
    have hkA := HKA.out
    have hmA := HML.out
    have hbA := heap_lt HHA.out.s
    have hrb3 := (HDN.out.fr.block rb hrb2 (by
      simp only [List.mem_cons, not_or]
      exact ⟨by omega, by omega, by omega, fun e => by have := HSA'.out rb e; omega⟩)).trans HRB.out
    have hrb4 := (hf4.block rb (heap_lt hrb3) (by simp only [List.mem_cons, List.not_mem_nil, or_false]; omega)).trans hrb3
    have q0 : w4.cell? ⟨rb, 0, none⟩ = some (.slice none 0 0) := heap_cell (i := 0) hrb4
    have q1 : w4.cell? ⟨rb, 1, none⟩ = some (.int .i64 0) := heap_cell (i := 1) hrb4
    have f0 : w4.frozen? ⟨rb, 0, none⟩ = false := heap_frozen hrb4
    have f1 : w4.frozen? ⟨rb, 1, none⟩ = false := heap_frozen hrb4
    have HR5 := hid (heap_setCell_lit (i := 1) (heap_setCell_lit (i := 0) hrb4 (.slice x.1 x.2.1 x.2.2.1)) (.int .i64 x.2.2.2))
    have HR4 := hid hrb4
    clear hrb1 hrb2 hlA hkA hmA hbA hrb3 hrb4
    have HSB := hid hsb
    have HF4 := hid hf4
    have HLB4 := hid hlb4
    clear hsb hf4 hlb4 hpl hlw hpw
    go_wp2
    have y0 := heap_cell (i := 0) HR5.out
    have y1 := heap_cell (i := 1) HR5.out
    refine bodyPost_ret (v := .agg #[.slice x.1 x.2.1 x.2.2.1, .int .i64 x.2.2.2]) (by simp [results, Tryz.results70, go_sem, y0, y1]; try rfl) rfl ?_
    have hn := HN.out
    have hpw := HFN.out.lp
    have hlw := heap_lt HLB.out
    have hdn := HDN.out
    have hdz := hdn.fr.size
    have hrb2 := HRB2.out
    have hrb1 := HRB1.out
    have hlA := HLL.out
    have hmA := HML.out
    have hfd : FD w w4 bs B p ms lb 3 179 176 (.map (es.push (ent 3 (.iface 176 (.pointer (some ⟨p, 0, none⟩))) n)) (n + 1)) lk [.func (.func 68) #[.pointer (some ⟨bs, 0, none⟩)] #[], .func (.func G) #[] #[], .slice none 0 0, .int .i64 0, .slice x.1 x.2.1 x.2.2.1, .int .i64 x.2.2.2] f q' rv us' bg kv kv' l ul' S := ?_
    have hbA := heap_lt HHA.out.s
    refine ⟨x, p, bg, lk, kv', rfl, hfd.outR HBA0.out HR4.out (by omega) (by omega) (by omega) HRB1.out _ _, HVM.out _ _ _ _ (HVS.out _ _ _ _ (HVS.out _ _ _ _ (HVS.out _ _ _ _ HV.out (St.of_fr HF4.out (fun b hb => by simp at hb; exact ⟨by omega, fun e => (HSS.out b e).2.1 hb⟩) (fun b hb => by have := (HSS.out b hb).1; omega))) (St.of_fr (S' := [rb]) ((Ses.Fr.refl [rb] _).setCell ⟨rb, 0, none⟩ (.inl (by simp)) _) (fun b hb => by simp at hb; exact ⟨by omega, fun e => by have := HSA'.out b e; omega⟩) (fun b hb => by have := (HSS.out b hb).1; have := HF4.out.size; skip; omega))) (St.of_fr (S' := [rb]) ((Ses.Fr.refl [rb] _).setCell ⟨rb, 1, none⟩ (.inl (by simp)) _) (fun b hb => by simp at hb; exact ⟨by omega, fun e => by have := HSA'.out b e; omega⟩) (fun b hb => by have := (HSS.out b hb).1; have := HF4.out.size; simp; omega))) HBA0.out.size, la, lm, lc, (heap_setCell_ne (by omega) _).trans ((heap_setCell_ne (by omega) _).trans HLB4.out)⟩
    refine ⟨hdn.es.fr HF4.out (by simpa using hn.1) (fun g hg => ?_) (fun i T' p' hi => ?_), HSB.out, (HF4.out.block ms (heap_lt hdn.m) ?_).trans hdn.m, hpw, hdn.kb, ?_⟩
    · simp only [List.mem_cons, List.not_mem_nil, or_false]
      intro e
      subst e
      rcases hdn.kb g hg with h1 | h1
      · exact hn.2.1 h1
      · omega
    · simp only [List.mem_cons, List.not_mem_nil, or_false]
      have hget : l[i]? = some (T', p') ∨ p' = p := by
        by_cases hil : i < l.length
        · rw [List.getElem?_append_left hil] at hi
          exact .inl hi
        · rw [List.getElem?_append_right (by omega)] at hi
          have h0 : i - l.length = 0 := by
            have := (List.getElem?_eq_some_iff.1 hi).1
            simp at this
            omega
          rw [h0] at hi
          simp at hi
          exact .inr hi.2.symm
      rcases hget with h1 | h1
      · exact hn.2.2 i T' p' h1
      · omega
    · have := HLM.out
      simp only [List.mem_cons, List.not_mem_nil, or_false]
      omega
    · refine (hdn.fr.mono (T := bs :: ms :: lb :: kbk bs kv :: S) (fun b hb => .inl ?_)).trans (HF4.out.mono (T := bs :: ms :: lb :: kbk bs kv :: S) (fun b hb => .inl ?_))
      · simp only [List.mem_cons] at hb ⊢
        rcases hb with h | h | h | h <;> simp [h]
      · simp at hb
        simp [hb]

end Go.Proofs.YtfekglokoafpiaaGreatDoor

namespace Go.Proofs.YtfekglokoafpiaaGreatDoor
open Go.RowKit

def X3 (w : World) (bs B : Nat) (text : ByteArray) (there : Bool) (items : List It) : Prop :=
  ∃ f q rv us bg kv p1 u1 p2 u2 p3 u3 ms lk x N, XB w bs B text there f q (.map (some ms)) rv us bg kv [(157, p1), (170, p2), (176, p3)] [u1, u2, u3] ∧ SQ w q ∧ B ≤ ms ∧ us ≤ 40 ∧ w.heap[ms]? = some (.map #[ent 1 (v1E p1) 0, ent 2 (v2E p2) 1, ent 3 (v3E p3) 2] 3) ∧
    SB w p3 179 (slotL bs 3 false lk rv rv 2 u3 (cellsR bs x)) ∧ w.ownsRow N 135 5 (.slice x.1 x.2.1 x.2.2.1) items.length (items.flatMap itCells) ∧ B ≤ N ∧ p1 ≠ p3 ∧ p2 ≠ p3

theorem X3.below {w w' : World} {bs B : Nat} {text : ByteArray} {there : Bool} {items : List It} (h : X3 w bs B text there items) (hb : Below w.heap.size w w') : X3 w' bs B text there items := by
  obtain ⟨f, q, rv, us, bg, kv, p1, u1, p2, u2, p3, u3, ms, lk, x, N, h1, h2, h3, h4, h5, h6, h7, h8⟩ := h
  exact ⟨f, q, rv, us, bg, kv, p1, u1, p2, u2, p3, u3, ms, lk, x, N, h1.below hb, h2.below hb, h3, h4, below_heap hb (heap_lt h5) h5, h6.below hb, own_below h7 hb, h8⟩

theorem sb_ne {w : World} {a b : Nat} {T1 T2 : TypeId} {x1 x2 : List Value} (h1 : SB w a T1 x1) (h2 : SB w b T2 x2) (h : T1 ≠ T2) : a ≠ b := by
  intro e
  subst e
  have := h1.symm.trans h2
  injection this with this
  injection this with _ h4
  exact h h4

theorem own_setT {w : World} {N : Nat} {e : TypeId} {z n : Nat} {v : Value} {ys : List Value} (h : w.ownsRow N e z v n ys) {rb : Nat} {T : TypeId} {xs : List Value} (hr : SB w rb T xs) (hT : T ≠ e) (i : Nat) (u : Value) : (w.setCell ⟨rb, i, none⟩ u).ownsRow N e z v n ys :=
  own_far h fun g hg => heap_setCell_ne (fun e1 => hr.row h hT (by rw [← e1]; exact hg)) u

theorem Tg.tset {w : World} {l : List (TypeId × Nat)} (h : Tg w l) {rb : Nat} {xs : List Value} (hr : SB w rb 86 xs) (i : Nat) (u : Value) : Tg (w.setCell ⟨rb, i, none⟩ u) l := fun j T p hj => by
  obtain ⟨cs, TT, h1, h2⟩ := h j T p hj
  refine ⟨cs, TT, (heap_setCell_ne (fun e => ?_) u).trans h1, h2⟩
  subst e
  have h3 := h1.symm.trans hr
  injection h3 with h3
  injection h3 with _ h3
  subst h3
  rcases h2 with h2 | h2 | h2 | h2 <;> exact absurd h2 (by decide)

theorem XB.tset {w : World} {bs B : Nat} {text : ByteArray} {there : Bool} {f q sm : Value} {rv us : Int} {bg kv : Value} {l : List (TypeId × Nat)} {ul : List Int} (h : XB w bs B text there f q sm rv us bg kv l ul) {rb : Nat} {xs : List Value} (hr : SB w rb 86 xs) (hB : B ≤ rb) (i : Nat) (hi : i ≠ 11) (u : Value) : XB (w.setCell ⟨rb, i, none⟩ u) bs B text there f q sm rv us bg kv l ul := by
  have hf := (Ses.Fr.refl [rb] w).setCell ⟨rb, i, none⟩ (.inl (by simp)) u
  have hS : ∀ b, b ∈ [rb] → PB w B bs b := fun b hb => by
    simp at hb
    subst hb
    exact ⟨.inr hB, .inr (.inl ⟨_, _, _, hr, by decide, by decide⟩)⟩
  exact ⟨h.es.other i u (by have := h.es.lt; omega) (hr.row h.es.own (by decide)) (.inl hi), h.xf.pb hf hS, h.rv, h.us, h.tg.tset hr i u⟩

theorem X3.tset {w : World} {bs B : Nat} {text : ByteArray} {there : Bool} {items : List It} (h : X3 w bs B text there items) {rb : Nat} {xs : List Value} (hr : SB w rb 86 xs) (hB : B ≤ rb) (i : Nat) (hi : i ≠ 11) (u : Value) : X3 (w.setCell ⟨rb, i, none⟩ u) bs B text there items := by
  obtain ⟨f, q, rv, us, bg, kv, p1, u1, p2, u2, p3, u3, ms, lk, x, N, h1, h2, h3, h4, h5, h6, h7, h8⟩ := h
  have hf := (Ses.Fr.refl [rb] w).setCell ⟨rb, i, none⟩ (.inl (by simp)) u
  have hS : ∀ b, b ∈ [rb] → PB w B bs b := fun b hb => by
    simp at hb
    subst hb
    exact ⟨.inr hB, .inr (.inl ⟨_, _, _, hr, by decide, by decide⟩)⟩
  refine ⟨f, q, rv, us, bg, kv, p1, u1, p2, u2, p3, u3, ms, lk, x, N, h1.tset hr hB i hi u, h2.pb hf hS, h3, h4, (heap_setCell_ne (fun e => ?_) u).trans h5, h6.other (sb_ne h6 hr (by decide)) i u, own_setT h7 hr (by decide) i u, h8⟩
  subst e
  have := h5.symm.trans hr
  simp at this

/-- A slot of a tree's value, and the slot of the tokens still there. -/
def VR (items : List It) (fl : Option Nat) (p2 : Nat) (N : Nat) (x : Option Addr × Nat × Nat × Int) (w : World) : Prop :=
  (w.ownsRow N 135 5 (.slice x.1 x.2.1 x.2.2.1) items.length (items.flatMap itCells) ∧ .int .i64 x.2.2.2 = faultV fl) ∧ ∃ cs, w.heap[p2]? = some (.cells cs 173)

theorem tree_size {items : List It} {ss : List ByteArray} {fl : Option Nat} (hlen : ss.length = items.length) (hit : ∀ (k : Nat) (i : It) (s : ByteArray), items[k]? = some i → ss[k]? = some s → ITx i s) (hn : items.length ≤ 401) (hfl : ∀ b, fl = some b → b ≤ 1000) : (treeT ss fl).size ≤ 281474976710656 := by
  have h1 := cat_size ss 200000 (fun s hs => by
    obtain ⟨k, hk, rfl⟩ := List.getElem_of_mem hs
    exact (hit k items[k] ss[k] (List.getElem?_eq_getElem (by omega)) (List.getElem?_eq_getElem hk)).2.1)
  have h2 : ss.length * 200000 ≤ 401 * 200000 := Nat.mul_le_mul (by omega) (Nat.le_refl _)
  cases fl with
  | none => simp only [treeT]; omega
  | some b =>
    have h3 := hfl b rfl
    have h4 := decT_size b
    simp only [treeT, ByteArray.size_append]
    have e1 : (⟨#[33]⟩ : ByteArray).size = 1 := rfl
    omega

set_option maxHeartbeats 1000000 in
theorem ask3 {w : World} {bs B : Nat} {text : ByteArray} {there : Bool} (h : X2 w bs B text there) (hB : B ≤ w.heap.size) (hd : DocT text) (hpt : ∀ w', KX B bs w w' → PT w'.heap.size w') (items : List It) (fl : Option Nat) (htree : treeAll (lexAll text) = (items, fl)) (ss : List ByteArray) (hlen : ss.length = items.length) (hit : ∀ (k : Nat) (i : It) (s : ByteArray), items[k]? = some i → ss[k]? = some s → ITx i s) (hnn : items.length ≤ 401) (hfl : ∀ b, fl = some b → b ≤ 1000) :
    Calls Tryz.prog 9 #[.pointer (some ⟨bs, 0, none⟩), .int .i64 (3 : Nat), .string ⟨#[97]⟩, .string ⟨#[]⟩] w fun e w' => e = .returned (.tuple #[.string (treeT ss fl), .int .i64 0]) ∧ X3 w' bs B text there items ∧ KX B bs w w' := by
  obtain ⟨f, q, rv, us, bg, kv, p1, u1, p2, u2, ms, lk2, x2, N2, hx, hq, hmB, hus, hM, hs2, hr2, hN2, hp12⟩ := h
  have hbs := hx.es.lt
  have hx0 := hx.begin
  have hf0 := (Ses.Fr.refl [bs] w).setCell ⟨bs, 4, none⟩ (.inl (by simp)) (.slice none 0 0)
  have hp0 : ∀ b, b ∈ [bs] → PB w B bs b := fun b hb => by simp at hb; subst hb; exact pbS hx.es
  have hq0 := hq.pb hf0 hp0
  have hk0 := KX.of hf0 hp0
  have hz0 : (w.setCell ⟨bs, 4, none⟩ (.slice none 0 0)).heap.size = w.heap.size := by simp
  have hM0 : (w.setCell ⟨bs, 4, none⟩ (.slice none 0 0)).heap[ms]? = some (.map #[ent 1 (v1E p1) 0, ent 2 (v2E p2) 1] 2) := (heap_setCell_ne (fun e => by
    subst e
    have := hM.symm.trans hx.es.s
    simp at this) _).trans hM
  have hs20 := hs2.other (sb_ne hs2 (show SB w bs 51 [_, _, _, _, _, _, _] from hx.es.s) (by decide)) 4 (.slice none 0 0)
  have hr20 := own_setT hr2 (show SB w bs 51 [_, _, _, _, _, _, _] from hx.es.s) (by decide) 4 (.slice none 0 0)
  refine (askE (t := treeT ss fl) (by decide) (by decide) (tree_size hlen hit hnn hfl) (heap_cell (i := 4) hx.es.s) (heap_frozen hx.es.s) (fun w' => X3 w' bs B text there items ∧ KX B bs w w') ?_ ?_).mono ?_
  · generalize w.setCell ⟨bs, 4, none⟩ (.slice none 0 0) = w0 at hx0 hq0 hk0 hz0 hM0 hs20 hr20
    refine (write3 (t := treeT ss fl) (fun x w' => (VR items fl p2 B x w' ∧ X3 w' bs B text there items) ∧ KX B bs w w') ?_ ?_).mono ?_
    · have hLn := new_heap w0 (LK bs)
      have hkb := kbk_lt hx0.es
      have hms0 := heap_lt hM0
      have hbs0 := heap_lt hx0.es.s
      have hp20 := hs20.lt
      have hzl : (w0.alloc (LK bs)).heap.size = w0.heap.size + 1 := by simp
      refine treeE (fun W x w' => ((VR items fl p2 B x w' ∧ X3 w' bs B text there items) ∧ KX B bs w w') ∧ Ses.Fr [bs, ms, w0.heap.size, kbk bs kv, p2] W w') _ (fun W hb => ?_) ?_ ?_
      · have hbW : Below w0.heap.size w0 W := below_seq (below_newE w0 (LK bs)) hb
        have hlb := below_heap hb (heap_lt hLn) hLn
        have hxW := hx0.below hbW
        have hqW := hq0.below hbW
        have hMW := below_heap hbW (heap_lt hM0) hM0
        have hsW := hs20.below hbW
        have hrW := own_below hr20 hbW
        have hzW := hbW.size
        have hlbB : B ≤ w0.heap.size := by omega
        have hkW := hk0.trans (KX.below hbW)
        clear hkb hms0 hbs0 hp20 hzl hLn
        generalize w0.heap.size = lb at hlb hlbB hzW ⊢
        have hn := es_nlb hxW.es hlb
        have hnm := es_nms hxW.es (.inl hMW)
        have hp2 := hxW.es.blk 1 _ p2 rfl
        have hp1 := hxW.es.blk 0 _ p1 rfl
        refine (fetchNewR (G := 69) hxW.es (by omega) (by simp) hxW.rv hMW (fun w => fk3 (v1E p1) (v2E p2) w) hlb q (us + 1) ([u1] ++ [us + 1]) rfl (by have := hxW.us.1; omega) (by have := hxW.us.2; omega) [p2] (fun b hb => by
          simp at hb
          subst hb
          exact ⟨hp2.2.2, hn.2.2 1 _ _ rfl, by omega, kbk_mem (by omega) hp2.2.1, hnm.2 1 _ _ rfl⟩) (VR items fl p2) ?_ ?_ ?_).mono ?_
        · rintro N x wa wb ⟨⟨h1, h2⟩, cs, h3⟩ hst
          exact ⟨⟨own_st h1 hst (by decide), h2⟩, cs, (hst.old p2 (by simp)).trans h3⟩
        · rintro N N' x wa ⟨⟨h1, h2⟩, h3⟩ hN
          exact ⟨⟨own_down h1 hN, h2⟩, h3⟩
        · intro W' bg' lb' p he hs hl hm hlp hll hf
          have hs2' := hsW.fr' hf (by
            simp only [List.mem_cons, List.not_mem_nil, or_false, not_or]
            exact ⟨by omega, hnm.2 1 _ p2 rfl⟩)
          have hr2' := own_far hrW (fun g hg => hf.block g (hrW.lt g hg).2 (by
            simp only [List.mem_cons, List.not_mem_nil, or_false, not_or]
            refine ⟨fun e => (show SB W bs 51 [_, _, _, _, _, _, _] from hxW.es.s).row hrW (by decide) (by rw [← e]; exact hg), fun e => ?_⟩
            subst e
            obtain ⟨_, cs, fr, h3⟩ := own_tag hrW g hg
            have := h3.symm.trans hMW
            simp at this))
          refine (workTree_any (l := [(157, p1)]) (ul := [u1]) (u0 := u2) (p := p2) (lk := lk2) (ch := rv) (x := x2) (i := 1) hd.wf he (by simp) (fun i T' p' hi => by
            match i, hi with
            | 0, hi => simp at hi; omega
            | i + 1, hi => simp at hi) hm (fun w => fo2 (v1E p1) (v2E p2) (v3E p) w) hl hs2' hxW.us.1 (by have := hxW.us.2; omega) hr2').mono ?_
          rintro e w' ⟨y, he', hwt, hown, hfv⟩
          rw [htree] at hown hfv
          obtain ⟨la, lm, lc, hl'⟩ := hwt.fo.lo
          have hpl : p ≠ lb' := sb_ne hs (show SB W' lb' 105 [_, _] from hl) (by decide)
          have hpb : p ≠ bs := sb_ne hs (show SB W' bs 51 [_, _, _, _, _, _, _] from he.s) (by decide)
          have hpp : p ≠ p2 := sb_ne hs hs2' (by decide)
          refine ⟨y, _, he', ⟨hwt.fo.es, hs.fr' hwt.fo.fr (by simp [hpb, hpl, hpp]), hl', ⟨la, lm, lc, rfl⟩, hwt.fo.fr.size⟩, hwt.fo.fr.mono (fun b hb => .inl (by simp at hb ⊢; rcases hb with h | h | h <;> simp [h])), ⟨⟨hown, hfv⟩, _, hwt.fo.sb⟩, hwt.kt⟩
        · rintro e w' ⟨x, p, bg', lk, kv', he, hfd, ⟨⟨hv, hfv⟩, hvt⟩, hlo⟩
          have hS : ∀ b, b ∈ [bs, ms, lb, kbk bs kv, p2] → PB W B bs b := fun b hb => by
            simp only [List.mem_cons, List.not_mem_nil, or_false] at hb
            rcases hb with rfl | rfl | rfl | rfl | rfl
            · exact pbS hxW.es
            · exact pbM hmB hMW rfl
            · exact pbL hlbB hlb
            · exact pbK hxW.es
            · exact pbT hp2.1 hsW (.inr (.inl rfl))
          have hlp := hfd.lp
          have hv' := own_down hv (show B ≤ W.heap.size by omega)
          refine ⟨x, he, ⟨⟨⟨⟨hv', hfv⟩, hvt⟩, f, q, rv, us + 1 + 1, bg', kv', p1, u1, p2, us + 1, p, us + 1 + 1, ms, lk, x, B, ⟨hfd.es, hxW.xf.pb hfd.fr hS, hxW.rv, ⟨by have := hxW.us.1; omega, by have := hxW.us.2; omega⟩, ?_⟩, hqW.pb hfd.fr hS, hmB, by omega, hfd.m, hfd.sb, hv', Nat.le_refl _, by omega, by omega⟩, hkW.trans (KX.of hfd.fr hS)⟩, hfd.fr⟩
          intro i T p' hi
          match i, hi with
          | 0, hi =>
            simp at hi
            obtain ⟨rfl, rfl⟩ := hi
            obtain ⟨cs, TT, h1, h2⟩ := hxW.tg 0 _ p1 rfl
            refine ⟨cs, TT, (hfd.fr.block p1 (heap_lt h1) ?_).trans h1, h2⟩
            simp only [List.mem_cons, List.not_mem_nil, or_false, not_or]
            exact ⟨by omega, hnm.2 0 _ p1 rfl, hn.2.2 0 _ p1 rfl, kbk_mem (by omega) hp1.2.1, hp12⟩
          | 1, hi =>
            simp at hi
            obtain ⟨rfl, rfl⟩ := hi
            obtain ⟨cs, h1⟩ := hvt
            exact ⟨cs, _, h1, .inr (.inl rfl)⟩
          | 2, hi =>
            simp at hi
            obtain ⟨rfl, rfl⟩ := hi
            exact ⟨_, _, hfd.sb, .inr (.inr (.inl rfl))⟩
          | i + 3, hi => simp at hi
      · rintro W x w' rb hb ⟨_, hfr⟩ h1 h2
        exact hfr.block rb h2 (by
          simp only [List.mem_cons, List.not_mem_nil, or_false, not_or]
          omega)
      · rintro W x w' rb xs a b hb ⟨⟨⟨⟨⟨h1, h2⟩, cs, h3⟩, h4⟩, h5⟩, hfr⟩ hsb hr1 hr2
        have hBr : B ≤ rb := by omega
        have hsb1 := hsb.set 0 a
        have hpr : p2 ≠ rb := by omega
        have hfs := ((Ses.Fr.refl [rb] w').setCell ⟨rb, 0, none⟩ (.inl (by simp)) a).setCell ⟨rb, 1, none⟩ (.inl (by simp)) b
        exact ⟨⟨⟨⟨own_setT (own_setT h1 hsb (by decide) 0 a) hsb1 (by decide) 1 b, h2⟩, cs, (heap_setCell_ne hpr _).trans ((heap_setCell_ne hpr _).trans h3)⟩, (h4.tset hsb hBr 0 (by decide) a).tset hsb1 hBr 1 (by decide) b⟩, h5.trans (KX.of hfs (fun c hc => by
          simp at hc
          subst hc
          exact ⟨.inr hBr, .inr (.inl ⟨_, _, _, hsb, by decide, by decide⟩)⟩))⟩
    · rintro x w' ⟨⟨⟨⟨hv, hfv⟩, _⟩, _⟩, hk⟩
      rw [hfv]
      exact writeTree_any items ss hlen hit hnn fl hfl B _ w' hv (hpt w' hk)
    · rintro e w' ⟨he, x, w1, ⟨⟨_, h1⟩, h2⟩, hb⟩
      exact ⟨he, h1.below hb, h2.trans (KX.below hb)⟩
  · rintro w' ⟨⟨f, q, rv, us, bg, kv, p1, u1, p2, u2, p3, u3, ms, lk, x, N, h1, _⟩, _⟩
    obtain ⟨a, c, e⟩ := h1.es.shape
    exact ⟨a, 3, c, by decide, (heap_cell (i := 5) h1.es.s).trans (congrArg some e)⟩
  · rintro e w' ⟨he, w1, ⟨h1, h2⟩, hb⟩
    exact ⟨he, h1.below hb, h2.trans (KX.below hb)⟩

end Go.Proofs.YtfekglokoafpiaaGreatDoor
