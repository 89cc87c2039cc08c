/-
  The document's tokens of a text: Lex gives the very tokens that the program reads.
  The document's files: one file a, or none.
  The document's answer: Tree.
  The document's joined.
  The document's answers: Known; Tokens.
-/
import Derived.Test.YtfekglokoafpiaaGreatDoorQ16
import Derived.Deep.LoopGhost
import Derived.Deep.RegionHeld3
import Derived.Laws.AppendOwn

set_option linter.unusedVariables false
set_option linter.unusedSimpArgs false

namespace Go.Proofs.YtfekglokoafpiaaGreatDoor
open Go.RowKit

theorem Tryz.infoRTok : (Tryz.prog.info? 238).map (fun i => (i.zero, i.size, i.bytes)) = some (some (.agg #[.string ⟨#[]⟩, .int .i64 0, .int .i64 0]), 3, 32) := by kernel_rfl

theorem bneT {a b : Int} (h : a ≠ b) : (a != b) = true := by rw [bne_iff_ne]; exact h
theorem bneF {a b : Int} (h : a = b) : (a != b) = false := by subst h; simp

theorem comP_nl (s : ByteArray) (a : Nat) (h : a < s.size) (hc : s[a].toNat = 10) : comP s a = 0 := by
  obtain ⟨r, hr, hl⟩ := rest_cons s a h
  have e : s[a] = 10 := UInt8.toNat_inj.1 hc
  unfold comP; rw [hr, e]; simp [comL]

theorem comP_on (s : ByteArray) (a : Nat) (h : a < s.size) (hc : s[a].toNat ≠ 10) : comP s a = comP s (a + 1) + 1 := by
  obtain ⟨r, hr, hl⟩ := rest_cons s a h
  have hne : (s[a] != 10) = true := by
    rw [bne_iff_ne]; intro e; rw [e] at hc; simp at hc
  have h2 : (s.extract (a + 1) s.size).data.toList = r := by
    have e1 : (s.extract a s.size).data.toList = s.data.toList.drop a := by
      rw [← Lib.toList_data, Lib.extract_toList, List.take_of_length_le (by simp)]
    have e2 : (s.extract (a + 1) s.size).data.toList = s.data.toList.drop (a + 1) := by
      rw [← Lib.toList_data, Lib.extract_toList, List.take_of_length_le (by simp)]
    rw [e2, ← List.drop_drop, ← e1, hr]; rfl
  have : comL (s[a] :: r) = comL r + 1 := by simp [comL, List.takeWhile, hne]
  unfold comP; rw [hr, this, h2]

theorem comP_le (s : ByteArray) (a : Nat) (h : a ≤ s.size) : a + comP s a ≤ s.size := by
  have : comL (s.extract a s.size).data.toList ≤ (s.extract a s.size).data.toList.length := by unfold comL; exact (List.takeWhile_sublist _).length_le
  rw [rest_len] at this
  unfold comP; omega

/-- What the loop holds at every round's head; p: where the next token is looked for (behind the comment, in one). -/
def RLexAt (s : ByteArray) (w : World) (v l c i nt : Value) (wr : World) : Prop :=
  ∃ (f a p line st : Nat) (acc : List Tok), a ≤ s.size ∧ st ≤ a ∧ line ≤ a + 1 ∧ s.size - p < f ∧ i = .int .i64 a ∧ l = .int .i64 line ∧ c = .int .i64 ((a - st + 1 : Nat)) ∧
    wr.ownsRow w.heap.size 238 3 v acc.length (tokCells acc) ∧ Below w.heap.size w wr ∧ acc.length ≤ a ∧ acc ++ lexP s f p line st = lexAll s ∧
    ((nt = .bool false ∧ p = a) ∨ (nt = .bool true ∧ p = a + comP s a))

set_option maxRecDepth 100000 in
set_option maxHeartbeats 2000000 in
theorem lex_any (s : ByteArray) (w : World) (hs : s.size ≤ 400) :
    Calls Tryz.prog 141 #[.string s] w fun e w' => ∃ v, e = .returned v ∧ w'.ownsRow w.heap.size 238 3 v (lexAll s).length (tokCells (lexAll s)) ∧ Below w.heap.size w w' := by
  obtain ⟨i0, hi, hz0, hz1, hz2⟩ := info_parts Tryz.infoRTok
  go_enter Tryz.func141, Tryz.ntmps141
  go_wp2
  go_loopw [3, 4, 5, 6, 7] (fun v l c i nt wr => RLexAt s w v l c i nt wr) (fun _ _ _ i _ _ => s.size - (intOf i).toNat)
  case atStart => exact ⟨s.size + 1, 0, 0, 1, 0, [], by omega, by omega, by omega, by omega, rfl, rfl, rfl, World.ownsRow_nil _ _ _ _, Below.refl _ _, by simp, rfl, .inl ⟨rfl, rfl⟩⟩
  case round =>
    obtain ⟨f, a, p, line, st, acc, ha, hst, hline, hf, rfl, rfl, rfl, hown, hb, hacc, heq, hnt⟩ := hrel
    have hcol : ((a - st + 1 : Nat) : Int) = (a : Int) - st + 1 := by omega
    rw [hcol]
    have HC := hid hcol
    clear hcol
    have HE := hid heq
    have HO := hid hown
    have HB := hid hb
    clear heq hown hb
    obtain ⟨f, rfl⟩ : ∃ g, f = g + 1 := ⟨f - 1, by omega⟩
    rcases hnt with ⟨rfl, hp⟩ | ⟨rfl, hp⟩
    · by_cases hlt : a < s.size
      · have hx := lexP_step s f a line st hlt
        have HP := hid hp
        have hf2 : s.size - a < f + 1 := by omega
        clear hp hf
        by_cases h10 : s[a].toNat = 10
        · have b10 := beqT (show (s[a].toNat : Int) = 10 by omega)
          have n10 := bneF (show (s[a].toNat : Int) = 10 by omega)
          have b32 := beqF (show (s[a].toNat : Int) ≠ 32 by omega)
          have b9 := beqF (show (s[a].toNat : Int) ≠ 9 by omega)
          have HX := hid (hx.trans (if_pos h10))
          clear hx h10
          go_wp2
          go_roundw
          case rel => exact ⟨f, a + 1, a + 1, line + 1, a + 1, acc, by omega, by omega, by omega, by omega, by go_num, by go_num, by simp, HO.out, HB.out, by omega, by have h := HE.out; rw [HP.out, HX.out] at h; exact h, .inl ⟨rfl, rfl⟩⟩
          case measure => simp [intOf]; omega
        have b10 := beqF (show (s[a].toNat : Int) ≠ 10 by omega)
        have n10 := bneT (show (s[a].toNat : Int) ≠ 10 by omega)
        rw [if_neg h10] at hx
        by_cases h32 : s[a].toNat = 32
        · have b32 := beqT (show (s[a].toNat : Int) = 32 by omega)
          have b35 := beqF (show (s[a].toNat : Int) ≠ 35 by omega)
          have HX := hid (hx.trans (if_pos h32))
          clear hx h10 h32
          go_wp2
          go_roundw
          case rel => exact ⟨f, a + 1, a + 1, line, st, acc, by omega, by omega, by omega, by omega, by go_num, rfl, congrArg (Value.int .i64) (by omega), HO.out, HB.out, by omega, by have h := HE.out; rw [HP.out, HX.out] at h; exact h, .inl ⟨rfl, rfl⟩⟩
          case measure => simp [intOf]; omega
        have b32 := beqF (show (s[a].toNat : Int) ≠ 32 by omega)
        rw [if_neg h32] at hx
        by_cases h9 : s[a].toNat = 9
        · have b9 := beqT (show (s[a].toNat : Int) = 9 by omega)
          have b35 := beqF (show (s[a].toNat : Int) ≠ 35 by omega)
          have HX := hid (hx.trans (if_pos h9))
          clear hx h10 h32 h9
          go_wp2
          go_roundw
          case rel => exact ⟨f, a + 1, a + 1, line, st, acc, by omega, by omega, by omega, by omega, by go_num, rfl, congrArg (Value.int .i64) (by omega), HO.out, HB.out, by omega, by have h := HE.out; rw [HP.out, HX.out] at h; exact h, .inl ⟨rfl, rfl⟩⟩
          case measure => simp [intOf]; omega
        have b9 := beqF (show (s[a].toNat : Int) ≠ 9 by omega)
        rw [if_neg h9] at hx
        by_cases h35 : s[a].toNat = 35
        · have b35 := beqT (show (s[a].toNat : Int) = 35 by omega)
          have HX := hid (hx.trans (if_pos h35))
          have HQ := hid (show a + comP s a = a + 1 + comP s (a + 1) by rw [comP_on s a hlt h10]; omega)
          have HF : Hid (s.size - (a + 1 + comP s (a + 1)) < f) := hid (by omega)
          clear hx h10 h32 h9 h35
          go_wp2
          go_roundw
          case rel => exact ⟨f, a + 1, a + 1 + comP s (a + 1), line, st, acc, by omega, by omega, by omega, HF.out, by go_num, rfl, congrArg (Value.int .i64) (by omega), HO.out, HB.out, by omega, by have h := HE.out; rw [HP.out, HX.out, HQ.out] at h; exact h, .inr ⟨rfl, rfl⟩⟩
          case measure => simp [intOf]; omega
        have b35 := beqF (show (s[a].toNat : Int) ≠ 35 by omega)
        rw [if_neg h35] at hx
        have HX := hid hx
        have hbd := tokP_bd s a hlt
        clear hx h10 h32 h9 h35
        go_wp2_with (first
          | (go_at_call 172; go_must (refine (rLength_any s a _ hs hlt).mono ?_; rintro e w1 ⟨rfl, rfl⟩))
          | (at_builtin; go_must (refine wpList_append_own _ rfl _ _ 235 rfl w.heap.size 238 i0 (.agg #[.string ⟨#[]⟩, .int .i64 0, .int .i64 0]) 3 32 Tryz.underlying235 hi hz0 hz1 hz2 rfl (by decide) _ _ _ rfl (HO.out.alloc _) ⟨w1.heap.size, 0, none⟩ 1 1 [.string (s.extract a (a + tokP s a)), .int .i64 line, .int .i64 ((a : Int) - st + 1)] rfl rfl (three_cells _ _ _ _ _) ?c2 ?c3 ?c4 ?c5 ?_)))
        case c2 => intro u hu; simp at hu; rcases hu with rfl | rfl | rfl <;> rfl
        case c3 => unfold maxLen; omega
        case c4 => omega
        case c5 => have := HB.out.size; simp; omega
        intro v' w2 hown' hgrow _
        have HB2 := hid ((HB.out.alloc HB.out.size _).grown hgrow (by have := HB.out.size; simp; omega) (fun k hk => (HO.out.lt k hk).1))
        have hcol : ((a : Int) - st + 1) = ((a - st + 1 : Nat) : Int) := by omega
        rw [hcol, ← tokCells_snoc acc ⟨s.extract a (a + tokP s a), line, a - st + 1⟩] at hown'
        have HO2 := hid hown'
        clear hown' hgrow hcol
        go_wp2
        go_roundw
        case rel => exact ⟨f, a + tokP s a, a + tokP s a, line, st, acc ++ [⟨s.extract a (a + tokP s a), line, a - st + 1⟩], by omega, by omega, by omega, by omega, by go_num, rfl, congrArg (Value.int .i64) (by omega), by simpa using HO2.out, HB2.out, by simp; omega, by have h := HE.out; rw [HP.out, HX.out] at h; simpa using h, .inl ⟨rfl, rfl⟩⟩
        case measure => simp [intOf]; omega
      · -- the end
        have hpa : p = a := hp
        have hx := lexP_end s f p line st (by omega)
        rw [hpa] at hx
        have HX := hid hx
        have HP := hid hpa
        clear hx hpa
        go_wp2_with (at_builtin; go_must (refine wpList_append_own _ rfl _ _ 235 rfl w.heap.size 238 i0 (.agg #[.string ⟨#[]⟩, .int .i64 0, .int .i64 0]) 3 32 Tryz.underlying235 hi hz0 hz1 hz2 rfl (by decide) _ _ _ rfl (HO.out.alloc _) ⟨wr.heap.size, 0, none⟩ 1 1 [.string ⟨#[]⟩, .int .i64 line, .int .i64 ((a : Int) - st + 1)] rfl rfl (three_cells _ _ _ _ _) ?c2 ?c3 ?c4 ?c5 ?_))
        case c2 => intro u hu; simp at hu; rcases hu with rfl | rfl | rfl <;> rfl
        case c3 => unfold maxLen; omega
        case c4 => omega
        case c5 => have := HB.out.size; simp; omega
        intro v' w2 hown' hgrow _
        have HB2 := hid ((HB.out.alloc HB.out.size _).grown hgrow (by have := HB.out.size; simp; omega) (fun k hk => (HO.out.lt k hk).1))
        have hcol : ((a : Int) - st + 1) = ((s.size - st + 1 : Nat) : Int) := by omega
        rw [hcol, ← tokCells_snoc acc ⟨⟨#[]⟩, line, s.size - st + 1⟩] at hown'
        have he := HE.out
        rw [HP.out, HX.out] at he
        rw [he] at hown'
        have hlen : acc.length + 1 = (lexAll s).length := by rw [← he]; simp
        rw [hlen] at hown'
        have HO2 := hid hown'
        clear hown' hgrow hcol he hlen
        go_wp2
        go_ret
        exact ⟨v', rfl, HO2.out, HB2.out⟩
    · by_cases hlt : a < s.size
      · by_cases h10 : s[a].toNat = 10
        · have hp0 : p = a := by rw [hp, comP_nl s a hlt h10]; rfl
          have hx := lexP_step s f a line st hlt
          have HX := hid (hx.trans (if_pos h10))
          have HP := hid hp0
          have hf2 : s.size - a < f + 1 := by omega
          have b10 := beqT (show (s[a].toNat : Int) = 10 by omega)
          have n10 := bneF (show (s[a].toNat : Int) = 10 by omega)
          have b32 := beqF (show (s[a].toNat : Int) ≠ 32 by omega)
          have b9 := beqF (show (s[a].toNat : Int) ≠ 9 by omega)
          clear hx h10 hp hp0 hf
          go_wp2
          go_roundw
          case rel => exact ⟨f, a + 1, a + 1, line + 1, a + 1, acc, by omega, by omega, by omega, by omega, by go_num, by go_num, by simp, HO.out, HB.out, by omega, by have h := HE.out; rw [HP.out, HX.out] at h; exact h, .inl ⟨rfl, rfl⟩⟩
          case measure => simp [intOf]; omega
        · have b10 := beqF (show (s[a].toNat : Int) ≠ 10 by omega)
          have n10 := bneT (show (s[a].toNat : Int) ≠ 10 by omega)
          have HQ := hid (show p = a + 1 + comP s (a + 1) by rw [hp, comP_on s a hlt h10]; omega)
          have HF := hid hf
          clear h10 hp hf
          go_wp2
          all_goals go_roundw
          all_goals first
            | exact ⟨f + 1, a + 1, p, line, st, acc, by omega, by omega, by omega, HF.out, by go_num, rfl, congrArg (Value.int .i64) (by omega), HO.out, HB.out, by omega, HE.out, .inr ⟨rfl, HQ.out⟩⟩
            | (simp [intOf]; omega)
      · -- the end
        have hpa : p = a := by rw [hp]; have := comP_le s a ha; omega
        have hx := lexP_end s f p line st (by omega)
        rw [hpa] at hx
        have HX := hid hx
        have HP := hid hpa
        clear hx hpa
        go_wp2_with (at_builtin; go_must (refine wpList_append_own _ rfl _ _ 235 rfl w.heap.size 238 i0 (.agg #[.string ⟨#[]⟩, .int .i64 0, .int .i64 0]) 3 32 Tryz.underlying235 hi hz0 hz1 hz2 rfl (by decide) _ _ _ rfl (HO.out.alloc _) ⟨wr.heap.size, 0, none⟩ 1 1 [.string ⟨#[]⟩, .int .i64 line, .int .i64 ((a : Int) - st + 1)] rfl rfl (three_cells _ _ _ _ _) ?c2 ?c3 ?c4 ?c5 ?_))
        case c2 => intro u hu; simp at hu; rcases hu with rfl | rfl | rfl <;> rfl
        case c3 => unfold maxLen; omega
        case c4 => omega
        case c5 => have := HB.out.size; simp; omega
        intro v' w2 hown' hgrow _
        have HB2 := hid ((HB.out.alloc HB.out.size _).grown hgrow (by have := HB.out.size; simp; omega) (fun k hk => (HO.out.lt k hk).1))
        have hcol : ((a : Int) - st + 1) = ((s.size - st + 1 : Nat) : Int) := by omega
        rw [hcol, ← tokCells_snoc acc ⟨⟨#[]⟩, line, s.size - st + 1⟩] at hown'
        have he := HE.out
        rw [HP.out, HX.out] at he
        rw [he] at hown'
        have hlen : acc.length + 1 = (lexAll s).length := by rw [← he]; simp
        rw [hlen] at hown'
        have HO2 := hid hown'
        clear hown' hgrow hcol he hlen
        go_wp2
        go_ret
        exact ⟨v', rfl, HO2.out, HB2.out⟩

end Go.Proofs.YtfekglokoafpiaaGreatDoor

namespace Go.Proofs.YtfekglokoafpiaaGreatDoor
open Go.RowKit

/-- The files: none, or one of the name a. -/
def Fl (fv : Value) (text : ByteArray) (there : Bool) (w : World) : Prop :=
  (fv = .slice none 0 0 ∧ text = ⟨#[]⟩ ∧ there = false) ∨
  (∃ (fb c : Nat) (ch : Int), fv = .slice (some ⟨fb, 0, none⟩) 1 c ∧ there = true ∧ w.cell? ⟨fb, 0, none⟩ = some (.string ⟨#[97]⟩) ∧ w.cell? ⟨fb, 1, none⟩ = some (.string text) ∧ w.cell? ⟨fb, 2, none⟩ = some (.bool true) ∧ w.cell? ⟨fb, 3, none⟩ = some (.int .i64 ch))

theorem Fl.below {fv : Value} {text : ByteArray} {there : Bool} {w w' : World} (h : Fl fv text there w) (hb : Below w.heap.size w w') : Fl fv text there w' := by
  rcases h with h | ⟨fb, c, ch, h1, h2, h3, h4, h5, h6⟩
  · exact .inl h
  · exact .inr ⟨fb, c, ch, h1, h2, cell_kept hb h3, cell_kept hb h4, cell_kept hb h5, cell_kept hb h6⟩

def idxOf (there : Bool) : Int := if there then 0 else -1

set_option maxRecDepth 100000 in
set_option maxHeartbeats 1000000 in
theorem find_any {fv : Value} {text : ByteArray} {there : Bool} (w : World) (h : Fl fv text there w) :
    Calls Tryz.prog 18 #[fv, .string ⟨#[97]⟩] w fun e w' => e = .returned (.int .i64 (idxOf there)) ∧ w' = w := by
  rcases h with ⟨rfl, rfl, rfl⟩ | ⟨fb, c, ch, rfl, rfl, h3, h4, h5, h6⟩
  · go_enter Tryz.func18, Tryz.ntmps18
    go_wp2
    refine wp_loop_rounds 1 ?_
    rw [rounds_succ]
    go_wp2
    go_ret
    exact ⟨rfl, rfl⟩
  · go_enter Tryz.func18, Tryz.ntmps18
    go_wp2
    refine wp_loop_rounds 1 ?_
    rw [rounds_succ]
    go_wp2
    go_ret
    exact ⟨rfl, rfl⟩

set_option maxRecDepth 100000 in
set_option maxHeartbeats 1000000 in
theorem ftext_any {fv : Value} {text : ByteArray} {there : Bool} (w : World) (h : Fl fv text there w) :
    Calls Tryz.prog 142 #[fv, .string ⟨#[97]⟩] w fun e w' => e = .returned (.string text) ∧ w' = w := by
  have H := hid h
  rcases h with ⟨rfl, rfl, rfl⟩ | ⟨fb, c, ch, rfl, rfl, h3, h4, h5, h6⟩
  all_goals
    go_enter Tryz.func142, Tryz.ntmps142
    go_wp2_with fail
    refine (find_any _ H.out).mono ?_
    rintro e w1 ⟨rfl, rfl⟩
    simp only [idxOf, if_true]
    go_wp2
    go_ret
    exact ⟨rfl, rfl⟩

/-- What the rows of a text's tokens ask. -/
theorem own_tok {w : World} {B : Nat} {T : TypeId} {v : Value} {toks : List Tok} (h : w.ownsRow B T 3 v toks.length (tokCells toks)) (hp : 0 < toks.length) : ∃ tb cap cur, v = .slice (some ⟨tb, 0, none⟩) toks.length cap ∧ w.heap[tb]? = some (.cells cur T) ∧ cur.toList.take (3 * toks.length) = tokCells toks := by
  obtain ⟨hl, ⟨_, h0⟩ | ⟨g, cap, cur, hv, hB, hg, h1, h2, h3, h4⟩⟩ := h
  · omega
  · exact ⟨g, cap, cur, hv, hg, by rw [Nat.mul_comm]; exact h4⟩

/-- The text's tokens and items, as the document's functions hand them on. -/
structure DocT (text : ByteArray) : Prop where
  sz : text.size ≤ 400
  rl : RL (lexAll text) 0 1700
  wf : Wf (lexAll text)

theorem docT (text : ByteArray) (h : text.size ≤ 400) : DocT text := by
  obtain ⟨h1, h2⟩ := lexWf text h
  exact ⟨h, (rall_ok h1 h2 1700 1700 (Nat.le_refl _)).1, h1⟩

set_option maxRecDepth 100000 in
set_option maxHeartbeats 1000000 in
theorem items_any {fv : Value} {text : ByteArray} {there : Bool} (w : World) (h : Fl fv text there w) (hd : DocT text) :
    Calls Tryz.prog 139 #[fv, .string ⟨#[97]⟩] w fun e w' => ∃ v xs, e = .returned v ∧ w'.ownsRow w.heap.size 234 7 v (treeAll (lexAll text)).1.length xs ∧ Its (fun k => w.heap.size < k ∧ v.ownBlock ≠ some k) w' (treeAll (lexAll text)).1 xs ∧ Below w.heap.size w w' := by
  have H := hid h
  have HD := hid hd
  clear h hd
  go_enter Tryz.func139, Tryz.ntmps139
  go_wp2_with fail
  refine (ftext_any _ H.out).mono ?_
  rintro e w1 ⟨rfl, rfl⟩
  go_wp2_with fail
  refine (lex_any text _ HD.out.sz).mono ?_
  rintro e w2 ⟨v, rfl, hown, hb⟩
  obtain ⟨tb, cap, cur, rfl, hg, hc⟩ := own_tok hown HD.out.wf.pos
  have HG := hid hg
  have HC := hid hc
  have HB := hid hb
  clear hown hg hc hb
  go_wp2_with fail
  refine (parse_any HD.out.wf HD.out.rl tb cap _ ⟨cur, HG.out, HC.out⟩).mono ?_
  rintro e w3 ⟨v, xs, rfl, hown, hits, hb⟩
  have hsh : ∃ ao m c, v = .slice ao m c := by
    obtain ⟨_, ⟨h, _⟩ | ⟨g, c, _, h, _⟩⟩ := hown
    · exact ⟨none, 0, 0, h⟩
    · exact ⟨_, _, _, h⟩
  obtain ⟨ao, m, c, rfl⟩ := hsh
  have HO := hid hown
  have HI := hid hits
  have HB3 := hid hb
  have HFV := hid (show ∃ z, faultV (treeAll (lexAll text)).2 = .int .i64 z by cases (treeAll (lexAll text)).2 with
    | none => exact ⟨_, rfl⟩
    | some b => exact ⟨_, rfl⟩)
  obtain ⟨z, hz⟩ := HFV.out
  rw [hz]
  clear hown hits hb HFV hz
  go_wp2
  go_ret
  refine ⟨_, xs, rfl, ?_, Its.mono (fun k _ hk => ⟨by have := HB.out.size; omega, hk.2⟩) HI.out, below_seq HB.out HB3.out⟩
  obtain ⟨hl, h2 | ⟨g, c, cur, hv, hb, hr⟩⟩ := HO.out
  · exact ⟨hl, .inl h2⟩
  · exact ⟨hl, .inr ⟨g, c, cur, hv, by have := HB.out.size; omega, hr⟩⟩

end Go.Proofs.YtfekglokoafpiaaGreatDoor

namespace Go.Proofs.YtfekglokoafpiaaGreatDoor
open Go.RowKit

theorem cat_take (ss : List ByteArray) (k : Nat) (hk : k < ss.length) : cat (ss.take (k + 1)) = cat (ss.take k) ++ ss[k] := by
  rw [take_succ_get ss k hk, cat_snoc]

theorem own_cells7 {w : World} {B n : Nat} {T : TypeId} {ao : Option Addr} {m c : Nat} {xs : List Value} (h : w.ownsRow B T 7 (.slice ao m c) n xs) (hp : 0 < n) : ∃ g, ao = some ⟨g, 0, none⟩ ∧ ∀ (j : Nat) u, xs[j]? = some u → w.cell? ⟨g, j, none⟩ = some u := by
  obtain ⟨hl, ⟨_, h0⟩ | ⟨g, cap, cur, hv, hB, hg, h1, h2, h3, h4⟩⟩ := h
  · omega
  · exact ⟨g, (Value.slice.inj hv).1, fun j u hj => by rw [heap_cell hg, ← Array.getElem?_toList]; exact take_get h4 hj⟩

set_option maxRecDepth 100000 in
set_option maxHeartbeats 2000000 in
theorem ans_tree {fv : Value} {text : ByteArray} {there : Bool} (nm : ByteArray) (items : List It) (fl : Option Nat) (htree : treeAll (lexAll text) = (items, fl)) (w : World) (h : Fl fv text there w) (hd : DocT text) (hn : items.length ≤ 401) (hnum : ∀ i ∈ items, i.num ≤ 1000) (hfl : ∀ b, fl = some b → b ≤ 1000) :
    Calls Tryz.prog 112 #[fv, .int .i64 3, .string ⟨#[97]⟩, .string nm] w fun e w' => (∃ ss, ss.length = items.length ∧ (∀ (k : Nat) (i : It) (s : ByteArray), items[k]? = some i → ss[k]? = some s → ITx i s) ∧ e = .returned (.string (treeT ss fl))) ∧ Below w.heap.size w w' := by
  have H := hid h
  have HD := hid hd
  have HTR := hid htree
  have HNUM := hid hnum
  have HFL := hid hfl
  clear h hd htree hnum hfl
  go_enter Tryz.func112, Tryz.ntmps112
  go_wp2_with fail
  refine (ftext_any _ H.out).mono ?_
  rintro e w1 ⟨rfl, rfl⟩
  go_wp2_with fail
  refine (lex_any text _ HD.out.sz).mono ?_
  rintro e w2 ⟨v, rfl, hown, hb⟩
  obtain ⟨tb, cap, cur, rfl, hg, hc⟩ := own_tok hown HD.out.wf.pos
  have HG := hid hg
  have HC := hid hc
  have HB := hid hb
  clear hown hg hc hb
  go_wp2_with fail
  refine (parse_any HD.out.wf HD.out.rl tb cap _ ⟨cur, HG.out, HC.out⟩).mono ?_
  rintro e w3 ⟨v, xs, rfl, hown, hits, hb⟩
  rw [HTR.out] at hown hits ⊢
  simp only at hown hits ⊢
  obtain ⟨ss, hss⟩ := lines_of hits HNUM.out
  have HLEN := hid hss.len
  have HITX := hid hss.itx
  have HSS := hid hss
  have HB3 := hid hb
  have HOWN := hid hown
  have hsh : ∃ ao m c, v = .slice ao m c ∧ m = items.length := by
    obtain ⟨_, ⟨h, h0⟩ | ⟨g, c, _, h, _⟩⟩ := hown
    · exact ⟨none, 0, 0, h, h0.symm⟩
    · exact ⟨_, _, _, h, rfl⟩
  obtain ⟨ao, m, c, rfl, rfl⟩ := hsh
  clear hown hits hb hss
  obtain ⟨z, hz⟩ : ∃ z, faultV fl = .int .i64 z := by
    cases fl with
    | none => exact ⟨_, rfl⟩
    | some b => exact ⟨_, rfl⟩
  rw [hz]
  have HZ := hid hz
  clear hz
  go_wp2
  go_loopg [15, 16] items.length (fun f s i wr => ∃ k : Nat, k + f = items.length ∧ i = .int .i64 (k : Nat) ∧ s = .string (cat (ss.take k)) ∧ Below w3.heap.size w3 wr)
  case atStart => exact ⟨0, by omega, rfl, rfl, Below.refl _ _⟩
  case round =>
    obtain ⟨k, hk, rfl, rfl, hbl⟩ := hrel
    have HBL := hid hbl
    clear hbl
    by_cases hlt : k < items.length
    · have hi := List.getElem?_eq_getElem hlt
      obtain ⟨at_, word, nmm, ty, op, t, ao2, m2, c2, s, hs, hdoc, hsh, hq1, hq2, hsz⟩ := HSS.out.get k _ hi
      clear hq1 hq2
      obtain ⟨g, rfl, hcg⟩ := own_cells7 HOWN.out (by omega)
      have hcell : ∀ j u, (DocV at_ word nmm ty op t ao2 m2 c2)[j]? = some u → wr.cell? ⟨g, k * 7 + j, none⟩ = some u := fun j u hj => cell_kept HBL.out (hcg _ _ (hdoc j u hj))
      have z0 := hcell 0 _ rfl
      have z1 := hcell 1 _ rfl
      have z2 := hcell 2 _ rfl
      have z3 := hcell 3 _ rfl
      have z4 := hcell 4 _ rfl
      have z5 := hcell 5 _ rfl
      have z6 := hcell 6 _ rfl
      rw [Nat.add_zero] at z0
      have hse : ss[k]'(by have := HLEN.out; omega) = s := by
        rw [List.getElem?_eq_getElem (by have := HLEN.out; omega)] at hs
        exact Option.some.inj hs
      have HCT := hid (cat_take ss k (by have := HLEN.out; omega))
      have HSE := hid hse
      have hcz := cat_size (ss.take k) 200000 (fun s hs => by
        obtain ⟨j, hj, rfl⟩ := List.getElem_of_mem (List.mem_of_mem_take hs)
        exact (HITX.out j (items[j]'(by have := HLEN.out; omega)) _ (List.getElem?_eq_getElem _) (List.getElem?_eq_getElem hj)).2.1)
      rw [List.length_take] at hcz
      have hcz2 : (cat (ss.take k)).size ≤ 100000000 := by have := HLEN.out; omega
      have HSH := hid (hsh.later (Later.of_below HBL.out))
      have hlt2 : (k : Int) < (items.length : Int) := by omega
      have hkc : (0 : Int) ≤ (k : Int) := by omega
      clear hcell hdoc hsh hse hi hs hcg hcz
      go_wp2_with fail
      refine (HSH.out wr (Later.refl _ _)).mono ?_
      rintro e w4 ⟨rfl, hb4⟩
      have HB4 := hid (below_seq HBL.out hb4)
      clear hb4
      go_wp2
      go_roundg (items.length - (k + 1))
      case rel => exact ⟨k + 1, by omega, by go_num, by rw [HCT.out, HSE.out], HB4.out⟩
      case measure => omega
    · have hke : k = items.length := by omega
      subst hke
      have HTK := hid (show ss.take items.length = ss by rw [← HLEN.out, List.take_length])
      have hcz := cat_size ss 200000 (fun s hs => by
        obtain ⟨j, hj, rfl⟩ := List.getElem_of_mem hs
        exact (HITX.out j (items[j]'(by have := HLEN.out; omega)) _ (List.getElem?_eq_getElem _) (List.getElem?_eq_getElem hj)).2.1)
      have hcz2 : (cat ss).size ≤ 100000000 := by have := HLEN.out; omega
      rw [HTK.out]
      cases fl with
      | none =>
        have e1 : (-1 : Int) = z := (Value.int.inj HZ.out).2
        subst e1
        go_wp2
        go_ret
        exact ⟨⟨ss, HLEN.out, HITX.out, rfl⟩, below_seq (below_seq HB.out HB3.out) HBL.out⟩
      | some b =>
        have e1 : ((b : Nat) : Int) = z := (Value.int.inj HZ.out).2
        subst e1
        have hb1 := HFL.out b rfl
        have hb0 : (0 : Int) ≤ (b : Int) := by omega
        have hdz : (decT b).size ≤ 19 := decT_len 19 b (by omega) (by omega)
        go_wp2_with fail
        refine (decimal_any b (by omega) _).mono ?_
        rintro e w5 ⟨rfl, rfl⟩
        go_wp2
        go_ret
        exact ⟨⟨ss, HLEN.out, HITX.out, rfl⟩, below_seq (below_seq HB.out HB3.out) HBL.out⟩

end Go.Proofs.YtfekglokoafpiaaGreatDoor

namespace Go.Proofs.YtfekglokoafpiaaGreatDoor
open Go.RowKit

set_option maxRecDepth 100000 in
set_option maxHeartbeats 2000000 in
theorem joined_any (ss : List ByteArray) (hn : ss.length ≤ 401) (hz : ∀ s ∈ ss, s.size ≤ 3000) (ao : Option Addr) (c : Nat) (w : World) (hao : 0 < ss.length → ∃ g, ao = some ⟨g, 0, none⟩ ∧ ∀ (j : Nat) x, ss[j]? = some x → w.cell? ⟨g, j, none⟩ = some (.string x)) :
    Calls Tryz.prog 144 #[.slice ao ss.length c] w fun e w' => e = .returned (.string (joinT ss)) ∧ w' = w := by
  have HAO := hid hao
  have HZ := hid hz
  clear hao hz
  go_enter Tryz.func144, Tryz.ntmps144
  go_wp2
  go_loopg [3, 4] ss.length (fun f s i wr => ∃ k : Nat, k + f = ss.length ∧ i = .int .i64 (k : Nat) ∧ s = .string (joinT (ss.take k)) ∧ wr = w)
  case atStart => exact ⟨0, by omega, rfl, rfl, rfl⟩
  case round =>
    obtain ⟨k, hk, rfl, rfl, rfl⟩ := hrel
    by_cases hlt : k < ss.length
    · obtain ⟨g, rfl, hc⟩ := HAO.out (by omega)
      have hs := List.getElem?_eq_getElem hlt
      have HJ0 := hid (joinT_take0 ss k hlt)
      have HJS := hid (joinT_takeS ss k hlt)
      have hzk := HZ.out ss[k] (List.getElem_mem hlt)
      have hzj := joinT_size (ss.take k) 3000 (fun s hs => HZ.out s (List.mem_of_mem_take hs))
      rw [List.length_take] at hzj
      have hzj2 : (joinT (ss.take k)).size ≤ 2000000 := by omega
      have z0 := hc k _ hs
      generalize ss[k] = x at z0 hzk HJ0 HJS
      have hlt2 : (k : Int) < (ss.length : Int) := by omega
      have hkc : (0 : Int) ≤ (k : Int) := by omega
      clear hs hc hzj
      by_cases hk0 : k = 0
      · subst hk0
        have HJ1 := hid (HJ0.out rfl)
        have hz00 : (joinT []).size ≤ 0 := Nat.le_refl _
        clear HJ0
        go_wp2
        go_roundg (ss.length - 1)
        case rel => exact ⟨1, by omega, by go_num, by rw [HJ1.out]; rfl, rfl⟩
        case measure => omega
      · have hk1 : (0 : Int) < (k : Int) := by omega
        have HJ1 := hid (HJS.out hk0)
        clear HJ0 HJS
        go_wp2
        go_roundg (ss.length - (k + 1))
        case rel => exact ⟨k + 1, by omega, by go_num, by rw [HJ1.out], rfl⟩
        case measure => omega
    · have hke : k = ss.length := by omega
      subst hke
      go_wp2
      go_ret
      first
        | exact ⟨rfl, rfl⟩
        | exact ⟨ret_str (by rw [List.take_length]), rfl⟩

end Go.Proofs.YtfekglokoafpiaaGreatDoor

namespace Go.Proofs.YtfekglokoafpiaaGreatDoor
open Go.RowKit

def knownT (there : Bool) : ByteArray := if there then ⟨#[121, 101, 115]⟩ else ⟨#[110, 111]⟩

set_option maxRecDepth 100000 in
set_option maxHeartbeats 1000000 in
theorem ans_known {fv : Value} {text : ByteArray} {there : Bool} (nm : ByteArray) (w : World) (h : Fl fv text there w) :
    Calls Tryz.prog 112 #[fv, .int .i64 1, .string ⟨#[97]⟩, .string nm] w fun e w' => e = .returned (.string (knownT there)) ∧ Below w.heap.size w w' := by
  have H := hid h
  rcases h with ⟨rfl, rfl, rfl⟩ | ⟨fb, c, ch, rfl, rfl, h3, h4, h5, h6⟩
  all_goals
    go_enter Tryz.func112, Tryz.ntmps112
    go_wp2_with fail
    refine (find_any _ H.out).mono ?_
    rintro e w1 ⟨rfl, rfl⟩
    simp only [idxOf, if_true]
    go_wp2
    go_ret
    exact ⟨rfl, Below.refl _ _⟩

theorem keepc3 {B : Nat} {w2 w w' : World} {p0 p1 p2 : Addr} {v0 v1 v2 : Value} (h : Below w2.heap.size w2 w ∧ w.cell? p0 = some v0 ∧ w.cell? p1 = some v1 ∧ w.cell? p2 = some v2) (hb : Below w.heap.size w w') :
    Below w2.heap.size w2 w' ∧ w'.cell? p0 = some v0 ∧ w'.cell? p1 = some v1 ∧ w'.cell? p2 = some v2 := ⟨below_seq h.1 hb, cell_kept hb h.2.1, cell_kept hb h.2.2.1, cell_kept hb h.2.2.2⟩

theorem keepg3 {w2 w w' : World} {tb i0 i1 i2 : Nat} {v0 v1 v2 : Value} {row : Option Nat} (htb : tb < w2.heap.size) (hr : ∀ k, row = some k → w2.heap.size ≤ k) (h : Below w2.heap.size w2 w ∧ w.cell? ⟨tb, i0, none⟩ = some v0 ∧ w.cell? ⟨tb, i1, none⟩ = some v1 ∧ w.cell? ⟨tb, i2, none⟩ = some v2) (hg : w.grownBy w' row) :
    Below w2.heap.size w2 w' ∧ w'.cell? ⟨tb, i0, none⟩ = some v0 ∧ w'.cell? ⟨tb, i1, none⟩ = some v1 ∧ w'.cell? ⟨tb, i2, none⟩ = some v2 := by
  have e : w'.heap[tb]? = w.heap[tb]? := hg.block tb (by have := h.1.size; omega) fun e => by have := hr tb e.symm; omega
  have ec : ∀ i, w'.cell? ⟨tb, i, none⟩ = w.cell? ⟨tb, i, none⟩ := fun i => by simp [World.cell?, e]
  exact ⟨h.1.grown hg h.1.size hr, (ec _).trans h.2.1, (ec _).trans h.2.2.1, (ec _).trans h.2.2.2⟩

theorem lexP_sizes (s : ByteArray) (hs : s.size ≤ 400) : ∀ (f a line ls : Nat), a ≤ s.size → line ≤ a + 1 → ∀ t ∈ lexP s f a line ls, t.text.size ≤ 400 ∧ t.line ≤ 1000 ∧ t.col ≤ 1000 := by
  intro f
  induction f with
  | zero => intro a line ls _ _ t ht; simp [lexP] at ht
  | succ f ih =>
    intro a line ls ha hl t ht
    by_cases h : a < s.size
    · rw [lexP_step s f a line ls h] at ht
      split at ht
      · exact ih (a + 1) (line + 1) (a + 1) (by omega) (by omega) t ht
      · split at ht
        · exact ih (a + 1) line ls (by omega) (by omega) t ht
        · split at ht
          · exact ih (a + 1) line ls (by omega) (by omega) t ht
          · split at ht
            · exact ih _ line ls (comP_le s a (by omega)) (by omega) t ht
            · have hb := tokP_bd s a h
              simp only [List.mem_cons] at ht
              rcases ht with rfl | ht
              · refine ⟨?_, by simp; omega, by simp; omega⟩
                simp only [ByteArray.size_extract]; omega
              · exact ih _ line ls (by omega) (by omega) t ht
    · unfold lexP at ht
      rw [dif_neg h] at ht
      simp at ht
      subst ht
      exact ⟨Nat.zero_le _, by simp; omega, by simp; omega⟩

theorem tok_sizes {s : ByteArray} (hs : s.size ≤ 400) : ∀ (i : Nat) (t : Tok), (lexAll s)[i]? = some t → t.text.size ≤ 400 ∧ t.line ≤ 1000 ∧ t.col ≤ 1000 := by
  intro i t h
  exact lexP_sizes s hs (s.size + 1) 0 1 0 (by omega) (by omega) t (List.mem_of_getElem? h)

theorem own_strs {w : World} {B : Nat} {T : TypeId} {no : Option Addr} {nn nc : Nat} {ss : List ByteArray} (h : w.ownsRow B T 1 (.slice no nn nc) ss.length (ss.map Value.string)) : 0 < ss.length → ∃ g, no = some ⟨g, 0, none⟩ ∧ ∀ (j : Nat) x, ss[j]? = some x → w.cell? ⟨g, j, none⟩ = some (.string x) := by
  intro hp
  obtain ⟨hl, ⟨_, h0⟩ | ⟨g, cap, cur, hv, hB, hg, h1, h2, h3, h4⟩⟩ := h
  · omega
  · refine ⟨g, (Value.slice.inj hv).1, fun j x hj => ?_⟩
    have h5 : (cur.toList.take (ss.length * 1))[j]? = some (.string x) := by rw [h4, List.getElem?_map, hj]; rfl
    have h6 := take_get rfl h5
    rw [heap_cell hg, ← Array.getElem?_toList, h6]

/-- What the loop over the tokens holds. -/
structure TK (ss : List ByteArray) (w2 wr : World) (k : Nat) (v : Value) : Prop where
  bl : Below w2.heap.size w2 wr
  own : wr.ownsRow w2.heap.size 9 1 v (ss.take k).length ((ss.take k).map Value.string)

theorem TK.shape {ss : List ByteArray} {w2 wr : World} {k : Nat} {v : Value} (h : TK ss w2 wr k v) : ∃ ao m c, v = .slice ao m c := by
  obtain ⟨_, ⟨h, _⟩ | ⟨g, c, _, h, _⟩⟩ := h.own
  · exact ⟨none, 0, 0, h⟩
  · exact ⟨_, _, _, h⟩

set_option maxRecDepth 100000 in
set_option maxHeartbeats 4000000 in
theorem ans_tokens {fv : Value} {text : ByteArray} {there : Bool} (nm : ByteArray) (toks : List Tok) (htoks : lexAll text = toks) (w : World) (h : Fl fv text there w) (hd : DocT text) :
    Calls Tryz.prog 112 #[fv, .int .i64 2, .string ⟨#[97]⟩, .string nm] w fun e w' => e = .returned (.string (joinT (toks.map tokT))) ∧ Below w.heap.size w w' := by
  have H := hid h
  have HD := hid hd
  have HTT := hid htoks
  have HWF := hid (show Wf toks by rw [← htoks]; exact hd.wf)
  have HSZ := hid (fun i t h => tok_sizes hd.sz i t (by rw [htoks]; exact h) : ∀ (i : Nat) (t : Tok), toks[i]? = some t → t.text.size ≤ 400 ∧ t.line ≤ 1000 ∧ t.col ≤ 1000)
  have HLE := hid HWF.out.le
  clear h hd htoks
  go_enter Tryz.func112, Tryz.ntmps112
  go_wp2_with fail
  refine (ftext_any _ H.out).mono ?_
  rintro e w1 ⟨rfl, rfl⟩
  go_wp2_with fail
  refine (lex_any text _ HD.out.sz).mono ?_
  rintro e w2 ⟨v, rfl, hown, hb⟩
  rw [HTT.out] at hown
  obtain ⟨tb, cap, cur, rfl, hg, hc⟩ := own_tok hown HWF.out.pos
  have HG := hid hg
  have HC := hid hc
  have HB := hid hb
  clear hown hg hc hb
  obtain ⟨i0, hi0, hz0, hz1, hz2⟩ := info_parts infoStr
  obtain ⟨ss, hss⟩ : ∃ ss, ss = toks.map tokT := ⟨_, rfl⟩
  have hlen : ss.length = toks.length := by rw [hss]; simp
  have HGET : Hid (∀ k (h : k < toks.length), ss[k]'(by omega) = tokT toks[k]) := hid (fun k h => by subst hss; simp)
  have HSS := hid hss
  have htb := heap_lt HG.out
  clear hss
  go_wp2
  go_loopg [11, 12] toks.length (fun f v i wr => ∃ k : Nat, k + f = toks.length ∧ i = .int .i64 (k : Nat) ∧ TK ss w2 wr k v)
  case atStart => exact ⟨0, by omega, rfl, Below.refl _ _, World.ownsRow_nil _ _ _ _⟩
  case round =>
    obtain ⟨k, hk, rfl, htk⟩ := hrel
    obtain ⟨no, nn, nc, rfl⟩ := htk.shape
    have HT := hid htk
    by_cases hlt : k < toks.length
    · have hi := List.getElem?_eq_getElem hlt
      have HG1 := hid (HGET.out k hlt)
      have HTK := hid (take_succ_get ss k (by omega))
      generalize htt : toks[k] = tk at hi HG1
      obtain ⟨tt, tl, tc⟩ := tk
      obtain ⟨hz4, hz5, hz6⟩ := HSZ.out k _ hi
      simp only at hz4 hz5 hz6
      have z := tokCells_get toks k _ hi
      have h1 := below_heap HT.out.bl (heap_lt HG.out) HG.out
      have z0 : wr.cell? ⟨tb, k * 3, none⟩ = some (.string tt) := by
        rw [heap_cell h1, ← Array.getElem?_toList, Nat.mul_comm]; exact take_get HC.out z.1
      have z1 : wr.cell? ⟨tb, k * 3 + 1, none⟩ = some (.int .i64 tl) := by
        rw [heap_cell h1, ← Array.getElem?_toList, Nat.mul_comm]; exact take_get HC.out z.2.1
      have z2 : wr.cell? ⟨tb, k * 3 + 2, none⟩ = some (.int .i64 tc) := by
        rw [heap_cell h1, ← Array.getElem?_toList, Nat.mul_comm]; exact take_get HC.out z.2.2
      have hlt2 : (k : Int) < (toks.length : Int) := by omega
      have hkc : (0 : Int) ≤ (k : Int) := by omega
      have hs1 : (decT tl).size ≤ 19 := decT_len 19 tl (by omega) (by omega)
      have hs2 : (decT tc).size ≤ 19 := decT_len 19 tc (by omega) (by omega)
      have hs3 : ((decT tl ++ ⟨#[58]⟩) ++ decT tc).size ≤ 39 := by rw [ByteArray.size_append, ByteArray.size_append, sz1]; omega
      obtain ⟨pl, hpl⟩ : ∃ pl, pl = (decT tl ++ ⟨#[58]⟩) ++ decT tc := ⟨_, rfl⟩
      have HPC := hid (fun w' => place_any ⟨tt, tl, tc⟩ hz5 hz6 w')
      rw [← hpl] at hs3
      simp only [← hpl] at HPC
      have HPL := hid hpl
      have hk401 : k < 401 := by have := HLE.out; omega
      have hsA : ¬ (9223372036854775807 < tt.size + 1) := by omega
      have hsB : ¬ (9223372036854775807 < tt.size + 1 + pl.size) := by omega
      have hS : Below w2.heap.size w2 wr ∧ wr.cell? ⟨tb, k * 3, none⟩ = some (.string tt) ∧ wr.cell? ⟨tb, k * 3 + 1, none⟩ = some (.int .i64 tl) ∧ wr.cell? ⟨tb, k * 3 + 2, none⟩ = some (.int .i64 tc) := ⟨HT.out.bl, z0, z1, z2⟩
      have hkl : (ss.take k).length = k := by rw [List.length_take]; omega
      have hown := htk.own
      rw [hkl] at hown
      have HKL := hid hkl
      have hrow : ∀ g, (Value.slice no nn nc).ownBlock = some g → w2.heap.size ≤ g := fun g hg => (hown.lt g hg).1
      clear htt z h1 hi hs1 hs2 hpl htk hkl
      go_wp2
      go_region_held3 (fun wx => Below w2.heap.size w2 wx ∧ wx.cell? ⟨tb, k * 3, none⟩ = some (.string tt) ∧ wx.cell? ⟨tb, k * 3 + 1, none⟩ = some (.int .i64 tl) ∧ wx.cell? ⟨tb, k * 3 + 2, none⟩ = some (.int .i64 tc))
        (first
          | exact keepc3 (B := 0) (by assumption) (below_drew _)
          | exact keepc3 (B := 0) (by assumption) (by assumption)
          | exact keepc3 (B := 0) (by assumption) (Below.refl _ _)
          | exact keepc3 (B := 0) (by assumption) (below_new _ _)
          | exact keepg3 htb hrow (by assumption) (by assumption)
          | exact keepc3 (B := 0) hS (below_drew _))
        (first
          | (go_at_call 143; refine (HPC.out _).mono ?_; rintro e w3 ⟨rfl, hb3⟩)
          | (rw [if_pos (by rfl)]; refine wp_append_own _ _ _ 24 rfl w2.heap.size 9 i0 (.string ⟨#[]⟩) 1 16 Tryz.underlying24 hi0 hz0 hz1 hz2 (by decide) (by decide) _ _ _ rfl ((own_block hown (fun g _ hg => hb3.block g hg)).alloc _) ⟨_, 0, none⟩ 1 1 [.string ((tt ++ ⟨#[64]⟩) ++ pl)] rfl rfl (one_cell _ _ (by simp) _ _) (by intro u hu; simp at hu; subst hu; rfl) (by unfold maxLen; omega) (by omega) (by have := HT.out.bl.size; have := hb3.size; simp at *; omega) ?_; intro v' w5 hown' hgrow _))
      have HN := hid (show TK ss w2 w5 (k + 1) v' from ⟨(by assumption : Below w2.heap.size w2 w5 ∧ _).1, by
        have e : (ss.take (k + 1)).length = k + 1 := by rw [List.length_take]; omega
        rw [e, HTK.out, HG1.out, List.map_append]
        have h2 := hown'
        rw [HPL.out] at h2
        exact h2⟩)
      go_wp2
      go_roundg (toks.length - (k + 1))
      case rel => exact ⟨k + 1, by omega, by go_num, HN.out⟩
      case measure => omega
    · have hke : k = toks.length := by omega
      subst hke
      have hown := HT.out.own
      rw [← hlen, List.take_length] at hown
      have HSZ3 := hid (show ∀ s ∈ ss, s.size ≤ 3000 from fun s hs => by
        rw [HSS.out] at hs
        obtain ⟨t, ht, rfl⟩ := List.mem_map.1 hs
        obtain ⟨k, hk, rfl⟩ := List.getElem_of_mem ht
        obtain ⟨h1, h2, h3⟩ := HSZ.out k _ (List.getElem?_eq_getElem hk)
        have d1 := decT_len 19 toks[k].line (by omega) (by omega)
        have d2 := decT_len 19 toks[k].col (by omega) (by omega)
        simp only [tokT, ByteArray.size_append, sz1]; omega)
      have HOK := hid (own_strs hown)
      have HJ := hid (show Calls Tryz.prog 144 #[.slice no toks.length nc] wr fun e w' => e = .returned (.string (joinT ss)) ∧ w' = wr by
        have := joined_any ss (by have := HLE.out; omega) HSZ3.out no nc wr HOK.out
        rw [hlen] at this
        exact this)
      have hnn : nn = toks.length := by
        obtain ⟨_, ⟨h, h0⟩ | ⟨g, c, _, h, _⟩⟩ := hown
        · have := (Value.slice.inj h).2.1; omega
        · exact (Value.slice.inj h).2.1.trans hlen
      subst hnn
      clear hown htk
      go_wp2_with fail
      refine HJ.out.mono ?_
      rintro e w4 ⟨rfl, rfl⟩
      go_wp2
      go_ret
      exact ⟨ret_str (by rw [HSS.out]), below_seq HB.out HT.out.bl⟩

end Go.Proofs.YtfekglokoafpiaaGreatDoor
