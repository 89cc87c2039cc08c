/-
  The document's exports.
  The document's answer: Exports.
  The exports: the document's list is the program's.
  The document's engine: small functions of keys.
  The document's engine: slots.
-/
import Derived.Test.YtfekglokoafpiaaGreatDoorQ17
import Derived.Deep.QuietTactic
import Derived.BigQuiet
import Derived.Sort.Walk0
import Derived.Laws.OwnMore
import Derived.Deep.LoopGhost

set_option linter.unusedVariables false
set_option linter.unusedSimpArgs false

namespace Go.Proofs.YtfekglokoafpiaaGreatDoor
open Go.RowKit

/-- A text put into rising texts. -/
def ltB (x y : ByteArray) : Bool := Op.bytesLess x.toList y.toList
def insB (out : List ByteArray) (x : ByteArray) : List ByteArray := (out.takeWhile fun y => ltB y x) ++ x :: (out.dropWhile fun y => ltB y x)
def stepB (out : List ByteArray) (i : It) : List ByteArray := if i.kind == 2 && !hasB out i.name then insB out i.name else out
def docE (items : List It) : List ByteArray := items.foldl stepB []

theorem docE_snoc (l : List It) (i : It) : docE (l ++ [i]) = stepB (docE l) i := by simp [docE]

theorem insB_len (out : List ByteArray) (x : ByteArray) : (insB out x).length = out.length + 1 := by
  unfold insB
  have := congrArg List.length (List.takeWhile_append_dropWhile (p := fun y => ltB y x) (l := out))
  rw [List.length_append] at this
  simp only [List.length_append, List.length_cons]
  omega

theorem docE_len (l : List It) : (docE l).length ≤ l.length := by
  have : ∀ (l : List It) (acc : List ByteArray), (l.foldl stepB acc).length ≤ acc.length + l.length := by
    intro l
    induction l with
    | nil => intro acc; simp
    | cons a r ih =>
      intro acc
      have h1 := ih (stepB acc a)
      have h2 : (stepB acc a).length ≤ acc.length + 1 := by
        unfold stepB
        split
        · rw [insB_len]; exact Nat.le_refl _
        · omega
      simp only [List.foldl_cons, List.length_cons]; omega
  simpa [docE] using this l []

def z2w (w : World) (g k : Nat) (nm : ByteArray) : Prop := w.cell? ⟨g, k * 7 + 2, none⟩ = some (.string nm)
theorem cell_kept_B {w w' : World} {g k : Nat} {nm : ByteArray} (hb : Below w.heap.size w w') (h : z2w w g k nm) : w'.cell? ⟨g, k * 7 + 2, none⟩ = some (.string nm) := cell_kept hb h

/-- Within the loops that put a name into its place: the old list O, the new one xs. -/
structure IX (O : List ByteArray) (no : Option Addr) (nc : Nat) (w3 wq : World) (nx : Value) (xs : List ByteArray) : Prop where
  bl : Below w3.heap.size w3 wq
  own : wq.ownsRow w3.heap.size 9 1 (.slice no O.length nc) O.length (O.map Value.string)
  nown : wq.ownsRow w3.heap.size 9 1 nx xs.length (xs.map Value.string)
  ne : ∀ b, nx.ownBlock = some b → (Value.slice no O.length nc).ownBlock ≠ some b

theorem IX.shape {O : List ByteArray} {no : Option Addr} {nc : Nat} {w3 wq : World} {nx : Value} {xs : List ByteArray} (h : IX O no nc w3 wq nx xs) : ∃ ao c, nx = .slice ao xs.length c := by
  obtain ⟨_, ⟨h, h0⟩ | ⟨g, c, _, h, _⟩⟩ := h.nown
  · exact ⟨none, 0, by rw [h, h0]⟩
  · exact ⟨_, _, h⟩

theorem own_drewN {w : World} {B n : Nat} {T : TypeId} {v : Value} {xs : List Value} (h : w.ownsRow B T 1 v n xs) (q : Nat) : (w.drewN q).ownsRow B T 1 v n xs := h
theorem IX.shapeN {O : List ByteArray} {no : Option Addr} {nc : Nat} {w3 wq : World} {nx : Value} {xs : List ByteArray} (h : IX O no nc w3 wq nx xs) {n : Nat} (hn : xs.length = n) : ∃ ao c, nx = .slice ao n c := by
  subst hn; exact h.shape
theorem IX.drewN {O : List ByteArray} {no : Option Addr} {nc : Nat} {w3 wq : World} {nx : Value} {xs : List ByteArray} (h : IX O no nc w3 wq nx xs) (q : Nat) : IX O no nc w3 (wq.drewN q) nx xs :=
  ⟨⟨h.bl.os, h.bl.tape, h.bl.output, h.bl.size, h.bl.block⟩, h.own, h.nown, h.ne⟩
theorem IX.alloc {O : List ByteArray} {no : Option Addr} {nc : Nat} {w3 wq : World} {nx : Value} {xs : List ByteArray} (h : IX O no nc w3 wq nx xs) (o : Obj) : IX O no nc w3 (wq.alloc o) nx xs :=
  ⟨h.bl.alloc h.bl.size _, h.own.alloc _, h.nown.alloc _, h.ne⟩
theorem take_while_of {O : List ByteArray} {x : ByteArray} : ∀ (j : Nat), j ≤ O.length → (∀ i, (hi : i < O.length) → i < j → ltB O[i] x = true) → ((h : j < O.length) → ltB O[j] x = false) → insB O x = (O.take j ++ [x]) ++ O.drop j := by
  induction O with
  | nil => intro j hj _ _; simp at hj; subst hj; simp [insB]
  | cons a r ih =>
    intro j hj h1 h2
    cases j with
    | zero =>
      have := h2 (by simp)
      simp only [List.getElem_cons_zero] at this
      simp [insB, List.takeWhile, List.dropWhile, this]
    | succ j =>
      have h0 := h1 0 (by simp) (by omega)
      simp only [List.getElem_cons_zero] at h0
      have := ih j (by simpa using hj) (fun i hi hij => by have := h1 (i + 1) (by simpa using hi) (by omega); simpa using this) (fun h => by have := h2 (by simpa using h); simpa using this)
      simp only [insB] at this ⊢
      simp [List.takeWhile, List.dropWhile, h0] at this ⊢
      exact this

theorem IX.put {O : List ByteArray} {no : Option Addr} {nc : Nat} {w3 wq w' : World} {nx v' : Value} {xs : List ByteArray} {x : ByteArray} (h : IX O no nc w3 wq nx xs)
    (hown : w'.ownsRow w3.heap.size 9 1 v' (xs.length + 1) (xs.map Value.string ++ [.string x])) (hg : wq.grownBy w' nx.ownBlock) (hv : v'.ownBlock = nx.ownBlock ∨ v'.ownBlock = some wq.heap.size) : IX O no nc w3 w' v' (xs ++ [x]) := by
  refine ⟨h.bl.grown hg h.bl.size (fun k hk => (h.nown.lt k hk).1), ?_, by simpa using hown, ?_⟩
  · cases hno : (Value.slice no O.length nc).ownBlock with
    | none => exact h.own.kept hg (.inl hno)
    | some b => exact h.own.kept hg (.inr (fun e => h.ne b (by rw [← e, hno]) hno))
  · intro b hb hob
    rcases hv with e | e
    · exact h.ne b (by rw [← e]; exact hb) hob
    · have := (h.own.lt b hob).2
      rw [e] at hb
      have := Option.some.inj hb
      omega

/-- Between two rounds of the loop over the items. -/
structure DX (items : List It) (w3 wr : World) (k : Nat) (v : Value) : Prop where
  bl : Below w3.heap.size w3 wr
  own : wr.ownsRow w3.heap.size 9 1 v (docE (items.take k)).length ((docE (items.take k)).map Value.string)

theorem DX.shape {items : List It} {w3 wr : World} {k : Nat} {v : Value} (h : DX items w3 wr k v) : ∃ ao c, v = .slice ao (docE (items.take k)).length c := by
  obtain ⟨_, ⟨h, h0⟩ | ⟨g, c, _, h, _⟩⟩ := h.own
  · exact ⟨none, 0, by rw [h, h0]⟩
  · exact ⟨_, _, h⟩

theorem has_own {w : World} {B : Nat} {T : TypeId} {ao : Option Addr} {n c : Nat} {ss : List ByteArray} (h : w.ownsRow B T 1 (.slice ao n c) ss.length (ss.map Value.string)) (hn : n = ss.length) (hl : ss.length ≤ 401) (s : ByteArray) :
    Calls Tryz.prog 80 #[.slice ao n c, .string s] w fun e w' => e = .returned (.bool (hasB ss s)) ∧ w' = w := by
  subst hn
  rcases Nat.eq_zero_or_pos ss.length with h0 | hp
  · have he : ss = [] := List.eq_nil_of_length_eq_zero h0
    subst he
    obtain ⟨_, ⟨hv, _⟩ | ⟨g, cap, cur, hv, _⟩⟩ := h
    · have e1 := (Value.slice.inj hv).1
      have e3 := (Value.slice.inj hv).2.2
      subst e1; subst e3
      exact has_nil s w
    · have e1 := (Value.slice.inj hv).1
      subst e1
      exact has_any [] s g 0 c w (by simp) (fun i hi => by simp at hi)
  · obtain ⟨g, rfl, hc⟩ := own_strs h hp
    exact has_any ss s g 0 c w (by omega) (fun i hi => by
      have := hc i _ (List.getElem?_eq_getElem hi)
      rw [Nat.zero_add, List.getD_eq_getElem?_getD, List.getElem?_eq_getElem hi]
      exact this)

theorem DX.skip {items : List It} {w3 wr : World} {k : Nat} {v : Value} (h : DX items w3 wr k v) (he : docE (items.take (k + 1)) = docE (items.take k)) : DX items w3 wr (k + 1) v := ⟨h.bl, by rw [he]; exact h.own⟩

set_option maxRecDepth 100000 in
set_option maxHeartbeats 2000000 in
theorem rexports_any {fv : Value} {text : ByteArray} {there : Bool} (items : List It) (fl : Option Nat) (htree : treeAll (lexAll text) = (items, fl)) (w : World) (h : Fl fv text there w) (hd : DocT text) (hn : items.length ≤ 401) (hnum : ∀ i ∈ items, i.num ≤ 1000) :
    Calls Tryz.prog 147 #[fv, .string ⟨#[97]⟩] w fun e w' => ∃ v, e = .returned v ∧ w'.ownsRow w.heap.size 9 1 v (docE items).length ((docE items).map Value.string) ∧ Below w.heap.size w w' := by
  have H := hid h
  have HD := hid hd
  have HTR := hid htree
  have HNUM := hid hnum
  clear h hd htree hnum
  go_enter Tryz.func147, Tryz.ntmps147
  go_wp2_with fail
  refine (items_any _ H.out HD.out).mono ?_
  rintro e w3 ⟨v, xs, rfl, hown, hits, hb⟩
  rw [HTR.out] at hown hits
  simp only at hown hits
  obtain ⟨ss, hss⟩ := lines_of hits HNUM.out
  have HSS := hid hss
  have HB3 := hid hb
  have HOWN := hid hown
  have hsh : ∃ ao m c, v = .slice ao m c ∧ m = items.length := by
    obtain ⟨_, ⟨h, h0⟩ | ⟨g, c, _, h, _⟩⟩ := hown
    · exact ⟨none, 0, 0, h, h0.symm⟩
    · exact ⟨_, _, _, h, rfl⟩
  obtain ⟨ao, m, c, rfl, rfl⟩ := hsh
  clear hown hits hb hss
  obtain ⟨i0, hi0, hz0, hz1, hz2⟩ := info_parts infoStr
  go_wp2
  go_loopg [6, 7] items.length (fun f v i wr => ∃ k : Nat, k + f = items.length ∧ i = .int .i64 (k : Nat) ∧ DX items w3 wr k v)
  case atStart => exact ⟨0, by omega, rfl, Below.refl _ _, World.ownsRow_nil _ _ _ _⟩
  case round =>
    obtain ⟨k, hk, rfl, hdx⟩ := hrel
    obtain ⟨no, nc, rfl⟩ := hdx.shape
    have HX := hid hdx
    clear hdx
    by_cases hlt : k < items.length
    · have hi := List.getElem?_eq_getElem hlt
      obtain ⟨at_, word, nmm, ty, op, t, ao2, m2, c2, s, hs, hdoc, hsh, hq1, hq2, hsz⟩ := HSS.out.get k _ hi
      obtain ⟨g, rfl, hcg⟩ := own_cells7 HOWN.out (by omega)
      have hcell : ∀ j u, (DocV at_ word nmm ty op t ao2 m2 c2)[j]? = some u → wr.cell? ⟨g, k * 7 + j, none⟩ = some u := fun j u hj => cell_kept HX.out.bl (hcg _ _ (hdoc j u hj))
      have z1 := hcell 1 _ rfl
      have z2 := hcell 2 _ rfl
      have hz2w : z2w w3 g k nmm := hcg _ _ (hdoc 2 _ rfl)
      have HQ1 := hid hq1
      have HQ2 := hid hq2
      have HST := hid (show docE (items.take (k + 1)) = stepB (docE (items.take k)) items[k] by rw [take_succ_get items k hlt, docE_snoc])
      have hlt2 : (k : Int) < (items.length : Int) := by omega
      have hkc : (0 : Int) ≤ (k : Int) := by omega
      have HDL := hid (docE_len (items.take k))
      clear hcell hdoc hsh hq1 hq2 hi hs hcg hsz
      go_wp2_with fail
      refine (has_own HX.out.own rfl (by have := HDL.out; rw [List.length_take] at this; omega) nmm).mono ?_
      rintro e w4 ⟨rfl, rfl⟩
      cases hb : hasB (docE (items.take k)) nmm with
      | true =>
        have HE := hid (show docE (items.take (k + 1)) = docE (items.take k) by rw [HST.out, stepB, ← HQ1.out, hb]; simp)
        cases hw : (word.toList == [112, 117, 98])
        all_goals
          go_wp2
          go_roundg (items.length - (k + 1))
          case rel => exact ⟨k + 1, by omega, by go_num, HX.out.skip HE.out⟩
          case measure => omega
      | false =>
        cases hw : (word.toList == [112, 117, 98]) with
        | false =>
          have HE := hid (show docE (items.take (k + 1)) = docE (items.take k) by rw [HST.out, stepB, HQ2.out, hw]; simp)
          go_wp2
          go_roundg (items.length - (k + 1))
          case rel => exact ⟨k + 1, by omega, by go_num, HX.out.skip HE.out⟩
          case measure => omega
        | true =>
          have HE := hid (show docE (items.take (k + 1)) = insB (docE (items.take k)) nmm by rw [HST.out, stepB, HQ2.out, hw, ← HQ1.out, hb]; rfl)
          have HXO := hid HX.out.own
          have HXB := hid HX.out.bl
          have HK := hid (show z2w w3 g k nmm from hz2w)
          generalize docE (items.take k) = O at HXO HE HDL hb ⊢
          go_wp2
          clear z1 z2 hb hw
          go_loopg [9, 10] O.length (fun f nx kv wq => ∃ j, j + f = O.length ∧ kv = .int .i64 (j : Nat) ∧ IX O no nc w3 wq nx (O.take j) ∧ ∀ i, (hi : i < O.length) → i < j → ltB O[i] nmm = true)
          case atStart => exact ⟨0, by omega, rfl, ⟨HXB.out, HXO.out, World.ownsRow_nil _ _ _ _, by simp [Value.ownBlock]⟩, fun i hi h => by omega⟩
          case round =>
            obtain ⟨j, hj, rfl, hix, hall⟩ := hrel
            have hjl : (O.take j).length = j := by rw [List.length_take]; omega
            obtain ⟨ax, cx, rfl⟩ := hix.shapeN hjl
            have HIX := hid hix
            have HALL := hid hall
            clear hix hall
            have hol : O.length ≤ 401 := by have := HDL.out; rw [List.length_take] at this; omega
            have hno := HIX.out.nown
            rw [hjl] at hno
            have z2 := cell_kept_B HIX.out.bl HK.out
            have hgl : (k : Int) < (items.length : Int) := by omega
            by_cases hlj : j < O.length
            · obtain ⟨go, hgo, hco⟩ := own_strs HIX.out.own (by omega)
              have y0 := hco j _ (List.getElem?_eq_getElem hlj)
              have hjl2 : (j : Int) < (O.length : Int) := by omega
              have hjc : (0 : Int) ≤ (j : Int) := by omega
              have HTJ := hid (take_succ_get O j hlj)
              subst hgo
              clear hco
              cases hbl : Op.bytesLess O[j].toList nmm.toList with
              | true =>
                have HBL := hid hbl
                go_wp2_with fail
                go_quiet (fail)
                go_wp2_with (at_builtin; go_must (refine wpList_append_own_at _ rfl _ _ 24 rfl w3.heap.size 9 i0 (.string ⟨#[]⟩) 1 16 Tryz.underlying24 hi0 hz0 hz1 hz2 rfl (by decide) _ _ _ rfl ((own_drewN hno _).alloc _) ⟨_, 0, none⟩ 1 1 [.string O[j]] rfl rfl (one_cell _ _ (by simp) _ _) ?c2 ?c3 ?c4 ?c5 ?_))
                case c2 => first | rfl | (intro u hu; simp at hu; subst hu; rfl)
                case c3 => unfold maxLen; omega
                case c4 => omega
                case c5 => have := HIX.out.bl.size; first | omega | (simp at *; omega)
                intro v' w5 hown' hgrow _ hob
                have hix5 := ((HIX.out.drewN _).alloc _).put (x := O[j]) (by rw [hjl]; first | exact hown' | (rw [List.map_take]; exact hown')) hgrow (by simpa using hob)
                rw [← HTJ.out] at hix5
                obtain ⟨ax5, cx5, rfl⟩ := hix5.shapeN (n := j + 1) (by rw [List.length_take]; omega)
                have HIX5 := hid hix5
                clear hix5 hown' hgrow hob hno
                go_wp2
                go_roundg (O.length - (j + 1))
                case rel => exact ⟨j + 1, by omega, by go_num, HIX5.out, fun i hi hij => by
                  rcases Nat.lt_or_ge i j with h | h
                  · exact HALL.out i hi h
                  · have : i = j := by omega
                    subst this; exact HBL.out⟩
                case measure => omega
              | false =>
                have HBL := hid hbl
                go_wp2_with fail
                go_quiet (fail)
                go_wp2_with (at_builtin; go_must (refine wpList_append_own_at _ rfl _ _ 24 rfl w3.heap.size 9 i0 (.string ⟨#[]⟩) 1 16 Tryz.underlying24 hi0 hz0 hz1 hz2 rfl (by decide) _ _ _ rfl ((own_drewN hno _).alloc _) ⟨_, 0, none⟩ 1 1 [.string nmm] rfl rfl (one_cell _ _ (by simp) _ _) ?c2 ?c3 ?c4 ?c5 ?_))
                case c2 => first | rfl | (intro u hu; simp at hu; subst hu; rfl)
                case c3 => unfold maxLen; omega
                case c4 => omega
                case c5 => have := HIX.out.bl.size; first | omega | (simp at *; omega)
                intro v' w5 hown' hgrow _ hob
                have hix5 := ((HIX.out.drewN _).alloc _).put (x := nmm) (by rw [hjl]; first | exact hown' | (rw [List.map_take]; exact hown')) hgrow (by simpa using hob)
                obtain ⟨ax5, cx5, rfl⟩ := hix5.shapeN (n := j + 1) (by simp [hjl])
                have HIX5 := hid hix5
                clear hix5 hown' hgrow hob hno
                go_wp2
                go_loopg [9, 10] (O.length - j) (fun f nx kv wq => ∃ q, q + f = O.length ∧ j ≤ q ∧ kv = .int .i64 (q : Nat) ∧ IX O (some ⟨go, 0, none⟩) nc w3 wq nx ((O.take j ++ [nmm]) ++ (O.drop j).take (q - j)))
                case atStart => exact ⟨j, by omega, Nat.le_refl _, rfl, by simpa using HIX5.out⟩
                case round =>
                  obtain ⟨q, hq, hjq, rfl, hix7⟩ := hrel
                  have hxl : ((O.take j ++ [nmm]) ++ (O.drop j).take (q - j)).length = q + 1 := by
                    simp only [List.length_append, List.length_take, List.length_drop, List.length_cons, List.length_nil]; omega
                  obtain ⟨ax7, cx7, rfl⟩ := hix7.shapeN hxl
                  have HIX7 := hid hix7
                  have hno7 := hix7.nown
                  rw [hxl] at hno7
                  clear hix7
                  by_cases hlq : q < O.length
                  · obtain ⟨go2, hgo2, hco2⟩ := own_strs HIX7.out.own (by omega)
                    have y7 := hco2 q _ (List.getElem?_eq_getElem hlq)
                    cases hgo2
                    have hql2 : (q : Int) < (O.length : Int) := by omega
                    have hqc : (0 : Int) ≤ (q : Int) := by omega
                    have HTQ := hid (show (O.take j ++ [nmm]) ++ (O.drop j).take (q + 1 - j) = ((O.take j ++ [nmm]) ++ (O.drop j).take (q - j)) ++ [O[q]] by
                      rw [show q + 1 - j = (q - j) + 1 from by omega, List.take_add_one, List.getElem?_drop, show j + (q - j) = q from by omega, List.getElem?_eq_getElem hlq]; simp)
                    clear hco2
                    go_wp2_with (at_builtin; go_must (refine wpList_append_own_at _ rfl _ _ 24 rfl w3.heap.size 9 i0 (.string ⟨#[]⟩) 1 16 Tryz.underlying24 hi0 hz0 hz1 hz2 rfl (by decide) _ _ _ rfl (hno7.alloc _) ⟨_, 0, none⟩ 1 1 [.string O[q]] rfl rfl (one_cell _ _ (by simp) _ _) ?c2 ?c3 ?c4 ?c5 ?_))
                    case c2 => first | rfl | (intro u hu; simp at hu; subst hu; rfl)
                    case c3 => unfold maxLen; omega
                    case c4 => omega
                    case c5 => have := HIX7.out.bl.size; first | omega | (simp at *; omega)
                    intro v' w8 hown' hgrow _ hob
                    have hix8 := (HIX7.out.alloc _).put (x := O[q]) (by rw [hxl]; first | exact hown' | simpa using hown') hgrow (by simpa using hob)
                    rw [← HTQ.out] at hix8
                    obtain ⟨ax8, cx8, rfl⟩ := hix8.shapeN (n := q + 1 + 1) (by simp only [List.length_append, List.length_take, List.length_drop, List.length_cons, List.length_nil]; omega)
                    have HIX8 := hid hix8
                    clear hix8 hown' hgrow hob hno7
                    go_wp2
                    go_roundg (O.length - (q + 1))
                    case rel => exact ⟨q + 1, by omega, by omega, by go_num, HIX8.out⟩
                    case measure => omega
                  · have hqe : q = O.length := by omega
                    subst hqe
                    have HDXN := hid (show DX items w3 wr (k + 1) (.slice ax7 (O.length + 1) cx7) from ⟨HIX7.out.bl, by
                      have e := take_while_of (x := nmm) j (by omega) HALL.out (fun h => HBL.out)
                      have e2 : (O.drop j).take (O.length - j) = O.drop j := by rw [List.take_of_length_le]; rw [List.length_drop]; exact Nat.le_refl _
                      have := HIX7.out.nown
                      rw [e2, ← e, ← HE.out] at this
                      exact this⟩)
                    clear hno7 hxl
                    go_wp2
                    go_roundg (items.length - (k + 1))
                    case rel => exact ⟨k + 1, by omega, by go_num, HDXN.out⟩
                    case measure => omega
            · have HJE := hid (show j = O.length by omega)
              have hjn : ¬ ((j : Int) < (O.length : Int)) := by omega
              go_wp2_with fail
              go_quiet (fail)
              go_wp2_with (at_builtin; go_must (refine wpList_append_own_at _ rfl _ _ 24 rfl w3.heap.size 9 i0 (.string ⟨#[]⟩) 1 16 Tryz.underlying24 hi0 hz0 hz1 hz2 rfl (by decide) _ _ _ rfl ((own_drewN hno _).alloc _) ⟨_, 0, none⟩ 1 1 [.string nmm] rfl rfl (one_cell _ _ (by simp) _ _) ?c2 ?c3 ?c4 ?c5 ?_))
              case c2 => first | rfl | (intro u hu; simp at hu; subst hu; rfl)
              case c3 => unfold maxLen; omega
              case c4 => omega
              case c5 => have := HIX.out.bl.size; first | omega | (simp at *; omega)
              intro v' w5 hown' hgrow _ hob
              have hix5 := ((HIX.out.drewN _).alloc _).put (x := nmm) (by rw [hjl]; first | exact hown' | (rw [List.map_take]; exact hown')) hgrow (by simpa using hob)
              obtain ⟨ax5, cx5, rfl⟩ := hix5.shapeN (n := j + 1) (by simp [hjl])
              have HIX5 := hid hix5
              clear hix5 hown' hgrow hob hno
              go_wp2
              go_loopg [9, 10] (O.length - j) (fun f nx kv wq => ∃ q, q + f = O.length ∧ j ≤ q ∧ kv = .int .i64 (q : Nat) ∧ IX O no nc w3 wq nx ((O.take j ++ [nmm]) ++ (O.drop j).take (q - j)))
              case atStart => exact ⟨j, by omega, Nat.le_refl _, rfl, by simpa using HIX5.out⟩
              case round =>
                obtain ⟨q, hq, hjq, rfl, hix7⟩ := hrel
                have hxl : ((O.take j ++ [nmm]) ++ (O.drop j).take (q - j)).length = q + 1 := by
                  simp only [List.length_append, List.length_take, List.length_drop, List.length_cons, List.length_nil]; omega
                obtain ⟨ax7, cx7, rfl⟩ := hix7.shapeN hxl
                have HIX7 := hid hix7
                have hno7 := hix7.nown
                rw [hxl] at hno7
                clear hix7
                by_cases hlq : q < O.length
                · exact absurd hlq (by have := HJE.out; omega)
                · have hqe : q = O.length := by omega
                  subst hqe
                  have HDXN := hid (show DX items w3 wr (k + 1) (.slice ax7 (O.length + 1) cx7) from ⟨HIX7.out.bl, by
                    have e := take_while_of (x := nmm) j (by omega) HALL.out (fun h => absurd HJE.out (by omega))
                    have e2 : (O.drop j).take (O.length - j) = O.drop j := by rw [List.take_of_length_le]; rw [List.length_drop]; exact Nat.le_refl _
                    have := HIX7.out.nown
                    rw [e2, ← e, ← HE.out] at this
                    exact this⟩)
                  clear hno7 hxl
                  go_wp2
                  go_roundg (items.length - (k + 1))
                  case rel => exact ⟨k + 1, by omega, by go_num, HDXN.out⟩
                  case measure => omega
    · have hke : k = items.length := by omega
      subst hke
      have hown := HX.out.own
      rw [List.take_length] at hown
      have HO := hid hown
      clear hown
      go_wp2
      go_ret
      refine ⟨.slice no (docE (items.take items.length)).length nc, rfl, ?_, below_seq HB3.out HX.out.bl⟩
      rw [List.take_length]
      obtain ⟨hl, h2 | ⟨g, c, cur, hv, hb, hr⟩⟩ := HO.out
      · exact ⟨hl, .inl h2⟩
      · exact ⟨hl, .inr ⟨g, c, cur, hv, by have := HB3.out.size; omega, hr⟩⟩

end Go.Proofs.YtfekglokoafpiaaGreatDoor

namespace Go.Proofs.YtfekglokoafpiaaGreatDoor
open Go.RowKit

theorem docE_name (items : List It) (M : Nat) (h : ∀ i ∈ items, i.name.size ≤ M) : ∀ s ∈ docE items, s.size ≤ M := by
  have key : ∀ (l : List It) (acc : List ByteArray), (∀ i ∈ l, i.name.size ≤ M) → (∀ s ∈ acc, s.size ≤ M) → ∀ s ∈ l.foldl stepB acc, s.size ≤ M := by
    intro l
    induction l with
    | nil => intro acc _ h2; exact h2
    | cons a r ih =>
      intro acc h1 h2
      refine ih (stepB acc a) (fun i hi => h1 i (by simp [hi])) ?_
      intro s hs
      unfold stepB at hs
      split at hs
      · unfold insB at hs
        simp only [List.mem_append, List.mem_cons] at hs
        rcases hs with hs | rfl | hs
        · exact h2 s ((List.takeWhile_sublist _).subset hs)
        · exact h1 a (by simp)
        · exact h2 s ((List.dropWhile_sublist _).subset hs)
      · exact h2 s hs
  exact key items [] h (fun s hs => by simp at hs)

set_option maxRecDepth 100000 in
set_option maxHeartbeats 1000000 in
theorem ans_exports {fv : Value} {text : ByteArray} {there : Bool} (nm : ByteArray) (items : List It) (fl : Option Nat) (htree : treeAll (lexAll text) = (items, fl)) (w : World) (h : Fl fv text there w) (hd : DocT text) (hn : items.length ≤ 401) (hnum : ∀ i ∈ items, i.num ≤ 1000) (hnames : ∀ i ∈ items, i.name.size ≤ 8) :
    Calls Tryz.prog 112 #[fv, .int .i64 4, .string ⟨#[97]⟩, .string nm] w fun e w' => e = .returned (.string (joinT (docE items))) ∧ Below w.heap.size w w' := by
  have HE := hid (fun w h => rexports_any items fl htree w h hd hn hnum : ∀ w, Fl fv text there w → _)
  have H := hid h
  have HNM := hid (docE_name items 8 hnames)
  have HLE := hid (show (docE items).length ≤ 401 from Nat.le_trans (docE_len items) hn)
  clear h hd htree hnum hnames
  go_enter Tryz.func112, Tryz.ntmps112
  go_wp2_with fail
  refine (HE.out _ H.out).mono ?_
  rintro e w2 ⟨v, rfl, hown, hb⟩
  have hsh : ∃ ao c, v = .slice ao (docE items).length c := by
    obtain ⟨_, ⟨h, h0⟩ | ⟨g, c, _, h, _⟩⟩ := hown
    · exact ⟨none, 0, by rw [h, h0]⟩
    · exact ⟨_, _, h⟩
  obtain ⟨ao, c, rfl⟩ := hsh
  have HO := hid (own_strs hown)
  have HB := hid hb
  clear hown hb
  go_wp2_with fail
  refine (joined_any (docE items) HLE.out (fun s hs => Nat.le_trans (HNM.out s hs) (by omega)) ao c _ HO.out).mono ?_
  rintro e w3 ⟨rfl, rfl⟩
  go_wp2
  go_ret
  exact ⟨rfl, HB.out⟩

end Go.Proofs.YtfekglokoafpiaaGreatDoor

namespace Go.Proofs.YtfekglokoafpiaaGreatDoor
open Go.RowKit

abbrev BL := List UInt8

theorem bl_irrefl (a : BL) : ¬ a < a := List.lt_irrefl a
theorem bl_trans {a b c : BL} (h : a < b) (k : b < c) : a < c := List.lt_trans h k
theorem bl_le {a b : BL} (h : ¬ b < a) : a ≤ b := List.not_lt.1 h
theorem bl_lt {a b : BL} (h : a ≤ b) (hn : a ≠ b) : a < b := by
  rcases Classical.em (a < b) with h1 | h1
  · exact h1
  · exact absurd (List.le_antisymm h (List.not_lt.1 h1)) hn

/-- Rising lists of the same elements are one list. -/
theorem rising_eq : ∀ {l r : List BL}, l.Pairwise (· < ·) → r.Pairwise (· < ·) → (∀ x, x ∈ l ↔ x ∈ r) → l = r
  | [], [], _, _, _ => rfl
  | [], b :: r, _, _, h => by have := (h b).2 (by simp); simp at this
  | a :: l, [], _, _, h => by have := (h a).1 (by simp); simp at this
  | a :: l, b :: r, hl, hr, h => by
    rw [List.pairwise_cons] at hl hr
    have hab : a = b := by
      have h1 := (h a).1 (by simp)
      have h2 := (h b).2 (by simp)
      simp only [List.mem_cons] at h1 h2
      rcases h1 with h1 | h1
      · exact h1
      · rcases h2 with h2 | h2
        · exact h2.symm
        · exact absurd (bl_trans (hr.1 a h1) (hl.1 b h2)) (bl_irrefl b)
    subst hab
    congr 1
    refine rising_eq hl.2 hr.2 fun x => ?_
    have := h x
    simp only [List.mem_cons] at this
    constructor
    · intro hx
      rcases this.1 (.inr hx) with e | e
      · subst e; exact absurd (hl.1 _ hx) (bl_irrefl _)
      · exact e
    · intro hx
      rcases this.2 (.inr hx) with e | e
      · subst e; exact absurd (hr.1 _ hx) (bl_irrefl _)
      · exact e

/-- compact of a list that doesn't fall: rising, the same elements. -/
theorem compact_rising (zs : List BL) (h : zs.Pairwise (· ≤ ·)) : (Lib.compact zs).Pairwise (· < ·) ∧ ∀ x, x ∈ Lib.compact zs ↔ x ∈ zs := by
  have key : ∀ m, m ≤ zs.length → (Lib.compactUpTo zs.toArray m).Pairwise (· < ·) ∧ (∀ x, x ∈ Lib.compactUpTo zs.toArray m ↔ ∃ j, ∃ hj : j < zs.length, j < m ∧ zs[j] = x) := by
    intro m
    induction m with
    | zero => intro _; exact ⟨by simp [Lib.compactUpTo], fun x => by simp [Lib.compactUpTo]⟩
    | succ m ih =>
      intro hm
      obtain ⟨h1, h2⟩ := ih (by omega)
      have hmz : m < zs.length := by omega
      have hg : zs.toArray[m]! = zs[m] := by rw [getElem!_pos _ m (by simpa using hmz)]; simp
      rw [Lib.compactUpTo_succ]
      cases hk : Lib.keeps zs.toArray m with
      | true =>
        simp only [if_true]
        constructor
        · rw [List.pairwise_append]
          refine ⟨h1, by simp, fun a ha b hb => ?_⟩
          simp only [List.mem_singleton] at hb
          obtain ⟨j, hj, hjm, rfl⟩ := (h2 a).1 ha
          rw [hb, hg]
          have hm0 : m ≠ 0 := by omega
          simp only [Lib.keeps, decide_eq_true_eq, hm0, false_or] at hk
          have hg1 : zs.toArray[m - 1]! = zs[m - 1]'(by omega) := by rw [getElem!_pos _ (m - 1) (by simp; omega)]; simp
          rw [hg, hg1] at hk
          have hle : zs[m - 1]'(by omega) ≤ zs[m] := List.pairwise_iff_getElem.1 h (m - 1) m (by omega) hmz (by omega)
          have hlt := bl_lt hle (Ne.symm hk)
          rcases Nat.lt_or_ge j (m - 1) with hj1 | hj1
          · have hle2 : zs[j] ≤ zs[m - 1]'(by omega) := List.pairwise_iff_getElem.1 h j (m - 1) hj (by omega) hj1
            rcases Classical.em (zs[j] = zs[m - 1]'(by omega)) with e | e
            · rw [e]; exact hlt
            · exact bl_trans (bl_lt hle2 e) hlt
          · have : j = m - 1 := by omega
            subst this; exact hlt
        · intro x
          simp only [List.mem_append, List.mem_singleton, h2 x]
          constructor
          · rintro (⟨j, hj, hjm, rfl⟩ | rfl)
            · exact ⟨j, hj, by omega, rfl⟩
            · exact ⟨m, hmz, by omega, hg.symm⟩
          · rintro ⟨j, hj, hjm, rfl⟩
            rcases Nat.lt_or_ge j m with h3 | h3
            · exact .inl ⟨j, hj, h3, rfl⟩
            · have : j = m := by omega
              subst this; exact .inr hg.symm
      | false =>
        simp only [Bool.false_eq_true, if_false, List.append_nil]
        refine ⟨h1, fun x => ?_⟩
        rw [h2 x]
        have hm0 : m ≠ 0 := by
          rintro rfl
          simp [Lib.keeps] at hk
        simp only [Lib.keeps, decide_eq_false_iff_not, hm0, false_or, Decidable.not_not, ne_eq] at hk
        have hg1 : zs.toArray[m - 1]! = zs[m - 1]'(by omega) := by rw [getElem!_pos _ (m - 1) (by simp; omega)]; simp
        rw [hg, hg1] at hk
        constructor
        · rintro ⟨j, hj, hjm, rfl⟩; exact ⟨j, hj, by omega, rfl⟩
        · rintro ⟨j, hj, hjm, rfl⟩
          rcases Nat.lt_or_ge j m with h3 | h3
          · exact ⟨j, hj, h3, rfl⟩
          · have : j = m := by omega
            subst this; exact ⟨j - 1, by omega, by omega, hk.symm⟩
  obtain ⟨h1, h2⟩ := key zs.length (Nat.le_refl _)
  refine ⟨h1, fun x => ?_⟩
  rw [show Lib.compact zs = Lib.compactUpTo zs.toArray zs.length from rfl, h2 x]
  constructor
  · rintro ⟨j, hj, _, rfl⟩; exact List.getElem_mem hj
  · intro hx
    obtain ⟨j, hj, rfl⟩ := List.getElem_of_mem hx
    exact ⟨j, hj, hj, rfl⟩

theorem sorted_le (l : List BL) : (l.mergeSort fun x y => decide (x ≤ y)).Pairwise (· ≤ ·) := by
  have := List.pairwise_mergeSort (le := fun x y : BL => decide (x ≤ y)) (fun a b c h1 h2 => by
    simp only [decide_eq_true_eq] at h1 h2 ⊢; exact List.le_trans h1 h2) (fun a b => by
    simp only [Bool.or_eq_true, decide_eq_true_eq]; exact List.le_total a b) l
  simpa using this

theorem expL_rising (items : List It) : (expL items).Pairwise (· < ·) ∧ ∀ x, x ∈ expL items ↔ x ∈ pubs items := by
  obtain ⟨h1, h2⟩ := compact_rising _ (sorted_le (pubs items))
  refine ⟨h1, fun x => ?_⟩
  rw [show expL items = Lib.compact ((pubs items).mergeSort fun x y => decide (x ≤ y)) from rfl, h2 x, List.mem_mergeSort]

def toL (b : ByteArray) : BL := b.data.toList

theorem ltB_iff (x y : ByteArray) : ltB x y = true ↔ toL x < toL y := by
  unfold ltB toL
  rw [Go.Proofs.bytesLess_eq, decide_eq_true_eq, ByteArray.toList_eq, ByteArray.toList_eq]

theorem hasB_iff (l : List ByteArray) (x : ByteArray) : hasB l x = true ↔ toL x ∈ l.map toL := by
  unfold hasB
  rw [List.any_eq_true, List.mem_map]
  constructor
  · rintro ⟨y, hy, he⟩
    rw [beq_iff_eq, ByteArray.toList_eq, ByteArray.toList_eq] at he
    exact ⟨y, hy, he⟩
  · rintro ⟨y, hy, he⟩
    exact ⟨y, hy, by rw [beq_iff_eq, ByteArray.toList_eq, ByteArray.toList_eq]; exact he⟩

theorem insB_mem (O : List ByteArray) (x : ByteArray) (b : BL) : b ∈ (insB O x).map toL ↔ b = toL x ∨ b ∈ O.map toL := by
  have h : O.map toL = (O.takeWhile fun y => ltB y x).map toL ++ (O.dropWhile fun y => ltB y x).map toL := by
    rw [← List.map_append, List.takeWhile_append_dropWhile]
  rw [h]
  simp only [insB, List.map_append, List.map_cons, List.mem_append, List.mem_cons]
  constructor
  · rintro (h | h | h)
    · exact .inr (.inl h)
    · exact .inl h
    · exact .inr (.inr h)
  · rintro (h | h | h)
    · exact .inr (.inl h)
    · exact .inl h
    · exact .inr (.inr h)

theorem drop_ge : ∀ {O : List ByteArray} {x : ByteArray}, (O.map toL).Pairwise (· < ·) → toL x ∉ O.map toL → ∀ y ∈ O.dropWhile (fun y => ltB y x), toL x < toL y
  | [], _, _, _, y, hy => by simp at hy
  | a :: r, x, hp, hx, y, hy => by
    rw [List.map_cons, List.pairwise_cons] at hp
    simp only [List.map_cons, List.mem_cons, not_or] at hx
    cases h : ltB a x with
    | true =>
      rw [List.dropWhile_cons, h] at hy
      exact drop_ge hp.2 hx.2 y hy
    | false =>
      rw [List.dropWhile_cons, h] at hy
      have hn : ¬ toL a < toL x := fun e => by rw [(ltB_iff a x).2 e] at h; cases h
      have hxa : toL x < toL a := bl_lt (bl_le hn) hx.1
      simp only [Bool.false_eq_true, if_false, List.mem_cons] at hy
      rcases hy with rfl | hy
      · exact hxa
      · exact bl_trans hxa (hp.1 _ (List.mem_map.2 ⟨y, hy, rfl⟩))

theorem take_lt : ∀ {O : List ByteArray} {x : ByteArray}, ∀ y ∈ O.takeWhile (fun y => ltB y x), toL y < toL x
  | [], _, y, hy => by simp at hy
  | a :: r, x, y, hy => by
    cases h : ltB a x with
    | true =>
      rw [List.takeWhile_cons, h] at hy
      simp only [if_true, List.mem_cons] at hy
      rcases hy with rfl | hy
      · exact (ltB_iff _ _).1 h
      · exact take_lt y hy
    | false =>
      rw [List.takeWhile_cons, h] at hy
      simp at hy

theorem insB_rising {O : List ByteArray} {x : ByteArray} (hO : (O.map toL).Pairwise (· < ·)) (hx : toL x ∉ O.map toL) : ((insB O x).map toL).Pairwise (· < ·) := by
  have h : O.map toL = (O.takeWhile fun y => ltB y x).map toL ++ (O.dropWhile fun y => ltB y x).map toL := by
    rw [← List.map_append, List.takeWhile_append_dropWhile]
  have hO2 := hO
  rw [h, List.pairwise_append] at hO2
  simp only [insB, List.map_append, List.map_cons]
  rw [List.pairwise_append, List.pairwise_cons]
  refine ⟨hO2.1, ⟨fun b hb => ?_, hO2.2.1⟩, fun a ha b hb => ?_⟩
  · obtain ⟨y, hy, rfl⟩ := List.mem_map.1 hb
    exact drop_ge hO hx y hy
  · obtain ⟨y, hy, rfl⟩ := List.mem_map.1 ha
    have h1 := take_lt y hy
    simp only [List.mem_cons] at hb
    rcases hb with rfl | hb
    · exact h1
    · obtain ⟨z, hz, rfl⟩ := List.mem_map.1 hb
      exact bl_trans h1 (drop_ge hO hx z hz)

theorem docE_rising (items : List It) : ((docE items).map toL).Pairwise (· < ·) ∧ ∀ b, b ∈ (docE items).map toL ↔ b ∈ pubs items := by
  have key : ∀ (l : List It) (acc : List ByteArray), (acc.map toL).Pairwise (· < ·) → ((l.foldl stepB acc).map toL).Pairwise (· < ·) ∧ ∀ b, b ∈ (l.foldl stepB acc).map toL ↔ b ∈ acc.map toL ∨ b ∈ pubs l := by
    intro l
    induction l with
    | nil => intro acc h; exact ⟨h, fun b => by simp [pubs]⟩
    | cons a r ih =>
      intro acc h
      have hp : ∀ b, b ∈ pubs (a :: r) ↔ ((a.kind == 2) = true ∧ b = toL a.name) ∨ b ∈ pubs r := by
        intro b
        unfold pubs
        cases hk : a.kind == 2 with
        | true => rw [List.filter_cons, hk]; simp [toL]
        | false => rw [List.filter_cons, hk]; simp
      by_cases hs : (a.kind == 2 && !hasB acc a.name) = true
      · have e : stepB acc a = insB acc a.name := by unfold stepB; rw [if_pos hs]
        simp only [Bool.and_eq_true, Bool.not_eq_true'] at hs
        have hx : toL a.name ∉ acc.map toL := fun hm => by rw [(hasB_iff acc a.name).2 hm] at hs; cases hs.2
        obtain ⟨h1, h2⟩ := ih (insB acc a.name) (insB_rising h hx)
        rw [List.foldl_cons, e]
        refine ⟨h1, fun b => ?_⟩
        rw [h2 b, insB_mem, hp b]
        constructor
        · rintro ((h | h) | h)
          · exact .inr (.inl ⟨hs.1, h⟩)
          · exact .inl h
          · exact .inr (.inr h)
        · rintro (h | ⟨_, h⟩ | h)
          · exact .inl (.inr h)
          · exact .inl (.inl h)
          · exact .inr h
      · have e : stepB acc a = acc := by unfold stepB; rw [if_neg hs]
        obtain ⟨h1, h2⟩ := ih acc h
        rw [List.foldl_cons, e]
        refine ⟨h1, fun b => ?_⟩
        rw [h2 b, hp b]
        constructor
        · rintro (h | h)
          · exact .inl h
          · exact .inr (.inr h)
        · rintro (h | ⟨hk, rfl⟩ | h)
          · exact .inl h
          · refine .inl ((hasB_iff acc a.name).1 ?_)
            cases hh : hasB acc a.name with
            | true => rfl
            | false => exact absurd (by rw [hk, hh]; rfl) hs
          · exact .inr h
  obtain ⟨h1, h2⟩ := key items [] (by simp)
  exact ⟨h1, fun b => by rw [show docE items = items.foldl stepB [] from rfl, h2 b]; simp⟩

theorem exp_same (items : List It) : (docE items).map toL = expL items := by
  obtain ⟨h1, h2⟩ := docE_rising items
  obtain ⟨h3, h4⟩ := expL_rising items
  exact rising_eq h1 h3 fun x => (h2 x).trans (h4 x).symm

theorem join_same : ∀ (l : List ByteArray), joinT l = ⟨(Lib.join (l.map toL) [32]).toArray⟩
  | [] => rfl
  | a :: r => by
    have key : ∀ (r : List ByteArray) (s : ByteArray), r.foldl (fun s x => (s ++ ⟨#[32]⟩) ++ x) s = ⟨(toL s ++ Lib.joinTail [32] (r.map toL)).toArray⟩ := by
      intro r
      induction r with
      | nil => intro s; simp [Lib.joinTail, toL]
      | cons b r ih =>
        intro s
        rw [List.foldl_cons, ih]
        congr 2
        simp [toL, Lib.joinTail, ByteArray.data_append]
    rw [List.map_cons, Lib.join_cons]
    exact key r a

theorem exports_same (items : List It) : joinT (docE items) = ⟨(Lib.join (expL items) [32]).toArray⟩ := by
  rw [join_same, exp_same]

end Go.Proofs.YtfekglokoafpiaaGreatDoor

namespace Go.Proofs.YtfekglokoafpiaaGreatDoor
open Go.RowKit

set_option maxRecDepth 100000 in
set_option maxHeartbeats 1000000 in
theorem named_small (k : Nat) (hk : k ≤ 4) (w : World) : Calls Tryz.prog 24 #[.int .i64 (k : Nat)] w fun e w' => e = .returned (.bool false) ∧ w' = w := by
  have h5 : ¬ ((5 : Int) ≤ (k : Int)) := by omega
  go_enter Tryz.func24, Tryz.ntmps24
  go_wp2
  go_ret
  exact ⟨rfl, rfl⟩

set_option maxRecDepth 100000 in
set_option maxHeartbeats 2000000 in
theorem keyShown_small (k : Nat) (hk : k ≤ 4) (w : World) : Calls Tryz.prog 110 #[.agg #[.int .i64 (k : Nat), .string ⟨#[97]⟩, .string ⟨#[]⟩]] w fun e w' => (∃ s, e = .returned (.string s)) ∧ Below w.heap.size w w' := by
  have hN := new_heap w (.cells #[.int .i64 (k : Nat), .string ⟨#[97]⟩, .string ⟨#[]⟩] 66)
  have k0 : World.cell? _ ⟨w.heap.size, 0, none⟩ = some (.int .i64 (k : Nat)) := heap_cell (i := 0) hN
  have k1 : World.cell? _ ⟨w.heap.size, 1, none⟩ = some (.string ⟨#[97]⟩) := heap_cell (i := 1) hN
  have k2 : World.cell? _ ⟨w.heap.size, 2, none⟩ = some (.string ⟨#[]⟩) := heap_cell (i := 2) hN
  have HBL := hid (below_new w (.cells #[.int .i64 (k : Nat), .string ⟨#[97]⟩, .string ⟨#[]⟩] 66))
  have hz1 : (decT k).size ≤ 19 := decT_len 19 k (by omega) (by omega)
  have hzA : ¬ (9223372036854775807 < (decT k).size + 1) := by omega
  have hzB : ¬ (9223372036854775807 < (decT k).size + 1 + 1) := by omega
  have hS : Below (w.alloc (.cells #[.int .i64 (k : Nat), .string ⟨#[97]⟩, .string ⟨#[]⟩] 66)).heap.size (w.alloc (.cells #[.int .i64 (k : Nat), .string ⟨#[97]⟩, .string ⟨#[]⟩] 66)) (w.alloc (.cells #[.int .i64 (k : Nat), .string ⟨#[97]⟩, .string ⟨#[]⟩] 66)) ∧ (w.alloc (.cells #[.int .i64 (k : Nat), .string ⟨#[97]⟩, .string ⟨#[]⟩] 66)).cell? ⟨w.heap.size, 0, none⟩ = some (.int .i64 (k : Nat)) ∧ (w.alloc (.cells #[.int .i64 (k : Nat), .string ⟨#[97]⟩, .string ⟨#[]⟩] 66)).cell? ⟨w.heap.size, 1, none⟩ = some (.string ⟨#[97]⟩) := ⟨Below.refl _ _, k0, k1⟩
  clear hN
  go_enter Tryz.func110, Tryz.ntmps110
  go_wp2
  go_region_held3 (fun wx => Below (w.alloc (.cells #[.int .i64 (k : Nat), .string ⟨#[97]⟩, .string ⟨#[]⟩] 66)).heap.size (w.alloc (.cells #[.int .i64 (k : Nat), .string ⟨#[97]⟩, .string ⟨#[]⟩] 66)) wx ∧ wx.cell? ⟨w.heap.size, 0, none⟩ = some (.int .i64 (k : Nat)) ∧ wx.cell? ⟨w.heap.size, 1, none⟩ = some (.string ⟨#[97]⟩))
    (first
      | exact keepb2 (by assumption) (below_drew _)
      | exact keepb2 (by assumption) (Below.refl _ _)
      | exact keepb2 hS (below_drew _))
    (first
      | (go_at_call 133; refine (decimal_any k (by omega) _).mono ?_; rintro e w2 ⟨rfl, rfl⟩))
  all_goals
    go_wp2_with fail
    refine (named_small k hk _).mono ?_
    rintro e w3 ⟨rfl, rfl⟩
    go_wp2
    go_ret
    exact ⟨⟨_, rfl⟩, below_seq HBL.out (And.left (by assumption : Below (w.alloc (.cells #[.int .i64 (k : Nat), .string ⟨#[97]⟩, .string ⟨#[]⟩] 66)).heap.size (w.alloc (.cells #[.int .i64 (k : Nat), .string ⟨#[97]⟩, .string ⟨#[]⟩] 66)) _ ∧ _))⟩

set_option maxRecDepth 100000 in
set_option maxHeartbeats 1000000 in
theorem looks_1 (fv : Value) (w : World) : Calls Tryz.prog 111 #[fv, .agg #[.int .i64 1, .string ⟨#[97]⟩, .string ⟨#[]⟩]] w fun e w' => ∃ g c, e = .returned (.slice (some ⟨g, 0, none⟩) 1 c) ∧ w.heap.size ≤ g ∧ w'.heap[g]? = some (.cells #[.int .i64 0, .string ⟨#[97]⟩, .string ⟨#[]⟩] 66) ∧ Below w.heap.size w w' := by
  go_enter Tryz.func111, Tryz.ntmps111
  go_wp2
  go_ret
  refine ⟨w.heap.size + 1 + 1, 1, rfl, by omega, ?_, ((below_new w _).alloc (by simp <;> omega) _).alloc (by simp <;> omega) _⟩
  have := new_heap ((w.alloc (.cells #[.int .i64 1, .string ⟨#[97]⟩, .string ⟨#[]⟩] 66)).alloc (.cells #[.int .i64 3, .string ⟨#[97]⟩, .string ⟨#[]⟩] 66)) (.cells #[.int .i64 0, .string ⟨#[97]⟩, .string ⟨#[]⟩] 66)
  simpa using this

set_option maxRecDepth 100000 in
set_option maxHeartbeats 1000000 in
theorem looks_2 (fv : Value) (w : World) : Calls Tryz.prog 111 #[fv, .agg #[.int .i64 2, .string ⟨#[97]⟩, .string ⟨#[]⟩]] w fun e w' => ∃ g c, e = .returned (.slice (some ⟨g, 0, none⟩) 1 c) ∧ w.heap.size ≤ g ∧ w'.heap[g]? = some (.cells #[.int .i64 0, .string ⟨#[97]⟩, .string ⟨#[]⟩] 66) ∧ Below w.heap.size w w' := by
  go_enter Tryz.func111, Tryz.ntmps111
  go_wp2
  go_ret
  refine ⟨w.heap.size + 1 + 1, 1, rfl, by omega, ?_, ((below_new w _).alloc (by simp <;> omega) _).alloc (by simp <;> omega) _⟩
  have := new_heap ((w.alloc (.cells #[.int .i64 2, .string ⟨#[97]⟩, .string ⟨#[]⟩] 66)).alloc (.cells #[.int .i64 3, .string ⟨#[97]⟩, .string ⟨#[]⟩] 66)) (.cells #[.int .i64 0, .string ⟨#[97]⟩, .string ⟨#[]⟩] 66)
  simpa using this

set_option maxRecDepth 100000 in
set_option maxHeartbeats 1000000 in
theorem looks_3 (fv : Value) (w : World) : Calls Tryz.prog 111 #[fv, .agg #[.int .i64 3, .string ⟨#[97]⟩, .string ⟨#[]⟩]] w fun e w' => ∃ g c, e = .returned (.slice (some ⟨g, 0, none⟩) 1 c) ∧ w.heap.size ≤ g ∧ w'.heap[g]? = some (.cells #[.int .i64 2, .string ⟨#[97]⟩, .string ⟨#[]⟩] 66) ∧ Below w.heap.size w w' := by
  go_enter Tryz.func111, Tryz.ntmps111
  go_wp2
  go_ret
  refine ⟨w.heap.size + 1 + 1, 1, rfl, by omega, ?_, ((below_new w _).alloc (by simp <;> omega) _).alloc (by simp <;> omega) _⟩
  have := new_heap ((w.alloc (.cells #[.int .i64 3, .string ⟨#[97]⟩, .string ⟨#[]⟩] 66)).alloc (.cells #[.int .i64 3, .string ⟨#[97]⟩, .string ⟨#[]⟩] 66)) (.cells #[.int .i64 2, .string ⟨#[97]⟩, .string ⟨#[]⟩] 66)
  simpa using this

set_option maxRecDepth 100000 in
set_option maxHeartbeats 1000000 in
theorem looks_4 (fv : Value) (w : World) : Calls Tryz.prog 111 #[fv, .agg #[.int .i64 4, .string ⟨#[97]⟩, .string ⟨#[]⟩]] w fun e w' => ∃ g c, e = .returned (.slice (some ⟨g, 0, none⟩) 1 c) ∧ w.heap.size ≤ g ∧ w'.heap[g]? = some (.cells #[.int .i64 3, .string ⟨#[97]⟩, .string ⟨#[]⟩] 66) ∧ Below w.heap.size w w' := by
  go_enter Tryz.func111, Tryz.ntmps111
  go_wp2
  go_ret
  refine ⟨w.heap.size + 1 + 1, 1, rfl, by omega, ?_, ((below_new w _).alloc (by simp <;> omega) _).alloc (by simp <;> omega) _⟩
  have := new_heap ((w.alloc (.cells #[.int .i64 4, .string ⟨#[97]⟩, .string ⟨#[]⟩] 66)).alloc (.cells #[.int .i64 3, .string ⟨#[97]⟩, .string ⟨#[]⟩] 66)) (.cells #[.int .i64 3, .string ⟨#[97]⟩, .string ⟨#[]⟩] 66)
  simpa using this

end Go.Proofs.YtfekglokoafpiaaGreatDoor

namespace Go.Proofs.YtfekglokoafpiaaGreatDoor
open Go.RowKit

/-- The document's session in block sb: the files, n slots of the cells xs, the revision, the clock. -/
structure YS (w : World) (sb B : Nat) (fv slv ranv : Value) (n : Nat) (xs rs : List Value) (rev clk : Int) : Prop where
  s : w.heap[sb]? = some (.cells #[fv, slv, .int .i64 rev, .int .i64 clk, ranv] 32)
  lt : sb < B
  own : w.ownsRow B 70 12 slv n xs
  ran : w.ownsRow B 9 1 ranv rs.length rs
  ne : ∀ b, ranv.ownBlock = some b → slv.ownBlock ≠ some b

/-- The slots are those of the kinds 1 to n, in order. -/
def Kinds (n : Nat) (xs : List Value) : Prop := ∀ j, j < n → xs[j * 12]? = some (.int .i64 ((j + 1 : Nat) : Int)) ∧ xs[j * 12 + 1]? = some (.string ⟨#[97]⟩) ∧ xs[j * 12 + 2]? = some (.string ⟨#[]⟩)

theorem YS.below {w w' : World} {sb B : Nat} {fv slv ranv : Value} {n : Nat} {xs rs : List Value} {rev clk : Int} (h : YS w sb B fv slv ranv n xs rs rev clk) (hb : Below w.heap.size w w') : YS w' sb B fv slv ranv n xs rs rev clk :=
  ⟨below_heap hb (heap_lt h.s) h.s, h.lt, own_block h.own fun g _ hg => hb.block g hg, own_block h.ran fun g _ hg => hb.block g hg, h.ne⟩

theorem YS.cell {w : World} {sb B : Nat} {fv slv ranv : Value} {n : Nat} {xs rs : List Value} {rev clk : Int} (h : YS w sb B fv slv ranv n xs rs rev clk) (hn : 0 < n) : ∃ g c, slv = .slice (some ⟨g, 0, none⟩) n c ∧ ∀ (j : Nat) u, xs[j]? = some u → w.cell? ⟨g, j, none⟩ = some u := by
  obtain ⟨hl, ⟨_, h0⟩ | ⟨g, cap, cur, hv, hB, hg, h1, h2, h3, h4⟩⟩ := h.own
  · omega
  · exact ⟨g, cap, hv, fun j u hj => by rw [heap_cell hg, ← Array.getElem?_toList]; exact take_get h4 hj⟩

set_option maxRecDepth 100000 in
set_option maxHeartbeats 1000000 in
theorem slot_old {w : World} {sb B : Nat} {fv slv ranv : Value} {n : Nat} {xs rs : List Value} {rev clk : Int} (h : YS w sb B fv slv ranv n xs rs rev clk) (hk : Kinds n xs) (hn : n ≤ 4) (k : Nat) (hk1 : 1 ≤ k) (hkn : k ≤ n) :
    Calls Tryz.prog 28 #[.pointer (some ⟨sb, 0, none⟩), .agg #[.int .i64 (k : Nat), .string ⟨#[97]⟩, .string ⟨#[]⟩]] w fun e w' => e = .returned (.int .i64 ((k - 1 : Nat) : Int)) ∧ Below w.heap.size w w' := by
  obtain ⟨g, c, rfl, hc⟩ := h.cell (by omega)
  have HC := hid hc
  have HK := hid hk
  have hbl := below_new w (.cells #[.int .i64 (k : Nat), .string ⟨#[97]⟩, .string ⟨#[]⟩] 66)
  have HBL := hid hbl
  have s1 : w.cell? ⟨sb, 1, none⟩ = some (.slice (some ⟨g, 0, none⟩) n c) := heap_cell (i := 1) h.s
  have HS1 := hid s1
  clear h hk hc hbl
  go_enter Tryz.func28, Tryz.ntmps28
  have hN := new_heap w (.cells #[.int .i64 (k : Nat), .string ⟨#[97]⟩, .string ⟨#[]⟩] 66)
  have HN := hid hN
  clear hN
  go_wp2
  go_loopg [5] n (fun f i wr => ∃ j : Nat, j + f = n ∧ j < k ∧ i = .int .i64 (j : Nat) ∧ Below (w.alloc (.cells #[.int .i64 (k : Nat), .string ⟨#[97]⟩, .string ⟨#[]⟩] 66)).heap.size (w.alloc (.cells #[.int .i64 (k : Nat), .string ⟨#[97]⟩, .string ⟨#[]⟩] 66)) wr)
  case atStart => exact ⟨0, by omega, by omega, rfl, Below.refl _ _⟩
  case round =>
    obtain ⟨j, hj, hjk, rfl, hbl⟩ := hrel
    have HB := hid hbl
    obtain ⟨q0, q1, q2⟩ := HK.out j (by omega)
    have z0 : wr.cell? ⟨g, j * 12, none⟩ = some (.int .i64 ((j + 1 : Nat) : Int)) := cell_kept hbl (cell_kept HBL.out (HC.out _ _ q0))
    have z1 : wr.cell? ⟨g, j * 12 + 1, none⟩ = some (.string ⟨#[97]⟩) := cell_kept hbl (cell_kept HBL.out (HC.out _ _ q1))
    have z2 : wr.cell? ⟨g, j * 12 + 2, none⟩ = some (.string ⟨#[]⟩) := cell_kept hbl (cell_kept HBL.out (HC.out _ _ q2))
    have hN := below_heap hbl (heap_lt HN.out) HN.out
    have y0 : wr.cell? ⟨w.heap.size, 0, none⟩ = some (.int .i64 (k : Nat)) := heap_cell (i := 0) hN
    have y1 : wr.cell? ⟨w.heap.size, 1, none⟩ = some (.string ⟨#[97]⟩) := heap_cell (i := 1) hN
    have y2 : wr.cell? ⟨w.heap.size, 2, none⟩ = some (.string ⟨#[]⟩) := heap_cell (i := 2) hN
    have s1 : wr.cell? ⟨sb, 1, none⟩ = some (.slice (some ⟨g, 0, none⟩) n c) := cell_kept hbl (cell_kept HBL.out HS1.out)
    have hjn : (j : Int) < (n : Int) := by omega
    have hjc : (0 : Int) ≤ (j : Int) := by omega
    clear hN q0 q1 q2 hbl
    by_cases hje : j + 1 = k
    · subst hje
      go_wp2_with fail
      go_quiet (fail)
      go_wp2
      go_ret
      exact ⟨ret_int (by omega), below_seq (below_seq HBL.out HB.out) (below_drewN _ _)⟩
    · have hne : (((j + 1 : Nat) : Int) == (k : Int)) = false := by rw [beq_eq_false_iff_ne]; omega
      have hne2 : ((j : Int) + 1 == (k : Int)) = false := by rw [beq_eq_false_iff_ne]; omega
      go_wp2_with fail
      go_quiet (fail)
      go_wp2
      go_roundg (n - (j + 1))
      case rel => exact ⟨j + 1, by omega, by omega, by go_num, below_seq HB.out (below_drewN _ _)⟩
      case measure => omega

theorem infoSlot : (Tryz.prog.info? 70).map (fun i => (i.zero, i.size, i.bytes)) = some (some (.agg #[.int .i64 0, .string ⟨#[]⟩, .string ⟨#[]⟩, .slice none 0 0, .int .i64 0, .int .i64 0, .bool false, .bool false, .bool false, .bool false, .int .i64 0, .string ⟨#[]⟩]), 12, 112) := by kernel_rfl

/-- A slot that is new. -/
def newSlot (k : Nat) : List Value := [.int .i64 (k : Nat), .string ⟨#[97]⟩, .string ⟨#[]⟩, .slice none 0 0, .int .i64 0, .int .i64 0, .bool false, .bool false, .bool false, .bool false, .int .i64 0, .string ⟨#[]⟩]

theorem YS.shape {w : World} {sb B : Nat} {fv slv ranv : Value} {n : Nat} {xs rs : List Value} {rev clk : Int} (h : YS w sb B fv slv ranv n xs rs rev clk) : ∃ ao c, slv = .slice ao n c := by
  obtain ⟨_, ⟨h, h0⟩ | ⟨g, c, _, h, _⟩⟩ := h.own
  · exact ⟨none, 0, by rw [h, h0]⟩
  · exact ⟨_, _, h⟩

end Go.Proofs.YtfekglokoafpiaaGreatDoor
