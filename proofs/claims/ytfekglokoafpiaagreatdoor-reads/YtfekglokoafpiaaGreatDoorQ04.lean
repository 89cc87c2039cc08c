/-
  The library's text builder at this program: copyCheck, WriteByte, WriteString.
  Numbers as texts: what the program writes, and a text of digits without noughts ahead.
  The document's text of an expr.
  The document's exprs and the program's: which is which.
-/
import Derived.Test.YtfekglokoafpiaaGreatDoorQ03
import Derived.Test.YtfekglokoafpiaaGreatDoorShelf
import Derived.Lib.Builder
import Derived.Lib.AppendStr
import Derived.Lib.BufferWrite
import Derived.Lib.AppendIntMem

set_option linter.unusedVariables false
set_option linter.unusedSimpArgs false

namespace Go.Proofs.YtfekglokoafpiaaGreatDoor
open Go.RowKit

def BAt (B b : Nat) (p : Value) (bs : List Value) (w : World) : Prop := Lib.BuilderAt 116 5 B b p bs w
def IsB (B b : Nat) (bs : List Value) (w : World) : Prop := Lib.IsBuilder 116 5 B b bs w

/-- All blocks but b stay that are no rows of bytes. -/
def KT (b : Nat) (w w' : World) : Prop := ∀ k, k < w.heap.size → k ≠ b → (∀ cs fr, w.heap[k]? ≠ some (.cells cs 5 fr)) → w'.heap[k]? = w.heap[k]?

theorem KT.refl (b : Nat) (w : World) : KT b w w := fun _ _ _ _ => rfl
theorem KT.trans {b : Nat} {w w1 w2 : World} (h : KT b w w1) (hs : w.heap.size ≤ w1.heap.size) (h2 : KT b w1 w2) : KT b w w2 := fun k hk hn hc => by
  have e := h k hk hn hc
  rw [h2 k (by omega) hn (fun cs fr => by rw [e]; exact hc cs fr), e]
theorem KT.alloc (b : Nat) (w : World) (o : Obj) : KT b w (w.alloc o) := fun k hk _ _ => Below.heap_alloc _ _ _ hk
theorem KT.setCell (b i : Nat) (w : World) (v : Value) : KT b w (w.setCell ⟨b, i, none⟩ v) := fun k _ hn _ => heap_setCell_ne hn v
theorem KT.grown {b B n : Nat} {w w' : World} {v : Value} {xs : List Value} (hown : w.ownsRow B 5 1 v n xs) (hg : w.grownBy w' v.ownBlock) : KT b w w' := fun k hk _ hc => hg.block k hk fun e => by
  obtain ⟨_, ⟨rfl, _⟩ | ⟨g, cap, cur, rfl, _, hg2, _⟩⟩ := hown
  · simp [Value.ownBlock] at e
  · simp [Value.ownBlock] at e
    subst e
    exact hc _ _ hg2
theorem KT.get {b k : Nat} {w w' : World} (h : KT b w w') {cs : Array Value} {T : TypeId} {fr : Nat × Nat} (hk : w.heap[k]? = some (.cells cs T fr)) (hn : k ≠ b) (hT : T ≠ 5) : w'.heap[k]? = some (.cells cs T fr) :=
  (h k (heap_lt hk) hn (fun cs' fr' e => by rw [hk] at e; injection e with e; injection e with e1 e2 e3; exact hT e2)).trans hk

theorem szB : (Tryz.prog.info? 116).map (·.size) = some 2 := by kernel_rfl
theorem liesB : liesAt Tryz.prog Tryz.prog.depth 116 (2 / Tryz.prog.cellsOf 116) 0 116 1 = true := by kernel_rfl
theorem infoU8 : (Tryz.prog.info? 5).map (fun i => (i.zero, i.size, i.bytes)) = some (some (.int .u8 0), 1, 1) := by kernel_rfl

set_option maxRecDepth 100000 in
set_option maxHeartbeats 400000 in
theorem bCheck_used (b : Nat) (w : World) (h0 : w.cell? ⟨b, 0, none⟩ = some (.pointer (some ⟨b, 0, none⟩))) :
    Calls Tryz.prog 89 #[.pointer (some ⟨b, 0, none⟩)] w fun e w' => e = .returned (.tuple #[]) ∧ w' = w := by
  obtain ⟨j, hj, _⟩ := Option.map_eq_some_iff.1 szB
  go_enter Tryz.func89, Tryz.ntmps89
  go_wp2
  rw [Lib.run_neq_ptr_same w _ Tryz.underlying113 hj]
  go_wp2
  go_end0
  exact ⟨rfl, rfl⟩

set_option maxRecDepth 100000 in
set_option maxHeartbeats 400000 in
theorem bCheck_fresh (b : Nat) (w : World) (h0 : w.cell? ⟨b, 0, none⟩ = some (.pointer none)) (hsh : w.shape? b = some (116, 2)) (hfz : w.frozen? ⟨b, 0, none⟩ = false) :
    Calls Tryz.prog 89 #[.pointer (some ⟨b, 0, none⟩)] w fun e w' => e = .returned (.tuple #[]) ∧ w' = w.setCell ⟨b, 0, none⟩ (.pointer (some ⟨b, 0, none⟩)) := by
  obtain ⟨j, hj, hjs⟩ := Option.map_eq_some_iff.1 szB
  go_enter Tryz.func89, Tryz.ntmps89
  go_wp2
  rw [Lib.run_to_unsafe w ⟨b, 0, none⟩ Tryz.underlying113 Tryz.underlying205 hj (by rw [hjs]; decide) hsh (Nat.zero_lt_succ 1)]
  simp only [Result.andThen]
  rw [Oper.upon_value]
  go_wp2
  rw [run_callFunc_extern Tryz.func117 (by kernel_rfl) (by kernel_rfl) (by kernel_rfl) (e := Extern.AbiNoEscape.same) (by kernel_rfl)]
  rw [Lib.run_noEscape]
  simp only [Result.andThen]
  rw [Oper.upon_value]
  go_wp2
  rw [Lib.run_from_unsafe w ⟨b, 0, none⟩ Tryz.underlying205 Tryz.underlying113 hj hsh liesB]
  simp only [Result.andThen]
  rw [Oper.upon_value]
  go_wp2
  go_end0
  exact ⟨rfl, rfl⟩

theorem bCheck (B b : Nat) (bs : List Value) (w : World) (h : IsB B b bs w) :
    Calls Tryz.prog 89 #[.pointer (some ⟨b, 0, none⟩)] w fun e w' => e = .returned (.tuple #[]) ∧ BAt B b (.pointer (some ⟨b, 0, none⟩)) bs w' ∧ Below B w w' ∧ KT b w w' := by
  rcases h with h | h
  · refine (bCheck_fresh b w h.cell0 h.shape h.frozen0).mono ?_
    rintro e w' ⟨rfl, rfl⟩
    exact ⟨rfl, h.used _, (Below.refl B w).setCell (p := ⟨b, 0, none⟩) h.1 _, KT.setCell _ _ _ _⟩
  · refine (bCheck_used b w h.cell0).mono ?_
    rintro e w' ⟨rfl, rfl⟩
    exact ⟨rfl, h, Below.refl B _, KT.refl _ _⟩

set_option maxRecDepth 100000 in
set_option maxHeartbeats 1000000 in
theorem bWriteByte (B b : Nat) (bs : List Value) (c : Int) (w : World) (h : IsB B b bs w) (hlen : bs.length + 1 ≤ 140737488355328) (hBw : B ≤ w.heap.size) :
    Calls Tryz.prog 60 #[.pointer (some ⟨b, 0, none⟩), .int .u8 c] w fun e w' => e = .returned .nilIface ∧ IsB B b (bs ++ [.int .u8 c]) w' ∧ Below B w w' ∧ KT b w w' := by
  obtain ⟨i0, hi, hz0, hz1, hz2⟩ := info_parts infoU8
  go_enter Tryz.func60, Tryz.ntmps60
  go_wp2_with (go_at_call 89; refine (bCheck B b bs _ h).mono ?_)
  rintro e w1 ⟨rfl, h1, hb1, hk1⟩
  obtain ⟨hB, v, hbk, hown, hne⟩ := h1
  have hlt := heap_lt hbk
  have c1 : w1.cell? ⟨b, 1, none⟩ = some v := heap_cell hbk
  go_wp2_with (at_builtin; refine wpList_append_own _ rfl _ _ 114 rfl B 5 i0 (.int .u8 0) 1 1 Tryz.underlying114 hi hz0 hz1 hz2 rfl (by decide) _ _ _ rfl (hown.alloc _) ⟨w1.heap.size, 0, none⟩ 1 1 [.int .u8 c] rfl rfl ?c1 ?c2 ?c3 ?c4 ?c5 ?_)
  case c1 => exact cell_one_new _ _ _
  case c2 => intro u hu; simp at hu; subst hu; rfl
  case c3 => unfold maxLen; omega
  case c4 => omega
  case c5 => have := hb1.size; simp; omega
  intro v' w2 hown' hgrow _
  have hb2 : w2.heap[b]? = some (.cells #[.pointer (some ⟨b, 0, none⟩), v] 116 (0, 0)) := by
    rw [hgrow.block b (by simp; omega) (fun e => hne e.symm)]
    exact old_heap _ hbk
  have d1 : w2.cell? ⟨b, 1, none⟩ = some v := heap_cell hb2
  have f1 : w2.frozen? ⟨b, 1, none⟩ = false := heap_frozen hb2
  obtain ⟨g, cap, rfl⟩ : ∃ g cap, v' = .slice (some ⟨g, 0, none⟩) (bs.length + 1) cap := by
    rcases hown'.2 with ⟨_, h0⟩ | ⟨g, cap, cur, hv, _⟩
    · omega
    · exact ⟨g, cap, hv⟩
  go_wp2
  go_ret
  refine ⟨rfl, .inr ?_, ?_, ?_⟩
  · exact Lib.BuilderAt.put (T := 116) (e := 5) hB hb2 (bs' := bs ++ [.int .u8 c]) (by simpa using hown') (by decide)
  · exact ((hb1.alloc (by have := hb1.size; omega) _).grown hgrow (by have := hb1.size; simp; omega) (fun k hk => (hown.lt k hk).1)).setCell (p := ⟨b, 1, none⟩) hB _
  · exact ((hk1.trans hb1.size (KT.alloc b w1 _)).trans (by have := hb1.size; simp; omega) (KT.grown (hown.alloc _) hgrow)).trans (by have := hb1.size; have := hgrow.size; simp at *; omega) (KT.setCell _ _ _ _)

set_option maxRecDepth 100000 in
set_option maxHeartbeats 1000000 in
theorem bWriteString (B b : Nat) (bs : List Value) (s : ByteArray) (w : World) (h : IsB B b bs w) (hlen : bs.length + s.size ≤ 140737488355328) (hBw : B ≤ w.heap.size) :
    Calls Tryz.prog 61 #[.pointer (some ⟨b, 0, none⟩), .string s] w fun e w' => e = .returned (.tuple #[.int .i64 s.size, .nilIface]) ∧ IsB B b (bs ++ Lib.strCells s) w' ∧ Below B w w' ∧ KT b w w' := by
  obtain ⟨i0, hi, hz0, hz1, hz2⟩ := info_parts infoU8
  go_enter Tryz.func61, Tryz.ntmps61
  go_wp2_with (go_at_call 89; refine (bCheck B b bs _ h).mono ?_)
  rintro e w1 ⟨rfl, h1, hb1, hk1⟩
  obtain ⟨hB, v, hbk, hown, hne⟩ := h1
  have hlt := heap_lt hbk
  have c1 : w1.cell? ⟨b, 1, none⟩ = some v := heap_cell hbk
  go_wp2_with (at_builtin; refine Lib.wpList_append_own_string _ rfl _ _ 114 9 rfl B 5 i0 Tryz.underlying114 Tryz.underlying9 hi hz0 hz1 hz2 _ _ _ rfl hown s rfl ?c3 ?c4 ?c5 ?_)
  case c3 => unfold maxLen; omega
  case c4 => omega
  case c5 => have := hb1.size; omega
  intro v' w2 hown' hgrow _
  have hb2 : w2.heap[b]? = some (.cells #[.pointer (some ⟨b, 0, none⟩), v] 116 (0, 0)) := by
    rw [hgrow.block b (by omega) (fun e => hne e.symm)]
    exact hbk
  have d1 : w2.cell? ⟨b, 1, none⟩ = some v := heap_cell hb2
  have f1 : w2.frozen? ⟨b, 1, none⟩ = false := heap_frozen hb2
  obtain ⟨ao, cap, rfl⟩ : ∃ ao cap, v' = .slice ao (bs.length + s.size) cap := by
    rcases hown'.2 with ⟨hv, h0⟩ | ⟨g, cap, cur, hv, _⟩
    · exact ⟨none, 0, by rw [hv, h0]⟩
    · exact ⟨_, _, hv⟩
  go_wp2
  go_ret2
  refine ⟨rfl, .inr ?_, ?_, ?_⟩
  · exact Lib.BuilderAt.put (T := 116) (e := 5) hB hb2 (bs' := bs ++ Lib.strCells s) (by simpa [Lib.strCells_length] using hown') (by decide)
  · exact (hb1.grown hgrow (by have := hb1.size; omega) (fun k hk => (hown.lt k hk).1)).setCell (p := ⟨b, 1, none⟩) hB _
  · exact (hk1.trans hb1.size (KT.grown hown hgrow)).trans (by have := hb1.size; have := hgrow.size; omega) (KT.setCell _ _ _ _)

end Go.Proofs.YtfekglokoafpiaaGreatDoor

namespace Go.Proofs.YtfekglokoafpiaaGreatDoor
open Go.RowKit Go.Sort

theorem below_growN (w : World) (k : Nat) (os : Array Obj) : Below w.heap.size w (grow (w.drewN k) os) := by
  refine ⟨rfl, rfl, rfl, ?_, fun j hj => ?_⟩
  · show w.heap.size ≤ (w.heap ++ os).size
    rw [Array.size_append]; omega
  · show (w.heap ++ os)[j]? = w.heap[j]?
    rw [Array.getElem?_append_left hj]

def dgs (l : List UInt8) : Prop := ∀ x ∈ l, isDigB x.toNat = true

theorem digitVal_of {c : UInt8} (h : isDigB c.toNat = true) : Lib.digitVal c = some (c.toNat - 48) := by
  simp only [isDigB, Bool.and_eq_true, decide_eq_true_eq] at h
  unfold Lib.digitVal
  rw [if_pos (by omega)]

theorem decFrom_snoc : ∀ (l : List UInt8) (acc n : Nat) (c : UInt8), Lib.decFrom acc l = some n → isDigB c.toNat = true → Lib.decFrom acc (l ++ [c]) = some (n * 10 + (c.toNat - 48))
  | [], acc, n, c, h, hc => by
    simp only [Lib.decFrom, Option.some.injEq] at h
    subst h
    simp [Lib.decFrom, digitVal_of hc]
  | b :: r, acc, n, c, h, hc => by
    simp only [Lib.decFrom, List.cons_append] at h ⊢
    cases hb : Lib.digitVal b with
    | none => rw [hb] at h; cases h
    | some d => rw [hb] at h; exact decFrom_snoc r _ n c h hc

theorem decFrom_some : ∀ (l : List UInt8) (acc : Nat), dgs l → ∃ n, Lib.decFrom acc l = some n
  | [], acc, _ => ⟨acc, rfl⟩
  | b :: r, acc, h => by
    obtain ⟨n, hn⟩ := decFrom_some r (acc * 10 + (b.toNat - 48)) (fun x hx => h x (by simp [hx]))
    exact ⟨n, by simp [Lib.decFrom, digitVal_of (h b (by simp)), hn]⟩

theorem decFrom_ge : ∀ (l : List UInt8) (acc n : Nat), Lib.decFrom acc l = some n → acc ≤ n
  | [], acc, n, h => by simp only [Lib.decFrom, Option.some.injEq] at h; omega
  | b :: r, acc, n, h => by
    simp only [Lib.decFrom] at h
    cases hb : Lib.digitVal b with
    | none => rw [hb] at h; cases h
    | some d => rw [hb] at h; have := decFrom_ge r _ n h; omega

theorem strip_snoc : ∀ (l : List UInt8) (n : Nat) (c : UInt8), l ≠ [] → dgs l → Lib.decFrom 0 l = some n → strip (l ++ [c]) = if n = 0 then [c] else strip l ++ [c]
  | [], _, _, h, _, _ => absurd rfl h
  | [x], n, c, _, hd, hn => by
    have hx := hd x (by simp)
    simp only [Lib.decFrom, digitVal_of hx, Option.some.injEq] at hn
    simp only [isDigB, Bool.and_eq_true, decide_eq_true_eq] at hx
    by_cases h48 : x.toNat = 48
    · rw [if_pos (by omega)]; simp [strip, h48]
    · rw [if_neg (by omega)]; simp [strip, h48]
  | x :: y :: r, n, c, _, hd, hn => by
    have hx := hd x (by simp)
    have hr : dgs (y :: r) := fun z hz => hd z (by simp [hz])
    by_cases h48 : x.toNat = 48
    · have hn2 : Lib.decFrom 0 (y :: r) = some n := by
        have e : Lib.decFrom 0 (x :: y :: r) = Lib.decFrom (0 * 10 + (x.toNat - 48)) (y :: r) := by
          conv => lhs; unfold Lib.decFrom
          rw [digitVal_of hx]
        rw [e, h48] at hn
        exact hn
      have := strip_snoc (y :: r) n c (by simp) hr hn2
      have e1 : strip (x :: y :: r ++ [c]) = strip (y :: r ++ [c]) := by simp [strip, h48]
      have e2 : strip (x :: y :: r) = strip (y :: r) := by simp [strip, h48]
      rw [e1, this, e2]
    · have hpos : n ≠ 0 := by
        have e : Lib.decFrom 0 (x :: y :: r) = Lib.decFrom (0 * 10 + (x.toNat - 48)) (y :: r) := by
          conv => lhs; unfold Lib.decFrom
          rw [digitVal_of hx]
        rw [e] at hn
        have := decFrom_ge _ _ _ hn
        simp only [isDigB, Bool.and_eq_true, decide_eq_true_eq] at hx
        omega
      rw [if_neg hpos]
      simp [strip, h48]

theorem u8_back {c : UInt8} (h : isDigB c.toNat = true) : UInt8.ofNat (48 + (c.toNat - 48)) = c := by
  simp only [isDigB, Bool.and_eq_true, decide_eq_true_eq] at h
  rw [show 48 + (c.toNat - 48) = c.toNat from by omega]
  simp

theorem decDigits_strip (k : Nat) : ∀ (l : List UInt8) (n : Nat), l.length ≤ k → l ≠ [] → dgs l → Lib.decFrom 0 l = some n → Lib.decDigits n = strip l := by
  induction k with
  | zero => intro l n h hne; exact absurd (List.eq_nil_of_length_eq_zero (by omega)) hne
  | succ k ih =>
    intro l n hk hne hd hn
    obtain ⟨r, c, rfl⟩ : ∃ r c, l = r ++ [c] := ⟨l.dropLast, l.getLast hne, (List.dropLast_concat_getLast hne).symm⟩
    have hc := hd c (by simp)
    have hdr : dgs r := fun x hx => hd x (by simp [hx])
    obtain ⟨m, hm⟩ := decFrom_some r 0 hdr
    have e := decFrom_snoc r 0 m c hm hc
    rw [hn, Option.some.injEq] at e
    have hc2 := hc
    simp only [isDigB, Bool.and_eq_true, decide_eq_true_eq] at hc2
    by_cases hr : r = []
    · subst hr
      simp only [Lib.decFrom, Option.some.injEq] at hm
      subst hm
      rw [Lib.decDigits, dif_pos (by omega), e, Nat.zero_mul, Nat.zero_add, u8_back hc]
      rfl
    · rw [strip_snoc r m c hr hdr hm]
      by_cases hz : m = 0
      · rw [if_pos hz, Lib.decDigits, dif_pos (by omega), e, hz, Nat.zero_mul, Nat.zero_add, u8_back hc]
      · rw [if_neg hz, Lib.decDigits, dif_neg (by omega), show n / 10 = m from by omega, show n % 10 = c.toNat - 48 from by omega, u8_back hc, ih r m (by simp at hk; omega) hr hdr hm]

theorem itoa_strip {t : ByteArray} (h : numB t = true) : 0 ≤ numVal t ∧ numVal t ≤ 9223372036854775807 ∧ (⟨(Lib.itoa (numVal t)).toArray⟩ : ByteArray) = stripT t := by
  obtain ⟨h1, h2, h3⟩ := num_all h
  have hl : t.data.toList.length = t.size := by simp
  have hne : t.data.toList ≠ [] := by
    intro e; rw [e] at hl; simp at hl; omega
  have hd : dgs t.data.toList := fun x hx => h3 x hx
  obtain ⟨n, hn⟩ := decFrom_some t.data.toList 0 hd
  have hv : numVal t = (n : Int) := by
    have ha := (num_atoi h).2
    cases hc : t.data.toList with
    | nil => exact absurd hc hne
    | cons x r =>
      have hx := hd x (by rw [hc]; simp)
      simp only [isDigB, Bool.and_eq_true, decide_eq_true_eq] at hx
      have n1 : (x == 45) = false := by
        rw [beq_eq_false_iff_ne]; rintro rfl; simp at hx
      have n2 : (x == 43) = false := by
        rw [beq_eq_false_iff_ne]; rintro rfl; simp at hx
      rw [hc] at ha hn
      unfold Lib.atoi at ha
      simp [n1, n2, Lib.decNat, hn] at ha
      exact ha.symm
  have hlen : n < 10 ^ 18 := by
    have : ∀ (l : List UInt8) (acc m : Nat), dgs l → Lib.decFrom acc l = some m → m < (acc + 1) * 10 ^ l.length := by
      intro l
      induction l with
      | nil => intro acc m _ h; simp only [Lib.decFrom, Option.some.injEq] at h; simp; omega
      | cons b r ih =>
        intro acc m hd h
        have hb := hd b (by simp)
        simp only [Lib.decFrom, digitVal_of hb] at h
        have := ih _ m (fun x hx => hd x (by simp [hx])) h
        simp only [isDigB, Bool.and_eq_true, decide_eq_true_eq] at hb
        have e : (acc * 10 + (b.toNat - 48) + 1) * 10 ^ r.length ≤ (acc + 1) * 10 ^ (r.length + 1) := by
          rw [Nat.pow_succ, ← Nat.mul_assoc, Nat.mul_right_comm]
          exact Nat.mul_le_mul_right _ (by omega)
        simp only [List.length_cons]
        omega
    have := this _ 0 n hd hn
    have h9 : 10 ^ t.data.toList.length ≤ 10 ^ 18 := Nat.pow_le_pow_right (by omega) (by omega)
    omega
  refine ⟨by omega, by omega, ?_⟩
  unfold stripT
  rw [hv]
  have : Lib.itoa (n : Int) = Lib.decDigits n := by
    unfold Lib.itoa
    rw [if_neg (by omega)]; simp
  rw [this, decDigits_strip _ _ n (Nat.le_refl _) hne hd hn]

end Go.Proofs.YtfekglokoafpiaaGreatDoor

namespace Go.Proofs.YtfekglokoafpiaaGreatDoor
open Go.RowKit

/-- A later world: the old blocks of K stand. -/
structure Later (K : Nat → Prop) (w w' : World) : Prop where
  size : w.heap.size ≤ w'.heap.size
  block : ∀ k, k < w.heap.size → K k → w'.heap[k]? = w.heap[k]?

theorem Later.refl (K : Nat → Prop) (w : World) : Later K w w := ⟨Nat.le_refl _, fun _ _ _ => rfl⟩
theorem Later.of_fr {K : Nat → Prop} {rb : Nat} {w w' : World} (h : Fr [rb] w w') (hK : ∀ k, K k → k ≠ rb) : Later K w w' := ⟨h.size, fun k hk hn => h.block k hk (by simpa using hK k hn)⟩
theorem Later.trans {K : Nat → Prop} {a b c : World} (h : Later K a b) (k : Later K b c) : Later K a c :=
  ⟨Nat.le_trans h.size k.size, fun i hi hn => (k.block i (Nat.lt_of_lt_of_le hi h.size) hn).trans (h.block i hi hn)⟩
theorem Later.of_below {K : Nat → Prop} {a b : World} (k : Below a.heap.size a b) : Later K a b := ⟨k.size, fun i hi _ => k.block i hi⟩
theorem Later.below {K : Nat → Prop} {a b c : World} (h : Later K a b) (k : Below b.heap.size b c) : Later K a c := h.trans (.of_below k)
theorem Later.alloc {K : Nat → Prop} {a b : World} (h : Later K a b) (o : Obj) : Later K a (b.alloc o) := h.below ((Below.refl _ _).alloc (Nat.le_refl _) _)
theorem Later.set {K : Nat → Prop} {a b : World} (h : Later K a b) {p : Addr} (hp : ¬ K p.block) (v : Value) : Later K a (b.setCell p v) :=
  ⟨by have := h.size; simpa using this, fun k hk hn => (Below.heap_setCell _ _ _ _ (fun e => hp (e ▸ hn))).trans (h.block k hk hn)⟩
theorem Later.mono {K J : Nat → Prop} {a b : World} (h : Later K a b) (hJ : ∀ k, J k → K k) : Later J a b := ⟨h.size, fun k hk hn => h.block k hk (hJ k hn)⟩

/-- An expr of the document's parser, its text being s from this world on. -/
def Shows (K : Nat → Prop) (w : World) (e : Value) (s : ByteArray) : Prop :=
  ∀ w', Later K w w' → Calls Tryz.prog 174 #[e] w' fun e' w'' => e' = .returned (.string s) ∧ Below w'.heap.size w' w''

theorem Shows.later {K : Nat → Prop} {w w' : World} {e : Value} {s : ByteArray} (h : Shows K w e s) (hl : Later K w w') : Shows K w' e s := fun w'' h2 => h w'' (hl.trans h2)

set_option maxRecDepth 100000 in
set_option maxHeartbeats 1000000 in
theorem shows_leaf (K : Nat → Prop) (w : World) (t : ByteArray) (ao : Option Addr) (m c : Nat) : Shows K w (.agg #[.int .u8 0, .string t, .slice ao m c]) t := by
  intro w' _
  go_enter Tryz.func174, Tryz.ntmps174
  go_wp2
  go_ret
  exact ⟨rfl, (Below.refl _ _).alloc (Nat.le_refl _) _⟩

theorem below_mono {A B : Nat} {w w' : World} (h : A ≤ B) (k : Below B w w') : Below A w w' := ⟨k.os, k.tape, k.output, k.size, fun i hi => k.block i (by omega)⟩
theorem below_seq {a b c : World} (h : Below a.heap.size a b) (k : Below b.heap.size b c) : Below a.heap.size a c := h.trans (below_mono h.size k)

def pairT (op : List UInt8) (x y : ByteArray) : ByteArray := ((⟨#[40]⟩ ++ x) ++ ⟨⟨op⟩⟩ ++ y) ++ ⟨#[41]⟩

set_option maxRecDepth 100000 in
set_option maxHeartbeats 1000000 in
theorem shows_eq (K : Nat → Prop) (w : World) (pb : Nat) (t1 t2 : ByteArray) (o1 o2 : Int) (s1 s2 : ByteArray) (a1 a2 : Option Addr) (m1 c1 m2 c2 : Nat)
    (hb : w.heap[pb]? = some (.cells #[.int .u8 o1, .string t1, .slice a1 m1 c1, .int .u8 o2, .string t2, .slice a2 m2 c2] 232)) (hne : K pb)
    (h1 : Shows K w (.agg #[.int .u8 o1, .string t1, .slice a1 m1 c1]) s1) (h2 : Shows K w (.agg #[.int .u8 o2, .string t2, .slice a2 m2 c2]) s2) (l1 : s1.size ≤ 200000) (l2 : s2.size ≤ 200000) :
    Shows K w (.agg #[.int .u8 61, .string ⟨#[]⟩, .slice (some ⟨pb, 0, none⟩) 2 2]) (pairT [61, 61] s1 s2) := by
  intro w' hl
  have hbl : Below w'.heap.size w' (w'.alloc (.cells #[.int .u8 61, .string ⟨#[]⟩, .slice (some ⟨pb, 0, none⟩) 2 2] 232)) := (Below.refl _ _).alloc (Nat.le_refl _) _
  have HL := hid (hl.below hbl)
  have HBL := hid hbl
  have HB := hid ((HL.out.block pb (heap_lt hb) hne).trans hb)
  have HE := hid (new_heap w' (.cells #[.int .u8 61, .string ⟨#[]⟩, .slice (some ⟨pb, 0, none⟩) 2 2] 232))
  have H1 := hid h1
  have H2 := hid h2
  have e0 := heap_cell (i := 0) HB.out
  have e1 := heap_cell (i := 1) HB.out
  have e2 := heap_cell (i := 2) HB.out
  simp only [List.getElem?_toArray, List.getElem?_cons_zero, List.getElem?_cons_succ] at e0 e1 e2
  clear h1 h2 hl hb hbl
  go_enter Tryz.func174, Tryz.ntmps174
  go_wp2_with fail
  refine (H1.out _ HL.out).mono ?_
  rintro e w1 ⟨rfl, hb1⟩
  have HB1 := hid hb1
  have HP1 := hid (below_heap hb1 (heap_lt HB.out) HB.out)
  have HE1 := hid (below_heap hb1 (heap_lt HE.out) HE.out)
  have g3 := heap_cell (i := 3) HP1.out
  have g4 := heap_cell (i := 4) HP1.out
  have g5 := heap_cell (i := 5) HP1.out
  have k0 := heap_cell (i := 0) HE1.out
  have k2 := heap_cell (i := 2) HE1.out
  simp only [List.getElem?_toArray, List.getElem?_cons_zero, List.getElem?_cons_succ] at g3 g4 g5 k0 k2
  clear hb1
  go_wp2_with fail
  refine (H2.out _ (HL.out.below HB1.out)).mono ?_
  rintro e w2 ⟨rfl, hb2⟩
  have HB2 := hid hb2
  clear hb2
  go_wp2
  go_ret
  exact ⟨rfl, below_seq (below_seq HBL.out HB1.out) HB2.out⟩

end Go.Proofs.YtfekglokoafpiaaGreatDoor

namespace Go.Proofs.YtfekglokoafpiaaGreatDoor
open Go.RowKit

/-- What the document keeps of a token that is an expr. -/
def shownT (t : ByteArray) : ByteArray := if numB t then stripT t else t

def Op2 (c : Int) (s : List UInt8) : Prop := (c = 61 ∧ s = [61, 61]) ∨ (c = 43 ∧ s = [43]) ∨ (c = 42 ∧ s = [42])

structure RepC (K : Nat → Prop) (w : World) (R : Nat → Value → Value → Prop) : Prop where
  leaf : ∀ (t : ByteArray) (x : Value) (ao : Option Addr) (m c : Nat), leafV t = some x → t.size ≤ 400 → R 1 (.agg #[.int .u8 0, .string (shownT t), .slice ao m c]) x
  pair : ∀ (oc : Int) (os : List UInt8) (pb n1 n2 : Nat) (o1 o2 : Int) (t1 t2 : ByteArray) (a1 a2 : Option Addr) (m1 c1 m2 c2 : Nat) (l r : Value), Op2 oc os →
    w.heap[pb]? = some (.cells #[.int .u8 o1, .string t1, .slice a1 m1 c1, .int .u8 o2, .string t2, .slice a2 m2 c2] 232) → K pb →
    R n1 (.agg #[.int .u8 o1, .string t1, .slice a1 m1 c1]) l → R n2 (.agg #[.int .u8 o2, .string t2, .slice a2 m2 c2]) r →
    R (n1 + n2 + 1) (.agg #[.int .u8 oc, .string ⟨#[]⟩, .slice (some ⟨pb, 0, none⟩) 2 2]) (mkPair ⟨⟨os⟩⟩ l r)
  choice : ∀ (pb n1 n2 n3 : Nat) (o1 o2 o3 : Int) (t1 t2 t3 : ByteArray) (a1 a2 a3 : Option Addr) (m1 c1 m2 c2 m3 c3 : Nat) (x y z : Value),
    w.heap[pb]? = some (.cells #[.int .u8 o1, .string t1, .slice a1 m1 c1, .int .u8 o2, .string t2, .slice a2 m2 c2, .int .u8 o3, .string t3, .slice a3 m3 c3] 232) → K pb →
    R n1 (.agg #[.int .u8 o1, .string t1, .slice a1 m1 c1]) x → R n2 (.agg #[.int .u8 o2, .string t2, .slice a2 m2 c2]) y → R n3 (.agg #[.int .u8 o3, .string t3, .slice a3 m3 c3]) z →
    R (n1 + n2 + n3 + 4) (.agg #[.int .u8 63, .string ⟨#[]⟩, .slice (some ⟨pb, 0, none⟩) 3 3]) (mkChoice x y z)

/-- The document's expr e and the program's x are one expr of n tokens at most (brackets aside). -/
def Rep (K : Nat → Prop) (w : World) (n : Nat) (e x : Value) : Prop := ∀ R : Nat → Value → Value → Prop, RepC K w R → R n e x

theorem rep_later {K : Nat → Prop} {n : Nat} {w w' : World} {e x : Value} (h : Rep K w n e x) (hl : Later K w w') : Rep K w' n e x := by
  intro R hR
  refine h R ⟨hR.leaf, ?_, ?_⟩
  · intro oc os pb n1 n2 o1 o2 t1 t2 a1 a2 m1 c1 m2 c2 l r ho hh hne h1 h2
    exact hR.pair oc os pb n1 n2 o1 o2 t1 t2 a1 a2 m1 c1 m2 c2 l r ho ((hl.block pb (heap_lt hh) hne).trans hh) hne h1 h2
  · intro pb n1 n2 n3 o1 o2 o3 t1 t2 t3 a1 a2 a3 m1 c1 m2 c2 m3 c3 x y z hh hne h1 h2 h3
    exact hR.choice pb n1 n2 n3 o1 o2 o3 t1 t2 t3 a1 a2 a3 m1 c1 m2 c2 m3 c3 x y z ((hl.block pb (heap_lt hh) hne).trans hh) hne h1 h2 h3

theorem rep_mono {K J : Nat → Prop} {n : Nat} {w : World} {e x : Value} (h : Rep K w n e x) (hJ : ∀ k, k < w.heap.size → K k → J k) : Rep J w n e x := by
  intro R hR
  refine h R ⟨hR.leaf, ?_, ?_⟩
  · intro oc os pb n1 n2 o1 o2 t1 t2 a1 a2 m1 c1 m2 c2 l r ho hh hne h1 h2
    exact hR.pair oc os pb n1 n2 o1 o2 t1 t2 a1 a2 m1 c1 m2 c2 l r ho hh (hJ pb (heap_lt hh) hne) h1 h2
  · intro pb n1 n2 n3 o1 o2 o3 t1 t2 t3 a1 a2 a3 m1 c1 m2 c2 m3 c3 x y z hh hne h1 h2 h3
    exact hR.choice pb n1 n2 n3 o1 o2 o3 t1 t2 t3 a1 a2 a3 m1 c1 m2 c2 m3 c3 x y z hh (hJ pb (heap_lt hh) hne) h1 h2 h3

theorem rep_leaf (K : Nat → Prop) (w : World) (t : ByteArray) (x : Value) (ao : Option Addr) (m c : Nat) (h : leafV t = some x) (ht : t.size ≤ 400) : Rep K w 1 (.agg #[.int .u8 0, .string (shownT t), .slice ao m c]) x :=
  fun _ hR => hR.leaf t x ao m c h ht

theorem rep_pair {K : Nat → Prop} {w : World} {oc : Int} {os : List UInt8} {pb n1 n2 : Nat} {o1 o2 : Int} {t1 t2 : ByteArray} {a1 a2 : Option Addr} {m1 c1 m2 c2 : Nat} {l r : Value} (ho : Op2 oc os)
    (hh : w.heap[pb]? = some (.cells #[.int .u8 o1, .string t1, .slice a1 m1 c1, .int .u8 o2, .string t2, .slice a2 m2 c2] 232)) (hne : K pb)
    (h1 : Rep K w n1 (.agg #[.int .u8 o1, .string t1, .slice a1 m1 c1]) l) (h2 : Rep K w n2 (.agg #[.int .u8 o2, .string t2, .slice a2 m2 c2]) r) :
    Rep K w (n1 + n2 + 1) (.agg #[.int .u8 oc, .string ⟨#[]⟩, .slice (some ⟨pb, 0, none⟩) 2 2]) (mkPair ⟨⟨os⟩⟩ l r) :=
  fun R hR => hR.pair oc os pb n1 n2 o1 o2 t1 t2 a1 a2 m1 c1 m2 c2 l r ho hh hne (h1 R hR) (h2 R hR)

theorem rep_choice {K : Nat → Prop} {w : World} {pb n1 n2 n3 : Nat} {o1 o2 o3 : Int} {t1 t2 t3 : ByteArray} {a1 a2 a3 : Option Addr} {m1 c1 m2 c2 m3 c3 : Nat} {x y z : Value}
    (hh : w.heap[pb]? = some (.cells #[.int .u8 o1, .string t1, .slice a1 m1 c1, .int .u8 o2, .string t2, .slice a2 m2 c2, .int .u8 o3, .string t3, .slice a3 m3 c3] 232)) (hne : K pb)
    (h1 : Rep K w n1 (.agg #[.int .u8 o1, .string t1, .slice a1 m1 c1]) x) (h2 : Rep K w n2 (.agg #[.int .u8 o2, .string t2, .slice a2 m2 c2]) y) (h3 : Rep K w n3 (.agg #[.int .u8 o3, .string t3, .slice a3 m3 c3]) z) :
    Rep K w (n1 + n2 + n3 + 4) (.agg #[.int .u8 63, .string ⟨#[]⟩, .slice (some ⟨pb, 0, none⟩) 3 3]) (mkChoice x y z) :=
  fun R hR => hR.choice pb n1 n2 n3 o1 o2 o3 t1 t2 t3 a1 a2 a3 m1 c1 m2 c2 m3 c3 x y z hh hne (h1 R hR) (h2 R hR) (h3 R hR)

theorem P_lt {toks : List Tok} (hw : Wf toks) : ∀ (f tag nest a : Nat) (acc : Value) (z : Nat × Option Value), P toks f tag nest a acc = some z → a < toks.length → z.1 < toks.length := by
  intro f
  induction f with
  | zero => intro tag nest a acc z h; simp [P] at h
  | succ f ih =>
    intro tag nest a acc z h ha
    match tag, h with
    | 0, h =>
      simp only [P] at h
      rcases andP_cases h with ⟨c, h1, rfl⟩ | ⟨c, x, h1, h2⟩
      · exact ih _ _ _ _ _ h1 ha
      · have hc : c < toks.length := ih _ _ _ _ _ h1 ha
        cases ht : isT toks c [61, 61] with
        | true =>
          rw [ht, if_pos rfl] at h2
          have hn := hw.next_isT hc ht
          rcases andP_cases h2 with ⟨d, h3, rfl⟩ | ⟨d, y, h3, h4⟩
          · exact ih _ _ _ _ _ h3 hn
          · have := ih _ _ _ _ _ h3 hn
            cases h4; exact this
        | false => rw [ht, if_neg (by simp)] at h2; cases h2; exact hc
    | 1, h =>
      simp only [P] at h
      rcases andP_cases h with ⟨c, h1, rfl⟩ | ⟨c, x, h1, h2⟩
      · exact ih _ _ _ _ _ h1 ha
      · exact ih _ _ _ _ _ h2 (ih _ _ _ _ _ h1 ha)
    | 2, h =>
      simp only [P] at h
      rcases andP_cases h with ⟨c, h1, rfl⟩ | ⟨c, x, h1, h2⟩
      · exact ih _ _ _ _ _ h1 ha
      · exact ih _ _ _ _ _ h2 (ih _ _ _ _ _ h1 ha)
    | 3, h =>
      simp only [P] at h
      cases ht : isT toks a [40] with
      | true =>
        rw [ht, if_pos rfl] at h
        have hn := hw.next_isT ha ht
        split at h
        · cases h; exact ha
        · rcases andP_cases h with ⟨c, h1, rfl⟩ | ⟨c, x, h1, h2⟩
          · exact ih _ _ _ _ _ h1 hn
          · have hc : c < toks.length := ih _ _ _ _ _ h1 hn
            cases h5 : isT toks c [41] with
            | true => rw [h5, if_pos rfl] at h2; cases h2; exact hw.next_isT hc h5
            | false => rw [h5, if_neg (by simp)] at h2; cases h2; exact hc
      | false =>
        rw [ht, if_neg (by simp)] at h
        cases h6 : isT toks a [105, 102] with
        | true =>
          rw [h6, if_pos rfl] at h
          have hn := hw.next_isT ha h6
          split at h
          · cases h; exact ha
          · rcases andP_cases h with ⟨c, h1, rfl⟩ | ⟨c, x, h1, h2⟩
            · exact ih _ _ _ _ _ h1 hn
            · have hc : c < toks.length := ih _ _ _ _ _ h1 hn
              cases h7 : isT toks c [116, 104, 101, 110] with
              | false => rw [h7, if_neg (by simp)] at h2; cases h2; exact hc
              | true =>
                rw [h7, if_pos rfl] at h2
                have hn2 := hw.next_isT hc h7
                rcases andP_cases h2 with ⟨d, h3, rfl⟩ | ⟨d, y, h3, h4⟩
                · exact ih _ _ _ _ _ h3 hn2
                · have hd : d < toks.length := ih _ _ _ _ _ h3 hn2
                  cases h8 : isT toks d [101, 108, 115, 101] with
                  | false => rw [h8, if_neg (by simp)] at h4; cases h4; exact hd
                  | true =>
                    rw [h8, if_pos rfl] at h4
                    have hn3 := hw.next_isT hd h8
                    rcases andP_cases h4 with ⟨g, h9, rfl⟩ | ⟨g, q, h9, h10⟩
                    · exact ih _ _ _ _ _ h9 hn3
                    · have hg : g < toks.length := ih _ _ _ _ _ h9 hn3
                      cases h11 : isT toks g [101, 110, 100] with
                      | false => rw [h11, if_neg (by simp)] at h10; cases h10; exact hg
                      | true => rw [h11, if_pos rfl] at h10; cases h10; exact hw.next_isT hg h11
        | false =>
          rw [h6, if_neg (by simp)] at h
          cases hl : leafV (tx toks a) with
          | none => rw [hl] at h; cases h; exact ha
          | some v => rw [hl] at h; cases h; exact hw.next ha (leafV_ne hl)
    | 4, h =>
      simp only [P] at h
      cases ht : isT toks a [43] with
      | true =>
        rw [ht, if_pos rfl] at h
        have hn := hw.next_isT ha ht
        rcases andP_cases h with ⟨c, h1, rfl⟩ | ⟨c, x, h1, h2⟩
        · exact ih _ _ _ _ _ h1 hn
        · exact ih _ _ _ _ _ h2 (ih _ _ _ _ _ h1 hn)
      | false => rw [ht, if_neg (by simp)] at h; cases h; exact ha
    | n + 5, h =>
      simp only [P] at h
      cases ht : isT toks a [42] with
      | true =>
        rw [ht, if_pos rfl] at h
        have hn := hw.next_isT ha ht
        rcases andP_cases h with ⟨c, h1, rfl⟩ | ⟨c, x, h1, h2⟩
        · exact ih _ _ _ _ _ h1 hn
        · exact ih _ _ _ _ _ h2 (ih _ _ _ _ _ h1 hn)
      | false => rw [ht, if_neg (by simp)] at h; cases h; exact ha

end Go.Proofs.YtfekglokoafpiaaGreatDoor
