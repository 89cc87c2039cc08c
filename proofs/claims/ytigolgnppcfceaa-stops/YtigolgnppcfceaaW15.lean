/-
  THE WALK of Stops.
-/
import Derived.Test.YtigolgnppcfceaaW14
import Derived.Deep.RegionWith
namespace Go.Proofs.Ytigolgnppcfceaa
open Go.RowKit

theorem wrap64_bd (x : Int) : wrap64 x ≤ 9223372036854775807 := by
  simp only [wrap64]; omega

theorem start_st (w : World) : EnvW w (((w.alloc (.cells #[.map none, .int .i64 0, .map none, .map none, .slice none 0 0, .slice none 0 0, .int .u64 0] 52)).alloc (.cells #[.slice none 0 0, .slice none 0 0, .int .i64 0, .int .i64 0, .slice none 0 0] 31)).alloc (.cells #[.pointer (some ⟨w.heap.size, 0, none⟩), .pointer (some ⟨w.heap.size + 1, 0, none⟩)] 33)) ∧
    St w.heap.size (w.heap.size + 1 + 1) w.heap.size (w.heap.size + 1) (((w.alloc (.cells #[.map none, .int .i64 0, .map none, .map none, .slice none 0 0, .slice none 0 0, .int .u64 0] 52)).alloc (.cells #[.slice none 0 0, .slice none 0 0, .int .i64 0, .int .i64 0, .slice none 0 0] 31)).alloc (.cells #[.pointer (some ⟨w.heap.size, 0, none⟩), .pointer (some ⟨w.heap.size + 1, 0, none⟩)] 33)).heap ∧
    Near w.heap.size (w.heap.size + 1 + 1) w.heap.size (w.heap.size + 1) := by
  obtain ⟨o1, e1⟩ : ∃ o, o = Obj.cells #[.map none, .int .i64 0, .map none, .map none, .slice none 0 0, .slice none 0 0, .int .u64 0] 52 := ⟨_, rfl⟩
  obtain ⟨o2, e2⟩ : ∃ o, o = Obj.cells #[.slice none 0 0, .slice none 0 0, .int .i64 0, .int .i64 0, .slice none 0 0] 31 := ⟨_, rfl⟩
  obtain ⟨o3, e3⟩ : ∃ o, o = Obj.cells #[.pointer (some ⟨w.heap.size, 0, none⟩), .pointer (some ⟨w.heap.size + 1, 0, none⟩)] 33 := ⟨_, rfl⟩
  rw [← e1, ← e2, ← e3]
  have h1 := MapKept.heap_alloc w o1
  have h2 := MapKept.heap_alloc (w.alloc o1) o2
  have h3 := MapKept.heap_alloc ((w.alloc o1).alloc o2) o3
  have s1 : (w.alloc o1).heap.size = w.heap.size + 1 := by simp
  have s2 : ((w.alloc o1).alloc o2).heap.size = w.heap.size + 1 + 1 := by simp
  rw [s1] at h2
  rw [s2] at h3
  refine ⟨EnvW.of_below ((((Below.refl _ _).alloc (Nat.le_refl _) _).alloc (by simp) _).alloc (by simp; omega) _), .inl ⟨?_, ?_, ?_⟩, ⟨by omega, by omega, by omega, by omega⟩⟩
  · exact e3 ▸ h3.1
  · exact (h3.2 _ (by omega)).trans ((h2.2 _ (by omega)).trans (e1 ▸ h1.1))
  · exact (h3.2 _ (by omega)).trans (e2 ▸ h2.1)

theorem pcell0 {w : World} {bp bs br : Nat} (h : w.heap[bp]? = some (pBlk bs br)) : w.cell? ⟨bp, 0, none⟩ = some (.pointer (some ⟨bs, 0, none⟩)) := heap_cell h
theorem pcell1 {w : World} {bp bs br : Nat} (h : w.heap[bp]? = some (pBlk bs br)) : w.cell? ⟨bp, 1, none⟩ = some (.pointer (some ⟨br, 0, none⟩)) := heap_cell h
theorem st_p {B bp bs br : Nat} {hp : Array Obj} (h : St B bp bs br hp) : hp[bp]? = some (pBlk bs br) := by
  rcases h with h | ⟨_, _, _, _, _, _, _, _, _, _, _, _, h⟩
  · exact h.p
  · exact h.p

theorem hid {p : Prop} (h : p) : Hid p := h

set_option maxHeartbeats 2000000 in
theorem stops_any (n : Int) (text other : ByteArray) (w : World) (hn1 : -9223372036854775808 ≤ n) (hn2 : n ≤ 9223372036854775807) (ht : text.size ≤ maxLen) (ho : other.size ≤ maxLen) :
    Calls Try.prog 3 #[.int .i64 n, .string text, .string other] w fun e w' => e = .returned (.bool true) ∧ Below w.heap.size w w' := by
  have HT : Hid (text.size ≤ maxLen) := ht
  have HO : Hid (other.size ≤ maxLen) := ho
  clear ht ho
  by_cases hneg : n < 0
  · go_enter Try.func3, Try.ntmps3
    go_wp2_with (go_at_call 4; go_must (refine (new_any _).mono ?_; rintro e w' ⟨rfl, rfl⟩))
    generalize hN : wrap64 (990 + -(n + 1).tmod 20) = N
    have hN2 : N ≤ 9223372036854775807 := by rw [← hN]; exact wrap64_bd _
    clear hN hneg hn1 hn2
    have hst := start_st w
    have HN : Hid (Near w.heap.size (w.heap.size + 1 + 1) w.heap.size (w.heap.size + 1)) := hst.2.2
    go_loopw [8] (fun i wr => ∃ k : Int, 0 ≤ k ∧ i = .int .i64 k ∧ EnvW w wr ∧ St w.heap.size (w.heap.size + 1 + 1) w.heap.size (w.heap.size + 1) wr.heap) (fun i _ => (N - intOf i).toNat)
    case atStart => exact ⟨0, by omega, rfl, hst.1, hst.2.1⟩
    case round =>
      clear hst
      obtain ⟨k, hk, rfl, hE, hS⟩ := hrel
      have c0 := pcell0 (st_p hS)
      by_cases hlt : k < N
      · by_cases hpar : (k % 2 == 1) = true
        · obtain ⟨c, Q, h5, hQ, h7⟩ := both w wr (w.heap.size + 1 + 1) w.heap.size (w.heap.size + 1) other HO.out hE HN.out hS
          have H5 := hid h5
          have H7 := hid h7
          have HQ := hid hQ
          clear h5 h7 hQ hE hS
          go_wp2_with (go_at_call 5; go_must (refine H5.out.mono ?_; rintro e w1 ⟨rfl, hE1, hQ1⟩; have c1 := pcell1 (HQ.out _ hQ1); have HE1 := hid hE1; have HQ1 := hid hQ1; clear hE1 hQ1))
          go_region_with (first
            | (go_at_call 6; go_must (refine (num_any _ _).mono ?_; rintro e w4 ⟨rfl, rfl⟩))
            | (go_at_call 7; go_must (refine (H7.out _ (by exact HE1.out) (by exact HQ1.out)).mono ?_; rintro e w2 ⟨rfl, hE2, hS2⟩; have HE2 := hid hE2; have HS2 := hid hS2; clear hE2 hS2)))
          all_goals go_wp2
          all_goals exact ⟨⟨k + 1, by omega, rfl, HE2.out, HS2.out⟩, by simp [intOf]; omega⟩
        · have hpar' : (k % 2 == 1) = false := by simpa using hpar
          clear hpar
          obtain ⟨c, Q, h5, hQ, h7⟩ := both w wr (w.heap.size + 1 + 1) w.heap.size (w.heap.size + 1) text HT.out hE HN.out hS
          have H5 := hid h5
          have H7 := hid h7
          have HQ := hid hQ
          clear h5 h7 hQ hE hS
          go_wp2_with (go_at_call 5; go_must (refine H5.out.mono ?_; rintro e w1 ⟨rfl, hE1, hQ1⟩; have c1 := pcell1 (HQ.out _ hQ1); have HE1 := hid hE1; have HQ1 := hid hQ1; clear hE1 hQ1))
          go_region_with (first
            | (go_at_call 6; go_must (refine (num_any _ _).mono ?_; rintro e w4 ⟨rfl, rfl⟩))
            | (go_at_call 7; go_must (refine (H7.out _ (by exact HE1.out) (by exact HQ1.out)).mono ?_; rintro e w2 ⟨rfl, hE2, hS2⟩; have HE2 := hid hE2; have HS2 := hid hS2; clear hE2 hS2)))
          all_goals go_wp2
          all_goals exact ⟨⟨k + 1, by omega, rfl, HE2.out, HS2.out⟩, by simp [intOf]; omega⟩
      · obtain ⟨c, Q, h8, hQ, h9⟩ := gone w wr (w.heap.size + 1 + 1) w.heap.size (w.heap.size + 1) hE HN.out hS
        have H8 := hid h8
        have H9 := hid h9
        have HQ := hid hQ
        clear h8 h9 hQ hE hS
        go_wp2_with (first
          | (go_at_call 8; go_must (refine H8.out.mono ?_; rintro e w1 ⟨rfl, hE1, hQ1⟩; have c1 := pcell1 (HQ.out _ hQ1); have HE1 := hid hE1; have HQ1 := hid hQ1; clear hE1 hQ1))
          | (go_at_call 9; go_must (refine (H9.out _ (by exact HE1.out) (by exact HQ1.out)).mono ?_; rintro e w2 ⟨rfl, hE2, hF2⟩; have HE2 := hid hE2; have HF2 := hid hF2; clear hE2 hF2))
          | (go_at_call 10; go_must (refine (looked _ _ _ _ HF2.out).mono ?_; rintro e w3 ⟨rfl, hb3⟩; have HB3 := hid hb3; clear hb3))
          | (go_at_call 6; go_must (refine (num_any _ _).mono ?_; rintro e w4 ⟨rfl, rfl⟩)))
        go_ret
        exact ⟨by simp, EnvW.below (EnvW.grow HE2.out HB3.out)⟩
  · go_enter Try.func3, Try.ntmps3
    go_wp2_with (go_at_call 4; go_must (refine (new_any _).mono ?_; rintro e w' ⟨rfl, rfl⟩))
    generalize hN : 990 + n % 20 = N
    have hN2 : N ≤ 9223372036854775807 := by omega
    clear hN hneg hn1 hn2
    have hst := start_st w
    have HN : Hid (Near w.heap.size (w.heap.size + 1 + 1) w.heap.size (w.heap.size + 1)) := hst.2.2
    go_loopw [8] (fun i wr => ∃ k : Int, 0 ≤ k ∧ i = .int .i64 k ∧ EnvW w wr ∧ St w.heap.size (w.heap.size + 1 + 1) w.heap.size (w.heap.size + 1) wr.heap) (fun i _ => (N - intOf i).toNat)
    case atStart => exact ⟨0, by omega, rfl, hst.1, hst.2.1⟩
    case round =>
      clear hst
      obtain ⟨k, hk, rfl, hE, hS⟩ := hrel
      have c0 := pcell0 (st_p hS)
      by_cases hlt : k < N
      · by_cases hpar : (k % 2 == 1) = true
        · obtain ⟨c, Q, h5, hQ, h7⟩ := both w wr (w.heap.size + 1 + 1) w.heap.size (w.heap.size + 1) other HO.out hE HN.out hS
          have H5 := hid h5
          have H7 := hid h7
          have HQ := hid hQ
          clear h5 h7 hQ hE hS
          go_wp2_with (go_at_call 5; go_must (refine H5.out.mono ?_; rintro e w1 ⟨rfl, hE1, hQ1⟩; have c1 := pcell1 (HQ.out _ hQ1); have HE1 := hid hE1; have HQ1 := hid hQ1; clear hE1 hQ1))
          go_region_with (first
            | (go_at_call 6; go_must (refine (num_any _ _).mono ?_; rintro e w4 ⟨rfl, rfl⟩))
            | (go_at_call 7; go_must (refine (H7.out _ (by exact HE1.out) (by exact HQ1.out)).mono ?_; rintro e w2 ⟨rfl, hE2, hS2⟩; have HE2 := hid hE2; have HS2 := hid hS2; clear hE2 hS2)))
          all_goals go_wp2
          all_goals exact ⟨⟨k + 1, by omega, rfl, HE2.out, HS2.out⟩, by simp [intOf]; omega⟩
        · have hpar' : (k % 2 == 1) = false := by simpa using hpar
          clear hpar
          obtain ⟨c, Q, h5, hQ, h7⟩ := both w wr (w.heap.size + 1 + 1) w.heap.size (w.heap.size + 1) text HT.out hE HN.out hS
          have H5 := hid h5
          have H7 := hid h7
          have HQ := hid hQ
          clear h5 h7 hQ hE hS
          go_wp2_with (go_at_call 5; go_must (refine H5.out.mono ?_; rintro e w1 ⟨rfl, hE1, hQ1⟩; have c1 := pcell1 (HQ.out _ hQ1); have HE1 := hid hE1; have HQ1 := hid hQ1; clear hE1 hQ1))
          go_region_with (first
            | (go_at_call 6; go_must (refine (num_any _ _).mono ?_; rintro e w4 ⟨rfl, rfl⟩))
            | (go_at_call 7; go_must (refine (H7.out _ (by exact HE1.out) (by exact HQ1.out)).mono ?_; rintro e w2 ⟨rfl, hE2, hS2⟩; have HE2 := hid hE2; have HS2 := hid hS2; clear hE2 hS2)))
          all_goals go_wp2
          all_goals exact ⟨⟨k + 1, by omega, rfl, HE2.out, HS2.out⟩, by simp [intOf]; omega⟩
      · obtain ⟨c, Q, h8, hQ, h9⟩ := gone w wr (w.heap.size + 1 + 1) w.heap.size (w.heap.size + 1) hE HN.out hS
        have H8 := hid h8
        have H9 := hid h9
        have HQ := hid hQ
        clear h8 h9 hQ hE hS
        go_wp2_with (first
          | (go_at_call 8; go_must (refine H8.out.mono ?_; rintro e w1 ⟨rfl, hE1, hQ1⟩; have c1 := pcell1 (HQ.out _ hQ1); have HE1 := hid hE1; have HQ1 := hid hQ1; clear hE1 hQ1))
          | (go_at_call 9; go_must (refine (H9.out _ (by exact HE1.out) (by exact HQ1.out)).mono ?_; rintro e w2 ⟨rfl, hE2, hF2⟩; have HE2 := hid hE2; have HF2 := hid hF2; clear hE2 hF2))
          | (go_at_call 10; go_must (refine (looked _ _ _ _ HF2.out).mono ?_; rintro e w3 ⟨rfl, hb3⟩; have HB3 := hid hb3; clear hb3))
          | (go_at_call 6; go_must (refine (num_any _ _).mono ?_; rintro e w4 ⟨rfl, rfl⟩)))
        go_ret
        exact ⟨by simp, EnvW.below (EnvW.grow HE2.out HB3.out)⟩
end Go.Proofs.Ytigolgnppcfceaa
