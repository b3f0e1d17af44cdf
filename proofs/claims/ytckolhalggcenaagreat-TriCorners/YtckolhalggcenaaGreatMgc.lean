/- The reference's amounts: bits, cmp, neg, Is, Bits. -/
import Derived.Test.YtckolhalggcenaaGreatMgv
import Derived.BigQuiet
import Derived.Deep.QuietTactic
namespace Go.Proofs.YtckolhalggcenaaGreat
set_option linter.unusedSimpArgs false
set_option linter.unusedVariables false
open Go.RowKit
set_option maxRecDepth 100000
theorem bitLen_half {x : Nat} (h : x ≠ 0) : bitLen x = bitLen (x / 2) + 1 := by
  by_cases h1 : x / 2 = 0
  · obtain rfl : x = 1 := by omega
    decide
  · have := bitLen_shift x 1 (by rwa [Nat.pow_one])
    rw [Nat.pow_one] at this
    omega
theorem bitLen_le32 {x : Nat} (h : x ≤ 4294967295) : bitLen x ≤ 32 := by
  have := (sz_bits (k := 32) (x := (x : Int))).2 (by unfold Sz; omega)
  exact this
theorem top_dig {M k : Nat} (h : M < bb ^ (k + 1)) : M / bb ^ k = dig M k := by
  unfold dig
  rw [Nat.mod_eq_of_lt]
  rw [Nat.div_lt_iff_lt_mul (Nat.pow_pos bb_pos), Nat.mul_comm, ← Nat.pow_succ]
  exact h
theorem bits_top {M k : Nat} (h : nw M = k + 1) : dig M k ≠ 0 ∧ bitLen M = 32 * k + bitLen (dig M k) := by
  have hlt : M < bb ^ (k + 1) := h ▸ nw_lt M
  have h0 : M ≠ 0 := fun e => by have := nw_zero.2 e; omega
  have hge := nw_le M h0
  rw [h] at hge
  have e := top_dig hlt
  have hne : M / bb ^ k ≠ 0 := by
    rw [Nat.add_sub_cancel] at hge
    exact Nat.ne_of_gt (Nat.div_pos hge (Nat.pow_pos bb_pos))
  exact ⟨by rw [← e]; exact hne, by rw [bitLen_words hne, e]⟩
set_option maxHeartbeats 1000000 in
theorem bits_any {v : Value} {M : Nat} {w : World} (h : Mv w v M) (hn : nw M ≤ 1000) : Calls Tryz.prog 83 #[v] w fun e w' => e = .returned (.int .i64 (bitLen M : Nat)) ∧ w' = w := by
  obtain ⟨p, c, rfl, hc, hx⟩ := h.old
  obtain ⟨k, hk⟩ : ∃ k, nw M = k := ⟨_, rfl⟩
  rw [hk] at hx hn hc ⊢
  rcases k with _ | j
  · have h0 : M = 0 := nw_zero.1 hk
    subst h0
    clear hx
    go_enter Tryz.func83, Tryz.ntmps83
    go_wp2
    go_ret
    exact ⟨rfl, rfl⟩
  · obtain ⟨b, rfl, hl, hcell⟩ := hx (by omega)
    obtain ⟨hd, hB⟩ := bits_top hk
    have HB := Lib.hid hB
    have HD := Lib.hid hd
    have c1 := hcell j (by omega)
    have d0 := dig_le M j
    clear hcell hB hd hx hk
    generalize dig M j = x at *
    go_enter Tryz.func83, Tryz.ntmps83
    go_wp2
    go_loop [3, 4] (fun n y => ∃ k z : Nat, n = .int .i64 k ∧ y = .int .u32 z ∧ k + bitLen z = bitLen M ∧ k ≤ 40000 ∧ z ≤ 4294967295 ∧ k + bitLen z ≤ 32000 + 64) (fun _ y => (intOf y).toNat)
    case atStart =>
      have hb32 : bitLen x ≤ 32 := bitLen_le32 d0
      exact ⟨32 * j, x, by go_num, rfl, HB.out.symm, by omega, d0, by omega⟩
    case round =>
      obtain ⟨k, z, rfl, rfl, e, hk, hz, hs⟩ := hrel
      have E := Lib.hid e
      have HS := Lib.hid hs
      clear e hs
      by_cases h0 : z = 0
      · subst h0
        go_wp2
        go_ret
        have := E.out
        rw [show bitLen 0 = 0 from rfl, Nat.add_zero] at this
        rw [this]
        exact ⟨rfl, rfl⟩
      · have H0 := bitLen_half h0
        have hz' : (0 : Int) < (z : Int) := by omega
        have EZ := Lib.hid H0
        clear H0
        go_wp2
        go_round
        case rel => exact ⟨k + 1, z / 2, by go_num, by go_num, by have := E.out; have := EZ.out; omega, by have := HS.out; have := EZ.out; omega, by omega, by have := HS.out; have := EZ.out; omega⟩
        case measure => simp [intOf]; omega
set_option maxHeartbeats 1000000 in
theorem cmp_any {u v : Value} {A B : Nat} {w : World} (h : Mv w u A) (h' : Mv w v B) (hn : nw A ≤ 1000) (hm : nw B ≤ 1000) : Calls Tryz.prog 43 #[u, v] w fun e w' => e = .returned (.int .i64 (cmpv A B)) ∧ Below w.heap.size w w' := by
  obtain ⟨p, c, rfl, hc, hx⟩ := h.old
  obtain ⟨q, d, rfl, hd, hy⟩ := h'.old
  by_cases hk : nw A = nw B
  · obtain ⟨n, hk'⟩ : ∃ n, nw B = n := ⟨_, rfl⟩
    have HA := Lib.hid (nw_lt A)
    have HB := Lib.hid (nw_lt B)
    rw [hk, hk'] at hx
    rw [hk] at HA hc hn
    rw [hk] 
    rw [hk'] at hy HA HB hc hd hn hm ⊢
    have HE : Hid (A / bb ^ n = B / bb ^ n) := by
      show A / bb ^ n = B / bb ^ n
      rw [Nat.div_eq_of_lt HA.out, Nat.div_eq_of_lt HB.out]
    have HX := Lib.hid hx
    have HY := Lib.hid hy
    clear hk hk' HA HB hx hy
    go_enter Tryz.func43, Tryz.ntmps43
    go_wp2
    go_loopw [5] (fun i wr => ∃ k : Nat, k ≤ n ∧ i = .int .i64 ((k : Int) - 1) ∧ A / bb ^ k = B / bb ^ k ∧ Below w.heap.size w wr) (fun i _ => (intOf i + 1).toNat)
    case atStart => exact ⟨n, by omega, by go_num, HE.out, Below.refl _ _⟩
    case round =>
      obtain ⟨k, hk, rfl, he, hb⟩ := hrel
      have HK := Lib.hid he
      clear he
      rcases Nat.eq_zero_or_pos k with rfl | hp
      · go_wp2
        go_ret
        refine ⟨ret_int ?_, hb⟩
        have := HK.out
        simp at this
        simp [cmpv, this]
      · obtain ⟨j, rfl⟩ : ∃ j, k = j + 1 := ⟨k - 1, by omega⟩
        rw [show ((j + 1 : Nat) : Int) - 1 = (j : Int) by omega]
        obtain ⟨b0, rfl, l0, x0⟩ := HX.out (by omega)
        obtain ⟨b1, rfl, l1, x1⟩ := HY.out (by omega)
        have c0 := (hb.cell (p := ⟨b0, j, none⟩) l0).trans (x0 j (by omega))
        have c1 := (hb.cell (p := ⟨b1, j, none⟩) l1).trans (x1 j (by omega))
        have d0 := dig_le A j
        have d1 := dig_le B j
        have hjn : (j : Int) < (n : Int) := by omega
        clear HX HY x0 x1
        rcases Nat.lt_trichotomy (dig A j) (dig B j) with h | h | h
        · go_wp2_with fail
          go_quiet (fail)
          go_wp2
          go_ret
          exact ⟨ret_int (by simp [cmpv, lt_of_word HK.out h]), below_drewN hb _⟩
        · have h1 : ¬ (dig A j : Int) < dig B j := by omega
          have h2 : ¬ (dig B j : Int) < dig A j := by omega
          have HH := Lib.hid h
          clear h
          go_wp2_with fail
          go_quiet (fail)
          go_wp2_with fail
          go_quiet (fail)
          go_wp2
          go_roundw
          case rel => exact ⟨j, by omega, rfl, eq_of_word HK.out HH.out, below_drewN hb _⟩
          case measure => simp [intOf]
        · have h1 : ¬ (dig A j : Int) < dig B j := by omega
          go_wp2_with fail
          go_quiet (fail)
          go_wp2_with fail
          go_quiet (fail)
          go_wp2
          go_ret
          have hl := lt_of_word HK.out.symm h
          exact ⟨ret_int (by simp [cmpv, hl]; omega), below_drewN (below_drewN hb _) _⟩
  · have hne : A ≠ B := fun e => hk (by rw [e])
    have hcmp : cmpv A B = if nw A < nw B then -1 else 1 := by
      split
      · rename_i h
        have h1 : A < B := by
          have hB0 : B ≠ 0 := fun e => by rw [nw_zero.2 e] at h; omega
          exact Nat.lt_of_lt_of_le (nw_lt A) (Nat.le_trans (Nat.pow_le_pow_right bb_pos (by omega)) (nw_le B hB0))
        simp [cmpv, h1]
      · rename_i h
        have h1 : B < A := by
          have hA0 : A ≠ 0 := fun e => by rw [nw_zero.2 e] at h hk; omega
          exact Nat.lt_of_lt_of_le (nw_lt B) (Nat.le_trans (Nat.pow_le_pow_right bb_pos (by omega)) (nw_le A hA0))
        simp [cmpv, h1]; omega
    rw [hcmp]
    clear hx hy hcmp hne
    generalize nw A = n at *
    generalize nw B = m at *
    have hk' : ¬ (n : Int) = (m : Int) := by omega
    by_cases h : n < m
    · have h' : (n : Int) < (m : Int) := by omega
      rw [if_pos h]
      go_enter Tryz.func43, Tryz.ntmps43
      go_wp2
      go_ret
      exact ⟨rfl, Below.refl _ _⟩
    · have h' : ¬ (n : Int) < (m : Int) := by omega
      rw [if_neg h]
      go_enter Tryz.func43, Tryz.ntmps43
      go_wp2
      go_ret
      exact ⟨rfl, Below.refl _ _⟩
end Go.Proofs.YtckolhalggcenaaGreat
