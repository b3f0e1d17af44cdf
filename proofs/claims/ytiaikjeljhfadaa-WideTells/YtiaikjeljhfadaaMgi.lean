/- Int: the reference's; what isn't an int. -/
import Derived.Test.YtiaikjeljhfadaaMgy
import Derived.Test.YtiaikjeljhfadaaInt
namespace Go.Proofs.Ytiaikjeljhfadaa
set_option linter.unusedSimpArgs false
set_option linter.unusedVariables false
open Go.RowKit
set_option maxRecDepth 100000
set_option maxHeartbeats 1000000 in
theorem Int_no (s : Bool) {N : Nat} (hN : N < bb ^ 32) (h : ¬ (-9223372036854775808 ≤ zn s N ∧ zn s N ≤ 9223372036854775807)) : Tl 23 #[.agg (wd s N).toArray] (.tuple #[.int .i64 0, .bool false]) := fun w => by
  have HN := Lib.hid hN
  have b0 := Blk.new w (wd s N) 25 rfl
  have hb : Below w.heap.size w (w.alloc (.cells (wd s N).toArray 25)) := (Below.refl _ _).alloc (Nat.le_refl _) _
  by_cases h2 : nw N ≤ 2
  · have hN2 : N < bb ^ 2 := Nat.lt_of_lt_of_le (nw_lt N) (bp_mono h2)
    have HN2 : Hid (N % bb ^ 2 = N) := Nat.mod_eq_of_lt hN2
    have hw : ¬ (2 : Int) < (nw N : Int) := by omega
    have hN4 : N < 18446744073709551616 := by rw [bb_eq] at hN2; omega
    clear hN hN2 h2
    obtain ⟨m, hm⟩ : ∃ m, nw N = m := ⟨_, rfl⟩
    have EM := Lib.hid hm
    rw [hm] at hw
    clear hm
    cases s
    · have h3 : ¬ (N : Int) ≤ 9223372036854775807 := by unfold zn at h; simp at h; omega
      clear h
      go_enter Try.func23, Try.ntmps23
      go_wp2_with (first | (with_reducible refine ldD rfl rfl rfl b0 ?_))
      refine (length_any N _ HN.out).mono ?_
      rintro e w1 ⟨rfl, hb1⟩
      rw [EM.out]
      replace b0 := b0.call hb1
      replace hb := bthen hb hb1
      clear hb1
      go_wp2_with (first | (with_reducible refine ldD rfl rfl rfl b0 ?_))
      refine (lowUint_small N HN2.out _).mono ?_
      rintro e w2 ⟨rfl, hb2⟩
      replace b0 := b0.call hb2
      replace hb := bthen hb hb2
      clear hb2
      have c0 := b0.cell (wd_sign false N)
      go_wp2
      go_ret2
      exact ⟨rfl, hb⟩
    · have h3 : ¬ (N : Int) ≤ 9223372036854775808 := by unfold zn at h; simp at h; omega
      have h4 : ¬ (N : Int) ≤ 9223372036854775807 := by omega
      have h5 : decide ((N : Int) ≤ 9223372036854775808) = false := decide_eq_false h3
      clear h
      go_enter Try.func23, Try.ntmps23
      go_wp2_with (first | (with_reducible refine ldD rfl rfl rfl b0 ?_))
      refine (length_any N _ HN.out).mono ?_
      rintro e w1 ⟨rfl, hb1⟩
      rw [EM.out]
      replace b0 := b0.call hb1
      replace hb := bthen hb hb1
      clear hb1
      go_wp2_with (first | (with_reducible refine ldD rfl rfl rfl b0 ?_))
      refine (lowUint_small N HN2.out _).mono ?_
      rintro e w2 ⟨rfl, hb2⟩
      replace b0 := b0.call hb2
      replace hb := bthen hb hb2
      clear hb2
      have c0 := b0.cell (wd_sign true N)
      go_wp2
      go_ret2
      exact ⟨rfl, hb⟩
  · have hw : (2 : Int) < (nw N : Int) := by omega
    clear hN h h2
    go_enter Try.func23, Try.ntmps23
    go_wp2_with (first | (with_reducible refine ldD rfl rfl rfl b0 ?_))
    refine (length_any N _ HN.out).mono ?_
    rintro e w1 ⟨rfl, hb1⟩
    replace hb := bthen hb hb1
    clear hb1
    go_wp2
    go_ret2
    exact ⟨rfl, hb⟩
set_option maxHeartbeats 2000000 in
theorem Intref_any (s : Bool) {N : Nat} (hN : N < bb ^ 32) : ∃ (j : Int) (o : Bool), ((-9223372036854775808 ≤ zn s N ∧ zn s N ≤ 9223372036854775807 ∧ o = true ∧ j = zn s N) ∨ (¬ (-9223372036854775808 ≤ zn s N ∧ zn s N ≤ 9223372036854775807) ∧ o = false)) ∧ Tl 24 #[.agg (wd s N).toArray] (.tuple #[.int .i64 j, .bool o]) := by
  have N1 := Lib.hid (fun w => negref_any s hN w)
  have O1 := Lib.hid (fun w => of_any s hN w)
  obtain ⟨sn, hsn⟩ : ∃ sn : Bool, (s && decide (N ≠ 0)) = sn := ⟨_, rfl⟩
  have hs1 := zn_neg s N
  rw [hsn] at N1 hs1
  have hs2 : sn = true → N ≠ 0 := fun h => by rw [h] at hsn; simp at hsn; exact hsn.2
  rw [← hs1]
  clear hsn hs1
  by_cases h2 : nw N ≤ 2
  · have hN2 : N < bb ^ 2 := Nat.lt_of_lt_of_le (nw_lt N) (bp_mono h2)
    have hN4 : N < 18446744073709551616 := by rw [bb_eq] at hN2; omega
    have HT : Hid (∀ k, 1 ≤ k → N / bb ^ k ≤ 4294967295) := fun k hk => by
      have h1 : N / bb ^ k ≤ N / bb ^ 1 := Nat.div_le_div_left (bp_mono hk) (bp_pos 1)
      have h3 : N / bb ^ 1 < bb := by
        rw [Nat.pow_one]; exact Nat.div_lt_of_lt_mul (by rw [Nat.pow_two] at hN2; exact hN2)
      exact Nat.le_trans h1 (Nat.le_of_lt_succ (show N / bb ^ 1 < 4294967295 + 1 from h3))
    have HS : Hid (∀ k, bits .or .u64 (((N / bb ^ (k + 1) : Nat) : Int) * 4294967296) ((dig N k : Nat) : Int) = ((N / bb ^ k : Nat) : Int)) := fun k => by
      rw [or_join _ _ (HT.out (k + 1) (by omega)) (dig_le N k), ← div_split]
    have H0 : Hid (N / bb ^ nw N = 0) := Nat.div_eq_of_lt (nw_lt N)
    refine ⟨if sn then wrap64 (wrap64 (-(wrap64 ((N : Int) - 1))) - 1) else wrap64 (N : Int), if sn then decide ((N : Int) ≤ 9223372036854775808) else decide ((N : Int) < 9223372036854775808), ?_, fun w => ?_⟩
    · cases sn
      · by_cases h3 : N < 9223372036854775808
        · refine .inl ⟨by unfold zn; simp <;> omega, by unfold zn; simp <;> omega, by simp <;> omega, ?_⟩
          unfold zn wrap64; simp; omega
        · exact .inr ⟨by unfold zn; simp <;> omega, by simp <;> omega⟩
      · have := hs2 rfl
        by_cases h3 : N ≤ 9223372036854775808
        · refine .inl ⟨by unfold zn; simp <;> omega, by unfold zn; simp <;> omega, by simp <;> omega, ?_⟩
          rw [if_pos rfl]
          unfold zn wrap64; simp; omega
        · exact .inr ⟨by unfold zn; simp <;> omega, by simp <;> omega⟩
    · have b1 := Blk.new w (wd s N) 25 rfl
      have hb : Below w.heap.size w (w.alloc (.cells (wd s N).toArray 25)) := (Below.refl _ _).alloc (Nat.le_refl _) _
      clear hN2 hN
      go_enter Try.func24, Try.ntmps24
      go_wp2_with (first | (with_reducible refine ldWp rfl rfl rfl b1 ?_))
      refine (O1.out _).mono ?_
      rintro e w1 ⟨v, rfl, hv, h1⟩
      obtain ⟨p, c, rfl, hc, hx⟩ := hv.old
      replace b1 := b1.call h1
      replace hb := bthen hb h1
      have HX := Lib.hid hx
      clear hx hv h1 O1
      have h2' : ¬ (2 : Int) < (nw N : Int) := by omega
      generalize nw N = n at *
      go_wp2_with fail
      go_loopw [5, 6] (fun u i wr => ∃ k : Nat, k ≤ n ∧ i = .int .i64 ((k : Int) - 1) ∧ u = .int .u64 (N / bb ^ k : Nat) ∧ wr = w1) (fun _ i _ => (intOf i + 1).toNat)
      case atStart => exact ⟨n, Nat.le_refl _, by go_num, by rw [H0.out]; rfl, rfl⟩
      case round =>
        obtain ⟨k, hk, rfl, rfl, rfl⟩ := hrel
        by_cases hk0 : k = 0
        · subst hk0
          have e1 : N / bb ^ 0 = N := by rw [Nat.pow_zero, Nat.div_one]
          rw [e1]
          go_wp2_with (first | (with_reducible refine ldWp rfl rfl rfl b1 ?_))
          refine (N1.out _).mono ?_
          rintro e w2 ⟨rfl, h1⟩
          replace hb := bthen hb h1
          cases sn
          · go_wp2
            go_ret2
            exact ⟨rfl, hb⟩
          · have := hs2 rfl
            go_wp2
            go_ret2
            exact ⟨rfl, hb⟩
        · obtain ⟨j, rfl⟩ : ∃ j, k = j + 1 := ⟨k - 1, by omega⟩
          obtain ⟨b0, rfl, l0, x0⟩ := HX.out (by omega)
          have c0 := x0 j (by omega)
          have d0 := dig_le N j
          have t0 := HT.out (j + 1) (by omega)
          have s0 := HS.out j
          have hjn : (j : Int) < (n : Int) := by omega
          generalize N / bb ^ (j + 1) = U at *
          generalize dig N j = D at *
          obtain ⟨V, hV⟩ : ∃ V, N / bb ^ j = V := ⟨_, rfl⟩
          rw [hV] at s0
          have EV := Lib.hid hV
          clear hV x0 HX H0 HS HT
          go_wp2
          go_roundw
          case rel => exact ⟨j, by omega, by go_num, by rw [EV.out], by trivial⟩
          case measure => simp [intOf] <;> omega
  · refine ⟨0, false, .inr ⟨fun ⟨a1, a2⟩ => ?_, by first | rfl | trivial⟩, fun w => ?_⟩
    · have h3 := zn_abs sn N
      have h4 : bb ^ 2 ≤ N := by
        rcases Nat.lt_or_ge N (bb ^ 2) with h | h
        · exact absurd (nw_le_of h) h2
        · exact h
      rw [bb_eq] at h4
      omega
    · have b1 := Blk.new w (wd s N) 25 rfl
      have hb : Below w.heap.size w (w.alloc (.cells (wd s N).toArray 25)) := (Below.refl _ _).alloc (Nat.le_refl _) _
      go_enter Try.func24, Try.ntmps24
      go_wp2_with (first | (with_reducible refine ldWp rfl rfl rfl b1 ?_))
      refine (O1.out _).mono ?_
      rintro e w1 ⟨v, rfl, hv, h1⟩
      obtain ⟨p, c, rfl, hc, hx⟩ := hv.old
      replace hb := bthen hb h1
      have h2' : (2 : Int) < (nw N : Int) := by omega
      clear hx hv h1 O1 N1 hN
      generalize nw N = n at *
      go_wp2
      go_ret2
      exact ⟨rfl, hb⟩
end Go.Proofs.Ytiaikjeljhfadaa
