/- The reference's amounts: shl. -/
import Derived.Test.YtckolhalggcenaaGreatMgs
namespace Go.Proofs.YtckolhalggcenaaGreat
set_option linter.unusedSimpArgs false
set_option linter.unusedVariables false
open Go.RowKit
set_option maxRecDepth 100000
theorem own_blk {w : World} {base g n : Nat} {xs : List Value} (h : w.ownsRow base 22 1 (.slice (some ⟨g, 0, none⟩) n n) n xs) : Blk w g xs 22 ∧ base ≤ g := by
  rcases h.2 with ⟨h1, _⟩ | ⟨g', cap, cur, h1, hb, hg, hc, _, hs, hx⟩
  · cases h1
  · cases h1
    rw [Nat.mul_one] at hs hx
    rw [List.take_of_length_le (by simp [hs])] at hx
    refine ⟨?_, hb⟩
    unfold Blk
    rw [hg, ← hx]
theorem made_ds (n : Nat) : (madeCells #[.int .u32 0] n).toList = ds 0 n := by
  apply List.ext_getElem?
  intro i
  by_cases h : i < n
  · rw [ds_get h]
    simp [madeCells, h, dig, Nat.mod_one]
  · rw [List.getElem?_eq_none (l := ds 0 n) (by rw [ds_len]; omega), List.getElem?_eq_none]
    simp [madeCells]; omega
/-- Below what is kept: a block that was made. -/
theorem made_blk {w w' : World} {n : Nat} (h : w'.ownsRow w.heap.size 22 1 (.slice (some ⟨w.heap.size, 0, none⟩) n n) n (madeCells #[.int .u32 0] n).toList) (hg : w.grownBy w' none) :
    Blk w' w.heap.size (ds 0 n) 22 ∧ Below w.heap.size w w' := by
  rw [made_ds] at h
  exact ⟨(own_blk h).1, (Below.refl _ _).grown hg (Nat.le_refl _) (fun k hk => by cases hk)⟩
/-- A row of words, whole, as an amount. -/
theorem trim_blk {w : World} {g n c M : Nat} (h : Blk w g (ds M n) 22) (hM : M < bb ^ n) (hn : n ≤ 1000000) :
    Calls Tryz.prog 51 #[.slice (some ⟨g, 0, none⟩) n n] w fun e w' => ∃ v', e = .returned v' ∧ Mv w' v' M ∧ w' = w := by
  have hm : Mg w g n M := ⟨hM, fun i hi => h.cell (ds_get hi)⟩
  have hnw : nw M ≤ n := nw_le_of hM
  exact (trim_any w hm (Nat.le_refl _) hn).mono fun e w' ⟨e1, e2⟩ => ⟨_, e1, (.inr ⟨g, _, rfl, hnw, by rw [e2]; exact h.lt, fun i hi => by rw [e2]; exact hm.2 i (by omega)⟩), e2⟩
theorem ds_set {Y i v L : Nat} (hv : v < bb) : (ds Y L).set i (.int .u32 (v : Nat)) = ds (put Y i v) L := by
  apply List.ext_getElem?
  intro j
  by_cases hj : j < L
  · rw [ds_get hj, List.getElem?_set]
    by_cases h : i = j
    · subst h
      rw [if_pos rfl, if_pos (by rw [ds_len]; exact hj), dig_put_same hv]
    · rw [if_neg h, ds_get hj]
      rcases Nat.lt_or_gt_of_ne h with h1 | h1
      · rw [dig_put_high hv h1]
      · rw [dig_put_low h1]
  · rw [List.getElem?_eq_none (by rw [List.length_set, ds_len]; omega), List.getElem?_eq_none (by rw [ds_len]; omega)]
theorem put_new {Y K v : Nat} (hY : Y < bb ^ K) : put Y K v = Y + bb ^ K * v := by
  unfold put
  rw [Nat.mod_eq_of_lt hY, Nat.div_eq_of_lt (Nat.lt_of_lt_of_le hY (bp_mono (by omega))), Nat.mul_zero, Nat.add_zero]
theorem put_top {Y K C v : Nat} (hY : Y < bb ^ K) (hC : C < bb) : put (Y + bb ^ K * C) K v = Y + bb ^ K * v := by
  have h1 : Y + bb ^ K * C < bb ^ (K + 1) := by
    rw [bp_succ]
    calc Y + bb ^ K * C < bb ^ K + bb ^ K * C := by omega
      _ = bb ^ K * (C + 1) := by rw [Nat.mul_add, Nat.mul_one, Nat.add_comm]
      _ ≤ bb ^ K * bb := Nat.mul_le_mul_left _ hC
  unfold put
  rw [Nat.div_eq_of_lt h1, Nat.mul_zero, Nat.add_zero, Nat.add_mul_mod_self_left, Nat.mod_eq_of_lt hY]
/-- One word more of an amount that is shifted: what is carried, the word's two parts. -/
theorem shl_step {A k r q D X xl xh C : Nat} (hr : r < 32) (hD : dig A k = D) (hX : D * 2 ^ r = X) (hl : X % bb = xl) (hh : X / bb = xh) (hC : dig (A % bb ^ k * 2 ^ r * bb ^ q) (k + q) = C) :
    C < 2 ^ r ∧ xl = 2 ^ r * (D % 2 ^ (32 - r)) ∧ C + xl < bb ∧ xh < bb ∧ X < bb * bb ∧ put (put (A % bb ^ k * 2 ^ r * bb ^ q) (k + q) (C + xl)) (k + q + 1) xh = A % bb ^ (k + 1) * 2 ^ r * bb ^ q := by
  have hbb := bb_split hr
  have hp := bp_pos k
  have hr0 : 0 < 2 ^ r := Nat.two_pow_pos r
  have hDb : D < bb := hD ▸ dig_lt A k
  obtain ⟨z, hz⟩ : ∃ z, A % bb ^ k * 2 ^ r = z := ⟨_, rfl⟩
  have hzl : z < bb ^ k * 2 ^ r := by
    rw [← hz]; exact Nat.mul_lt_mul_of_pos_right (Nat.mod_lt _ hp) hr0
  have hc : z / bb ^ k < 2 ^ r := by rw [Nat.div_lt_iff_lt_mul hp, Nat.mul_comm]; exact hzl
  have h2r : 2 ^ r ≤ bb := by rw [hbb]; exact Nat.le_mul_of_pos_right _ (Nat.two_pow_pos _)
  have hCz : C = z / bb ^ k := by
    rw [← hC, hz, Nat.add_comm k q, dig_shift]
    unfold dig
    exact Nat.mod_eq_of_lt (by omega)
  have hxl : xl = 2 ^ r * (D % 2 ^ (32 - r)) := by
    rw [← hl, ← hX, hbb, Nat.mul_comm D, Nat.mul_mod_mul_left]
  have ht : D % 2 ^ (32 - r) + 1 ≤ 2 ^ (32 - r) := Nat.mod_lt _ (Nat.two_pow_pos _)
  have hsum : xl + 2 ^ r ≤ bb := by
    rw [hxl, hbb, ← Nat.mul_succ]
    exact Nat.mul_le_mul_left _ ht
  have hXb : X < bb * bb := by
    rw [← hX]
    exact Nat.lt_of_lt_of_le (Nat.mul_lt_mul_of_pos_right hDb hr0) (Nat.mul_le_mul_left _ h2r)
  have hCl : C < 2 ^ r := hCz ▸ hc
  refine ⟨hCl, hxl, by omega, by rw [← hh, Nat.div_lt_iff_lt_mul bb_pos]; exact hXb, hXb, ?_⟩
  have hzs : z = z % bb ^ k + bb ^ k * C := by rw [hCz]; exact (Nat.mod_add_div z (bb ^ k)).symm
  have hK : bb ^ (k + q) = bb ^ k * bb ^ q := Nat.pow_add ..
  have hYl : z % bb ^ k * bb ^ q < bb ^ (k + q) := by
    rw [hK]; exact Nat.mul_lt_mul_of_pos_right (Nat.mod_lt _ hp) (bp_pos q)
  have hY : A % bb ^ k * 2 ^ r * bb ^ q = z % bb ^ k * bb ^ q + bb ^ (k + q) * C := by
    rw [hz]
    conv => lhs; rw [hzs]
    rw [Nat.add_mul, hK, Nat.mul_right_comm]
  have h3 : z % bb ^ k * bb ^ q + bb ^ (k + q) * (C + xl) < bb ^ (k + q + 1) := by
    rw [bp_succ]
    calc z % bb ^ k * bb ^ q + bb ^ (k + q) * (C + xl) < bb ^ (k + q) + bb ^ (k + q) * (C + xl) := by omega
      _ = bb ^ (k + q) * (C + xl + 1) := by rw [Nat.mul_add (bb ^ (k + q)) (C + xl) 1, Nat.mul_one, Nat.add_comm]
      _ ≤ bb ^ (k + q) * bb := Nat.mul_le_mul_left _ (by omega)
  rw [hY, put_top hYl (by omega), put_new h3]
  have hXs : X = xl + bb * xh := by rw [← hl, ← hh]; exact (Nat.mod_add_div X bb).symm
  rw [mod_succ, hD, Nat.add_mul, hz, Nat.mul_assoc, hX, Nat.add_mul]
  conv => rhs; rw [hzs]
  rw [hXs, bp_succ, hK, Nat.mul_add, Nat.mul_add, Nat.add_mul, Nat.add_mul, Nat.mul_right_comm (bb ^ k) C, Nat.mul_right_comm (bb ^ k) xl]
  simp only [Nat.mul_assoc, Nat.mul_left_comm, Nat.mul_comm, Nat.add_assoc, Nat.add_left_comm, Nat.add_comm]
theorem or_low {C t r : Nat} (hr : r < 32) (hC : C < 2 ^ r) (h : C + 2 ^ r * t < bb) : bits .or .u32 (C : Int) ((2 ^ r * t : Nat) : Int) = ((C + 2 ^ r * t : Nat) : Int) := by
  rw [bb_eq] at h
  rw [u32_or_nat _ _ (by omega) (by omega), Nat.or_comm, ← Nat.two_pow_add_eq_or_of_lt hC, Nat.add_comm]
set_option maxHeartbeats 2000000 in
theorem shl_any {v : Value} {A n : Nat} {w : World} (h : Mv w v A) (hA : nw A ≤ 1000) (hn : n ≤ 32000) : Calls Tryz.prog 106 #[v, .int .i64 (n : Nat)] w fun e w' => ∃ v', e = .returned v' ∧ Mv w' v' (A * 2 ^ n) ∧ Below w.heap.size w w' := by
  obtain ⟨p, c, rfl, hc, hx⟩ := h.old
  obtain ⟨m, hm⟩ : ∃ m, nw A = m := ⟨_, rfl⟩
  rw [hm] at hx hA hc ⊢
  have HX := Lib.hid hx
  clear hx
  obtain ⟨q, hq⟩ : ∃ q, n / 32 = q := ⟨_, rfl⟩
  obtain ⟨r, hr⟩ : ∃ r, n % 32 = r := ⟨_, rfl⟩
  have E1 : (n : Int).tdiv 32 = (q : Int) := by rw [← hq]; exact (Int.ofNat_tdiv n 32).symm
  have E2 : (n : Int).tmod 32 = (r : Int) := by rw [← hr]; exact (Int.ofNat_tmod n 32).symm
  have hq2 : q ≤ 1000 := by omega
  have hr2 : r < 32 := by omega
  have HF : Hid (A % bb ^ m * 2 ^ r * bb ^ q = A * 2 ^ n ∧ A * 2 ^ n < bb ^ (m + q + 1)) := by
    have hl : A < bb ^ m := hm ▸ nw_lt A
    have e : n = 32 * q + r := by omega
    have e2 : A % bb ^ m * 2 ^ r * bb ^ q = A * 2 ^ n := by rw [Nat.mod_eq_of_lt hl, e, shift_words]
    refine ⟨e2, ?_⟩
    rw [← e2, Nat.mod_eq_of_lt hl, bp_succ, Nat.pow_add, Nat.mul_right_comm (bb ^ m)]
    refine Nat.mul_lt_mul_of_pos_right ?_ (bp_pos q)
    have h2r : 2 ^ r ≤ bb := by rw [bb_split hr2]; exact Nat.le_mul_of_pos_right _ (Nat.two_pow_pos _)
    exact Nat.lt_of_lt_of_le (Nat.mul_lt_mul_of_pos_right hl (Nat.two_pow_pos r)) (Nat.mul_le_mul_left _ h2r)
  by_cases hm0' : m = 0
  · have hA0 : A = 0 := nw_zero.1 (hm.trans hm0')
    subst hA0
    subst hm0'
    clear HF HX E1 E2 hq hr hm
    go_enter Tryz.func106, Tryz.ntmps106
    go_wp2
    go_ret
    exact ⟨_, rfl, (by rw [Nat.zero_mul]; exact mv_nil _), Below.refl _ _⟩
  have hm0 : ¬ (m : Int) = 0 := by omega
  clear hq hr hm
  obtain ⟨i0, hi, hz0, hz1, hz2⟩ := info_parts info_u32
  go_enter Tryz.func106, Tryz.ntmps106
  go_wp2_with (first | (with_reducible refine wpList_make_full _ rfl _ _ 71 rfl w.heap.size 22 i0 (.int .u32 0) 1 Tryz.underlying71 hi hz0 hz1 _ _ _ _ (m + q + 1) rfl rfl (by omega) (by omega) (by rw [hz2]; omega) (by unfold maxLen; omega) (Nat.le_refl _) ?_))
  intro w1 ho hg
  obtain ⟨b1, hb⟩ := made_blk ho hg
  clear ho hg
  go_wp2_with fail
  go_loopw [6] (fun i wr => ∃ k : Nat, k ≤ m ∧ i = .int .i64 k ∧ Blk wr w.heap.size (ds (A % bb ^ k * 2 ^ r * bb ^ q) (m + q + 1)) 22 ∧ Below w.heap.size w wr) (fun i _ => m - (intOf i).toNat)
  case atStart => exact ⟨0, by omega, rfl, by rw [Nat.pow_zero, Nat.mod_one, Nat.zero_mul, Nat.zero_mul]; exact b1, hb⟩
  case round =>
    clear b1 hb
    obtain ⟨k, hk, rfl, b1, hb⟩ := hrel
    have B1 := Lib.hid b1
    clear b1
    by_cases hlt : k < m
    · have hlt' : (k : Int) < (m : Int) := by omega
      obtain ⟨b0, rfl, l0, x0⟩ := HX.out (by omega)
      have c0 := (hb.cell (p := ⟨b0, k, none⟩) l0).trans (x0 k hlt)
      have d0 := dig_le A k
      have hr3 : (r : Int) < 32 := by omega
      obtain ⟨D, hD⟩ : ∃ D, dig A k = D := ⟨_, rfl⟩
      rw [hD] at c0 d0
      obtain ⟨X, hX⟩ : ∃ X, D * 2 ^ r = X := ⟨_, rfl⟩
      obtain ⟨xl, hxl⟩ : ∃ xl, X % bb = xl := ⟨_, rfl⟩
      obtain ⟨xh, hxh⟩ : ∃ xh, X / bb = xh := ⟨_, rfl⟩
      obtain ⟨C, hC⟩ : ∃ C, dig (A % bb ^ k * 2 ^ r * bb ^ q) (k + q) = C := ⟨_, rfl⟩
      obtain ⟨s1, s2, s3, s4, s5, s6⟩ := shl_step hr2 hD hX hxl hxh hC
      have eb := bb_eq
      have W1 : IntKind.u64.wrap ((D : Int) * 2 ^ r) = (X : Int) := by
        rw [show (D : Int) * 2 ^ r = (X : Int) by rw [← hX]; simp, IntKind.wrap_u64]
        rw [bb_eq] at s5
        omega
      have W2 : IntKind.u32.wrap (X : Int) = (xl : Int) := by
        rw [IntKind.wrap_u32, ← hxl, bb_eq]
        omega
      obtain ⟨Z, hZ⟩ : ∃ Z, C + xl = Z := ⟨_, rfl⟩
      have W3 : bits .or .u32 (C : Int) (xl : Int) = (Z : Int) := by
        rw [← hZ]
        conv => lhs; rw [s2]
        conv => rhs; rw [s2]
        exact or_low hr2 s1 (by rw [← s2]; exact s3)
      have W4 : (X : Int) / 4294967296 = (xh : Int) := by rw [← hxh, bb_eq]; omega
      have W5 : IntKind.u32.wrap (xh : Int) = (xh : Int) := by rw [bb_eq] at s4; rw [IntKind.wrap_u32]; omega
      have c1 := B1.out.cell (i := k + q) (ds_get (by omega))
      have c2 := B1.out.cell (i := k + q + 1) (ds_get (by omega))
      have f1 := B1.out.frozen (k + q)
      have f2 := B1.out.frozen (k + q + 1)
      rw [hC] at c1
      rw [hZ] at s3 s6
      have hC4 : C ≤ 4294967295 := by omega
      have hxl4 : xl ≤ 4294967295 := by omega
      have hZ4 : Z ≤ 4294967295 := by omega
      have hxh4 : xh ≤ 4294967295 := by omega
      have hX4 : X ≤ 18446744073709551615 := by rw [bb_eq] at s5; omega
      have S3 := Lib.hid s3
      have S4 := Lib.hid s4
      have S6 := Lib.hid s6
      have hkq : (k : Int) + q + 1 < (m : Int) + q + 1 := by omega
      have hkq1 : (k : Int) + q < (m : Int) + q + 1 := by omega
      clear s1 s2 s3 s4 s5 s6 eb hZ
      clear hD hC hX hxl hxh x0 HX
      go_wp2
      go_roundw
      case rel =>
        refine ⟨k + 1, by omega, by go_num, ?_, (hb.setCell (by exact Nat.le_refl _) _).setCell (by exact Nat.le_refl _) _⟩
        have := (B1.out.set (k + q) (.int .u32 (Z : Nat))).set (k + q + 1) (.int .u32 (xh : Nat))
        rw [ds_set S3.out, ds_set S4.out, S6.out] at this
        exact this
      case measure => simp [intOf]; omega
    · obtain rfl : k = m := by omega
      have b1 := B1.out
      rw [HF.out.1] at b1
      go_wp2_with fail
      refine (trim_blk (c := 0) b1 HF.out.2 (by omega)).mono ?_
      rintro e w2 ⟨v', rfl, hv, rfl⟩
      go_wp2
      go_ret
      exact ⟨v', rfl, hv, hb⟩
end Go.Proofs.YtckolhalggcenaaGreat
