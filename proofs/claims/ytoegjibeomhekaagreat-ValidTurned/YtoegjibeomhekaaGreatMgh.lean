/- The reference's amounts: shl. -/
import Derived.Test.YtoegjibeomhekaaGreatMgs
namespace Go.Proofs.YtoegjibeomhekaaGreat
set_option linter.unusedSimpArgs false
set_option linter.unusedVariables false
open Go.RowKit
set_option maxRecDepth 100000
theorem own_blk {w : World} {base g n : Nat} {xs : List Value} (h : w.ownsRow base 27 1 (.slice (some ⟨g, 0, none⟩) n n) n xs) : Blk w g xs 27 ∧ base ≤ g := by
  rcases h.2 with ⟨h1, _⟩ | ⟨g', cap, cur, h1, hb, hg, hc, _, hs, hx⟩
  · cases h1
  · cases h1
    rw [Nat.mul_one] at hs hx
    rw [List.take_of_length_le (by simp [hs])] at hx
    refine ⟨?_, hb⟩
    unfold Blk
    rw [hg, ← hx]
theorem made_ds (n : Nat) : (madeCells #[.int .u32 0] n).toList = ds 0 n := by
  apply List.ext_getElem?
  intro i
  by_cases h : i < n
  · rw [ds_get h]
    simp [madeCells, h, dig, Nat.mod_one]
  · rw [List.getElem?_eq_none (l := ds 0 n) (by rw [ds_len]; omega), List.getElem?_eq_none]
    simp [madeCells]; omega
/-- Below what is kept: a block that was made. -/
theorem made_blk {w w' : World} {n : Nat} (h : w'.ownsRow w.heap.size 27 1 (.slice (some ⟨w.heap.size, 0, none⟩) n n) n (madeCells #[.int .u32 0] n).toList) (hg : w.grownBy w' none) :
    Blk w' w.heap.size (ds 0 n) 27 ∧ Below w.heap.size w w' := by
  rw [made_ds] at h
  exact ⟨(own_blk h).1, (Below.refl _ _).grown hg (Nat.le_refl _) (fun k hk => by cases hk)⟩
/-- A row of words, whole, as an amount. -/
theorem trim_blk {w : World} {g n c M : Nat} (h : Blk w g (ds M n) 27) (hM : M < bb ^ n) (hn : n ≤ 1000000) :
    Calls Tryz.prog 51 #[.slice (some ⟨g, 0, none⟩) n n] w fun e w' => ∃ v', e = .returned v' ∧ Mv w' v' M ∧ w' = w := by
  have hm : Mg w g n M := ⟨hM, fun i hi => h.cell (ds_get hi)⟩
  have hnw : nw M ≤ n := nw_le_of hM
  exact (trim_any w hm (Nat.le_refl _) hn).mono fun e w' ⟨e1, e2⟩ => ⟨_, e1, (.inr ⟨g, _, rfl, hnw, by rw [e2]; exact h.lt, fun i hi => by rw [e2]; exact hm.2 i (by omega)⟩), e2⟩
theorem ds_set {Y i v L : Nat} (hv : v < bb) : (ds Y L).set i (.int .u32 (v : Nat)) = ds (put Y i v) L := by
  apply List.ext_getElem?
  intro j
  by_cases hj : j < L
  · rw [ds_get hj, List.getElem?_set]
    by_cases h : i = j
    · subst h
      rw [if_pos rfl, if_pos (by rw [ds_len]; exact hj), dig_put_same hv]
    · rw [if_neg h, ds_get hj]
      rcases Nat.lt_or_gt_of_ne h with h1 | h1
      · rw [dig_put_high hv h1]
      · rw [dig_put_low h1]
  · rw [List.getElem?_eq_none (by rw [List.length_set, ds_len]; omega), List.getElem?_eq_none (by rw [ds_len]; omega)]
theorem put_new {Y K v : Nat} (hY : Y < bb ^ K) : put Y K v = Y + bb ^ K * v := by
  unfold put
  rw [Nat.mod_eq_of_lt hY, Nat.div_eq_of_lt (Nat.lt_of_lt_of_le hY (bp_mono (by omega))), Nat.mul_zero, Nat.add_zero]
theorem put_top {Y K C v : Nat} (hY : Y < bb ^ K) (hC : C < bb) : put (Y + bb ^ K * C) K v = Y + bb ^ K * v := by
  have h1 : Y + bb ^ K * C < bb ^ (K + 1) := by
    rw [bp_succ]
    calc Y + bb ^ K * C < bb ^ K + bb ^ K * C := by omega
      _ = bb ^ K * (C + 1) := by rw [Nat.mul_add, Nat.mul_one, Nat.add_comm]
      _ ≤ bb ^ K * bb := Nat.mul_le_mul_left _ hC
  unfold put
  rw [Nat.div_eq_of_lt h1, Nat.mul_zero, Nat.add_zero, Nat.add_mul_mod_self_left, Nat.mod_eq_of_lt hY]
/-- One word more of an amount that is shifted: what is carried, the word's two parts. -/
theorem shl_step {A k r q D X xl xh C : Nat} (hr : r < 32) (hD : dig A k = D) (hX : D * 2 ^ r = X) (hl : X % bb = xl) (hh : X / bb = xh) (hC : dig (A % bb ^ k * 2 ^ r * bb ^ q) (k + q) = C) :
    C < 2 ^ r ∧ xl = 2 ^ r * (D % 2 ^ (32 - r)) ∧ C + xl < bb ∧ xh < bb ∧ X < bb * bb ∧ put (put (A % bb ^ k * 2 ^ r * bb ^ q) (k + q) (C + xl)) (k + q + 1) xh = A % bb ^ (k + 1) * 2 ^ r * bb ^ q := by
  have hbb := bb_split hr
  have hp := bp_pos k
  have hr0 : 0 < 2 ^ r := Nat.two_pow_pos r
  have hDb : D < bb := hD ▸ dig_lt A k
  obtain ⟨z, hz⟩ : ∃ z, A % bb ^ k * 2 ^ r = z := ⟨_, rfl⟩
  have hzl : z < bb ^ k * 2 ^ r := by
    rw [← hz]; exact Nat.mul_lt_mul_of_pos_right (Nat.mod_lt _ hp) hr0
  have hc : z / bb ^ k < 2 ^ r := by rw [Nat.div_lt_iff_lt_mul hp, Nat.mul_comm]; exact hzl
  have h2r : 2 ^ r ≤ bb := by rw [hbb]; exact Nat.le_mul_of_pos_right _ (Nat.two_pow_pos _)
  have hCz : C = z / bb ^ k := by
    rw [← hC, hz, Nat.add_comm k q, dig_shift]
    unfold dig
    exact Nat.mod_eq_of_lt (by omega)
  have hxl : xl = 2 ^ r * (D % 2 ^ (32 - r)) := by
    rw [← hl, ← hX, hbb, Nat.mul_comm D, Nat.mul_mod_mul_left]
  have ht : D % 2 ^ (32 - r) + 1 ≤ 2 ^ (32 - r) := Nat.mod_lt _ (Nat.two_pow_pos _)
  have hsum : xl + 2 ^ r ≤ bb := by
    rw [hxl, hbb, ← Nat.mul_succ]
    exact Nat.mul_le_mul_left _ ht
  have hXb : X < bb * bb := by
    rw [← hX]
    exact Nat.lt_of_lt_of_le (Nat.mul_lt_mul_of_pos_right hDb hr0) (Nat.mul_le_mul_left _ h2r)
  have hCl : C < 2 ^ r := hCz ▸ hc
  refine ⟨hCl, hxl, by omega, by rw [← hh, Nat.div_lt_iff_lt_mul bb_pos]; exact hXb, hXb, ?_⟩
  have hzs : z = z % bb ^ k + bb ^ k * C := by rw [hCz]; exact (Nat.mod_add_div z (bb ^ k)).symm
  have hK : bb ^ (k + q) = bb ^ k * bb ^ q := Nat.pow_add ..
  have hYl : z % bb ^ k * bb ^ q < bb ^ (k + q) := by
    rw [hK]; exact Nat.mul_lt_mul_of_pos_right (Nat.mod_lt _ hp) (bp_pos q)
  have hY : A % bb ^ k * 2 ^ r * bb ^ q = z % bb ^ k * bb ^ q + bb ^ (k + q) * C := by
    rw [hz]
    conv => lhs; rw [hzs]
    rw [Nat.add_mul, hK, Nat.mul_right_comm]
  have h3 : z % bb ^ k * bb ^ q + bb ^ (k + q) * (C + xl) < bb ^ (k + q + 1) := by
    rw [bp_succ]
    calc z % bb ^ k * bb ^ q + bb ^ (k + q) * (C + xl) < bb ^ (k + q) + bb ^ (k + q) * (C + xl) := by omega
      _ = bb ^ (k + q) * (C + xl + 1) := by rw [Nat.mul_add (bb ^ (k + q)) (C + xl) 1, Nat.mul_one, Nat.add_comm]
      _ ≤ bb ^ (k + q) * bb := Nat.mul_le_mul_left _ (by omega)
  rw [hY, put_top hYl (by omega), put_new h3]
  have hXs : X = xl + bb * xh := by rw [← hl, ← hh]; exact (Nat.mod_add_div X bb).symm
  rw [mod_succ, hD, Nat.add_mul, hz, Nat.mul_assoc, hX, Nat.add_mul]
  conv => rhs; rw [hzs]
  rw [hXs, bp_succ, hK, Nat.mul_add, Nat.mul_add, Nat.add_mul, Nat.add_mul, Nat.mul_right_comm (bb ^ k) C, Nat.mul_right_comm (bb ^ k) xl]
  simp only [Nat.mul_assoc, Nat.mul_left_comm, Nat.mul_comm, Nat.add_assoc, Nat.add_left_comm, Nat.add_comm]
theorem or_low {C t r : Nat} (hr : r < 32) (hC : C < 2 ^ r) (h : C + 2 ^ r * t < bb) : bits .or .u32 (C : Int) ((2 ^ r * t : Nat) : Int) = ((C + 2 ^ r * t : Nat) : Int) := by
  rw [bb_eq] at h
  rw [u32_or_nat _ _ (by omega) (by omega), Nat.or_comm, ← Nat.two_pow_add_eq_or_of_lt hC, Nat.add_comm]
end Go.Proofs.YtoegjibeomhekaaGreat
