/- wide.shorten. -/
import Derived.Test.YtcfncekphdkphaaLgr
namespace Go.Proofs.Ytcfncekphdkphaa
set_option linter.unusedSimpArgs false
set_option linter.unusedVariables false
open Go.RowKit
set_option maxRecDepth 100000
theorem two_words (U i : Nat) : U / bb ^ i % bb ^ 2 = dig U i + bb * dig U (i + 1) := by
  rw [low_two]
  unfold dig
  rw [Nat.pow_zero, Nat.div_one, Nat.pow_one, Nat.div_div_eq_div_mul, ← Nat.pow_succ]
theorem sh_dig (U i : Nat) {s : Nat} (hs : s < 32) : (dig U i + bb * dig U (i + 1)) / 2 ^ s % bb = dig (U / 2 ^ s) i := by
  rw [← two_words]
  have e : bb ^ 2 = 2 ^ s * 2 ^ (64 - s) := by rw [← Nat.pow_add, bp_two]; congr 1; omega
  rw [e, Nat.mod_mul_right_div_self, Nat.mod_mod_of_dvd, dig, Nat.div_div_eq_div_mul, Nat.div_div_eq_div_mul, Nat.mul_comm]
  rw [show bb = 2 ^ 32 by rw [bb_eq]]
  exact Nat.pow_dvd_pow 2 (by omega)
theorem shr_cast (T s : Nat) : (T : Int) / 2 ^ s % 4294967296 = ((T / 2 ^ s % bb : Nat) : Int) := by
  rw [bb_eq]
  have e : ((2 ^ s : Nat) : Int) = 2 ^ s := by push_cast; rfl
  rw [← e]
  generalize 2 ^ s = y
  omega
set_option maxHeartbeats 1000000 in
set_option maxRecDepth 100000 in
theorem shorten_any (U s m : Nat) (w : World) (hs : s < 32) (hm : m ≤ 32) (hU : U / 2 ^ s < bb ^ m) :
    Calls Try.prog 117 #[.agg (lc U).toArray, .int .i64 s, .int .i64 m] w fun e w' => e = .returned (.agg (wc (U / 2 ^ s)).toArray) ∧ Below w.heap.size w w' := by
  have HU := Lib.hid hU
  clear hU
  go_enter Try.func117, Try.ntmps117
  go_wp2_with (first | (with_reducible refine alA rfl rfl ?_))
  go_loopw [11] (fun i wr => ∃ k : Nat, k ≤ m ∧ i = .int .i64 k ∧ Below w.heap.size w wr ∧ Blk wr w.heap.size (lc U) 124 ∧ Blk wr (w.heap.size + 1) (wc 0) 23 ∧ Blk wr (w.heap.size + 1 + 1) (wc (U / 2 ^ s % bb ^ k)) 23) (fun i _ => m - (intOf i).toNat)
  case atStart =>
    refine ⟨0, by omega, rfl, (((Below.refl _ _).alloc (Nat.le_refl _) _).alloc (by simp) _).alloc (by simp; omega) _, ((Blk.new _ _ _ rfl).old _).old _, (Blk.new _ _ _ (by simp)).old _, ?_⟩
    rw [Nat.pow_zero, Nat.mod_one]
    exact Blk.new _ _ _ (by simp)
  case round =>
    obtain ⟨k, hk, rfl, hb, b0, b1, b2⟩ := hrel
    by_cases hlt : k < m
    · have c0 := b0.cell (lc_get U k (by omega))
      have c1 := b0.cell (lc_get U (k + 1) (by omega))
      have c2 := b2.cell (wc_get (U / 2 ^ s % bb ^ k) k (by omega))
      have f2 := b2.frozen k
      have d0 := dig_le U k
      have d1 := dig_le U (k + 1)
      have hlt' : (k : Int) < (m : Int) := by omega
      have hk1 : (k : Int) + 1 < 33 := by omega
      have hk2 : (k : Int) < 33 := by omega
      have hk4 : (0 : Int) ≤ (k : Int) + 1 := by omega
      have hk3 : (k : Int) < 32 := by omega
      have hk0 : (0 : Int) ≤ (k : Int) := by omega
      have hkw : IntKind.i64.wrap ((k : Int) + 1) = (k : Int) + 1 := by rw [IntKind.wrap_i64]; omega
      have HO := or_join (dig U (k + 1)) (dig U k) d1 d0
      have HD := Lib.hid (sh_dig U k hs)
      obtain ⟨T, hT⟩ : ∃ T, dig U k + bb * dig U (k + 1) = T := ⟨_, rfl⟩
      have hT2 : T ≤ 18446744073709551615 := by rw [← hT, bb_eq]; omega
      rw [hT] at HO HD
      clear hT
      go_wp2_with fail
      have EW : bits .or .u64 (IntKind.u64.wrap (IntKind.u64.wrap (dig U (k + 1) : Int) * 4294967296)) (IntKind.u64.wrap (dig U k : Int)) = (T : Int) := by
        rw [show IntKind.u64.wrap (dig U k : Int) = (dig U k : Int) by rw [IntKind.wrap_u64]; omega, show IntKind.u64.wrap (dig U (k + 1) : Int) = (dig U (k + 1) : Int) by rw [IntKind.wrap_u64]; omega, show IntKind.u64.wrap ((dig U (k + 1) : Int) * 4294967296) = (dig U (k + 1) : Int) * 4294967296 by rw [IntKind.wrap_u64]; omega]
        exact HO
      refine rg_start [] (by kernel_rfl) (fun hS => ?_)
      refine rg_take 0 rfl (by kernel_rfl) (by kernel_rfl) (by kernel_rfl) (by rfl) hS (v := ?_) ?_ ?_
      rotate_left
      · (intro w' hS'; go_simp <;> try with_reducible rfl)
      try simp only [Act.put, List.setIfInBounds_toArray, List.set_cons_zero, List.set_cons_succ]
      refine rg_take 1 rfl (by kernel_rfl) (by kernel_rfl) (by kernel_rfl) (by rfl) hS (v := ?_) ?_ ?_
      rotate_left
      · (intro w' hS'; go_simp <;> try with_reducible rfl)
      try simp only [Act.put, List.setIfInBounds_toArray, List.set_cons_zero, List.set_cons_succ]
      refine rg_take 2 rfl (by kernel_rfl) (by kernel_rfl) (by kernel_rfl) (by rfl) hS (v := ?_) ?_ ?_
      rotate_left
      · (intro w' hS'; go_simp <;> try with_reducible rfl)
      try simp only [Act.put, List.setIfInBounds_toArray, List.set_cons_zero, List.set_cons_succ]
      refine rg_take 3 rfl (by kernel_rfl) (by kernel_rfl) (by kernel_rfl) (by rfl) hS (v := ?_) ?_ ?_
      rotate_left
      · (intro w' hS'; have hc := (b0.keep hS' (by simp <;> omega)).cell (i := k + 1) (v := .int .u32 (dig U (k + 1) : Nat)) (lc_get U (k + 1) (by omega)); go_simp <;> try with_reducible rfl)
      try simp only [Act.put, List.setIfInBounds_toArray, List.set_cons_zero, List.set_cons_succ]
      refine rg_take 4 rfl (by kernel_rfl) (by kernel_rfl) (by kernel_rfl) (by rfl) hS (v := ?_) ?_ ?_
      rotate_left
      · (intro w' hS'; go_simp <;> try with_reducible rfl)
      try simp only [Act.put, List.setIfInBounds_toArray, List.set_cons_zero, List.set_cons_succ]
      refine rg_take 5 rfl (by kernel_rfl) (by kernel_rfl) (by kernel_rfl) (by rfl) hS (v := ?_) ?_ ?_
      rotate_left
      · (intro w' hS'; go_simp <;> try with_reducible rfl)
      try simp only [Act.put, List.setIfInBounds_toArray, List.set_cons_zero, List.set_cons_succ]
      refine rg_take 6 rfl (by kernel_rfl) (by kernel_rfl) (by kernel_rfl) (by rfl) hS (v := ?_) ?_ ?_
      rotate_left
      · (intro w' hS'; go_simp <;> try with_reducible rfl)
      try simp only [Act.put, List.setIfInBounds_toArray, List.set_cons_zero, List.set_cons_succ]
      refine rg_take 7 rfl (by kernel_rfl) (by kernel_rfl) (by kernel_rfl) (by rfl) hS (v := ?_) ?_ ?_
      rotate_left
      · (intro w' hS'; go_simp <;> try with_reducible rfl)
      try simp only [Act.put, List.setIfInBounds_toArray, List.set_cons_zero, List.set_cons_succ]
      refine rg_take 8 rfl (by kernel_rfl) (by kernel_rfl) (by kernel_rfl) (by rfl) hS (v := ?_) ?_ ?_
      rotate_left
      · (intro w' hS'; have hc := (b0.keep hS' (by simp <;> omega)).cell (i := k) (v := .int .u32 (dig U k : Nat)) (lc_get U k (by omega)); go_simp <;> try with_reducible rfl)
      try simp only [Act.put, List.setIfInBounds_toArray, List.set_cons_zero, List.set_cons_succ]
      refine rg_take 9 rfl (by kernel_rfl) (by kernel_rfl) (by kernel_rfl) (by rfl) hS (v := ?_) ?_ ?_
      rotate_left
      · (intro w' hS'; go_simp <;> try with_reducible rfl)
      try simp only [Act.put, List.setIfInBounds_toArray, List.set_cons_zero, List.set_cons_succ]
      refine rg_take 10 rfl (by kernel_rfl) (by kernel_rfl) (by kernel_rfl) (by rfl) hS (v := ?_) ?_ ?_
      rotate_left
      · (intro w' hS'; go_simp <;> try with_reducible rfl)
      try simp only [Act.put, List.setIfInBounds_toArray, List.set_cons_zero, List.set_cons_succ]
      refine rg_take 11 rfl (by kernel_rfl) (by kernel_rfl) (by kernel_rfl) (by rfl) hS (v := ?_) ?_ ?_
      rotate_left
      · (intro w' hS'; go_simp <;> try with_reducible rfl)
      try simp only [Act.put, List.setIfInBounds_toArray, List.set_cons_zero, List.set_cons_succ]
      refine rg_done (by kernel_rfl) ?_
      clear EW
      go_wp2
      have E : (T : Int) / 2 ^ s % 4294967296 = ((dig (U / 2 ^ s) k : Nat) : Int) := by
        rw [← HD.out]; exact shr_cast T s
      rw [E]
      go_roundw
      case rel =>
        refine ⟨k + 1, by omega, by go_num, (hb.setCell (by simp; omega) _).drew, (b0.setOther _ _ (by omega)).drew, (b1.setOther _ _ (by omega)).drew, ?_⟩
        have := (b2.set k (.int .u32 (dig (U / 2 ^ s) k : Nat))).drew
        rw [wc_set (Nat.mod_lt _ (bp_pos k)) (dig_lt _ _), ← mod_succ] at this
        exact this
      case measure => simp [intOf]; omega
    · obtain rfl : k = m := by omega
      go_wp2_with (first | (with_reducible refine ldA rfl rfl rfl b2 ?_) | (with_reducible refine stA rfl rfl rfl rfl b1 ?_))
      refine ret_c (cs := wc (U / 2 ^ s % bb ^ k)) rfl rfl rfl (whole23 _) (b1.row _) ⟨?_, below_row hb (by omega) _⟩
      rw [Nat.mod_eq_of_lt HU.out]
end Go.Proofs.Ytcfncekphdkphaa
