/- wide.timesPlus. -/
import Derived.Test.YtcfncekphdkphaaWrd
namespace Go.Proofs.Ytcfncekphdkphaa
open Go.RowKit
set_option maxRecDepth 100000
set_option maxHeartbeats 1000000 in
set_option maxRecDepth 100000 in
theorem timesPlus_yes (N m c : Nat) (w : World) (hN : N < bb ^ 32) (hm : m ≤ 4294967295) (hc : c ≤ 4294967295) (h : N * m + c < bb ^ 32) :
    Calls Try.prog 111 #[.agg (wc N).toArray, .int .u32 m, .int .u32 c] w fun e w' => e = .returned (.tuple #[.agg (wc (N * m + c)).toArray, .bool true]) ∧ Below w.heap.size w w' := by
  have HE : Hid (tl N m c 32 = N * m + c ∧ tc N m c 32 = 0) := ⟨by rw [tl_all hN, Nat.mod_eq_of_lt h], (tc_all hN).2 h⟩
  have HM : Hid (m < bb) := by
    show m < bb
    rw [bb_eq]; omega
  have HC : Hid (c < bb) := by
    show c < bb
    rw [bb_eq]; omega
  clear hN h
  go_enter Try.func111, Try.ntmps111
  go_wp2_with (first | (with_reducible refine alA2 rfl rfl ?_) | (with_reducible refine alA rfl rfl ?_))
  go_loopw [8, 13] (fun a8 i wr => ∃ k : Nat, k ≤ 32 ∧ i = .int .i64 k ∧ a8 = .int .u64 (tc N m c k : Nat) ∧ Below w.heap.size w wr ∧ Blk wr w.heap.size (wc (tl N m c k)) 23 ∧ Blk wr (w.heap.size + 1) (wc 0) 23) (fun _ i _ => 32 - (intOf i).toNat)
  case atStart => exact ⟨0, by omega, rfl, by rw [tc_zero], ((Below.refl _ _).alloc (Nat.le_refl _) _).alloc (by simp) _, by rw [tl_zero]; exact (Blk.new _ _ _ rfl).old _, Blk.new _ _ _ (by simp)⟩
  case round =>
    obtain ⟨k, hk, rfl, rfl, hb, b0, b1⟩ := hrel
    have hcl := tc_lt (N := N) (k := k) HM.out HC.out
    have hcl' : tc N m c k ≤ 4294967295 := by rw [bb_eq] at hcl; omega
    clear hcl
    by_cases hlt : k < 32
    · have c0 := b0.cell (wc_get _ k hlt)
      rw [dig_tl] at c0
      have f0 := b0.frozen k
      have d0 := dig_le N k
      have H1 := Lib.hid (tc_succ N m c k)
      have H2 := Lib.hid (tl_succ N m c k)
      have hmul : dig N k * m ≤ 4294967295 * 4294967295 := Nat.mul_le_mul d0 hm
      have e1 : IntKind.u64.wrap ((dig N k : Int) * (m : Int)) = (dig N k : Int) * (m : Int) := by
        rw [IntKind.wrap_u64]; omega
      have hT : dig N k * m + tc N m c k ≤ 18446744073709551615 := by omega
      obtain ⟨T, hTe⟩ : ∃ T, dig N k * m + tc N m c k = T := ⟨_, rfl⟩
      have e2 : IntKind.u64.wrap ((dig N k : Int) * (m : Int) + (tc N m c k : Int)) = (T : Int) := by
        rw [IntKind.wrap_u64, ← hTe]; omega
      rw [hTe] at H1 H2 hT
      clear hTe hmul
      have HT1 : Hid ((T : Int) % 4294967296 = ((T % bb : Nat) : Int)) := by
        show (T : Int) % 4294967296 = ((T % bb : Nat) : Int)
        rw [bb_eq]; omega
      have HT2 : Hid ((T : Int) / 4294967296 = ((T / bb : Nat) : Int)) := by
        show (T : Int) / 4294967296 = ((T / bb : Nat) : Int)
        rw [bb_eq]; omega
      go_wp2
      rw [HT1.out, HT2.out]
      go_roundw
      case rel =>
        refine ⟨k + 1, by omega, by go_num, int_eq (by rw [H1.out]), hb.setCell (by simp) _, ?_, b1.setOther _ _ (by omega)⟩
        have := b0.set k (.int .u32 (T % bb : Nat))
        rw [wc_put (Nat.mod_lt _ bb_pos), ← H2.out] at this
        exact this
      case measure => simp [intOf]; omega
    · obtain rfl : k = 32 := by omega
      rw [HE.out.2]
      go_wp2_with (first | (with_reducible refine ldA rfl rfl rfl b0 ?_) | (with_reducible refine stA rfl rfl rfl rfl b1 ?_))
      refine ret_ct (v := .bool true) (cs := wc (tl N m c 32)) rfl rfl rfl rfl (whole23 _) (b1.row _) ⟨?_, below_row hb (by omega) _⟩
      rw [HE.out.1]
end Go.Proofs.Ytcfncekphdkphaa
