/- The reference's amounts: mul. -/
import Derived.Test.YtiaikjeljhfadaaMgh
import Derived.Test.YtiaikjeljhfadaaShl
import Derived.BigQuiet
import Derived.Deep.QuietTactic
namespace Go.Proofs.Ytiaikjeljhfadaa
set_option linter.unusedSimpArgs false
set_option linter.unusedVariables false
open Go.RowKit
set_option maxRecDepth 100000
theorem ds_top {X K L v : Nat} (hX : X < bb ^ K) (hv : v < bb) : (ds X L).set K (.int .u32 (v : Nat)) = ds (X + bb ^ K * v) L := by
  rw [ds_set hv, put_new hX]
set_option maxHeartbeats 4000000 in
theorem mul_any {u v : Value} {A B : Nat} {w : World} (h : Mv w u A) (h' : Mv w v B) (hn : nw A ≤ 400) (hm : nw B ≤ 400) : Calls Try.prog 76 #[u, v] w fun e w' => ∃ v', e = .returned v' ∧ Mv w' v' (A * B) ∧ Below w.heap.size w w' := by
  obtain ⟨p, c, rfl, hc, hx⟩ := h.old
  obtain ⟨q, d, rfl, hd, hy⟩ := h'.old
  have hA := nw_lt A
  have hB := nw_lt B
  have HX := Lib.hid hx
  have HY := Lib.hid hy
  have HMm := Lib.hid hB
  have HNn := Lib.hid hA
  clear hx hy hA hB
  generalize nw A = n at *
  generalize nw B = m at *
  obtain ⟨i0, hi, hz0, hz1, hz2⟩ := info_parts info_u32
  go_enter Try.func76, Try.ntmps76
  go_wp2_with (first | (with_reducible refine wpList_make_full _ rfl _ _ 86 rfl w.heap.size 22 i0 (.int .u32 0) 1 Try.underlying86 hi hz0 hz1 _ _ _ _ (n + m) rfl rfl (by omega) (by omega) (by rw [hz2]; omega) (by unfold maxLen; omega) (Nat.le_refl _) ?_))
  intro w1 ho hg
  obtain ⟨b1, hb⟩ := made_blk ho hg
  clear ho hg
  go_wp2_with fail
  go_loopw [6] (fun i wr => ∃ k : Nat, k ≤ n ∧ i = .int .i64 k ∧ Blk wr w.heap.size (ds (px A B k) (n + m)) 22 ∧ Below w.heap.size w wr) (fun i _ => n - (intOf i).toNat)
  case atStart => exact ⟨0, by omega, rfl, by rw [px_zero]; exact b1, hb⟩
  case round =>
    clear b1 hb
    obtain ⟨k, hk, rfl, b3, hb⟩ := hrel
    have B3 := Lib.hid b3
    clear b3
    by_cases hlt : k < n
    · have hlt' : (k : Int) < (n : Int) := by omega
      obtain ⟨b0, rfl, l0, x0⟩ := HX.out (by omega)
      have X0 := Lib.hid (x0 k hlt)
      have d0 := dig_le A k
      have d0' := Lib.hid (dig_lt A k)
      clear x0 HX
      go_wp2_with fail
      go_loopw [7, 8] (fun c i wr => ∃ l : Nat, l ≤ m ∧ i = .int .i64 l ∧ c = .int .u64 (pc (px A B k) (dig A k) B k l : Nat) ∧ Blk wr w.heap.size (ds (pl (px A B k) (dig A k) B k l) (n + m)) 22 ∧ Below w.heap.size w wr) (fun _ i _ => m - (intOf i).toNat)
      case atStart => exact ⟨0, by omega, rfl, by rw [pc_zero]; rfl, by rw [pl_zero]; exact B3.out, hb⟩
      case round =>
        clear hb B3
        obtain ⟨l, hl, rfl, rfl, b3, hb⟩ := hrel
        have hcl : pc (px A B k) (dig A k) B k l ≤ 4294967295 := by have := pc_lt (X := px A B k) (M := B) (i := k) (j := l) d0'.out; rw [bb_eq] at this; omega
        by_cases hlt2 : l < m
        · obtain ⟨b1, rfl, l1, x1⟩ := HY.out (by omega)
          have c1 := (hb.cell (p := ⟨b1, l, none⟩) l1).trans (x1 l hlt2)
          have c0 := (hb.cell (p := ⟨b0, k, none⟩) l0).trans X0.out
          have d1 := dig_le B l
          have d2 := dig_le (px A B k) (k + l)
          have c3 := b3.cell (i := k + l) (ds_get (by omega))
          rw [dig_pl] at c3
          have f3 := b3.frozen (k + l)
          have HC := Lib.hid (pc_succ (px A B k) (dig A k) B k l)
          have HL := Lib.hid (pl_succ (px A B k) (dig A k) B k l)
          have hmul : dig A k * dig B l ≤ 4294967295 * 4294967295 := Nat.mul_le_mul d0 d1
          clear x1 HY
          have e1 : IntKind.u64.wrap ((dig A k : Int) * (dig B l : Int)) = (dig A k : Int) * (dig B l : Int) := by
            rw [IntKind.wrap_u64]; omega
          have e2 : IntKind.u64.wrap ((pc (px A B k) (dig A k) B k l : Int) + (dig A k : Int) * (dig B l : Int)) = (pc (px A B k) (dig A k) B k l : Int) + (dig A k : Int) * (dig B l : Int) := by
            rw [IntKind.wrap_u64]; omega
          have e3 : IntKind.u64.wrap ((pc (px A B k) (dig A k) B k l : Int) + (dig A k : Int) * (dig B l : Int) + (dig (px A B k) (k + l) : Int)) = (pc (px A B k) (dig A k) B k l : Int) + (dig A k : Int) * (dig B l : Int) + (dig (px A B k) (k + l) : Int) := by
            rw [IntKind.wrap_u64]; omega
          have e4 : IntKind.i64.wrap ((k : Int) + l) = (k : Int) + l := IntWalk.i64_in _ (by omega)
          have e5 : ((k : Int) + l).toNat = k + l := by omega
          have hl1 : (l : Int) < (m : Int) := by omega
          have hkl : (k : Int) + l < (n : Int) + m := by omega
          have hkl0 : (0 : Int) ≤ (k : Int) + l := by omega
          go_wp2_with fail
          go_quiet (fail)
          clear e1 e2 e3 e4 e5
          have hT : dig A k * dig B l + dig (px A B k) (k + l) + pc (px A B k) (dig A k) B k l ≤ 18446744073709551615 := by omega
          rw [show (pc (px A B k) (dig A k) B k l : Int) + (dig A k : Int) * (dig B l : Int) + (dig (px A B k) (k + l) : Int) = ((dig A k * dig B l + dig (px A B k) (k + l) + pc (px A B k) (dig A k) B k l : Nat) : Int) by push_cast; omega]
          generalize dig A k * dig B l + dig (px A B k) (k + l) + pc (px A B k) (dig A k) B k l = T at *
          have HT1 : Hid ((T : Int) % 4294967296 = ((T % bb : Nat) : Int)) := by
            show (T : Int) % 4294967296 = ((T % bb : Nat) : Int)
            rw [bb_eq]; omega
          have HT2 : Hid ((T : Int) / 4294967296 = ((T / bb : Nat) : Int)) := by
            show (T : Int) / 4294967296 = ((T / bb : Nat) : Int)
            rw [bb_eq]; omega
          clear hmul
          go_wp2
          rw [HT1.out, HT2.out]
          go_roundw
          case rel =>
            refine ⟨l + 1, by omega, by go_num, int_eq (by rw [HC.out]), ?_, (below_drewN hb _).setCell (by exact Nat.le_refl _) _⟩
            have := (b3.drewN nq).set (k + l) (.int .u32 (T % bb : Nat))
            rw [ds_set (Nat.mod_lt _ bb_pos), ← HL.out] at this
            exact this
          case measure => simp [intOf]; omega
        · obtain rfl : l = m := by omega
          have HC := Lib.hid (pc_all (N := A) (i := k) HMm.out)
          have HL := Lib.hid (pl_all (N := A) (i := k) HMm.out)
          have HE := Lib.hid (Nat.mod_add_div (px A B (k + 1)) (bb ^ (k + l)))
          have c3 := b3.cell (i := k + l) (ds_get (by omega))
          have f3 := b3.frozen (k + l)
          have hkl : (k : Int) + l < (n : Int) + l := by omega
          go_wp2
          go_roundw
          case rel =>
            refine ⟨k + 1, by omega, by go_num, ?_, hb.setCell (by exact Nat.le_refl _) _⟩
            have := b3.set (k + l) (.int .u32 (pc (px A B k) (dig A k) B k l : Nat))
            rw [HL.out] at this
            rw [ds_top (Nat.mod_lt _ (bp_pos _)) (pc_lt d0'.out), HC.out, HE.out] at this
            rw [HC.out]
            exact this
          case measure => simp [intOf]; omega
    · obtain rfl : k = n := by omega
      have b1 := B3.out
      rw [px_all (M := B) HNn.out] at b1
      have HV : Hid (A * B < bb ^ (k + m)) := by
        have := px_lt (N := A) (i := k) HMm.out
        rw [px_all HNn.out] at this
        exact this
      go_wp2_with fail
      refine (trim_blk (c := 0) b1 HV.out (by omega)).mono ?_
      rintro e w1 ⟨v', rfl, hv, rfl⟩
      go_wp2
      go_ret
      exact ⟨v', rfl, hv, hb⟩
end Go.Proofs.Ytiaikjeljhfadaa
