/- wide.minus, wide.compare. -/
import Derived.Test.YtcfncekphdkphaaSum
namespace Go.Proofs.Ytcfncekphdkphaa
open Go.RowKit
set_option maxRecDepth 100000
set_option maxHeartbeats 400000 in
set_option maxRecDepth 100000 in
theorem minus_any (N M : Nat) (w : World) (hN : N < bb ^ 32) (hM : M < bb ^ 32) (hle : M ≤ N) :
    Calls Try.prog 61 #[.agg (wc N).toArray, .agg (wc M).toArray] w fun e w' => e = .returned (.agg (wc (N - M)).toArray) ∧ Below w.heap.size w w' := by
  have HE := Lib.hid (df_all hN hM hle)
  clear hN hM hle
  go_enter Try.func61, Try.ntmps61
  go_wp2_with (first | (with_reducible refine alA rfl rfl ?_))
  go_loopw [6, 8] (fun c i wr => ∃ k : Nat, k ≤ 32 ∧ i = .int .i64 k ∧ c = .int .u32 (br N M k : Nat) ∧ Below w.heap.size w wr ∧ Blk wr w.heap.size (wc N) 23 ∧ Blk wr (w.heap.size + 1) (wc M) 23 ∧ Blk wr (w.heap.size + 1 + 1) (wc 0) 23 ∧ Blk wr (w.heap.size + 1 + 1 + 1) (wc (df N M k)) 23) (fun _ i _ => 32 - (intOf i).toNat)
  case atStart =>
    exact ⟨0, by omega, rfl, by rw [br_zero]; rfl, ((((Below.refl _ _).alloc (Nat.le_refl _) _).alloc (by simp) _).alloc (by simp; omega) _).alloc (by simp; omega) _,
      (((Blk.new _ _ _ rfl).old _).old _).old _, ((Blk.new _ _ _ (by simp)).old _).old _, (Blk.new _ _ _ (by simp)).old _, by rw [df_zero]; exact Blk.new _ _ _ (by simp)⟩
  case round =>
    obtain ⟨k, hk, rfl, rfl, hb, b0, b1, b2, b3⟩ := hrel
    have hcy := br_le N M k
    by_cases hlt : k < 32
    · have c0 := b0.cell (wc_get N k hlt)
      have c1 := b1.cell (wc_get M k hlt)
      have f3 := b3.frozen k
      have c3 := b3.cell (wc_get (df N M k) k hlt)
      have d0 := dig_le N k
      have d1 := dig_le M k
      have hq : (dig N k + bb - dig M k - br N M k) % bb < bb := Nat.mod_lt _ bb_pos
      have HS := Lib.hid (df_step (N := N) (M := M) (k := k) (c := if dig N k < dig M k + br N M k then 1 else 0) hq (by
        have e := bb_eq
        split
        · rw [Nat.mod_eq_of_lt (by omega)]; omega
        · rw [show dig N k + bb - dig M k - br N M k = (dig N k - dig M k - br N M k) + bb by omega, Nat.add_mod_right, Nat.mod_eq_of_lt (by omega)]; omega))
      have HQ := Lib.hid hq
      clear hq
      have HC := fun w => sub32_any (dig N k) (dig M k) (br N M k) w d0 d1 hcy
      generalize (dig N k + bb - dig M k - br N M k) % bb = q at *
      generalize (if dig N k < dig M k + br N M k then 1 else 0 : Nat) = c at *
      have HC' := Lib.hid HC
      clear HC
      go_wp2_with fail
      go_region_held3 (fun w' => w'.cell? ⟨w.heap.size, k, none⟩ = some (.int .u32 (dig N k : Nat)) ∧ w'.cell? ⟨w.heap.size + 1, k, none⟩ = some (.int .u32 (dig M k : Nat))) (first | exact ⟨c0, c1⟩ | exact ⟨(b0.setOther _ _ (by omega)).drew.cell (wc_get N k hlt), (b1.setOther _ _ (by omega)).drew.cell (wc_get M k hlt)⟩) (first | (go_at_call 100; refine (HC'.out _).mono ?_; rintro e w' ⟨rfl, rfl⟩))
      go_wp2
      go_roundw
      case rel =>
        refine ⟨k + 1, by omega, by go_num, int_eq (by rw [HS.out.2]), (hb.setCell (by simp; omega) _).drew, (b0.setOther _ _ (by omega)).drew, (b1.setOther _ _ (by omega)).drew, (b2.setOther _ _ (by omega)).drew, ?_⟩
        have := (b3.set k (.int .u32 (q : Nat))).drew
        rw [wc_set (df_lt N M k) HQ.out, ← HS.out.1] at this
        exact this
      case measure => simp [intOf]; omega
    · obtain rfl : k = 32 := by omega
      go_wp2_with (first | (with_reducible refine ldA rfl rfl rfl b3 ?_) | (with_reducible refine stA rfl rfl rfl rfl b2 ?_))
      refine ret_c (cs := wc (df N M 32)) rfl rfl rfl (whole23 _) (b2.row _) ⟨?_, below_row hb (by omega) _⟩
      rw [HE.out.1]
set_option maxHeartbeats 400000 in
set_option maxRecDepth 100000 in
theorem compare_any (N M : Nat) (w : World) (hN : N < bb ^ 32) (hM : M < bb ^ 32) :
    Calls Try.prog 59 #[.agg (wc N).toArray, .agg (wc M).toArray] w fun e w' => e = .returned (.int .i64 (cmpv N M)) ∧ Below w.heap.size w w' := by
  have HE : Hid (N / bb ^ 32 = M / bb ^ 32) := by
    show N / bb ^ 32 = M / bb ^ 32
    rw [Nat.div_eq_of_lt hN, Nat.div_eq_of_lt hM]
  clear hN hM
  go_enter Try.func59, Try.ntmps59
  go_wp2
  go_loopw [5] (fun i wr => ∃ k : Nat, k ≤ 32 ∧ i = .int .i64 ((k : Int) - 1) ∧ N / bb ^ k = M / bb ^ k ∧ Below w.heap.size w wr ∧ Blk wr w.heap.size (wc N) 23 ∧ Blk wr (w.heap.size + 1) (wc M) 23) (fun i _ => (intOf i + 1).toNat)
  case atStart =>
    exact ⟨32, by omega, rfl, HE.out, ((Below.refl _ _).alloc (Nat.le_refl _) _).alloc (by simp) _, (Blk.new _ _ _ rfl).old _, Blk.new _ _ _ (by simp)⟩
  case round =>
    obtain ⟨k, hk, rfl, he, hb, b0, b1⟩ := hrel
    have HK := Lib.hid he
    clear he
    rcases Nat.eq_zero_or_pos k with rfl | hp
    · go_wp2
      go_ret
      refine ⟨ret_int ?_, hb⟩
      have := HK.out
      simp at this
      simp [cmpv, this]
    · obtain ⟨j, rfl⟩ : ∃ j, k = j + 1 := ⟨k - 1, by omega⟩
      rw [show ((j + 1 : Nat) : Int) - 1 = (j : Int) by omega]
      have c0 := b0.cell (wc_get N j (by omega))
      have c1 := b1.cell (wc_get M j (by omega))
      have d0 := dig_le N j
      have d1 := dig_le M j
      rcases Nat.lt_trichotomy (dig N j) (dig M j) with h | h | h
      · go_wp2_with fail
        go_quiet (fail)
        go_wp2
        go_ret
        exact ⟨ret_int (by simp [cmpv, lt_of_word HK.out h]), below_drewN hb _⟩
      · have h1 : ¬ (dig N j : Int) < dig M j := by omega
        have h2 : ¬ (dig M j : Int) < dig N j := by omega
        have HH := Lib.hid h
        clear h
        go_wp2_with fail
        go_quiet (fail)
        go_wp2_with fail
        go_quiet (fail)
        go_wp2
        go_roundw
        case rel => exact ⟨j, by omega, rfl, eq_of_word HK.out HH.out, below_drewN hb _, b0, b1⟩
        case measure => simp [intOf]
      · have h1 : ¬ (dig N j : Int) < dig M j := by omega
        go_wp2_with fail
        go_quiet (fail)
        go_wp2_with fail
        go_quiet (fail)
        go_wp2
        go_ret
        have hl := lt_of_word HK.out.symm h
        exact ⟨ret_int (by simp [cmpv, hl]; omega), below_drewN (below_drewN hb _) _⟩
theorem plus_yes (N M : Nat) (w : World) (hN : N < bb ^ 32) (hM : M < bb ^ 32) (h : N + M < bb ^ 32) :
    Calls Try.prog 57 #[.agg (wc N).toArray, .agg (wc M).toArray] w fun e w' => e = .returned (.tuple #[.agg (wc (N + M)).toArray, .bool true]) ∧ Below w.heap.size w w' :=
  (plus_any N M w hN hM).mono fun _ _ ⟨he, hb⟩ => ⟨he.trans (by rw [Nat.mod_eq_of_lt h, decide_eq_true h]), hb⟩
theorem plus_no (N M : Nat) (w : World) (hN : N < bb ^ 32) (hM : M < bb ^ 32) (h : ¬ N + M < bb ^ 32) :
    Calls Try.prog 57 #[.agg (wc N).toArray, .agg (wc M).toArray] w fun e w' => e = .returned (.tuple #[.agg (wc ((N + M) % bb ^ 32)).toArray, .bool false]) ∧ Below w.heap.size w w' :=
  (plus_any N M w hN hM).mono fun _ _ ⟨he, hb⟩ => ⟨he.trans (by rw [decide_eq_false h]), hb⟩
end Go.Proofs.Ytcfncekphdkphaa
