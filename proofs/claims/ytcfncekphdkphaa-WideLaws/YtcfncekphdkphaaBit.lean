/- math/bits.Len32, wide.bitLength, wide.Bits, wide.shiftUp, wide.Shl. -/
import Derived.Test.YtcfncekphdkphaaWid
import Derived.Lib.BitFns
namespace Go.Proofs.Ytcfncekphdkphaa
open Go.RowKit
set_option maxRecDepth 100000
theorem bl_log {x : Nat} (h : x < 4294967296) : Lib.bitLen x = bitLen x := by
  by_cases h0 : x = 0
  · subst h0; rfl
  · have h1 := Lib.bitLen_shift x.log2 x (Nat.log2_self_le h0) (by omega)
    have h2 : x / 2 ^ x.log2 = 1 := by
      have a := (Nat.le_div_iff_mul_le (Nat.two_pow_pos _)).2 (show 1 * 2 ^ x.log2 ≤ x by rw [Nat.one_mul]; exact Nat.log2_self_le h0)
      have b := (Nat.div_lt_iff_lt_mul (Nat.two_pow_pos x.log2)).2 (show x < 2 * 2 ^ x.log2 by rw [Nat.mul_comm, ← Nat.pow_succ]; exact Nat.lt_log2_self)
      omega
    rw [h1, h2, bitLen, if_neg h0]
    rfl
/-- A byte of the library's table of lengths. -/
theorem ixT {ops : Array Oper} {rest : List Oper} {o : Oper} {a : Act} {w : World} {Q : Exit → Act → World → Prop} {S : ByteArray} {x : Operand} {k : IntKind} {i : Int} (hS : S = Lib.len8tab) (hgd : o.guard = none) (ho : o.op = .index 9 (.const (.string S)) x) (hx : a.eval x = .int k i) (h0 : 0 ≤ i) (h1 : i ≤ 255)
    (hr : bitLen i.toNat ≤ 8 → wpList Try.prog ops Q rest (a.put o.dst (.int .u8 (bitLen i.toNat : Nat))) w) : wpList Try.prog ops Q (o :: rest) a w :=
  wpList_plain hgd fun K hK => by
    have := hK _ _ (hr (bitLen_le8 _ (by omega)))
    subst hS
    unfold Oper.wp execOp
    simp only [ho, hx, Sem.run_bind, BigFrame.eval_const, Lib.run_index_len8tab w 9 k i Try.underlying9 h0 h1, Lib.len8_of i h0 h1, bl_log (show i.toNat < 4294967296 by omega)]
    exact this
theorem wr_add (a b : Nat) (h : b ≤ 8) (ha : a ≤ 24) : wrap64 ((a : Int) + wrap64 (b : Int)) = ((a + b : Nat) : Int) := by
  unfold wrap64; omega
theorem wr_two (b : Nat) (h : b ≤ 8) : wrap64 (wrap64 (b : Int)) = (b : Int) := by
  unfold wrap64; omega
set_option maxHeartbeats 400000 in
set_option maxRecDepth 100000 in
theorem Len32_any (x : Nat) (w : World) (hx : x ≤ 4294967295) :
    Calls Try.prog 105 #[.int .u32 x] w fun e w' => e = .returned (.int .i64 (bitLen x : Nat)) ∧ w' = w := by
  have HX := Lib.hid hx
  by_cases h1 : 65536 ≤ x
  · by_cases h2 : 16777216 ≤ x
    · have g2 : (256 : Int) ≤ (x : Int) / 65536 := by omega
      have HL := Lib.hid (bitLen_shift x 24 (by omega))
      have g1 : (65536 : Int) ≤ (x : Int) := by omega
      clear h1 h2 hx
      go_enter Try.func105, Try.ntmps105
      go_wp2_with (first | (refine ixT (by kernel_rfl) rfl rfl rfl (by omega) (by have := HX.out; omega) (fun hl => ?_)))
      go_ret
      refine ⟨ret_int ?_, rfl⟩
      have := HX.out
      rw [HL.out, show x / 65536 / 256 % 256 = x / 2 ^ 24 by omega]
      exact wr_add 24 _ (bitLen_le8 _ (by omega)) (by omega)
    · have g2 : ¬ (256 : Int) ≤ (x : Int) / 65536 := by omega
      have HL := Lib.hid (bitLen_shift x 16 (by omega))
      have g1 : (65536 : Int) ≤ (x : Int) := by omega
      have H2 := Lib.hid h2
      clear h1 h2 hx
      go_enter Try.func105, Try.ntmps105
      go_wp2_with (first | (refine ixT (by kernel_rfl) rfl rfl rfl (by omega) (by omega) (fun hl => ?_)))
      go_ret
      refine ⟨ret_int ?_, rfl⟩
      have := H2.out
      rw [HL.out, show x / 65536 = x / 2 ^ 16 by omega]
      exact wr_add 16 _ (bitLen_le8 _ (by omega)) (by omega)
  · by_cases h2 : 256 ≤ x
    · have HL := Lib.hid (bitLen_shift x 8 (by omega))
      have g1 : ¬ (65536 : Int) ≤ (x : Int) := by omega
      have g2 : (256 : Int) ≤ (x : Int) := by omega
      have H1 := Lib.hid h1
      clear h1 h2 hx
      go_enter Try.func105, Try.ntmps105
      go_wp2_with (first | (refine ixT (by kernel_rfl) rfl rfl rfl (by omega) (by omega) (fun hl => ?_)))
      go_ret
      refine ⟨ret_int ?_, rfl⟩
      have := H1.out
      rw [HL.out, show x / 256 = x / 2 ^ 8 by omega]
      exact wr_add 8 _ (bitLen_le8 _ (by omega)) (by omega)
    · have g1 : ¬ (65536 : Int) ≤ (x : Int) := by omega
      have g2 : ¬ (256 : Int) ≤ (x : Int) := by omega
      have H2 := Lib.hid h2
      clear h1 h2 hx
      go_enter Try.func105, Try.ntmps105
      go_wp2_with (first | (refine ixT (by kernel_rfl) rfl rfl rfl (by omega) (by omega) (fun hl => ?_)))
      go_ret
      refine ⟨ret_int ?_, rfl⟩
      have := H2.out
      exact wr_two _ (bitLen_le8 _ (by omega))
theorem bitLen_words {N k : Nat} (h : N / bb ^ k ≠ 0) : bitLen N = 32 * k + bitLen (N / bb ^ k) := by
  rw [bp_two] at h ⊢
  exact bitLen_shift N (32 * k) h
set_option maxHeartbeats 400000 in
set_option maxRecDepth 100000 in
theorem bitLength_any (N : Nat) (w : World) (hN : N < bb ^ 32) :
    Calls Try.prog 71 #[.agg (wc N).toArray] w fun e w' => e = .returned (.int .i64 (bitLen N : Nat)) ∧ Below w.heap.size w w' := by
  have HN := Lib.hid hN
  have hn := nw_le_of hN
  clear hN
  have b0 := Blk.new w (wc N) 23 rfl
  have hb : Below w.heap.size w (w.alloc (.cells (wc N).toArray 23)) := (Below.refl _ _).alloc (Nat.le_refl _) _
  by_cases h0 : N = 0
  · subst h0
    go_enter Try.func71, Try.ntmps71
    go_wp2_with (first | (with_reducible refine ldA rfl rfl rfl b0 ?_))
    refine (length_any 0 _ HN.out).mono ?_
    rintro e w1 ⟨rfl, hb1⟩
    rw [show ((nw 0 : Nat) : Int) = 0 from rfl]
    go_wp2
    go_ret
    exact ⟨rfl, bthen hb hb1⟩
  · obtain ⟨j, hj⟩ : ∃ j, nw N = j + 1 := ⟨nw N - 1, by have := nw_zero (N := N); omega⟩
    have hlt := nw_lt N
    have hle := nw_le N h0
    rw [hj] at hn hlt hle
    rw [Nat.add_sub_cancel] at hle
    have hd : N / bb ^ j = dig N j := by
      unfold dig
      rw [Nat.mod_eq_of_lt]
      rw [Nat.div_lt_iff_lt_mul (bp_pos j), Nat.mul_comm, ← bp_succ]; exact hlt
    have hd0 : N / bb ^ j ≠ 0 := by
      have := (Nat.le_div_iff_mul_le (bp_pos j)).2 (show 1 * bb ^ j ≤ N by rw [Nat.one_mul]; exact hle)
      omega
    have HB := Lib.hid (bitLen_words hd0)
    rw [hd] at HB
    have HJ := Lib.hid hj
    have d0 := dig_le N j
    have hl : bitLen (dig N j) ≤ 32 := by
      have := (bitLen_spec (dig N j)).2
      by_cases hz : dig N j = 0
      · rw [hz]; decide
      · have h2 := this hz
        rcases Nat.lt_or_ge 32 (bitLen (dig N j)) with h3 | h3
        · have := Nat.pow_le_pow_right (n := 2) (by decide) (show 32 ≤ bitLen (dig N j) - 1 by omega)
          omega
        · exact h3
    clear hlt hle hd hd0 hj
    go_enter Try.func71, Try.ntmps71
    go_wp2_with (first | (with_reducible refine ldA rfl rfl rfl b0 ?_))
    refine (length_any N _ HN.out).mono ?_
    rintro e w1 ⟨rfl, hb1⟩
    rw [HJ.out, show ((j + 1 : Nat) : Int) = (j : Int) + 1 by omega]
    have c0 := (b0.call hb1).cell (wc_get N j (by omega))
    go_wp2_with fail
    refine (Len32_any (dig N j) _ d0).mono ?_
    rintro e w2 ⟨rfl, rfl⟩
    go_wp2
    go_ret
    refine ⟨ret_int ?_, bthen hb hb1⟩
    rw [HB.out]
    omega
theorem Bits_w {cs : List Value} {x : Int} (hx : Wd cs x) (w : World) :
    Calls Try.prog 33 #[.agg cs.toArray] w fun e w' => e = .returned (.int .i64 (bitLen x.natAbs : Nat)) ∧ Below w.heap.size w w' := by
  obtain ⟨s, N, rfl, rfl, hN⟩ := hx
  rw [zn_abs]
  have HN := Lib.hid hN
  clear hN
  have b0 := Blk.new w (wd s N) 25 rfl
  have hb : Below w.heap.size w (w.alloc (.cells (wd s N).toArray 25)) := (Below.refl _ _).alloc (Nat.le_refl _) _
  go_enter Try.func33, Try.ntmps33
  go_wp2_with (first | (with_reducible refine ldD rfl rfl rfl b0 ?_))
  refine (bitLength_any N _ HN.out).mono ?_
  rintro e w1 ⟨rfl, hb1⟩
  go_wp2
  go_ret
  exact ⟨rfl, bthen hb hb1⟩
end Go.Proofs.Ytcfncekphdkphaa
