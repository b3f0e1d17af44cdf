/- Joined of: Bit Mul Shl. -/
import Derived.Test.YtoegjibeomhekaaGreatWid
import Derived.Lib.BitFns
/- math/bits.Len32, wide.bitLength, wide.Bits, wide.shiftUp, wide.Shl. -/
namespace Go.Proofs.YtoegjibeomhekaaGreat
open Go.RowKit
set_option maxRecDepth 100000
theorem bl_log {x : Nat} (h : x < 4294967296) : Lib.bitLen x = bitLen x := by
  by_cases h0 : x = 0
  · subst h0; rfl
  · have h1 := Lib.bitLen_shift x.log2 x (Nat.log2_self_le h0) (by omega)
    have h2 : x / 2 ^ x.log2 = 1 := by
      have a := (Nat.le_div_iff_mul_le (Nat.two_pow_pos _)).2 (show 1 * 2 ^ x.log2 ≤ x by rw [Nat.one_mul]; exact Nat.log2_self_le h0)
      have b := (Nat.div_lt_iff_lt_mul (Nat.two_pow_pos x.log2)).2 (show x < 2 * 2 ^ x.log2 by rw [Nat.mul_comm, ← Nat.pow_succ]; exact Nat.lt_log2_self)
      omega
    rw [h1, h2, bitLen, if_neg h0]
    rfl
/-- A byte of the library's table of lengths. -/
theorem ixT {ops : Array Oper} {rest : List Oper} {o : Oper} {a : Act} {w : World} {Q : Exit → Act → World → Prop} {S : ByteArray} {x : Operand} {k : IntKind} {i : Int} (hS : S = Lib.len8tab) (hgd : o.guard = none) (ho : o.op = .index 9 (.const (.string S)) x) (hx : a.eval x = .int k i) (h0 : 0 ≤ i) (h1 : i ≤ 255)
    (hr : bitLen i.toNat ≤ 8 → wpList Tryz.prog ops Q rest (a.put o.dst (.int .u8 (bitLen i.toNat : Nat))) w) : wpList Tryz.prog ops Q (o :: rest) a w :=
  wpList_plain hgd fun K hK => by
    have := hK _ _ (hr (bitLen_le8 _ (by omega)))
    subst hS
    unfold Oper.wp execOp
    simp only [ho, hx, Sem.run_bind, BigFrame.eval_const, Lib.run_index_len8tab w 9 k i Tryz.underlying9 h0 h1, Lib.len8_of i h0 h1, bl_log (show i.toNat < 4294967296 by omega)]
    exact this
theorem wr_add (a b : Nat) (h : b ≤ 8) (ha : a ≤ 24) : wrap64 ((a : Int) + wrap64 (b : Int)) = ((a + b : Nat) : Int) := by
  unfold wrap64; omega
theorem wr_two (b : Nat) (h : b ≤ 8) : wrap64 (wrap64 (b : Int)) = (b : Int) := by
  unfold wrap64; omega
set_option maxHeartbeats 400000 in
set_option maxRecDepth 100000 in
theorem Len32_any (x : Nat) (w : World) (hx : x ≤ 4294967295) :
    Calls Tryz.prog 81 #[.int .u32 x] w fun e w' => e = .returned (.int .i64 (bitLen x : Nat)) ∧ w' = w := by
  have HX := Lib.hid hx
  by_cases h1 : 65536 ≤ x
  · by_cases h2 : 16777216 ≤ x
    · have g2 : (256 : Int) ≤ (x : Int) / 65536 := by omega
      have HL := Lib.hid (bitLen_shift x 24 (by omega))
      have g1 : (65536 : Int) ≤ (x : Int) := by omega
      clear h1 h2 hx
      go_enter Tryz.func81, Tryz.ntmps81
      go_wp2_with (first | (refine ixT (by kernel_rfl) rfl rfl rfl (by omega) (by have := HX.out; omega) (fun hl => ?_)))
      go_ret
      refine ⟨ret_int ?_, rfl⟩
      have := HX.out
      rw [HL.out, show x / 65536 / 256 % 256 = x / 2 ^ 24 by omega]
      exact wr_add 24 _ (bitLen_le8 _ (by omega)) (by omega)
    · have g2 : ¬ (256 : Int) ≤ (x : Int) / 65536 := by omega
      have HL := Lib.hid (bitLen_shift x 16 (by omega))
      have g1 : (65536 : Int) ≤ (x : Int) := by omega
      have H2 := Lib.hid h2
      clear h1 h2 hx
      go_enter Tryz.func81, Tryz.ntmps81
      go_wp2_with (first | (refine ixT (by kernel_rfl) rfl rfl rfl (by omega) (by omega) (fun hl => ?_)))
      go_ret
      refine ⟨ret_int ?_, rfl⟩
      have := H2.out
      rw [HL.out, show x / 65536 = x / 2 ^ 16 by omega]
      exact wr_add 16 _ (bitLen_le8 _ (by omega)) (by omega)
  · by_cases h2 : 256 ≤ x
    · have HL := Lib.hid (bitLen_shift x 8 (by omega))
      have g1 : ¬ (65536 : Int) ≤ (x : Int) := by omega
      have g2 : (256 : Int) ≤ (x : Int) := by omega
      have H1 := Lib.hid h1
      clear h1 h2 hx
      go_enter Tryz.func81, Tryz.ntmps81
      go_wp2_with (first | (refine ixT (by kernel_rfl) rfl rfl rfl (by omega) (by omega) (fun hl => ?_)))
      go_ret
      refine ⟨ret_int ?_, rfl⟩
      have := H1.out
      rw [HL.out, show x / 256 = x / 2 ^ 8 by omega]
      exact wr_add 8 _ (bitLen_le8 _ (by omega)) (by omega)
    · have g1 : ¬ (65536 : Int) ≤ (x : Int) := by omega
      have g2 : ¬ (256 : Int) ≤ (x : Int) := by omega
      have H2 := Lib.hid h2
      clear h1 h2 hx
      go_enter Tryz.func81, Tryz.ntmps81
      go_wp2_with (first | (refine ixT (by kernel_rfl) rfl rfl rfl (by omega) (by omega) (fun hl => ?_)))
      go_ret
      refine ⟨ret_int ?_, rfl⟩
      have := H2.out
      exact wr_two _ (bitLen_le8 _ (by omega))
theorem bitLen_words {N k : Nat} (h : N / bb ^ k ≠ 0) : bitLen N = 32 * k + bitLen (N / bb ^ k) := by
  rw [bp_two] at h ⊢
  exact bitLen_shift N (32 * k) h
set_option maxHeartbeats 400000 in
set_option maxRecDepth 100000 in
theorem bitLength_any (N : Nat) (w : World) (hN : N < bb ^ 32) :
    Calls Tryz.prog 66 #[.agg (wc N).toArray] w fun e w' => e = .returned (.int .i64 (bitLen N : Nat)) ∧ Below w.heap.size w w' := by
  have HN := Lib.hid hN
  have hn := nw_le_of hN
  clear hN
  have b0 := Blk.new w (wc N) 41 rfl
  have hb : Below w.heap.size w (w.alloc (.cells (wc N).toArray 41)) := (Below.refl _ _).alloc (Nat.le_refl _) _
  by_cases h0 : N = 0
  · subst h0
    go_enter Tryz.func66, Tryz.ntmps66
    go_wp2_with (first | (with_reducible refine ldA rfl rfl rfl b0 ?_))
    refine (length_any 0 _ HN.out).mono ?_
    rintro e w1 ⟨rfl, hb1⟩
    rw [show ((nw 0 : Nat) : Int) = 0 from rfl]
    go_wp2
    go_ret
    exact ⟨rfl, bthen hb hb1⟩
  · obtain ⟨j, hj⟩ : ∃ j, nw N = j + 1 := ⟨nw N - 1, by have := nw_zero (N := N); omega⟩
    have hlt := nw_lt N
    have hle := nw_le N h0
    rw [hj] at hn hlt hle
    rw [Nat.add_sub_cancel] at hle
    have hd : N / bb ^ j = dig N j := by
      unfold dig
      rw [Nat.mod_eq_of_lt]
      rw [Nat.div_lt_iff_lt_mul (bp_pos j), Nat.mul_comm, ← bp_succ]; exact hlt
    have hd0 : N / bb ^ j ≠ 0 := by
      have := (Nat.le_div_iff_mul_le (bp_pos j)).2 (show 1 * bb ^ j ≤ N by rw [Nat.one_mul]; exact hle)
      omega
    have HB := Lib.hid (bitLen_words hd0)
    rw [hd] at HB
    have HJ := Lib.hid hj
    have d0 := dig_le N j
    have hl : bitLen (dig N j) ≤ 32 := by
      have := (bitLen_spec (dig N j)).2
      by_cases hz : dig N j = 0
      · rw [hz]; decide
      · have h2 := this hz
        rcases Nat.lt_or_ge 32 (bitLen (dig N j)) with h3 | h3
        · have := Nat.pow_le_pow_right (n := 2) (by decide) (show 32 ≤ bitLen (dig N j) - 1 by omega)
          omega
        · exact h3
    clear hlt hle hd hd0 hj
    go_enter Tryz.func66, Tryz.ntmps66
    go_wp2_with (first | (with_reducible refine ldA rfl rfl rfl b0 ?_))
    refine (length_any N _ HN.out).mono ?_
    rintro e w1 ⟨rfl, hb1⟩
    rw [HJ.out, show ((j + 1 : Nat) : Int) = (j : Int) + 1 by omega]
    have c0 := (b0.call hb1).cell (wc_get N j (by omega))
    go_wp2_with fail
    refine (Len32_any (dig N j) _ d0).mono ?_
    rintro e w2 ⟨rfl, rfl⟩
    go_wp2
    go_ret
    refine ⟨ret_int ?_, bthen hb hb1⟩
    rw [HB.out]
    omega
theorem Bits_w {cs : List Value} {x : Int} (hx : Wd cs x) (w : World) :
    Calls Tryz.prog 54 #[.agg cs.toArray] w fun e w' => e = .returned (.int .i64 (bitLen x.natAbs : Nat)) ∧ Below w.heap.size w w' := by
  obtain ⟨s, N, rfl, rfl, hN⟩ := hx
  rw [zn_abs]
  have HN := Lib.hid hN
  clear hN
  have b0 := Blk.new w (wd s N) 43 rfl
  have hb : Below w.heap.size w (w.alloc (.cells (wd s N).toArray 43)) := (Below.refl _ _).alloc (Nat.le_refl _) _
  go_enter Tryz.func54, Tryz.ntmps54
  go_wp2_with (first | (with_reducible refine ldD rfl rfl rfl b0 ?_))
  refine (bitLength_any N _ HN.out).mono ?_
  rintro e w1 ⟨rfl, hb1⟩
  go_wp2
  go_ret
  exact ⟨rfl, bthen hb hb1⟩
end Go.Proofs.YtoegjibeomhekaaGreat

/- wide.times, wide.Mul. -/
namespace Go.Proofs.YtoegjibeomhekaaGreat
open Go.RowKit
set_option maxRecDepth 100000
theorem wc_put {Y k v : Nat} (hv : v < bb) : (wc Y).set k (.int .u32 (v : Nat)) = wc (put Y k v) := by
  apply List.ext_getElem?
  intro i
  rw [List.getElem?_set]
  by_cases hi : i < 32
  · rw [wc_get (put Y k v) i hi, wc_length]
    split
    · rename_i h; subst h
      rw [if_pos hi, dig_put_same hv]
    · rename_i h
      rw [wc_get Y i hi]
      rcases Nat.lt_or_ge i k with h1 | h1
      · rw [dig_put_low h1]
      · rw [dig_put_high hv (by omega)]
  · rw [List.getElem?_eq_none (by rw [wc_length]; omega), List.getElem?_eq_none (by rw [wc_length]; omega)]
    split
    · rw [if_neg (by rw [wc_length]; omega)]
    · rfl
theorem built23e : Tryz.prog.built 41 [] = some (wc 0).toArray := by kernel_rfl
theorem bdA0 {ops : Array Oper} {rest : List Oper} {o : Oper} {a : Act} {w : World} {Q : Exit → Act → World → Prop} (hgd : o.guard = none) (ho : o.op = .build 41 #[])
    (hr : wpList Tryz.prog ops Q rest (a.put o.dst (.agg (wc 0).toArray)) w) : wpList Tryz.prog ops Q (o :: rest) a w :=
  wpList_plain hgd fun K hK => by
    have := hK _ _ hr
    unfold Oper.wp execOp
    simp only [ho, Sem.run_bind]
    rw [show Array.map (fun x : Nat × Operand => (x.fst, a.eval x.snd)) #[] = #[] by simp, run_build w 41 #[] _ built23e]
    exact this
/-- What the loops of times keep in memory. -/
def Rows3 (w wr : World) (N M X : Nat) : Prop :=
  Below w.heap.size w wr ∧ Blk wr w.heap.size (wc N) 41 ∧ Blk wr (w.heap.size + 1) (wc M) 41 ∧ Blk wr (w.heap.size + 1 + 1) (wc 0) 41 ∧ Blk wr (w.heap.size + 1 + 1 + 1) (wc X) 41
/-- What times answers. -/
def TimesPost (w : World) (N M : Nat) (e : Ending) (w' : World) : Prop :=
  (N * M < bb ^ 32 → e = .returned (.tuple #[.agg (wc (N * M)).toArray, .bool true])) ∧ (¬ N * M < bb ^ 32 → e = .returned (.tuple #[.agg (wc 0).toArray, .bool false])) ∧ Below w.heap.size w w'
set_option maxHeartbeats 1000000 in
set_option maxRecDepth 100000 in
theorem times_any (N M : Nat) (w : World) (hN : N < bb ^ 32) (hM : M < bb ^ 32) :
    Calls Tryz.prog 96 #[.agg (wc N).toArray, .agg (wc M).toArray] w (TimesPost w N M) := by
  have HN := Lib.hid hN
  have HM := Lib.hid hM
  have HNn := Lib.hid (nw_lt N)
  have HMm := Lib.hid (nw_lt M)
  have hn := nw_le_of hN
  have hm := nw_le_of hM
  clear hN hM
  have b0 := (((Blk.new w (wc N) 41 rfl).old (.cells (wc M).toArray 41)).old (.cells (wc 0).toArray 41)).old (.cells (wc 0).toArray 41)
  have b1 := ((Blk.new (w.alloc (.cells (wc N).toArray 41)) (wc M) 41 (b := w.heap.size + 1) (by simp)).old (.cells (wc 0).toArray 41)).old (.cells (wc 0).toArray 41)
  have b2 := (Blk.new ((w.alloc (.cells (wc N).toArray 41)).alloc (.cells (wc M).toArray 41)) (wc 0) 41 (b := w.heap.size + 1 + 1) (by simp)).old (.cells (wc 0).toArray 41)
  have b3 := Blk.new (((w.alloc (.cells (wc N).toArray 41)).alloc (.cells (wc M).toArray 41)).alloc (.cells (wc 0).toArray 41)) (wc 0) 41 (b := w.heap.size + 1 + 1 + 1) (by simp)
  have hb : Below w.heap.size w ((((w.alloc (.cells (wc N).toArray 41)).alloc (.cells (wc M).toArray 41)).alloc (.cells (wc 0).toArray 41)).alloc (.cells (wc 0).toArray 41)) := ((((Below.refl _ _).alloc (Nat.le_refl _) _).alloc (by simp) _).alloc (by simp; omega) _).alloc (by simp; omega) _
  go_enter Tryz.func96, Tryz.ntmps96
  go_wp2_with (first | (with_reducible refine alA rfl rfl ?_))
  try rw [show (((w.alloc (.cells (wc N).toArray 41)).alloc (.cells (wc M).toArray 41)).alloc (.cells (wc 0).toArray 41)).heap.size = w.heap.size + 1 + 1 + 1 by simp]
  generalize (((w.alloc (.cells (wc N).toArray 41)).alloc (.cells (wc M).toArray 41)).alloc (.cells (wc 0).toArray 41)).alloc (.cells (wc 0).toArray 41) = W at *
  refine rg_start [] (by kernel_rfl) (fun hS => ?_)
  have b0 := b0.drew
  have b1 := b1.drew
  have b2 := b2.drew
  have b3 := b3.drew
  refine rg_ld 0 rfl (by kernel_rfl) (by kernel_rfl) (by kernel_rfl) (by rfl) hS rfl rfl b0 (by simp <;> omega) (whole23 _) ?_
  try simp only [Act.put, List.setIfInBounds_toArray, List.set_cons_zero, List.set_cons_succ]
  refine rg_ld 2 rfl (by kernel_rfl) (by kernel_rfl) (by kernel_rfl) (by rfl) hS rfl rfl b1 (by simp <;> omega) (whole23 _) ?_
  try simp only [Act.put, List.setIfInBounds_toArray, List.set_cons_zero, List.set_cons_succ]
  refine rg_eff 1 rfl (by kernel_rfl) (by rfl) (fun K hK => ?_)
  go_simp
  refine (length_any N _ HN.out).mono ?_
  rintro e w1 ⟨rfl, hb1⟩
  refine hK _ _ (hS.call hb1) (fun hS => ?_)
  clear hK K
  replace b0 := b0.call hb1
  replace b1 := b1.call hb1
  replace b2 := b2.call hb1
  replace b3 := b3.call hb1
  try simp only [Act.put, List.setIfInBounds_toArray, List.set_cons_zero, List.set_cons_succ]
  refine rg_eff 3 rfl (by kernel_rfl) (by rfl) (fun K hK => ?_)
  go_simp
  refine (length_any M _ HM.out).mono ?_
  rintro e w2 ⟨rfl, hb2⟩
  refine hK _ _ (hS.call hb2) (fun hS => ?_)
  clear hK K
  replace b0 := b0.call hb2
  replace b1 := b1.call hb2
  replace b2 := b2.call hb2
  replace b3 := b3.call hb2
  try simp only [Act.put, List.setIfInBounds_toArray, List.set_cons_zero, List.set_cons_succ]
  refine rg_take 4 rfl (by kernel_rfl) (by kernel_rfl) (by kernel_rfl) (by rfl) hS (v := ?_) ?_ ?_
  rotate_left
  · (intro w' hS'; go_simp <;> try with_reducible rfl)
  try simp only [Act.put, List.setIfInBounds_toArray, List.set_cons_zero, List.set_cons_succ]
  refine rg_take 5 rfl (by kernel_rfl) (by kernel_rfl) (by kernel_rfl) (by rfl) hS (v := ?_) ?_ ?_
  rotate_left
  · (intro w' hS'; go_simp <;> try with_reducible rfl)
  try simp only [Act.put, List.setIfInBounds_toArray, List.set_cons_zero, List.set_cons_succ]
  refine rg_done (by kernel_rfl) ?_
  have HR : Rows3 w w2 N M 0 := ⟨bthen (bthen hb.drew hb1) hb2, b0, b1, b2, b3⟩
  by_cases hov : 33 < nw N + nw M
  · have HO := Lib.hid (mul_over hov hn hm)
    have hov' : (33 : Int) < (nw N : Int) + (nw M : Int) := by omega
    go_wp2_with (first | (with_reducible refine bdA0 rfl rfl ?_) | (with_reducible refine stA rfl rfl rfl rfl b2 ?_))
    exact ret_ct (v := .bool false) rfl rfl rfl rfl (whole23 _) (b2.row _) ⟨fun h => absurd h HO.out, fun _ => rfl, below_row HR.1 (by omega) _⟩
  · have hov' : ¬ (33 : Int) < (nw N : Int) + (nw M : Int) := by omega
    clear hb hb1 hb2 b0 b1 b2 b3 hov
    have HP0 : Hid (px N M 0 < bb ^ 32) := by
      show px N M 0 < bb ^ 32
      rw [px_zero]; exact bp_pos 32
    rw [← px_zero N M] at HR
    go_wp2_with fail
    go_loopw [23] (fun i wr => ∃ k : Nat, k ≤ nw N ∧ i = .int .i64 k ∧ px N M k < bb ^ 32 ∧ Rows3 w wr N M (px N M k)) (fun i _ => nw N - (intOf i).toNat)
    case atStart => exact ⟨0, Nat.zero_le _, rfl, HP0.out, HR⟩
    case round =>
      obtain ⟨k, hk, rfl, hx, hr⟩ := hrel
      have HX := Lib.hid hx
      clear hx HR HP0
      by_cases hlt : k < nw N
      · have d0 := dig_le N k
        go_wp2_with fail
        go_loopw [10, 27] (fun c j wr => ∃ l : Nat, l ≤ nw M ∧ j = .int .i64 l ∧ c = .int .u64 (pc (px N M k) (dig N k) M k l : Nat) ∧ Rows3 w wr N M (pl (px N M k) (dig N k) M k l)) (fun _ j _ => nw M - (intOf j).toNat)
        case atStart => exact ⟨0, Nat.zero_le _, rfl, by rw [pc_zero]; rfl, by rw [pl_zero]; exact hr⟩
        case round =>
          obtain ⟨l, hl, rfl, rfl, hr⟩ := hrel
          have hcl : pc (px N M k) (dig N k) M k l ≤ 4294967295 := by have := pc_lt (X := px N M k) (M := M) (i := k) (j := l) (dig_lt N k); rw [bb_eq] at this; omega
          by_cases hlt2 : l < nw M
          · obtain ⟨hb, b0, b1, b2, b3⟩ := hr
            have d1 := dig_le M l
            have d2 := dig_le (px N M k) (k + l)
            have c0 := b0.cell (wc_get N k (by omega))
            have c1 := b1.cell (wc_get M l (by omega))
            have c3 := b3.cell (wc_get _ (k + l) (by omega))
            rw [dig_pl] at c3
            have f3 := b3.frozen (k + l)
            have HC := Lib.hid (pc_succ (px N M k) (dig N k) M k l)
            have HL := Lib.hid (pl_succ (px N M k) (dig N k) M k l)
            have hmul : dig N k * dig M l ≤ 4294967295 * 4294967295 := Nat.mul_le_mul d0 d1
            have e1 : IntKind.u64.wrap ((dig N k : Int) * (dig M l : Int)) = (dig N k : Int) * (dig M l : Int) := by
              rw [IntKind.wrap_u64]; omega
            have e2 : IntKind.u64.wrap ((dig N k : Int) * (dig M l : Int) + (dig (px N M k) (k + l) : Int)) = (dig N k : Int) * (dig M l : Int) + (dig (px N M k) (k + l) : Int) := by
              rw [IntKind.wrap_u64]; omega
            have e3 : IntKind.u64.wrap ((dig N k : Int) * (dig M l : Int) + (dig (px N M k) (k + l) : Int) + (pc (px N M k) (dig N k) M k l : Int)) = (dig N k : Int) * (dig M l : Int) + (dig (px N M k) (k + l) : Int) + (pc (px N M k) (dig N k) M k l : Int) := by
              rw [IntKind.wrap_u64]; omega
            have e4 : IntKind.i64.wrap ((k : Int) + l) = (k : Int) + l := IntWalk.i64_in _ (by omega)
            have e5 : ((k : Int) + l).toNat = k + l := by omega
            have hk1 : (k : Int) < 32 := by omega
            have hl1 : (l : Int) < 32 := by omega
            have hkl : (k : Int) + l < 32 := by omega
            have hkl0 : (0 : Int) ≤ (k : Int) + l := by omega
            go_wp2_with fail
            go_quiet (fail)
            clear e1 e2 e3 e4 e5
            have hT : dig N k * dig M l + dig (px N M k) (k + l) + pc (px N M k) (dig N k) M k l ≤ 18446744073709551615 := by omega
            rw [show (dig N k : Int) * (dig M l : Int) + (dig (px N M k) (k + l) : Int) + (pc (px N M k) (dig N k) M k l : Int) = ((dig N k * dig M l + dig (px N M k) (k + l) + pc (px N M k) (dig N k) M k l : Nat) : Int) by push_cast; rfl]
            generalize dig N k * dig M l + dig (px N M k) (k + l) + pc (px N M k) (dig N k) M k l = T at *
            have HT1 : Hid ((T : Int) % 4294967296 = ((T % bb : Nat) : Int)) := by
              show (T : Int) % 4294967296 = ((T % bb : Nat) : Int)
              rw [bb_eq]; omega
            have HT2 : Hid ((T : Int) / 4294967296 = ((T / bb : Nat) : Int)) := by
              show (T : Int) / 4294967296 = ((T / bb : Nat) : Int)
              rw [bb_eq]; omega
            clear hmul
            go_wp2
            rw [HT1.out, HT2.out]
            go_roundw
            case rel =>
              refine ⟨l + 1, by omega, by go_num, int_eq (by rw [HC.out]), (below_drewN hb _).setCell (by simp; omega) _, (b0.drewN _).setOther _ _ (by omega), (b1.drewN _).setOther _ _ (by omega), (b2.drewN _).setOther _ _ (by omega), ?_⟩
              have := (b3.drewN nq).set (k + l) (.int .u32 (T % bb : Nat))
              rw [wc_put (Nat.mod_lt _ bb_pos), ← HL.out] at this
              exact this
            case measure => simp [intOf]; omega
          · obtain rfl : l = nw M := by omega
            obtain ⟨hb, b0, b1, b2, b3⟩ := hr
            have HC := Lib.hid (pc_all (N := N) (i := k) HMm.out)
            have HL := Lib.hid (pl_all (N := N) (i := k) HMm.out)
            have HE := Lib.hid (Nat.mod_add_div (px N M (k + 1)) (bb ^ (k + nw M)))
            have HV := Lib.hid (px_lt (N := N) (i := k + 1) HMm.out)
            by_cases h32 : k + nw M < 32
            · have h32' : (k : Int) + (nw M : Int) < 32 := by omega
              have c3 := b3.cell (wc_get _ (k + nw M) h32)
              have f3 := b3.frozen (k + nw M)
              go_wp2
              go_roundw
              case rel =>
                refine ⟨k + 1, by omega, by go_num, ?_, hb.setCell (by simp; omega) _, b0.setOther _ _ (by omega), b1.setOther _ _ (by omega), b2.setOther _ _ (by omega), ?_⟩
                · exact Nat.lt_of_lt_of_le HV.out (bp_mono (by omega))
                · have := b3.set (k + nw M) (.int .u32 (pc (px N M k) (dig N k) M k (nw M) : Nat))
                  rw [HL.out] at this
                  rw [wc_set (Nat.mod_lt _ (bp_pos _)) (pc_lt (dig_lt N k)), HC.out, HE.out] at this
                  rw [HC.out]
                  exact this
              case measure => simp [intOf]; omega
            · have h33 : k + nw M = 32 := by omega
              have h32' : ¬ (k : Int) + (nw M : Int) < 32 := by omega
              have H33 := Lib.hid h33
              clear h33
              by_cases hc0 : pc (px N M k) (dig N k) M k (nw M) = 0
              · have hc1 : ¬ (0 : Int) < (pc (px N M k) (dig N k) M k (nw M) : Int) := by omega
                have HC0 := Lib.hid hc0
                clear hc0
                go_wp2
                go_roundw
                case rel =>
                  have h1 := HC.out.symm.trans HC0.out
                  rw [H33.out] at h1
                  have h2 : px N M (k + 1) < bb ^ 32 := by
                    rcases Nat.div_eq_zero_iff.1 h1 with h | h
                    · have := bp_pos 32; omega
                    · exact h
                  refine ⟨k + 1, by omega, by go_num, h2, hb, b0, b1, b2, ?_⟩
                  have := b3
                  rw [HL.out, H33.out, Nat.mod_eq_of_lt h2] at this
                  exact this
                case measure => simp [intOf]; omega
              · have hc1 : (0 : Int) < (pc (px N M k) (dig N k) M k (nw M) : Int) := by omega
                have HC0 := Lib.hid hc0
                clear hc0
                go_wp2_with (first | (with_reducible refine bdA0 rfl rfl ?_) | (with_reducible refine stA rfl rfl rfl rfl b2 ?_))
                have h1 : ¬ N * M < bb ^ 32 := by
                  intro h
                  apply HC0.out
                  rw [HC.out, H33.out]
                  exact Nat.div_eq_of_lt (Nat.lt_of_le_of_lt (px_le N M (k + 1)) h)
                exact ret_ct (v := .bool false) rfl rfl rfl rfl (whole23 _) (b2.row _) ⟨fun h => absurd h h1, fun _ => rfl, below_row hb (by omega) _⟩
      · obtain rfl : k = nw N := by omega
        obtain ⟨hb, b0, b1, b2, b3⟩ := hr
        have HE := Lib.hid (px_all (M := M) HNn.out)
        go_wp2_with (first | (with_reducible refine ldA rfl rfl rfl b3 ?_) | (with_reducible refine stA rfl rfl rfl rfl b2 ?_))
        refine ret_ct (cs := wc (px N M (nw N))) (v := .bool true) rfl rfl rfl rfl (whole23 _) (b2.row _) ⟨fun _ => ?_, fun h => absurd ?_ h, below_row hb (by omega) _⟩
        · rw [HE.out]
        · rw [← HE.out]; exact HX.out
theorem times_yes (N M : Nat) (w : World) (hN : N < bb ^ 32) (hM : M < bb ^ 32) (h : N * M < bb ^ 32) :
    Calls Tryz.prog 96 #[.agg (wc N).toArray, .agg (wc M).toArray] w fun e w' => e = .returned (.tuple #[.agg (wc (N * M)).toArray, .bool true]) ∧ Below w.heap.size w w' :=
  (times_any N M w hN hM).mono fun _ _ ⟨h1, _, h3⟩ => ⟨h1 h, h3⟩
theorem times_no (N M : Nat) (w : World) (hN : N < bb ^ 32) (hM : M < bb ^ 32) (h : ¬ N * M < bb ^ 32) :
    Calls Tryz.prog 96 #[.agg (wc N).toArray, .agg (wc M).toArray] w fun e w' => e = .returned (.tuple #[.agg (wc 0).toArray, .bool false]) ∧ Below w.heap.size w w' :=
  (times_any N M w hN hM).mono fun _ _ ⟨_, h2, h3⟩ => ⟨h2 h, h3⟩
/-- The walk of Mul, over what times and fitting answer. -/
theorem Mul_walk (s t : Bool) (N M X : Nat) (ok : Bool) (z : Int) (w : World)
    (hT : ∀ w, Calls Tryz.prog 96 #[.agg (wc N).toArray, .agg (wc M).toArray] w fun e w' => e = .returned (.tuple #[.agg (wc X).toArray, .bool ok]) ∧ Below w.heap.size w w')
    (hF : ∀ w, Calls Tryz.prog 97 #[.bool (s != t), .agg (wc X).toArray, .bool ok] w fun e w' => e = .returned (.tuple #[.agg (mk z).toArray, .bool ok]) ∧ Below w.heap.size w w') :
    Calls Tryz.prog 86 #[.agg (wd s N).toArray, .agg (wd t M).toArray] w fun e w' => e = .returned (.tuple #[.agg (mk z).toArray, .bool ok]) ∧ Below w.heap.size w w' := by
  have HT := Lib.hid hT
  have HF := Lib.hid hF
  clear hT hF
  have b0 := ((Blk.new w (wd s N) 43 rfl).old (.cells (wd t M).toArray 43)).old (.cells (wd false 0).toArray 43)
  have b1 := (Blk.new (w.alloc (.cells (wd s N).toArray 43)) (wd t M) 43 (b := w.heap.size + 1) (by simp)).old (.cells (wd false 0).toArray 43)
  have b2 := Blk.new ((w.alloc (.cells (wd s N).toArray 43)).alloc (.cells (wd t M).toArray 43)) (wd false 0) 43 (b := w.heap.size + 1 + 1) (by simp)
  have hb : Below w.heap.size w (((w.alloc (.cells (wd s N).toArray 43)).alloc (.cells (wd t M).toArray 43)).alloc (.cells (wd false 0).toArray 43)) := (((Below.refl _ _).alloc (Nat.le_refl _) _).alloc (by simp) _).alloc (by simp; omega) _
  go_enter Tryz.func86, Tryz.ntmps86
  go_wp2_with (first | (with_reducible refine alW rfl rfl ?_) | (with_reducible refine ldD rfl rfl rfl b0 ?_) | (with_reducible refine ldD rfl rfl rfl b1 ?_))
  refine (HT.out _).mono ?_
  rintro e w1 ⟨rfl, hb1⟩
  have a0 := (b0.call hb1).old (.cells (wc 0).toArray 41)
  have a1 := (b1.call hb1).old (.cells (wc 0).toArray 41)
  have a2 := (b2.call hb1).old (.cells (wc 0).toArray 41)
  have a3 := Blk.new w1 (wc 0) 41 rfl
  have hsz : w.heap.size + 1 + 1 < w1.heap.size := (b2.call hb1).lt
  have hb' := (bthen hb hb1).alloc (Nat.le_trans hb.size hb1.size) (.cells (wc 0).toArray 41)
  have d0 := a0.rowOther (g := w1.heap.size) (wc X).toArray (by omega)
  have d1 := a1.rowOther (g := w1.heap.size) (wc X).toArray (by omega)
  have d2 := a2.rowOther (g := w1.heap.size) (wc X).toArray (by omega)
  have d3 := a3.row (wc X)
  have hb'' := below_row hb' (g := w1.heap.size) (by omega) (wc X).toArray
  have e0 := d0.cell (wd_sign s N)
  have e1 := d1.cell (wd_sign t M)
  go_wp2_with (first | (with_reducible refine alA rfl rfl ?_) | (with_reducible refine stA rfl rfl rfl rfl a3 ?_) | (with_reducible refine ldA rfl rfl rfl d3 ?_))
  refine (HF.out _).mono ?_
  rintro e w2 ⟨rfl, hb2⟩
  have f2 := d2.call hb2
  go_wp2_with (first | (with_reducible refine stM rfl rfl rfl rfl f2 (wd_length _ _) ?_))
  exact ret_ct (v := .bool ok) rfl rfl rfl rfl (wholeM _) (f2.row _) ⟨rfl, below_row (bthen hb'' hb2) (by omega) _⟩
theorem zn_mul (s t : Bool) (N M : Nat) : zn s N * zn t M = zn (s != t) (N * M) := by
  unfold zn; cases s <;> cases t <;> simp [Int.neg_mul, Int.mul_neg]
theorem Mul_w {cs ds : List Value} {x y : Int} (hx : Wd cs x) (hy : Wd ds y) (w : World) (h : fits (x * y)) :
    Calls Tryz.prog 86 #[.agg cs.toArray, .agg ds.toArray] w fun e w' => e = .returned (.tuple #[.agg (mk (x * y)).toArray, .bool true]) ∧ Below w.heap.size w w' := by
  obtain ⟨s, N, rfl, rfl, hN⟩ := hx
  obtain ⟨t, M, rfl, rfl, hM⟩ := hy
  rw [zn_mul] at h ⊢
  rw [fits, zn_abs] at h
  exact Mul_walk s t N M (N * M) true _ w (fun w => times_yes N M w hN hM h) (fun w => fitting_yes _ _ w h)
theorem Mul_wn {cs ds : List Value} {x y : Int} (hx : Wd cs x) (hy : Wd ds y) (w : World) (h : ¬ fits (x * y)) :
    Calls Tryz.prog 86 #[.agg cs.toArray, .agg ds.toArray] w fun e w' => e = .returned (.tuple #[.agg (mk 0).toArray, .bool false]) ∧ Below w.heap.size w w' := by
  obtain ⟨s, N, rfl, rfl, hN⟩ := hx
  obtain ⟨t, M, rfl, rfl, hM⟩ := hy
  rw [zn_mul, fits, zn_abs] at h
  exact Mul_walk s t N M 0 false _ w (fun w => times_no N M w hN hM h) (fun w => fitting_no _ _ w)
end Go.Proofs.YtoegjibeomhekaaGreat

/- wide.shiftUp, wide.Shl. -/
namespace Go.Proofs.YtoegjibeomhekaaGreat
set_option linter.unusedSimpArgs false
set_option linter.unusedVariables false
open Go.RowKit
set_option maxRecDepth 100000
theorem pow31 {r : Nat} (h : r < 32) : 2 ^ r ≤ 2147483648 := Nat.pow_le_pow_right (n := 2) (by decide) (show r ≤ 31 by omega)
theorem wrap_shl {d r : Nat} (hd : d ≤ 4294967295) (h : r < 32) : IntKind.u64.wrap ((d : Int) * 2 ^ r) = ((d * 2 ^ r : Nat) : Int) := by
  have h1 : d * 2 ^ r ≤ 4294967295 * 2147483648 := Nat.mul_le_mul hd (pow31 h)
  have e : (d : Int) * 2 ^ r = ((d * 2 ^ r : Nat) : Int) := by push_cast; rfl
  rw [e, IntKind.wrap_u64]
  generalize d * 2 ^ r = x at *
  omega
theorem sh_zero {N r : Nat} (h : r < 32) : IntKind.u64.wrap ((dig N 0 : Int) * 2 ^ r) % 4294967296 = ((dig (N * 2 ^ r) 0 : Nat) : Int) := by
  rw [wrap_shl (dig_le N 0) h, dig_pow_zero, bb_eq]
  generalize dig N 0 * 2 ^ r = x
  omega
theorem sh_succ {N j r : Nat} (h : r < 32) : bits .or .u64 (IntKind.u64.wrap ((dig N (j + 1) : Int) * 2 ^ r)) (IntKind.u64.wrap ((dig N j : Int) * 2 ^ r) / 4294967296) % 4294967296 = ((dig (N * 2 ^ r) (j + 1) : Nat) : Int) := by
  have h1 : dig N (j + 1) * 2 ^ r ≤ 4294967295 * 2147483648 := Nat.mul_le_mul (dig_le N _) (pow31 h)
  have h2 : dig N j * 2 ^ r < 4294967296 * 2 ^ r := Nat.mul_lt_mul_of_pos_right (by have := dig_le N j; omega) (Nat.two_pow_pos r)
  have h3 : dig N j * 2 ^ r / 4294967296 < 2 ^ r := by rw [Nat.div_lt_iff_lt_mul (by decide), Nat.mul_comm (2 ^ r)]; exact h2
  have h4 := pow31 h
  rw [wrap_shl (dig_le N _) h, wrap_shl (dig_le N _) h, dig_pow_succ N j h, show ((dig N j * 2 ^ r : Nat) : Int) / 4294967296 = ((dig N j * 2 ^ r / 4294967296 : Nat) : Int) by omega,
    u64_or_nat _ _ (by omega) (by omega), nat_join r _ _ (Nat.mul_mod_left _ _) h3, bb_eq]
  omega
theorem bb_pow (e : Nat) (h : e = 32 * 32) : bb ^ 32 = 2 ^ e := by subst h; exact bp_two 32
theorem two_le {a b : Nat} (h : a ≤ b) : 2 ^ a ≤ 2 ^ b := Nat.pow_le_pow_right (by decide) h
theorem two_lt {a b : Nat} (h : a < b) : 2 ^ a < 2 ^ b := Nat.pow_lt_pow_right (by decide) h
theorem bit_fits_of {N k E : Nat} (h0 : N ≠ 0) : (bitLen N + k ≤ E) ↔ N * 2 ^ k < 2 ^ E := by
  have ⟨h1, h2⟩ := bitLen_spec N
  have h3 := h2 h0
  have hb : 0 < bitLen N := by unfold bitLen; rw [if_neg h0]; omega
  have hp : 0 < 2 ^ k := Nat.two_pow_pos k
  constructor
  · intro h
    have a := Nat.mul_lt_mul_of_pos_right h1 hp
    rw [← Nat.pow_add] at a
    exact Nat.lt_of_lt_of_le a (two_le h)
  · intro h
    have a := Nat.mul_le_mul_right (2 ^ k) h3
    rw [← Nat.pow_add] at a
    have b := Nat.lt_of_le_of_lt a h
    have c := (Nat.pow_lt_pow_iff_right (show 1 < 2 by decide)).1 b
    omega
theorem bit_fits {N k : Nat} (h0 : N ≠ 0) : (bitLen N + k ≤ 1024) ↔ N * 2 ^ k < bb ^ 32 := by
  rw [bb_pow 1024 rfl]
  exact bit_fits_of h0
theorem run_max {P : Program} (ats : Array TypeId) (ty : TypeId) (n c : Int) (w : World) : (Builtin.max_ ats ty #[.int .i64 n, .int .i64 c]).run P w = .ok (.int .i64 (max n c)) w := by
  simp only [Builtin.max_, List.foldlM_cons, List.foldlM_nil]
  simp [Builtin.max2, go_sem]
  omega
theorem bmax {ops : Array Oper} {rest : List Oper} {o : Oper} {a : Act} {w : World} {Q : Exit → Act → World → Prop} {x : Operand} {n c : Int} (hgd : o.guard = none) (ho : o.op = .call { callee := .builtin .max, args := #[x, .const (.int .i64 c)], argTypes := #[3, 3] }) (hx : a.eval x = .int .i64 n)
    (hr : wpList Tryz.prog ops Q rest (a.put o.dst (.int .i64 (max n c))) w) : wpList Tryz.prog ops Q (o :: rest) a w :=
  wpList_plain hgd fun K hK => by
    have := hK _ _ hr
    obtain ⟨dst, op, ty, pos, af, gd⟩ := o
    subst ho
    unfold Oper.wp
    rw [BigFrame.execOp_builtin, BigFrame.builtin_max, show (#[x, Operand.const (.int .i64 c)] : Array Operand).map a.eval = #[.int .i64 n, .int .i64 c] by simp [hx, BigFrame.eval_const]]
    simp only [Sem.run_bind, run_max]
    exact this
theorem run_min {P : Program} (ats : Array TypeId) (ty : TypeId) (n c : Int) (w : World) : (Builtin.min_ ats ty #[.int .i64 n, .int .i64 c]).run P w = .ok (.int .i64 (min n c)) w := by
  simp only [Builtin.min_, List.foldlM_cons, List.foldlM_nil]
  simp [Builtin.min2, go_sem]
  omega
theorem bmin {ops : Array Oper} {rest : List Oper} {o : Oper} {a : Act} {w : World} {Q : Exit → Act → World → Prop} {x : Operand} {n c : Int} (hgd : o.guard = none) (ho : o.op = .call { callee := .builtin .min, args := #[x, .const (.int .i64 c)], argTypes := #[3, 3] }) (hx : a.eval x = .int .i64 n)
    (hr : wpList Tryz.prog ops Q rest (a.put o.dst (.int .i64 (min n c))) w) : wpList Tryz.prog ops Q (o :: rest) a w :=
  wpList_plain hgd fun K hK => by
    have := hK _ _ hr
    obtain ⟨dst, op, ty, pos, af, gd⟩ := o
    subst ho
    unfold Oper.wp
    rw [BigFrame.execOp_builtin, BigFrame.builtin_min, show (#[x, Operand.const (.int .i64 c)] : Array Operand).map a.eval = #[.int .i64 n, .int .i64 c] by simp [hx, BigFrame.eval_const]]
    simp only [Sem.run_bind, run_min]
    exact this
/-- How far Shl shifts. -/
def held (n : Int) : Nat := (min (max n 0) 1024).toNat
theorem held_eq (n : Int) : min (max n 0) 1024 = (held n : Int) := by unfold held; omega
end Go.Proofs.YtoegjibeomhekaaGreat
