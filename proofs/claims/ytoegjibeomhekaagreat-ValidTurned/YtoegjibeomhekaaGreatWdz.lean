/- Joined of: Dla Dlg Dvd Wdz. -/
import Derived.Test.YtoegjibeomhekaaGreatNum
import Derived.Test.YtoegjibeomhekaaGreatShl
import Derived.Test.YtoegjibeomhekaaGreatTkt
import Derived.Test.YtoegjibeomhekaaGreatInt
import Derived.Test.YtoegjibeomhekaaGreatLay
/- The long division's steps, as numbers. -/
namespace Go.Proofs.YtoegjibeomhekaaGreat
set_option linter.unusedVariables false
theorem top_div {M k : Nat} (h : M < bb ^ (k + 1)) : M / bb ^ k = dig M k := by
  unfold dig
  rw [Nat.mod_eq_of_lt]
  rw [Nat.div_lt_iff_lt_mul (bp_pos k), Nat.mul_comm, ← bp_succ]; exact h
/-- How far the divisor is shifted. -/
theorem dl_shift {M k : Nat} (hM : M < bb ^ (k + 1)) (h1 : bb ^ k ≤ M) : 1 ≤ bitLen (dig M k) ∧ bitLen (dig M k) ≤ 32 ∧ M * 2 ^ (32 - bitLen (dig M k)) < bb ^ (k + 1) ∧ 2147483648 ≤ dig (M * 2 ^ (32 - bitLen (dig M k))) k := by
  have e := top_div hM
  have hx : dig M k ≠ 0 := by
    rw [← e]
    have := (Nat.le_div_iff_mul_le (bp_pos k)).2 (show 1 * bb ^ k ≤ M by rw [Nat.one_mul]; exact h1)
    omega
  have hlt := dig_lt M k
  have s1 := (bitLen_spec (dig M k)).1
  have s2 := (bitLen_spec (dig M k)).2 hx
  have hM2 : M < (dig M k + 1) * bb ^ k := by rw [← e, Nat.mul_comm]; exact Nat.lt_mul_div_succ M (bp_pos k)
  generalize dig M k = x at *
  have hb1 : 1 ≤ bitLen x := by
    rcases Nat.eq_zero_or_pos (bitLen x) with h | h
    · rw [h] at s1; simp at s1; omega
    · exact h
  have hb2 : bitLen x ≤ 32 := by
    rcases Nat.lt_or_ge 32 (bitLen x) with h | h
    · have := Nat.pow_le_pow_right (n := 2) (by decide) (show 32 ≤ bitLen x - 1 by omega)
      rw [bb_eq] at hlt; omega
    · exact h
  generalize bitLen x = l at *
  obtain ⟨s, hs⟩ : ∃ s, 32 - l = s := ⟨_, rfl⟩
  rw [hs]
  have h32 : bb = 2 ^ l * 2 ^ s := by rw [← Nat.pow_add, show l + s = 32 by omega, bb_eq]
  have h31 : (2147483648 : Nat) = 2 ^ (l - 1) * 2 ^ s := by rw [← Nat.pow_add, show l - 1 + s = 31 by omega]
  have hp := Nat.two_pow_pos s
  have hlim : M * 2 ^ s < bb ^ (k + 1) := by
    have : M < 2 ^ l * bb ^ k := Nat.lt_of_lt_of_le hM2 (Nat.mul_le_mul_right _ s1)
    rw [bp_succ, show bb ^ k * bb = 2 ^ l * bb ^ k * 2 ^ s by rw [Nat.mul_comm (2 ^ l), Nat.mul_assoc, ← h32]]
    exact Nat.mul_lt_mul_of_pos_right this hp
  refine ⟨hb1, hb2, hlim, ?_⟩
  rw [← top_div hlim, Nat.le_div_iff_mul_le (bp_pos k), h31]
  have : 2 ^ (l - 1) * bb ^ k ≤ M := Nat.le_trans (Nat.mul_le_mul_right _ s2) (by rw [← e]; exact Nat.div_mul_le_self M (bb ^ k))
  rw [Nat.mul_right_comm]
  exact Nat.mul_le_mul_right _ this
theorem words3 {U j i : Nat} (h : U < bb ^ (j + (i + 2) + 1)) : U / bb ^ j / bb ^ i = (dig U (j + (i + 2)) * bb + dig U (j + (i + 1))) * bb + dig U (j + i) := by
  rw [Nat.div_div_eq_div_mul, ← Nat.pow_add]
  have a := top_div h
  have e1 : U / bb ^ (j + (i + 1)) = U / bb ^ (j + (i + 2)) * bb + dig U (j + (i + 1)) := by
    unfold dig
    rw [show j + (i + 2) = j + (i + 1) + 1 by omega, bp_succ, ← Nat.div_div_eq_div_mul]
    exact (Nat.div_add_mod' _ _).symm
  have e2 : U / bb ^ (j + i) = U / bb ^ (j + (i + 1)) * bb + dig U (j + i) := by
    unfold dig
    rw [show j + (i + 1) = j + i + 1 by omega, bp_succ, ← Nat.div_div_eq_div_mul]
    exact (Nat.div_add_mod' _ _).symm
  rw [e2, e1, a]
theorem words2 {V i : Nat} (h : V < bb ^ (i + 2)) : V / bb ^ i = dig V (i + 1) * bb + dig V i := by
  have a := top_div h
  have e2 : V / bb ^ i = V / bb ^ (i + 1) * bb + dig V i := by
    unfold dig
    rw [bp_succ, ← Nat.div_div_eq_div_mul]
    exact (Nat.div_add_mod' _ _).symm
  rw [e2, a]
/-- What a step of the long division knows. -/
theorem dl_know {U V j i : Nat} (hV : V < bb ^ (i + 2)) (hn : 2147483648 ≤ dig V (i + 1)) (hU : U < V * bb ^ (j + 1)) :
    0 < V ∧ U < bb ^ (j + (i + 2) + 1) ∧ dig U (j + (i + 2)) ≤ dig V (i + 1) ∧ U / bb ^ j / V < bb ∧
    U / bb ^ j / V ≤ gw ((dig U (j + (i + 2)) * bb + dig U (j + (i + 1))) * bb + dig U (j + i)) (dig V (i + 1) * bb + dig V i) ∧
    gw ((dig U (j + (i + 2)) * bb + dig U (j + (i + 1))) * bb + dig U (j + i)) (dig V (i + 1) * bb + dig V i) ≤ U / bb ^ j / V + 1 := by
  have hV0 : 0 < V := by
    rcases Nat.eq_zero_or_pos V with h | h
    · rw [h] at hn; unfold dig at hn; simp at hn
    · exact h
  have h1 : U < bb ^ (j + (i + 2) + 1) := by
    refine Nat.lt_trans hU ?_
    rw [show j + (i + 2) + 1 = (i + 2) + (j + 1) by omega, Nat.pow_add bb (i + 2)]
    exact Nat.mul_lt_mul_of_pos_right hV (bp_pos _)
  have hq : U / bb ^ j / V < bb := by
    refine step_word (bp_pos j) hV0 ?_
    rw [bp_succ, ← Nat.mul_assoc] at hU
    exact hU
  refine ⟨hV0, h1, ?_, hq, ?_⟩
  · rw [← top_div h1, ← top_div hV]
    have : U / bb ^ (j + 1) ≤ V := Nat.le_of_lt ((Nat.div_lt_iff_lt_mul (bp_pos _)).2 hU)
    rw [show j + (i + 2) = (j + 1) + (i + 1) by omega, Nat.pow_add, ← Nat.div_div_eq_div_mul]
    exact Nat.div_le_div_right this
  · have := gw_ok (u := U / bb ^ j) (v := V) (P := bb ^ i) (bp_pos i) (by
      rw [words2 hV, bb_eq]; omega) hq
    rw [words3 h1, words2 hV] at this
    exact this
/-- The guess was right. -/
theorem dl_right {U V Y X T q b : Nat} (hX : 0 < X) (hV : 0 < V) (hq : U / X / V = q) (hY : Y < T) (h : Y + X * (q * V) = U + T * b) (hU : U < T) : b = 0 ∧ Y + X * (q * V) = U ∧ Y < V * X := by
  have s := step_rest (U := U) hX hV
  rw [hq] at s
  have e : q * V * X = X * (q * V) := Nat.mul_comm _ _
  rw [e] at s
  have hb : b = 0 := by
    rcases Nat.eq_zero_or_pos b with h0 | h0
    · exact h0
    · have := Nat.mul_le_mul_left T h0
      omega
  subst hb
  simp only [Nat.mul_zero, Nat.add_zero] at h
  exact ⟨rfl, h, by omega⟩
/-- The guess was one too great: given back, it is right. -/
theorem dl_over {U V Y Z X T q b c : Nat} (hX : 0 < X) (hV : 0 < V) (hq : U / X / V = q) (hY : Y < T) (h : Y + X * ((q + 1) * V) = U + T * b) (hU : U < T) (hT : V * X ≤ T) (hb : b ≤ 1)
    (hZ : Z < T) (h2 : Z + T * c = Y + X * V) : b = 1 ∧ Z + X * (q * V) = U ∧ Z < V * X := by
  have s := step_rest (U := U) hX hV
  rw [hq] at s
  have e : q * V * X = X * (q * V) := Nat.mul_comm _ _
  have e2 : X * ((q + 1) * V) = X * (q * V) + X * V := by rw [Nat.add_mul, Nat.one_mul, Nat.mul_add]
  have e3 : V * X = X * V := Nat.mul_comm _ _
  rw [e] at s
  rw [e2] at h
  rw [e3] at s hT ⊢
  have hb1 : b = 1 := by
    rcases Nat.eq_zero_or_pos b with h0 | h0
    · subst h0; simp only [Nat.mul_zero, Nat.add_zero] at h; omega
    · omega
  subst hb1
  rw [Nat.mul_one] at h
  have hc : c = 1 := by
    rcases Nat.eq_zero_or_pos c with h0 | h0
    · subst h0; simp only [Nat.mul_zero, Nat.add_zero] at h2; omega
    · rcases Nat.lt_or_ge c 2 with h3 | h3
      · omega
      · have := Nat.mul_le_mul_left T h3
        omega
  subst hc
  rw [Nat.mul_one] at h2
  exact ⟨rfl, by omega, by omega⟩
theorem dl_over_b {U V Y X T q b : Nat} (hX : 0 < X) (hV : 0 < V) (hq : U / X / V = q) (h : Y + X * ((q + 1) * V) = U + T * b) (hb : b ≤ 1) : b = 1 := by
  have s := step_rest (U := U) hX hV
  rw [hq] at s
  have e : q * V * X = X * (q * V) := Nat.mul_comm _ _
  have e2 : X * ((q + 1) * V) = X * (q * V) + X * V := by rw [Nat.add_mul, Nat.one_mul, Nat.mul_add]
  have e3 : V * X = X * V := Nat.mul_comm _ _
  rw [e] at s
  rw [e2] at h
  rw [e3] at s
  rcases Nat.eq_zero_or_pos b with h0 | h0
  · subst h0; simp only [Nat.mul_zero, Nat.add_zero] at h; omega
  · omega
end Go.Proofs.YtoegjibeomhekaaGreat

/- wide.divideLong. -/
namespace Go.Proofs.YtoegjibeomhekaaGreat
set_option linter.unusedSimpArgs false
set_option linter.unusedVariables false
open Go.RowKit
set_option maxRecDepth 100000
theorem LeadingZeros32_any (x : Nat) (w : World) (hx : x ≤ 4294967295) (hl : bitLen x ≤ 32) :
    Calls Tryz.prog 107 #[.int .u32 x] w fun e w' => e = .returned (.int .i64 (32 - bitLen x : Nat)) ∧ w' = w := by
  go_enter Tryz.func107, Tryz.ntmps107
  go_wp2_with fail
  refine (Len32_any x _ hx).mono ?_
  rintro e w2 ⟨rfl, rfl⟩
  go_wp2
  go_ret
  exact ⟨ret_int (by omega), rfl⟩
/-- A part of an array of 33 words. -/
theorem slLH {ops : Array Oper} {rest : List Oper} {o : Oper} {a : Act} {w : World} {Q : Exit → Act → World → Prop} {x y z : Operand} {b l n : Nat} {L H : Int} (hgd : o.guard = none) (ho : o.op = .slice 141 x (some y) (some z) none) (hx : a.eval x = .pointer (some ⟨b, 0, none⟩)) (hy : a.eval y = .int .i64 L) (hz : a.eval z = .int .i64 H) (hL : L = (l : Int)) (hH : H = ((l + n : Nat) : Int)) (hl : l < 33) (hh : l + n ≤ 33)
    (hr : wpList Tryz.prog ops Q rest (a.put o.dst (.slice (some ⟨b, l, none⟩) n (33 - l))) w) : wpList Tryz.prog ops Q (o :: rest) a w :=
  wpList_plain hgd fun K hK => by
    have := hK _ _ hr
    subst hL hH
    have hal : Tryz.prog.arrayLen 141 = 33 := by kernel_rfl
    have hel : Tryz.prog.elem 141 = 27 := by kernel_rfl
    have hsz : (sizeOf 27).run Tryz.prog w = .ok 1 w := by kernel_rfl
    have hrun := run_sliceAt_array_lh (P := Tryz.prog) w 141 ⟨b, 0, none⟩ (by kernel_rfl) .i64 .i64 (l : Int) ((l + n : Nat) : Int) (by omega) (by omega) (by rw [hal]; omega)
    rw [hel, hsz, hal] at hrun
    unfold Oper.wp execOp
    simp only [ho, hx, hy, hz, Option.map_some, Option.map_none, Sem.run_bind, hrun, Result.andThen_ok, slicedAt, Int.toNat_natCast, if_neg (show ¬ 33 = l by omega), Nat.mul_one, Addr.add_mid, Nat.zero_add, Sem.run_pure, Nat.add_sub_cancel_left]
    exact this
theorem slH {ops : Array Oper} {rest : List Oper} {o : Oper} {a : Act} {w : World} {Q : Exit → Act → World → Prop} {x z : Operand} {b h : Nat} {H : Int} (hgd : o.guard = none) (ho : o.op = .slice 141 x none (some z) none) (hx : a.eval x = .pointer (some ⟨b, 0, none⟩)) (hz : a.eval z = .int .i64 H) (hH : H = (h : Int)) (hh : h ≤ 33)
    (hr : wpList Tryz.prog ops Q rest (a.put o.dst (.slice (some ⟨b, 0, none⟩) h 33)) w) : wpList Tryz.prog ops Q (o :: rest) a w :=
  wpList_plain hgd fun K hK => by
    have := hK _ _ hr
    subst hH
    have hal : Tryz.prog.arrayLen 141 = 33 := by kernel_rfl
    have hrun := run_sliceAt_array_h (P := Tryz.prog) w 141 ⟨b, 0, none⟩ (by kernel_rfl) .i64 (h : Int) (by omega) (by rw [hal]; omega)
    rw [hal] at hrun
    unfold Oper.wp execOp
    simp only [ho, hx, hz, Option.map_some, Option.map_none, Sem.run_bind, hrun, Result.andThen_ok, slicedAt, Int.toNat_natCast, Nat.mul_one, Addr.add_mid, Nat.zero_add, Sem.run_pure]
    exact this
theorem dig_zero_of {Q j : Nat} (h : Q % bb ^ (j + 1) = 0) : dig Q j = 0 ∧ Q % bb ^ j = 0 := by
  have h1 := mod_succ Q j
  rw [h] at h1
  have h2 : bb ^ j * dig Q j = 0 := (Nat.add_eq_zero_iff.1 h1.symm).2
  have hp := bp_pos j
  rcases Nat.mul_eq_zero.1 h2 with h3 | h3
  · omega
  · exact ⟨h3, (Nat.add_eq_zero_iff.1 h1.symm).1⟩
theorem gw_word (U V : Nat) : gw U V ≤ 4294967295 := by
  have h : gw U V ≤ bb - 1 := Nat.min_le_left _ _
  have e := bb_eq
  omega
theorem put_mod {Q j q : Nat} (h : Q % bb ^ j = 0) : put Q j q % bb ^ j = 0 := by
  unfold put
  rw [h, Nat.zero_add, Nat.mul_mod_right]
theorem dl_sum {V Q U Z A j q : Nat} (hd : dig Q j = 0) (h : U + V * Q = A) (hz : Z + bb ^ j * (q * V) = U) : Z + V * put Q j q = A := by
  have := put_eq Q j q
  rw [hd, Nat.mul_zero, Nat.add_zero] at this
  rw [this, Nat.mul_add, ← h, ← hz, show V * (bb ^ j * q) = bb ^ j * (q * V) by rw [Nat.mul_comm q V, Nat.mul_left_comm]]
  omega
set_option maxHeartbeats 2000000 in
theorem divideLong_any (N M n i : Nat) (w : World) (hN : N < bb ^ n) (hn : n ≤ 32) (hM : M < bb ^ (i + 2)) (hM1 : bb ^ (i + 1) ≤ M) (hge : i + 2 ≤ n) :
    Calls Tryz.prog 102 #[.agg (wc N).toArray, .agg (wc M).toArray, .int .i64 n, .int .i64 ((i + 2 : Nat) : Int)] w (DivPost w N M) := by
  have HN := Lib.hid hN
  have HM := Lib.hid hM
  have HM1 := Lib.hid hM1
  have HS := Lib.hid (dl_shift hM hM1)
  clear hN hM hM1
  have d0 := dig_le M (i + 1)
  have hbl := HS.out.2.1
  obtain ⟨s, hs⟩ : ∃ s, 32 - bitLen (dig M (i + 1)) = s := ⟨_, rfl⟩
  have hs32 : s < 32 := by have := HS.out.1; omega
  rw [hs] at HS
  have LZ := fun w => LeadingZeros32_any (dig M (i + 1)) w d0 hbl
  rw [hs] at LZ
  have HLZ := Lib.hid LZ
  clear LZ hs hbl
  have b0 := (((Blk.new w (wc N) 41 rfl).old (.cells (wc M).toArray 41)).old (.cells (wc 0).toArray 41)).old (.cells (wc 0).toArray 41)
  have b1 := ((Blk.new (w.alloc (.cells (wc N).toArray 41)) (wc M) 41 (b := w.heap.size + 1) (by simp)).old (.cells (wc 0).toArray 41)).old (.cells (wc 0).toArray 41)
  have b2 := (Blk.new ((w.alloc (.cells (wc N).toArray 41)).alloc (.cells (wc M).toArray 41)) (wc 0) 41 (b := w.heap.size + 1 + 1) (by simp)).old (.cells (wc 0).toArray 41)
  have b3 := Blk.new (((w.alloc (.cells (wc N).toArray 41)).alloc (.cells (wc M).toArray 41)).alloc (.cells (wc 0).toArray 41)) (wc 0) 41 (b := w.heap.size + 1 + 1 + 1) (by simp)
  have hb : Below w.heap.size w ((((w.alloc (.cells (wc N).toArray 41)).alloc (.cells (wc M).toArray 41)).alloc (.cells (wc 0).toArray 41)).alloc (.cells (wc 0).toArray 41)) := ((((Below.refl _ _).alloc (Nat.le_refl _) _).alloc (by simp) _).alloc (by simp; omega) _).alloc (by simp; omega) _
  have c1 := b1.cell (wc_get M (i + 1) (by omega))
  have hi1 : (i : Int) + 1 < 32 := by omega
  have hi0 : (0 : Int) ≤ (i : Int) + 1 := by omega
  go_enter Tryz.func102, Tryz.ntmps102
  go_wp2_with (first | (with_reducible refine alA rfl rfl ?_))
  generalize (((w.alloc (.cells (wc N).toArray 41)).alloc (.cells (wc M).toArray 41)).alloc (.cells (wc 0).toArray 41)).alloc (.cells (wc 0).toArray 41) = W at *
  refine (HLZ.out _).mono ?_
  rintro e w1 ⟨rfl, rfl⟩
  clear c1
  go_wp2_with (first | (with_reducible refine ldA rfl rfl rfl b1 ?_))
  refine (lengthen_any M s (i + 2) _ hs32 (by omega) HM.out).mono ?_
  rintro e w1 ⟨rfl, h1⟩
  replace b0 := b0.call h1
  replace b2 := b2.call h1
  replace b3 := b3.call h1
  replace hb := bthen hb h1
  clear h1 b1
  have f4 := Blk.new w1 (lc 0) 141 rfl
  have l0 := b0.lt
  have l2 := b2.lt
  have l3 := b3.lt
  have b4 := f4.row (lc (M * 2 ^ s))
  replace b0 := (b0.old (.cells (lc 0).toArray 141)).rowOther (g := w1.heap.size) (lc (M * 2 ^ s)).toArray (by omega)
  replace b2 := (b2.old (.cells (lc 0).toArray 141)).rowOther (g := w1.heap.size) (lc (M * 2 ^ s)).toArray (by omega)
  replace b3 := (b3.old (.cells (lc 0).toArray 141)).rowOther (g := w1.heap.size) (lc (M * 2 ^ s)).toArray (by omega)
  replace hb := below_row (hb.alloc hb.size (.cells (lc 0).toArray 141)) (g := w1.heap.size) (by omega) (lc (M * 2 ^ s)).toArray
  go_wp2_with (first | (with_reducible refine alL rfl rfl ?_) | (with_reducible refine stL rfl rfl rfl rfl f4 ?_) | (with_reducible refine ldA rfl rfl rfl b0 ?_))
  clear f4
  generalize (w1.alloc (.cells (lc 0).toArray 141)).setRow w1.heap.size (lc (M * 2 ^ s)).toArray = W2 at *
  obtain ⟨p4, hp4⟩ : ∃ p, w1.heap.size = p := ⟨_, rfl⟩
  rw [hp4] at b4 l0 l2 l3
  rw [hp4]
  clear hp4
  refine (lengthen_any N s n _ hs32 hn HN.out).mono ?_
  rintro e w2 ⟨rfl, h1⟩
  replace b2 := b2.call h1
  replace b3 := b3.call h1
  replace b4 := b4.call h1
  replace hb := bthen hb h1
  clear h1 b0
  have f5 := Blk.new w2 (lc 0) 141 rfl
  have l4 := b4.lt
  have b5 := f5.row (lc (N * 2 ^ s))
  replace b2 := (b2.old (.cells (lc 0).toArray 141)).rowOther (g := w2.heap.size) (lc (N * 2 ^ s)).toArray (by omega)
  replace b3 := (b3.old (.cells (lc 0).toArray 141)).rowOther (g := w2.heap.size) (lc (N * 2 ^ s)).toArray (by omega)
  replace b4 := (b4.old (.cells (lc 0).toArray 141)).rowOther (g := w2.heap.size) (lc (N * 2 ^ s)).toArray (by omega)
  replace hb := below_row (hb.alloc hb.size (.cells (lc 0).toArray 141)) (g := w2.heap.size) (by omega) (lc (N * 2 ^ s)).toArray
  go_wp2_with (first | (with_reducible refine alL rfl rfl ?_) | (with_reducible refine alA rfl rfl ?_) | (with_reducible refine stL rfl rfl rfl rfl f5 ?_))
  clear f5
  have b6 := Blk.new ((w2.alloc (.cells (lc 0).toArray 141)).setRow w2.heap.size (lc (N * 2 ^ s)).toArray) (wc 0) 41 (b := w2.heap.size + 1) (by simp)
  replace b2 := b2.old (.cells (wc 0).toArray 41)
  replace b3 := b3.old (.cells (wc 0).toArray 41)
  replace b4 := b4.old (.cells (wc 0).toArray 41)
  replace b5 := b5.old (.cells (wc 0).toArray 41)
  replace hb := hb.alloc hb.size (.cells (wc 0).toArray 41)
  generalize ((w2.alloc (.cells (lc 0).toArray 141)).setRow w2.heap.size (lc (N * 2 ^ s)).toArray).alloc (.cells (wc 0).toArray 41) = W3 at *
  generalize w2.heap.size = p5 at *
  obtain ⟨V, hV⟩ : ∃ V, M * 2 ^ s = V := ⟨_, rfl⟩
  obtain ⟨D, hD⟩ : ∃ D, N * 2 ^ s = D := ⟨_, rfl⟩
  rw [hV] at b4 HS
  rw [hD] at b5
  have HV := Lib.hid hV
  have HD := Lib.hid hD
  have HS2 := Lib.hid (And.intro HS.out.2.2.1 HS.out.2.2.2)
  have H0 : Hid (D < V * bb ^ (n - (i + 2) + 1)) := by
    show D < V * bb ^ (n - (i + 2) + 1)
    rw [← hV, ← hD, Nat.mul_right_comm]
    apply Nat.mul_lt_mul_of_pos_right _ (Nat.two_pow_pos s)
    refine Nat.lt_of_lt_of_le HN.out ?_
    have : bb ^ n = bb ^ (i + 1) * bb ^ (n - (i + 2) + 1) := by rw [← Nat.pow_add]; congr 1; omega
    rw [this]
    exact Nat.mul_le_mul_right _ HM1.out
  clear hV hD HS HLZ
  go_loopw [14] (fun jv wr => ∃ k U Q : Nat, k + (i + 2) ≤ n + 1 ∧ jv = .int .i64 ((k : Int) - 1) ∧ Below w.heap.size w wr ∧ Blk wr (w.heap.size + 1 + 1) (wc 0) 41 ∧ Blk wr (w.heap.size + 1 + 1 + 1) (wc 0) 41 ∧ Blk wr p4 (lc V) 141 ∧ Blk wr p5 (lc U) 141 ∧ Blk wr (p5 + 1) (wc Q) 41 ∧ U < V * bb ^ k ∧ U + V * Q = D ∧ Q % bb ^ k = 0) (fun jv _ => (intOf jv + 1).toNat)
  case atStart =>
    exact ⟨n - (i + 2) + 1, D, 0, by omega, int_eq (by omega), hb, b2, b3, b4, b5, b6, H0.out, by omega, Nat.zero_mod _⟩
  case round =>
    clear hb b2 b3 b4 b5 b6
    obtain ⟨k, U, Q, hk, rfl, hb, b2, b3, b4, b5, b6, hU, hE, hQ⟩ := hrel
    have HE := Lib.hid hE
    rcases Nat.eq_zero_or_pos k with rfl | hp
    · have HU := Lib.hid hU
      clear hU hE hQ
      go_wp2_with fail
      have hM0 : 0 < M := Nat.lt_of_lt_of_le (bp_pos _) HM1.out
      have SH := Lib.hid (shifted (d := N) (e := M) (s := s) (Q := Q) (R := U) hM0 (by rw [HV.out, HD.out, ← HE.out, Nat.mul_comm Q, Nat.add_comm]) (by
        rw [HV.out]; have := HU.out; rw [Nat.pow_zero, Nat.mul_one] at this; exact this))
      have HR : Hid (U / 2 ^ s = N % M ∧ U / 2 ^ s < bb ^ (i + 2)) := by
        show U / 2 ^ s = N % M ∧ U / 2 ^ s < bb ^ (i + 2)
        have e : U / 2 ^ s = N % M := by rw [SH.out.2, Nat.mul_div_cancel _ (Nat.two_pow_pos s)]
        exact ⟨e, by rw [e]; exact Nat.lt_trans (Nat.mod_lt N hM0) HM.out⟩
      clear hM0
      refine rg_start [w.heap.size + 1 + 1, w.heap.size + 1 + 1 + 1] (by kernel_rfl) (fun hS => ?_)
      replace b2 := b2.drew
      replace b3 := b3.drew
      replace b5 := b5.drew
      replace b6 := b6.drew
      replace hb := hb.drew
      refine rg_ld 0 rfl (by kernel_rfl) (by kernel_rfl) (by kernel_rfl) (by rfl) hS rfl rfl b6 (by simp <;> omega) (whole23 _) ?_
      try simp only [Act.put, List.setIfInBounds_toArray, List.set_cons_zero, List.set_cons_succ]
      refine rg_ld 1 rfl (by kernel_rfl) (by kernel_rfl) (by kernel_rfl) (by rfl) hS rfl rfl b5 (by simp <;> omega) (wholeL _) ?_
      try simp only [Act.put, List.setIfInBounds_toArray, List.set_cons_zero, List.set_cons_succ]
      refine rg_take 2 rfl (by kernel_rfl) (by kernel_rfl) (by kernel_rfl) (by rfl) hS (v := ?_) ?_ ?_
      rotate_left
      · (intro w' hS'; go_simp <;> try with_reducible rfl)
      try simp only [Act.put, List.setIfInBounds_toArray, List.set_cons_zero, List.set_cons_succ]
      refine rg_take 3 rfl (by kernel_rfl) (by kernel_rfl) (by kernel_rfl) (by rfl) hS (v := ?_) ?_ ?_
      rotate_left
      · (intro w' hS'; go_simp <;> try with_reducible rfl)
      try simp only [Act.put, List.setIfInBounds_toArray, List.set_cons_zero, List.set_cons_succ]
      refine rg_eff 4 rfl (by kernel_rfl) (by rfl) (fun K hK => ?_)
      go_simp
      refine (shorten_any U s (i + 2) _ hs32 (by omega) HR.out.2).mono ?_
      rintro e w1 ⟨rfl, hb1⟩
      refine hK _ _ (hS.call hb1) (fun hS => ?_)
      clear hK K
      replace b2 := b2.call hb1
      replace b3 := b3.call hb1
      try simp only [Act.put, List.setIfInBounds_toArray, List.set_cons_zero, List.set_cons_succ]
      refine rg_eff 5 rfl (by kernel_rfl) (by rfl) (fun K hK => ?_)
      refine wp_st (vs := wc Q) rfl rfl rfl b2 (wc_len2 _ _) (whole23 _) (wc_one _) ?_
      refine hK _ _ (hS.row (.inl (by simp)) _) (fun hS => ?_)
      clear hK K
      replace b3 := b3.rowOther (g := w.heap.size + 1 + 1) (wc Q).toArray (by omega)
      replace b2 := b2.row (wc Q)
      replace hb := below_row (bthen hb hb1) (g := w.heap.size + 1 + 1) (by omega) (wc Q).toArray
      try simp only [Act.put, List.setIfInBounds_toArray, List.set_cons_zero, List.set_cons_succ]
      refine rg_eff 6 rfl (by kernel_rfl) (by rfl) (fun K hK => ?_)
      refine wp_st (vs := wc (U / 2 ^ s)) rfl rfl rfl b3 (wc_len2 _ _) (whole23 _) (wc_one _) ?_
      refine hK _ _ (hS.row (.inl (by simp)) _) (fun hS => ?_)
      clear hK K
      try simp only [Act.put, List.setIfInBounds_toArray, List.set_cons_zero, List.set_cons_succ]
      refine rg_done (by kernel_rfl) ?_
      go_wp2
      refine ret_cc (cs := wc Q) (cs' := wc (U / 2 ^ s)) rfl rfl rfl rfl (whole23 _) (whole23 _) (b2.rowOther _ (by omega)) (b3.row _) ⟨?_, below_row hb (by omega) _⟩
      rw [HR.out.1, SH.out.1]
    · obtain ⟨j, rfl⟩ : ∃ j, k = j + 1 := ⟨k - 1, by omega⟩
      have KN := Lib.hid (dl_know HS2.out.1 HS2.out.2 hU)
      have HQ := Lib.hid (dig_zero_of hQ)
      clear hU hE hQ hp
      rw [show ((j + 1 : Nat) : Int) - 1 = (j : Int) by omega]
      have c0 := b5.cell (lc_get U (j + (i + 2)) (by omega))
      have c1 := b5.cell (lc_get U (j + (i + 1)) (by omega))
      have c2 := b5.cell (lc_get U (j + i) (by omega))
      have e1 := b4.cell (lc_get V (i + 1) (by omega))
      have e2 := b4.cell (lc_get V i (by omega))
      have G := guessWord_any (fu := j) (cu := 33 - j) (cv := 33) (k := i) wr (by omega) c0 c1 c2 e1 e2 KN.out.2.2.1 (dig_le _ _) (dig_le _ _) (dig_le _ _) (dig_le _ _) HS2.out.2
      clear c0 c1 c2 e1 e2
      obtain ⟨g, hg⟩ : ∃ g, gw ((dig U (j + (i + 2)) * bb + dig U (j + (i + 1))) * bb + dig U (j + i)) (dig V (i + 1) * bb + dig V i) = g := ⟨_, rfl⟩
      obtain ⟨q, hq⟩ : ∃ q, U / bb ^ j / V = q := ⟨_, rfl⟩
      rw [hg, hq] at KN
      rw [hg] at G
      have HG := Lib.hid G
      have Hq := Lib.hid hq
      have g1 : g ≤ 4294967295 := by rw [← hg]; exact gw_word _ _
      clear hg hq G
      go_wp2_with (first | (with_reducible refine slLH (l := j) (n := i + 3) rfl rfl rfl rfl rfl (by omega) (by omega) (by omega) (by omega) ?_) | (with_reducible refine slH (h := i + 2) rfl rfl rfl rfl (by omega) (by omega) ?_))
      refine HG.out.mono ?_
      rintro e w3 ⟨rfl, h3⟩
      replace b2 := b2.call h3
      replace b3 := b3.call h3
      replace b4 := b4.call h3
      replace b5 := b5.call h3
      replace b6 := b6.call h3
      replace hb := bthen hb h3
      clear h3 HG
      go_wp2_with (first | (with_reducible refine slH (h := i + 2) rfl rfl rfl rfl (by omega) (by omega) ?_))
      refine (takeTimes_any (m := i + 2) (U := U) (V := V) _ (by omega) (by omega) g1 KN.out.2.1 b5 b4).mono ?_
      rintro e w4 ⟨Y, b, hb1, rfl, a5, hY, hYe, ho⟩
      replace b2 := ho.blk b2 (by omega)
      replace b3 := ho.blk b3 (by omega)
      replace b4 := ho.blk b4 (by omega)
      replace b6 := ho.blk b6 (by omega)
      replace hb := hb.trans (ho.1.mono (by omega))
      clear ho b5
      rw [Nat.mod_eq_of_lt HS2.out.1] at hYe
      rcases (show g = q ∨ g = q + 1 by have := KN.out.2.2.2.2; omega) with rfl | rfl
      · have R := dl_right (bp_pos j) KN.out.1 Hq.out hY hYe KN.out.2.1
        obtain ⟨rfl, R1, R2⟩ := R
        have HR := Lib.hid (And.intro R1 R2)
        clear R1 R2 hYe hY
        have f6 := b6.frozen j
        have c6 := b6.cell (wc_get Q j (by omega))
        rw [show decide (0 < 0) = false from rfl]
        go_wp2
        go_roundw
        case rel =>
          have s6 := b6.set j (.int .u32 (g : Nat))
          rw [wc_put KN.out.2.2.2.1] at s6
          exact ⟨j, Y, put Q j g, by omega, int_eq (by omega), hb.setCell (by simp; omega) _, b2.setOther _ _ (by omega), b3.setOther _ _ (by omega), b4.setOther _ _ (by omega), a5.setOther _ _ (by omega), s6, HR.out.2, dl_sum HQ.out.1 HE.out HR.out.1, put_mod HQ.out.2⟩
        case measure => simp [intOf]
      · have hb2 := dl_over_b (bp_pos j) KN.out.1 Hq.out hYe hb1
        subst hb2
        have HY := Lib.hid (And.intro hY hYe)
        clear hY hYe
        rw [show decide (0 < 1) = true from rfl]
        go_wp2_with (first | (with_reducible refine slH (h := i + 2) rfl rfl rfl rfl (by omega) (by omega) ?_))
        refine (giveBack_any (m := i + 2) (U := Y) (V := V) _ (by omega) (by omega) HY.out.1 a5 b4).mono ?_
        rintro e w5 ⟨Z, c, rfl, z5, hZ, hZe, ho⟩
        replace b2 := ho.blk b2 (by omega)
        replace b3 := ho.blk b3 (by omega)
        replace b4 := ho.blk b4 (by omega)
        replace b6 := ho.blk b6 (by omega)
        replace hb := hb.trans (ho.1.mono (by omega))
        clear ho a5
        rw [Nat.mod_eq_of_lt HS2.out.1] at hZe
        have hT : V * bb ^ j ≤ bb ^ (j + (i + 2) + 1) := by
          rw [show j + (i + 2) + 1 = (i + 2) + (1 + j) by omega, Nat.pow_add bb (i + 2), Nat.pow_add bb 1]
          exact Nat.mul_le_mul (Nat.le_of_lt HS2.out.1) (Nat.le_mul_of_pos_left _ (bp_pos 1))
        have R := dl_over (bp_pos j) KN.out.1 Hq.out HY.out.1 HY.out.2 KN.out.2.1 hT hb1 hZ hZe
        have HR := Lib.hid R.2
        have q2 : q < bb := KN.out.2.2.2.1
        have HQ2 := Lib.hid q2
        have q3 : q + 1 ≤ 4294967295 := g1
        clear R hT hZ hZe q2
        have f6 := b6.frozen j
        have c6 := b6.cell (wc_get Q j (by omega))
        go_wp2
        go_roundw
        case rel =>
          have s6 := b6.set j (.int .u32 (q : Nat))
          rw [wc_put HQ2.out] at s6
          exact ⟨j, Z, put Q j q, by omega, int_eq (by omega), hb.setCell (by simp; omega) _, b2.setOther _ _ (by omega), b3.setOther _ _ (by omega), b4.setOther _ _ (by omega), z5.setOther _ _ (by omega), s6, HR.out.2, dl_sum HQ.out.1 HE.out HR.out.1, put_mod HQ.out.2⟩
        case measure => simp [intOf]
end Go.Proofs.YtoegjibeomhekaaGreat

/- wide.divide, all of it. -/
namespace Go.Proofs.YtoegjibeomhekaaGreat
set_option linter.unusedSimpArgs false
set_option linter.unusedVariables false
open Go.RowKit
set_option maxRecDepth 100000
theorem built23o (x : Int) : Tryz.prog.built 41 [(0, .int .u32 x)] = some (Value.int .u32 x :: (wc 0).drop 1).toArray := by kernel_rfl
theorem wc_oneword {r : Nat} (h : r < bb) : (Value.int .u32 (r : Nat) :: (wc 0).drop 1) = wc r := by
  have := wc_set (X := 0) (k := 0) (v := r) (by simp) h
  rw [Nat.pow_zero, Nat.one_mul, Nat.zero_add] at this
  rw [← this]
  rfl
theorem bdA1 {ops : Array Oper} {rest : List Oper} {o : Oper} {a : Act} {w : World} {Q : Exit → Act → World → Prop} {p : Operand} {u : Nat} (hu : u < bb) (hgd : o.guard = none) (ho : o.op = .build 41 #[(0, p)]) (hp : a.eval p = .int .u32 (u : Nat))
    (hr : wpList Tryz.prog ops Q rest (a.put o.dst (.agg (wc u).toArray)) w) : wpList Tryz.prog ops Q (o :: rest) a w :=
  wpList_plain hgd fun K hK => by
    have := hK _ _ hr
    unfold Oper.wp execOp
    simp only [ho, Sem.run_bind]
    rw [show Array.map (fun x : Nat × Operand => (x.fst, a.eval x.snd)) #[(0, p)] = #[(0, .int .u32 (u : Nat))] by simp [hp], run_build w 41 _ _ (built23o _), wc_oneword hu]
    exact this
set_option maxHeartbeats 1000000 in
theorem divide_great (N M : Nat) (w : World) (hN : N < bb ^ 32) (hM : M < bb ^ 32) (h0 : M ≠ 0) (hge : nw M ≤ nw N) (h2 : ¬ nw N ≤ 2) :
    Calls Tryz.prog 91 #[.agg (wc N).toArray, .agg (wc M).toArray] w (DivPost w N M) := by
  have HN := Lib.hid hN
  have HM := Lib.hid hM
  have H0 := Lib.hid h0
  have hge' : ¬ (nw N : Int) < (nw M : Int) := by omega
  have h2' : ¬ (nw N : Int) ≤ 2 := by omega
  have hn32 := nw_le_of hN
  have HNn := Lib.hid (nw_lt N)
  have HMn := Lib.hid (nw_lt M)
  have HMl := Lib.hid (nw_le M h0)
  have hm0 : nw M ≠ 0 := fun h => h0 (nw_zero.1 h)
  clear hN hM h0
  have b0 := (((Blk.new w (wc N) 41 rfl).old (.cells (wc M).toArray 41)).old (.cells (wc 0).toArray 41)).old (.cells (wc 0).toArray 41)
  have b1 := ((Blk.new (w.alloc (.cells (wc N).toArray 41)) (wc M) 41 (b := w.heap.size + 1) (by simp)).old (.cells (wc 0).toArray 41)).old (.cells (wc 0).toArray 41)
  have b2 := (Blk.new ((w.alloc (.cells (wc N).toArray 41)).alloc (.cells (wc M).toArray 41)) (wc 0) 41 (b := w.heap.size + 1 + 1) (by simp)).old (.cells (wc 0).toArray 41)
  have b3 := Blk.new (((w.alloc (.cells (wc N).toArray 41)).alloc (.cells (wc M).toArray 41)).alloc (.cells (wc 0).toArray 41)) (wc 0) 41 (b := w.heap.size + 1 + 1 + 1) (by simp)
  have hb : Below w.heap.size w ((((w.alloc (.cells (wc N).toArray 41)).alloc (.cells (wc M).toArray 41)).alloc (.cells (wc 0).toArray 41)).alloc (.cells (wc 0).toArray 41)) := ((((Below.refl _ _).alloc (Nat.le_refl _) _).alloc (by simp) _).alloc (by simp; omega) _).alloc (by simp; omega) _
  go_enter Tryz.func91, Tryz.ntmps91
  go_wp2_with (first | (with_reducible refine alA rfl rfl ?_))
  try rw [show (((w.alloc (.cells (wc N).toArray 41)).alloc (.cells (wc M).toArray 41)).alloc (.cells (wc 0).toArray 41)).heap.size = w.heap.size + 1 + 1 + 1 by simp]
  generalize (((w.alloc (.cells (wc N).toArray 41)).alloc (.cells (wc M).toArray 41)).alloc (.cells (wc 0).toArray 41)).alloc (.cells (wc 0).toArray 41) = W at *
  refine rg_start [] (by kernel_rfl) (fun hS => ?_)
  replace b0 := b0.drew
  replace b1 := b1.drew
  replace b2 := b2.drew
  replace b3 := b3.drew
  refine rg_ld 0 rfl (by kernel_rfl) (by kernel_rfl) (by kernel_rfl) (by rfl) hS rfl rfl b0 (by simp <;> omega) (whole23 _) ?_
  try simp only [Act.put, List.setIfInBounds_toArray, List.set_cons_zero, List.set_cons_succ]
  refine rg_ld 2 rfl (by kernel_rfl) (by kernel_rfl) (by kernel_rfl) (by rfl) hS rfl rfl b1 (by simp <;> omega) (whole23 _) ?_
  try simp only [Act.put, List.setIfInBounds_toArray, List.set_cons_zero, List.set_cons_succ]
  refine rg_eff 1 rfl (by kernel_rfl) (by rfl) (fun K hK => ?_)
  go_simp
  refine (length_any N _ HN.out).mono ?_
  rintro e w1 ⟨rfl, hb1⟩
  refine hK _ _ (hS.call hb1) (fun hS => ?_)
  clear hK K
  replace b0 := b0.call hb1
  replace b1 := b1.call hb1
  replace b2 := b2.call hb1
  replace b3 := b3.call hb1
  try simp only [Act.put, List.setIfInBounds_toArray, List.set_cons_zero, List.set_cons_succ]
  refine rg_eff 3 rfl (by kernel_rfl) (by rfl) (fun K hK => ?_)
  go_simp
  refine (length_any M _ HM.out).mono ?_
  rintro e w2 ⟨rfl, hb2⟩
  refine hK _ _ (hS.call hb2) (fun hS => ?_)
  clear hK K
  replace b0 := b0.call hb2
  replace b1 := b1.call hb2
  replace b2 := b2.call hb2
  replace b3 := b3.call hb2
  try simp only [Act.put, List.setIfInBounds_toArray, List.set_cons_zero, List.set_cons_succ]
  refine rg_take 4 rfl (by kernel_rfl) (by kernel_rfl) (by kernel_rfl) (by rfl) hS (v := ?_) ?_ ?_
  rotate_left
  · (intro w' hS'; go_simp <;> try with_reducible rfl)
  try simp only [Act.put, List.setIfInBounds_toArray, List.set_cons_zero, List.set_cons_succ]
  refine rg_take 5 rfl (by kernel_rfl) (by kernel_rfl) (by kernel_rfl) (by rfl) hS (v := ?_) ?_ ?_
  rotate_left
  · (intro w' hS'; go_simp <;> try with_reducible rfl)
  try simp only [Act.put, List.setIfInBounds_toArray, List.set_cons_zero, List.set_cons_succ]
  refine rg_done (by kernel_rfl) ?_
  replace hb := bthen (bthen hb.drew hb1) hb2
  clear hb1 hb2 hS
  by_cases h1 : nw M = 1
  · have E : ((nw M : Nat) : Int) = 1 := by omega
    have HMlt : Hid (M < bb) := by
      show M < bb
      have := HMn.out; rw [h1, Nat.pow_one] at this; exact this
    have HMd : Hid (dig M 0 = M) := by
      show dig M 0 = M
      unfold dig; rw [Nat.pow_zero, Nat.div_one, Nat.mod_eq_of_lt HMlt.out]
    have c1 := b1.cell (wc_get M 0 (by omega))
    rw [HMd.out] at c1
    go_wp2_with (first | (with_reducible refine ldA rfl rfl rfl b0 ?_))
    refine (divideWord_any N M _ HN.out (by have := H0.out; omega) (by have := HMlt.out; rw [bb_eq] at this; omega)).mono ?_
    rintro e w3 ⟨rfl, h3⟩
    replace b2 := b2.call h3
    replace b3 := b3.call h3
    replace hb := bthen hb h3
    clear h3 c1
    have f4 := Blk.new w3 (wc 0) 41 rfl
    have l2 := b2.lt
    have l3 := b3.lt
    have b4 := f4.row (wc (N / M))
    replace b2 := (b2.old (.cells (wc 0).toArray 41)).rowOther (g := w3.heap.size) (wc (N / M)).toArray (by omega)
    replace b3 := (b3.old (.cells (wc 0).toArray 41)).rowOther (g := w3.heap.size) (wc (N / M)).toArray (by omega)
    replace hb := below_row (hb.alloc hb.size (.cells (wc 0).toArray 41)) (g := w3.heap.size) (by omega) (wc (N / M)).toArray
    have d3 := b3.rowOther (g := w.heap.size + 1 + 1) (wc (N / M)).toArray (by omega)
    go_wp2_with (first | (with_reducible refine alA rfl rfl ?_) | (with_reducible refine stA rfl rfl rfl rfl f4 ?_) | (with_reducible refine ldA rfl rfl rfl b4 ?_) | (with_reducible refine bdA1 (Nat.lt_trans (Nat.mod_lt N (by have := H0.out; omega)) HMlt.out) rfl rfl rfl ?_) | (with_reducible refine stA rfl rfl rfl rfl b2 ?_) | (with_reducible refine stA rfl rfl rfl rfl d3 ?_))
    exact ret_cc (cs := wc (N / M)) (cs' := wc (N % M)) rfl rfl rfl rfl (whole23 _) (whole23 _) ((b2.row _).rowOther _ (by omega)) (d3.row _) ⟨rfl, below_row (below_row hb (by omega) _) (by omega) _⟩
  · have E : ¬ ((nw M : Nat) : Int) = 1 := by omega
    obtain ⟨i, hi⟩ : ∃ i, nw M = i + 2 := ⟨nw M - 2, by omega⟩
    have d3 := (b3.rowOther (g := w.heap.size + 1 + 1) (wc (N / M)).toArray (by omega))
    clear d3
    go_wp2_with (first | (with_reducible refine ldA rfl rfl rfl b0 ?_) | (with_reducible refine ldA rfl rfl rfl b1 ?_))
    have DL := divideLong_any N M (nw N) i w2 HNn.out hn32 (by have := HMn.out; rwa [hi] at this) (by have := HMl.out; rwa [hi] at this) (by omega)
    rw [show ((i + 2 : Nat) : Int) = (i : Int) + 2 by omega] at DL
    refine DL.mono ?_
    clear DL
    rintro e w3 ⟨rfl, h3⟩
    replace b2 := b2.call h3
    replace b3 := b3.call h3
    replace hb := bthen hb h3
    clear h3
    have d3 := b3.rowOther (g := w.heap.size + 1 + 1) (wc (N / M)).toArray (by omega)
    go_wp2_with (first | (with_reducible refine stA rfl rfl rfl rfl b2 ?_) | (with_reducible refine stA rfl rfl rfl rfl d3 ?_))
    exact ret_cc (cs := wc (N / M)) (cs' := wc (N % M)) rfl rfl rfl rfl (whole23 _) (whole23 _) ((b2.row _).rowOther _ (by omega)) (d3.row _) ⟨rfl, below_row (below_row hb (by omega) _) (by omega) _⟩
/-- Division, of whatever numbers. -/
theorem divOk {B : Nat} (h : B < bb ^ 32) : DivOk B := fun N M w hN hM h0 => by
  have hN' : N < bb ^ 32 := Nat.lt_of_le_of_lt hN h
  have hM' : M < bb ^ 32 := Nat.lt_of_le_of_lt hM h
  rcases Nat.lt_or_ge (nw N) (nw M) with h1 | h1
  · exact divide_less N M w hN' hM' h1
  · by_cases h2 : nw N ≤ 2
    · exact divide_two N M w hN' hM' h0 h1 h2
    · exact divide_great N M w hN' hM' h0 h1 h2
end Go.Proofs.YtoegjibeomhekaaGreat

/- Wides as whole numbers: the calls with the division, comparing, what is loaded behind a guard. -/
namespace Go.Proofs.YtoegjibeomhekaaGreat
set_option linter.unusedSimpArgs false
set_option linter.unusedVariables false
open Go.RowKit
set_option maxRecDepth 100000
theorem Gcd_z {cs ds : List Value} {x y : Int} (hx : Wd cs x) (hy : Wd ds y) (w : World) :
    Calls Tryz.prog 69 #[.agg cs.toArray, .agg ds.toArray] w fun e w' => e = .returned (.agg (mk (Int.gcd x y : Nat)).toArray) ∧ Below w.heap.size w w' := by
  have h : max x.natAbs y.natAbs < bb ^ 32 := Nat.max_lt.2 ⟨hx.fits, hy.fits⟩
  exact Gcd_w hx hy _ h (Nat.le_max_left _ _) (Nat.le_max_right _ _) (divOk h) w
theorem DivMod_z {cs ds : List Value} {x y : Int} (hx : Wd cs x) (hy : Wd ds y) (h0 : y ≠ 0) (w : World) :
    Calls Tryz.prog 90 #[.agg cs.toArray, .agg ds.toArray] w fun e w' => e = .returned (.tuple #[.agg (mk (x.tdiv y)).toArray, .agg (mk (x.tmod y)).toArray, .bool true]) ∧ Below w.heap.size w w' := by
  have h : max x.natAbs y.natAbs < bb ^ 32 := Nat.max_lt.2 ⟨hx.fits, hy.fits⟩
  exact DivMod_w hx hy h0 _ (Nat.le_max_left _ _) (Nat.le_max_right _ _) (divOk h) w
theorem is_mk {z : Int} (h : fits z) (w : World) : Calls Tryz.prog 67 #[.agg (mk z).toArray] w fun e w' => e = .returned (.bool true) ∧ Below w.heap.size w w' :=
  (Is_any (decide (z < 0)) z.natAbs w h).mono fun _ _ ⟨he, hb⟩ => ⟨he.trans (by
    have : (!decide (z < 0) || decide (z.natAbs ≠ 0)) = true := by
      by_cases hz : z < 0
      · have : z.natAbs ≠ 0 := by omega
        simp [this]
      · simp [hz]
    rw [this]), hb⟩
/-- A Wide is a 0 with a sign, or stands as its number is written. -/
theorem wide_cases (s : Bool) {N : Nat} (hN : N < bb ^ 32) : wd s N = wd true 0 ∨ ∃ z, fits z ∧ wd s N = mk z := by
  by_cases hc : s = true ∧ N = 0
  · obtain ⟨rfl, rfl⟩ := hc; exact .inl rfl
  · have e : (s && decide (N ≠ 0)) = s := by
      cases s
      · rfl
      · have : N ≠ 0 := fun h => hc ⟨rfl, h⟩
        simp [this]
    have hm := wd_mk s N
    rw [e] at hm
    exact .inr ⟨zn s N, by rw [fits, zn_abs]; exact hN, hm⟩
theorem mk_inj_iff {x y : Int} : (decide (x < 0) = decide (y < 0) ∧ x.natAbs = y.natAbs) ↔ x = y := by
  constructor
  · rintro ⟨h1, h2⟩
    have : (x < 0) ↔ (y < 0) := by simpa using h1
    omega
  · rintro rfl; exact ⟨rfl, rfl⟩
theorem op_eqZ {o : Oper} {a : Act} {x y : Operand} {u v : Int} {ty : TypeId} (hu : fits u) (hv : fits v) (ho : o.op = .binOp .eql 43 x y ty) (hx : a.eval x = .agg (mk u).toArray) (hy : a.eval y = .agg (mk v).toArray) (w : World) :
    (execOp a.eval o).run Tryz.prog w = .ok (.value (.bool (decide (u = v)))) w := by
  rw [op_eq hu hv ho hx hy w, decide_eq_decide.2 mk_inj_iff]
theorem op_neqZ {o : Oper} {a : Act} {x y : Operand} {u v : Int} {ty : TypeId} (hu : fits u) (hv : fits v) (ho : o.op = .binOp .neq 43 x y ty) (hx : a.eval x = .agg (mk u).toArray) (hy : a.eval y = .agg (mk v).toArray) (w : World) :
    (execOp a.eval o).run Tryz.prog w = .ok (.value (.bool (!decide (u = v)))) w := by
  unfold execOp
  simp only [ho, hx, hy]
  unfold mk
  rw [Sem.run_bind, run_neqW _ _ _ _ hu hv, decide_eq_decide.2 mk_inj_iff]
  rfl
section
variable {ops : Array Oper} {rest : List Oper} {o : Oper} {a : Act} {w : World} {Q : Exit → Act → World → Prop}
theorem ldMg {t : TypeId} {x : Operand} {b : Nat} {z : Int} (hw : Region.wanted o (yielded ops a.tmps) = true) (ho : o.op = .load 43 x) (hx : a.eval x = .pointer (some ⟨b, 0, none⟩)) (h : Blk w b (mk z) t)
    (hr : wpList Tryz.prog ops Q rest (a.put o.dst (.agg (mk z).toArray)) w) : wpList Tryz.prog ops Q (o :: rest) a w :=
  BigFrame.wpList_want hw fun _ hK => wp_ldB ho hx h (wholeM _) (hK _ _ hr)
theorem eqZ {x y : Operand} {u v : Int} {ty : TypeId} (hgd : o.guard = none) (ho : o.op = .binOp .eql 43 x y ty) (hx : a.eval x = .agg (mk u).toArray) (hy : a.eval y = .agg (mk v).toArray) (hu : fits u) (hv : fits v)
    (hr : wpList Tryz.prog ops Q rest (a.put o.dst (.bool (decide (u = v)))) w) : wpList Tryz.prog ops Q (o :: rest) a w :=
  wpList_plain hgd fun _ hK => by
    have := hK _ _ hr
    unfold Oper.wp
    rw [op_eqZ hu hv ho hx hy w]
    exact this
theorem eqZg {x y : Operand} {u v : Int} {ty : TypeId} (hw : Region.wanted o (yielded ops a.tmps) = true) (ho : o.op = .binOp .eql 43 x y ty) (hx : a.eval x = .agg (mk u).toArray) (hy : a.eval y = .agg (mk v).toArray) (hu : fits u) (hv : fits v)
    (hr : wpList Tryz.prog ops Q rest (a.put o.dst (.bool (decide (u = v)))) w) : wpList Tryz.prog ops Q (o :: rest) a w :=
  BigFrame.wpList_want hw fun _ hK => by
    have := hK _ _ hr
    unfold Oper.wp
    rw [op_eqZ hu hv ho hx hy w]
    exact this
theorem neZ {x y : Operand} {u v : Int} {ty : TypeId} (hgd : o.guard = none) (ho : o.op = .binOp .neq 43 x y ty) (hx : a.eval x = .agg (mk u).toArray) (hy : a.eval y = .agg (mk v).toArray) (hu : fits u) (hv : fits v)
    (hr : wpList Tryz.prog ops Q rest (a.put o.dst (.bool (!decide (u = v)))) w) : wpList Tryz.prog ops Q (o :: rest) a w :=
  wpList_plain hgd fun _ hK => by
    have := hK _ _ hr
    unfold Oper.wp
    rw [op_neqZ hu hv ho hx hy w]
    exact this
theorem neZg {x y : Operand} {u v : Int} {ty : TypeId} (hw : Region.wanted o (yielded ops a.tmps) = true) (ho : o.op = .binOp .neq 43 x y ty) (hx : a.eval x = .agg (mk u).toArray) (hy : a.eval y = .agg (mk v).toArray) (hu : fits u) (hv : fits v)
    (hr : wpList Tryz.prog ops Q rest (a.put o.dst (.bool (!decide (u = v)))) w) : wpList Tryz.prog ops Q (o :: rest) a w :=
  BigFrame.wpList_want hw fun _ hK => by
    have := hK _ _ hr
    unfold Oper.wp
    rw [op_neqZ hu hv ho hx hy w]
    exact this
end
end Go.Proofs.YtoegjibeomhekaaGreat
