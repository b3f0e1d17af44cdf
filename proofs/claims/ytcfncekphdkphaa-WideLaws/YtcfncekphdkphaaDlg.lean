/- wide.divideLong. -/
import Derived.Test.YtcfncekphdkphaaTkt
import Derived.Test.YtcfncekphdkphaaDla
import Derived.Test.YtcfncekphdkphaaDiv
namespace Go.Proofs.Ytcfncekphdkphaa
set_option linter.unusedSimpArgs false
set_option linter.unusedVariables false
open Go.RowKit
set_option maxRecDepth 100000
theorem LeadingZeros32_any (x : Nat) (w : World) (hx : x ≤ 4294967295) (hl : bitLen x ≤ 32) :
    Calls Try.prog 112 #[.int .u32 x] w fun e w' => e = .returned (.int .i64 (32 - bitLen x : Nat)) ∧ w' = w := by
  go_enter Try.func112, Try.ntmps112
  go_wp2_with fail
  refine (Len32_any x _ hx).mono ?_
  rintro e w2 ⟨rfl, rfl⟩
  go_wp2
  go_ret
  exact ⟨ret_int (by omega), rfl⟩
/-- A part of an array of 33 words. -/
theorem slLH {ops : Array Oper} {rest : List Oper} {o : Oper} {a : Act} {w : World} {Q : Exit → Act → World → Prop} {x y z : Operand} {b l n : Nat} {L H : Int} (hgd : o.guard = none) (ho : o.op = .slice 124 x (some y) (some z) none) (hx : a.eval x = .pointer (some ⟨b, 0, none⟩)) (hy : a.eval y = .int .i64 L) (hz : a.eval z = .int .i64 H) (hL : L = (l : Int)) (hH : H = ((l + n : Nat) : Int)) (hl : l < 33) (hh : l + n ≤ 33)
    (hr : wpList Try.prog ops Q rest (a.put o.dst (.slice (some ⟨b, l, none⟩) n (33 - l))) w) : wpList Try.prog ops Q (o :: rest) a w :=
  wpList_plain hgd fun K hK => by
    have := hK _ _ hr
    subst hL hH
    have hal : Try.prog.arrayLen 124 = 33 := by kernel_rfl
    have hel : Try.prog.elem 124 = 22 := by kernel_rfl
    have hsz : (sizeOf 22).run Try.prog w = .ok 1 w := by kernel_rfl
    have hrun := run_sliceAt_array_lh (P := Try.prog) w 124 ⟨b, 0, none⟩ (by kernel_rfl) .i64 .i64 (l : Int) ((l + n : Nat) : Int) (by omega) (by omega) (by rw [hal]; omega)
    rw [hel, hsz, hal] at hrun
    unfold Oper.wp execOp
    simp only [ho, hx, hy, hz, Option.map_some, Option.map_none, Sem.run_bind, hrun, Result.andThen_ok, slicedAt, Int.toNat_natCast, if_neg (show ¬ 33 = l by omega), Nat.mul_one, Addr.add_mid, Nat.zero_add, Sem.run_pure, Nat.add_sub_cancel_left]
    exact this
theorem slH {ops : Array Oper} {rest : List Oper} {o : Oper} {a : Act} {w : World} {Q : Exit → Act → World → Prop} {x z : Operand} {b h : Nat} {H : Int} (hgd : o.guard = none) (ho : o.op = .slice 124 x none (some z) none) (hx : a.eval x = .pointer (some ⟨b, 0, none⟩)) (hz : a.eval z = .int .i64 H) (hH : H = (h : Int)) (hh : h ≤ 33)
    (hr : wpList Try.prog ops Q rest (a.put o.dst (.slice (some ⟨b, 0, none⟩) h 33)) w) : wpList Try.prog ops Q (o :: rest) a w :=
  wpList_plain hgd fun K hK => by
    have := hK _ _ hr
    subst hH
    have hal : Try.prog.arrayLen 124 = 33 := by kernel_rfl
    have hrun := run_sliceAt_array_h (P := Try.prog) w 124 ⟨b, 0, none⟩ (by kernel_rfl) .i64 (h : Int) (by omega) (by rw [hal]; omega)
    rw [hal] at hrun
    unfold Oper.wp execOp
    simp only [ho, hx, hz, Option.map_some, Option.map_none, Sem.run_bind, hrun, Result.andThen_ok, slicedAt, Int.toNat_natCast, Nat.mul_one, Addr.add_mid, Nat.zero_add, Sem.run_pure]
    exact this
theorem dig_zero_of {Q j : Nat} (h : Q % bb ^ (j + 1) = 0) : dig Q j = 0 ∧ Q % bb ^ j = 0 := by
  have h1 := mod_succ Q j
  rw [h] at h1
  have h2 : bb ^ j * dig Q j = 0 := (Nat.add_eq_zero_iff.1 h1.symm).2
  have hp := bp_pos j
  rcases Nat.mul_eq_zero.1 h2 with h3 | h3
  · omega
  · exact ⟨h3, (Nat.add_eq_zero_iff.1 h1.symm).1⟩
theorem gw_word (U V : Nat) : gw U V ≤ 4294967295 := by
  have h : gw U V ≤ bb - 1 := Nat.min_le_left _ _
  have e := bb_eq
  omega
theorem put_mod {Q j q : Nat} (h : Q % bb ^ j = 0) : put Q j q % bb ^ j = 0 := by
  unfold put
  rw [h, Nat.zero_add, Nat.mul_mod_right]
theorem dl_sum {V Q U Z A j q : Nat} (hd : dig Q j = 0) (h : U + V * Q = A) (hz : Z + bb ^ j * (q * V) = U) : Z + V * put Q j q = A := by
  have := put_eq Q j q
  rw [hd, Nat.mul_zero, Nat.add_zero] at this
  rw [this, Nat.mul_add, ← h, ← hz, show V * (bb ^ j * q) = bb ^ j * (q * V) by rw [Nat.mul_comm q V, Nat.mul_left_comm]]
  omega
set_option maxHeartbeats 2000000 in
theorem divideLong_any (N M n i : Nat) (w : World) (hN : N < bb ^ n) (hn : n ≤ 32) (hM : M < bb ^ (i + 2)) (hM1 : bb ^ (i + 1) ≤ M) (hge : i + 2 ≤ n) :
    Calls Try.prog 104 #[.agg (wc N).toArray, .agg (wc M).toArray, .int .i64 n, .int .i64 ((i + 2 : Nat) : Int)] w (DivPost w N M) := by
  have HN := Lib.hid hN
  have HM := Lib.hid hM
  have HM1 := Lib.hid hM1
  have HS := Lib.hid (dl_shift hM hM1)
  clear hN hM hM1
  have d0 := dig_le M (i + 1)
  have hbl := HS.out.2.1
  obtain ⟨s, hs⟩ : ∃ s, 32 - bitLen (dig M (i + 1)) = s := ⟨_, rfl⟩
  have hs32 : s < 32 := by have := HS.out.1; omega
  rw [hs] at HS
  have LZ := fun w => LeadingZeros32_any (dig M (i + 1)) w d0 hbl
  rw [hs] at LZ
  have HLZ := Lib.hid LZ
  clear LZ hs hbl
  have b0 := (((Blk.new w (wc N) 23 rfl).old (.cells (wc M).toArray 23)).old (.cells (wc 0).toArray 23)).old (.cells (wc 0).toArray 23)
  have b1 := ((Blk.new (w.alloc (.cells (wc N).toArray 23)) (wc M) 23 (b := w.heap.size + 1) (by simp)).old (.cells (wc 0).toArray 23)).old (.cells (wc 0).toArray 23)
  have b2 := (Blk.new ((w.alloc (.cells (wc N).toArray 23)).alloc (.cells (wc M).toArray 23)) (wc 0) 23 (b := w.heap.size + 1 + 1) (by simp)).old (.cells (wc 0).toArray 23)
  have b3 := Blk.new (((w.alloc (.cells (wc N).toArray 23)).alloc (.cells (wc M).toArray 23)).alloc (.cells (wc 0).toArray 23)) (wc 0) 23 (b := w.heap.size + 1 + 1 + 1) (by simp)
  have hb : Below w.heap.size w ((((w.alloc (.cells (wc N).toArray 23)).alloc (.cells (wc M).toArray 23)).alloc (.cells (wc 0).toArray 23)).alloc (.cells (wc 0).toArray 23)) := ((((Below.refl _ _).alloc (Nat.le_refl _) _).alloc (by simp) _).alloc (by simp; omega) _).alloc (by simp; omega) _
  have c1 := b1.cell (wc_get M (i + 1) (by omega))
  have hi1 : (i : Int) + 1 < 32 := by omega
  have hi0 : (0 : Int) ≤ (i : Int) + 1 := by omega
  go_enter Try.func104, Try.ntmps104
  go_wp2_with (first | (with_reducible refine alA rfl rfl ?_))
  generalize (((w.alloc (.cells (wc N).toArray 23)).alloc (.cells (wc M).toArray 23)).alloc (.cells (wc 0).toArray 23)).alloc (.cells (wc 0).toArray 23) = W at *
  refine (HLZ.out _).mono ?_
  rintro e w1 ⟨rfl, rfl⟩
  clear c1
  go_wp2_with (first | (with_reducible refine ldA rfl rfl rfl b1 ?_))
  refine (lengthen_any M s (i + 2) _ hs32 (by omega) HM.out).mono ?_
  rintro e w1 ⟨rfl, h1⟩
  replace b0 := b0.call h1
  replace b2 := b2.call h1
  replace b3 := b3.call h1
  replace hb := bthen hb h1
  clear h1 b1
  have f4 := Blk.new w1 (lc 0) 124 rfl
  have l0 := b0.lt
  have l2 := b2.lt
  have l3 := b3.lt
  have b4 := f4.row (lc (M * 2 ^ s))
  replace b0 := (b0.old (.cells (lc 0).toArray 124)).rowOther (g := w1.heap.size) (lc (M * 2 ^ s)).toArray (by omega)
  replace b2 := (b2.old (.cells (lc 0).toArray 124)).rowOther (g := w1.heap.size) (lc (M * 2 ^ s)).toArray (by omega)
  replace b3 := (b3.old (.cells (lc 0).toArray 124)).rowOther (g := w1.heap.size) (lc (M * 2 ^ s)).toArray (by omega)
  replace hb := below_row (hb.alloc hb.size (.cells (lc 0).toArray 124)) (g := w1.heap.size) (by omega) (lc (M * 2 ^ s)).toArray
  go_wp2_with (first | (with_reducible refine alL rfl rfl ?_) | (with_reducible refine stL rfl rfl rfl rfl f4 ?_) | (with_reducible refine ldA rfl rfl rfl b0 ?_))
  clear f4
  generalize (w1.alloc (.cells (lc 0).toArray 124)).setRow w1.heap.size (lc (M * 2 ^ s)).toArray = W2 at *
  obtain ⟨p4, hp4⟩ : ∃ p, w1.heap.size = p := ⟨_, rfl⟩
  rw [hp4] at b4 l0 l2 l3
  rw [hp4]
  clear hp4
  refine (lengthen_any N s n _ hs32 hn HN.out).mono ?_
  rintro e w2 ⟨rfl, h1⟩
  replace b2 := b2.call h1
  replace b3 := b3.call h1
  replace b4 := b4.call h1
  replace hb := bthen hb h1
  clear h1 b0
  have f5 := Blk.new w2 (lc 0) 124 rfl
  have l4 := b4.lt
  have b5 := f5.row (lc (N * 2 ^ s))
  replace b2 := (b2.old (.cells (lc 0).toArray 124)).rowOther (g := w2.heap.size) (lc (N * 2 ^ s)).toArray (by omega)
  replace b3 := (b3.old (.cells (lc 0).toArray 124)).rowOther (g := w2.heap.size) (lc (N * 2 ^ s)).toArray (by omega)
  replace b4 := (b4.old (.cells (lc 0).toArray 124)).rowOther (g := w2.heap.size) (lc (N * 2 ^ s)).toArray (by omega)
  replace hb := below_row (hb.alloc hb.size (.cells (lc 0).toArray 124)) (g := w2.heap.size) (by omega) (lc (N * 2 ^ s)).toArray
  go_wp2_with (first | (with_reducible refine alL rfl rfl ?_) | (with_reducible refine alA rfl rfl ?_) | (with_reducible refine stL rfl rfl rfl rfl f5 ?_))
  clear f5
  have b6 := Blk.new ((w2.alloc (.cells (lc 0).toArray 124)).setRow w2.heap.size (lc (N * 2 ^ s)).toArray) (wc 0) 23 (b := w2.heap.size + 1) (by simp)
  replace b2 := b2.old (.cells (wc 0).toArray 23)
  replace b3 := b3.old (.cells (wc 0).toArray 23)
  replace b4 := b4.old (.cells (wc 0).toArray 23)
  replace b5 := b5.old (.cells (wc 0).toArray 23)
  replace hb := hb.alloc hb.size (.cells (wc 0).toArray 23)
  generalize ((w2.alloc (.cells (lc 0).toArray 124)).setRow w2.heap.size (lc (N * 2 ^ s)).toArray).alloc (.cells (wc 0).toArray 23) = W3 at *
  generalize w2.heap.size = p5 at *
  obtain ⟨V, hV⟩ : ∃ V, M * 2 ^ s = V := ⟨_, rfl⟩
  obtain ⟨D, hD⟩ : ∃ D, N * 2 ^ s = D := ⟨_, rfl⟩
  rw [hV] at b4 HS
  rw [hD] at b5
  have HV := Lib.hid hV
  have HD := Lib.hid hD
  have HS2 := Lib.hid (And.intro HS.out.2.2.1 HS.out.2.2.2)
  have H0 : Hid (D < V * bb ^ (n - (i + 2) + 1)) := by
    show D < V * bb ^ (n - (i + 2) + 1)
    rw [← hV, ← hD, Nat.mul_right_comm]
    apply Nat.mul_lt_mul_of_pos_right _ (Nat.two_pow_pos s)
    refine Nat.lt_of_lt_of_le HN.out ?_
    have : bb ^ n = bb ^ (i + 1) * bb ^ (n - (i + 2) + 1) := by rw [← Nat.pow_add]; congr 1; omega
    rw [this]
    exact Nat.mul_le_mul_right _ HM1.out
  clear hV hD HS HLZ
  go_loopw [14] (fun jv wr => ∃ k U Q : Nat, k + (i + 2) ≤ n + 1 ∧ jv = .int .i64 ((k : Int) - 1) ∧ Below w.heap.size w wr ∧ Blk wr (w.heap.size + 1 + 1) (wc 0) 23 ∧ Blk wr (w.heap.size + 1 + 1 + 1) (wc 0) 23 ∧ Blk wr p4 (lc V) 124 ∧ Blk wr p5 (lc U) 124 ∧ Blk wr (p5 + 1) (wc Q) 23 ∧ U < V * bb ^ k ∧ U + V * Q = D ∧ Q % bb ^ k = 0) (fun jv _ => (intOf jv + 1).toNat)
  case atStart =>
    exact ⟨n - (i + 2) + 1, D, 0, by omega, int_eq (by omega), hb, b2, b3, b4, b5, b6, H0.out, by omega, Nat.zero_mod _⟩
  case round =>
    clear hb b2 b3 b4 b5 b6
    obtain ⟨k, U, Q, hk, rfl, hb, b2, b3, b4, b5, b6, hU, hE, hQ⟩ := hrel
    have HE := Lib.hid hE
    rcases Nat.eq_zero_or_pos k with rfl | hp
    · have HU := Lib.hid hU
      clear hU hE hQ
      go_wp2_with fail
      have hM0 : 0 < M := Nat.lt_of_lt_of_le (bp_pos _) HM1.out
      have SH := Lib.hid (shifted (d := N) (e := M) (s := s) (Q := Q) (R := U) hM0 (by rw [HV.out, HD.out, ← HE.out, Nat.mul_comm Q, Nat.add_comm]) (by
        rw [HV.out]; have := HU.out; rw [Nat.pow_zero, Nat.mul_one] at this; exact this))
      have HR : Hid (U / 2 ^ s = N % M ∧ U / 2 ^ s < bb ^ (i + 2)) := by
        show U / 2 ^ s = N % M ∧ U / 2 ^ s < bb ^ (i + 2)
        have e : U / 2 ^ s = N % M := by rw [SH.out.2, Nat.mul_div_cancel _ (Nat.two_pow_pos s)]
        exact ⟨e, by rw [e]; exact Nat.lt_trans (Nat.mod_lt N hM0) HM.out⟩
      clear hM0
      refine rg_start [w.heap.size + 1 + 1, w.heap.size + 1 + 1 + 1] (by kernel_rfl) (fun hS => ?_)
      replace b2 := b2.drew
      replace b3 := b3.drew
      replace b5 := b5.drew
      replace b6 := b6.drew
      replace hb := hb.drew
      refine rg_ld 0 rfl (by kernel_rfl) (by kernel_rfl) (by kernel_rfl) (by rfl) hS rfl rfl b6 (by simp <;> omega) (whole23 _) ?_
      try simp only [Act.put, List.setIfInBounds_toArray, List.set_cons_zero, List.set_cons_succ]
      refine rg_ld 1 rfl (by kernel_rfl) (by kernel_rfl) (by kernel_rfl) (by rfl) hS rfl rfl b5 (by simp <;> omega) (wholeL _) ?_
      try simp only [Act.put, List.setIfInBounds_toArray, List.set_cons_zero, List.set_cons_succ]
      refine rg_take 2 rfl (by kernel_rfl) (by kernel_rfl) (by kernel_rfl) (by rfl) hS (v := ?_) ?_ ?_
      rotate_left
      · (intro w' hS'; go_simp <;> try with_reducible rfl)
      try simp only [Act.put, List.setIfInBounds_toArray, List.set_cons_zero, List.set_cons_succ]
      refine rg_take 3 rfl (by kernel_rfl) (by kernel_rfl) (by kernel_rfl) (by rfl) hS (v := ?_) ?_ ?_
      rotate_left
      · (intro w' hS'; go_simp <;> try with_reducible rfl)
      try simp only [Act.put, List.setIfInBounds_toArray, List.set_cons_zero, List.set_cons_succ]
      refine rg_eff 4 rfl (by kernel_rfl) (by rfl) (fun K hK => ?_)
      go_simp
      refine (shorten_any U s (i + 2) _ hs32 (by omega) HR.out.2).mono ?_
      rintro e w1 ⟨rfl, hb1⟩
      refine hK _ _ (hS.call hb1) (fun hS => ?_)
      clear hK K
      replace b2 := b2.call hb1
      replace b3 := b3.call hb1
      try simp only [Act.put, List.setIfInBounds_toArray, List.set_cons_zero, List.set_cons_succ]
      refine rg_eff 5 rfl (by kernel_rfl) (by rfl) (fun K hK => ?_)
      refine wp_st (vs := wc Q) rfl rfl rfl b2 (wc_len2 _ _) (whole23 _) (wc_one _) ?_
      refine hK _ _ (hS.row (.inl (by simp)) _) (fun hS => ?_)
      clear hK K
      replace b3 := b3.rowOther (g := w.heap.size + 1 + 1) (wc Q).toArray (by omega)
      replace b2 := b2.row (wc Q)
      replace hb := below_row (bthen hb hb1) (g := w.heap.size + 1 + 1) (by omega) (wc Q).toArray
      try simp only [Act.put, List.setIfInBounds_toArray, List.set_cons_zero, List.set_cons_succ]
      refine rg_eff 6 rfl (by kernel_rfl) (by rfl) (fun K hK => ?_)
      refine wp_st (vs := wc (U / 2 ^ s)) rfl rfl rfl b3 (wc_len2 _ _) (whole23 _) (wc_one _) ?_
      refine hK _ _ (hS.row (.inl (by simp)) _) (fun hS => ?_)
      clear hK K
      try simp only [Act.put, List.setIfInBounds_toArray, List.set_cons_zero, List.set_cons_succ]
      refine rg_done (by kernel_rfl) ?_
      go_wp2
      refine ret_cc (cs := wc Q) (cs' := wc (U / 2 ^ s)) rfl rfl rfl rfl (whole23 _) (whole23 _) (b2.rowOther _ (by omega)) (b3.row _) ⟨?_, below_row hb (by omega) _⟩
      rw [HR.out.1, SH.out.1]
    · obtain ⟨j, rfl⟩ : ∃ j, k = j + 1 := ⟨k - 1, by omega⟩
      have KN := Lib.hid (dl_know HS2.out.1 HS2.out.2 hU)
      have HQ := Lib.hid (dig_zero_of hQ)
      clear hU hE hQ hp
      rw [show ((j + 1 : Nat) : Int) - 1 = (j : Int) by omega]
      have c0 := b5.cell (lc_get U (j + (i + 2)) (by omega))
      have c1 := b5.cell (lc_get U (j + (i + 1)) (by omega))
      have c2 := b5.cell (lc_get U (j + i) (by omega))
      have e1 := b4.cell (lc_get V (i + 1) (by omega))
      have e2 := b4.cell (lc_get V i (by omega))
      have G := guessWord_any (fu := j) (cu := 33 - j) (cv := 33) (k := i) wr (by omega) c0 c1 c2 e1 e2 KN.out.2.2.1 (dig_le _ _) (dig_le _ _) (dig_le _ _) (dig_le _ _) HS2.out.2
      clear c0 c1 c2 e1 e2
      obtain ⟨g, hg⟩ : ∃ g, gw ((dig U (j + (i + 2)) * bb + dig U (j + (i + 1))) * bb + dig U (j + i)) (dig V (i + 1) * bb + dig V i) = g := ⟨_, rfl⟩
      obtain ⟨q, hq⟩ : ∃ q, U / bb ^ j / V = q := ⟨_, rfl⟩
      rw [hg, hq] at KN
      rw [hg] at G
      have HG := Lib.hid G
      have Hq := Lib.hid hq
      have g1 : g ≤ 4294967295 := by rw [← hg]; exact gw_word _ _
      clear hg hq G
      go_wp2_with (first | (with_reducible refine slLH (l := j) (n := i + 3) rfl rfl rfl rfl rfl (by omega) (by omega) (by omega) (by omega) ?_) | (with_reducible refine slH (h := i + 2) rfl rfl rfl rfl (by omega) (by omega) ?_))
      refine HG.out.mono ?_
      rintro e w3 ⟨rfl, h3⟩
      replace b2 := b2.call h3
      replace b3 := b3.call h3
      replace b4 := b4.call h3
      replace b5 := b5.call h3
      replace b6 := b6.call h3
      replace hb := bthen hb h3
      clear h3 HG
      go_wp2_with (first | (with_reducible refine slH (h := i + 2) rfl rfl rfl rfl (by omega) (by omega) ?_))
      refine (takeTimes_any (m := i + 2) (U := U) (V := V) _ (by omega) (by omega) g1 KN.out.2.1 b5 b4).mono ?_
      rintro e w4 ⟨Y, b, hb1, rfl, a5, hY, hYe, ho⟩
      replace b2 := ho.blk b2 (by omega)
      replace b3 := ho.blk b3 (by omega)
      replace b4 := ho.blk b4 (by omega)
      replace b6 := ho.blk b6 (by omega)
      replace hb := hb.trans (ho.1.mono (by omega))
      clear ho b5
      rw [Nat.mod_eq_of_lt HS2.out.1] at hYe
      rcases (show g = q ∨ g = q + 1 by have := KN.out.2.2.2.2; omega) with rfl | rfl
      · have R := dl_right (bp_pos j) KN.out.1 Hq.out hY hYe KN.out.2.1
        obtain ⟨rfl, R1, R2⟩ := R
        have HR := Lib.hid (And.intro R1 R2)
        clear R1 R2 hYe hY
        have f6 := b6.frozen j
        have c6 := b6.cell (wc_get Q j (by omega))
        rw [show decide (0 < 0) = false from rfl]
        go_wp2
        go_roundw
        case rel =>
          have s6 := b6.set j (.int .u32 (g : Nat))
          rw [wc_put KN.out.2.2.2.1] at s6
          exact ⟨j, Y, put Q j g, by omega, int_eq (by omega), hb.setCell (by simp; omega) _, b2.setOther _ _ (by omega), b3.setOther _ _ (by omega), b4.setOther _ _ (by omega), a5.setOther _ _ (by omega), s6, HR.out.2, dl_sum HQ.out.1 HE.out HR.out.1, put_mod HQ.out.2⟩
        case measure => simp [intOf]
      · have hb2 := dl_over_b (bp_pos j) KN.out.1 Hq.out hYe hb1
        subst hb2
        have HY := Lib.hid (And.intro hY hYe)
        clear hY hYe
        rw [show decide (0 < 1) = true from rfl]
        go_wp2_with (first | (with_reducible refine slH (h := i + 2) rfl rfl rfl rfl (by omega) (by omega) ?_))
        refine (giveBack_any (m := i + 2) (U := Y) (V := V) _ (by omega) (by omega) HY.out.1 a5 b4).mono ?_
        rintro e w5 ⟨Z, c, rfl, z5, hZ, hZe, ho⟩
        replace b2 := ho.blk b2 (by omega)
        replace b3 := ho.blk b3 (by omega)
        replace b4 := ho.blk b4 (by omega)
        replace b6 := ho.blk b6 (by omega)
        replace hb := hb.trans (ho.1.mono (by omega))
        clear ho a5
        rw [Nat.mod_eq_of_lt HS2.out.1] at hZe
        have hT : V * bb ^ j ≤ bb ^ (j + (i + 2) + 1) := by
          rw [show j + (i + 2) + 1 = (i + 2) + (1 + j) by omega, Nat.pow_add bb (i + 2), Nat.pow_add bb 1]
          exact Nat.mul_le_mul (Nat.le_of_lt HS2.out.1) (Nat.le_mul_of_pos_left _ (bp_pos 1))
        have R := dl_over (bp_pos j) KN.out.1 Hq.out HY.out.1 HY.out.2 KN.out.2.1 hT hb1 hZ hZe
        have HR := Lib.hid R.2
        have q2 : q < bb := KN.out.2.2.2.1
        have HQ2 := Lib.hid q2
        have q3 : q + 1 ≤ 4294967295 := g1
        clear R hT hZ hZe q2
        have f6 := b6.frozen j
        have c6 := b6.cell (wc_get Q j (by omega))
        go_wp2
        go_roundw
        case rel =>
          have s6 := b6.set j (.int .u32 (q : Nat))
          rw [wc_put HQ2.out] at s6
          exact ⟨j, Z, put Q j q, by omega, int_eq (by omega), hb.setCell (by simp; omega) _, b2.setOther _ _ (by omega), b3.setOther _ _ (by omega), b4.setOther _ _ (by omega), z5.setOther _ _ (by omega), s6, HR.out.2, dl_sum HQ.out.1 HE.out HR.out.1, put_mod HQ.out.2⟩
        case measure => simp [intOf]
end Go.Proofs.Ytcfncekphdkphaa
