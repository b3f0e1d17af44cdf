/- The reference's amounts: divmod, gcd. -/
import Derived.Test.YtckolhalggcenaaGreatMgh
namespace Go.Proofs.YtckolhalggcenaaGreat
set_option linter.unusedSimpArgs false
set_option linter.unusedVariables false
open Go.RowKit
set_option maxRecDepth 100000
theorem Mv.setOther {w : World} {v : Value} {M g : Nat} (h : Mv w v M) (hne : v.ownBlock ≠ some g) (i : Nat) (x : Value) : Mv (w.setCell ⟨g, i, none⟩ x) v M := by
  rcases h with h | ⟨b, c, rfl, hc, hl, hx⟩
  · exact .inl h
  · have hn : b ≠ g := fun e => hne (by rw [e]; rfl)
    exact .inr ⟨b, c, rfl, hc, by simp; exact hl, fun j hj => (World.cell?_setCell_other _ _ _ _ (by simp <;> (intro e; exact absurd e hn))).trans (hx j hj)⟩
/-- One bit more of a quotient. -/
theorem div_bit {A s : Nat} (hs : 0 < s) : A % s = (if s ≤ A % (2 * s) then A % (2 * s) - s else A % (2 * s)) ∧ A / s = 2 * (A / (2 * s)) + (if s ≤ A % (2 * s) then 1 else 0) := by
  have h1 := Nat.mod_add_div A (2 * s)
  have h2 := Nat.mod_lt A (show 0 < 2 * s by omega)
  generalize A % (2 * s) = R at *
  generalize A / (2 * s) = Q at *
  have e : A = R + s * (2 * Q) := by rw [← h1, Nat.mul_comm 2 s, Nat.mul_assoc]
  subst e
  rw [Nat.add_mul_mod_self_left, Nat.add_mul_div_left _ _ hs]
  split
  · rename_i h
    have e1 : R % s = R - s := by rw [Nat.mod_eq_sub_mod h, Nat.mod_eq_of_lt (by omega)]
    have e2 : R / s = 1 := by rw [Nat.div_eq_iff (by omega)]; omega
    exact ⟨e1, by omega⟩
  · rename_i h
    exact ⟨Nat.mod_eq_of_lt (by omega), by rw [Nat.div_eq_of_lt (by omega)]; omega⟩
theorem put_add {Y K v : Nat} : put Y K (dig Y K + v) = Y + bb ^ K * v := by
  unfold put
  have h1 := Nat.mod_add_div Y (bb ^ K)
  rw [div_split Y K] at h1
  rw [Nat.add_right_comm, Nat.mul_add]
  omega
/-- The lowest bit that isn't set is set. -/
theorem bit_in {T j : Nat} : dig (T * 2 ^ (j + 1)) (j / 32) + 2 ^ (j % 32) < bb ∧ bits .or .u32 ((dig (T * 2 ^ (j + 1)) (j / 32) : Nat) : Int) ((2 ^ (j % 32) : Nat) : Int) = ((dig (T * 2 ^ (j + 1)) (j / 32) + 2 ^ (j % 32) : Nat) : Int) ∧ put (T * 2 ^ (j + 1)) (j / 32) (dig (T * 2 ^ (j + 1)) (j / 32) + 2 ^ (j % 32)) = T * 2 ^ (j + 1) + 2 ^ j := by
  obtain ⟨q, hq⟩ : ∃ q, j / 32 = q := ⟨_, rfl⟩
  obtain ⟨r, hr⟩ : ∃ r, j % 32 = r := ⟨_, rfl⟩
  have hj : j = 32 * q + r := by omega
  have hr2 : r < 32 := by omega
  rw [hq, hr]
  have e1 : T * 2 ^ (j + 1) = T * 2 ^ (r + 1) * bb ^ q := by rw [hj, Nat.add_assoc, shift_words]
  have e2 : dig (T * 2 ^ (j + 1)) q = T * 2 ^ (r + 1) % bb := by
    rw [e1]
    have h3 : dig (T * 2 ^ (r + 1) * bb ^ q) q = dig (T * 2 ^ (r + 1)) 0 := dig_shift (T * 2 ^ (r + 1)) q 0
    rw [h3]
    simp [dig]
  have hb2 : bb = 2 ^ (r + 1) * 2 ^ (31 - r) := by rw [← Nat.pow_add, show r + 1 + (31 - r) = 32 by omega]; rfl
  have e3 : T * 2 ^ (r + 1) % bb = 2 ^ (r + 1) * (T % 2 ^ (31 - r)) := by rw [hb2, Nat.mul_comm T, Nat.mul_mod_mul_left]
  have ht : T % 2 ^ (31 - r) + 1 ≤ 2 ^ (31 - r) := Nat.mod_lt _ (Nat.two_pow_pos _)
  have hp : 2 ^ r < 2 ^ (r + 1) := Nat.pow_lt_pow_right (by decide) (by omega)
  have hlt : 2 ^ (r + 1) * (T % 2 ^ (31 - r)) + 2 ^ (r + 1) ≤ bb := by
    rw [hb2, ← Nat.mul_succ]; exact Nat.mul_le_mul_left _ ht
  have hbb := bb_eq
  refine ⟨by rw [e2, e3]; omega, ?_, ?_⟩
  · rw [e2, e3]
    rw [u32_or_nat _ _ (by omega) (by omega), ← Nat.two_pow_add_eq_or_of_lt hp]
  · rw [put_add, hj, Nat.pow_add 2 (32 * q) r, ← bp_two]
theorem bits_order {A B n : Nat} (hB : B ≠ 0) (h : bitLen A = bitLen B + n) : A < B * 2 ^ (n + 1) ∧ ∀ j, j ≤ n → B * 2 ^ j < 2 ^ bitLen A := by
  have h1 := (bitLen_spec A).1
  have h2 := (bitLen_spec B).1
  have h3 := (bitLen_spec B).2 hB
  have h4 : 0 < bitLen B := by
    rcases Nat.eq_zero_or_pos (bitLen B) with e | e
    · rw [e] at h2; omega
    · exact e
  refine ⟨?_, fun j hj => ?_⟩
  · rw [h] at h1
    refine Nat.lt_of_lt_of_le h1 ?_
    calc 2 ^ (bitLen B + n) = 2 ^ (bitLen B - 1) * 2 ^ (n + 1) := by rw [← Nat.pow_add]; congr 1; omega
      _ ≤ B * 2 ^ (n + 1) := Nat.mul_le_mul_right _ h3
  · rw [h, Nat.pow_add]
    exact Nat.lt_of_lt_of_le (Nat.mul_lt_mul_of_pos_right h2 (Nat.two_pow_pos j)) (Nat.mul_le_mul_left _ (Nat.pow_le_pow_right (by decide) hj))
theorem bits_less {A B : Nat} (h : bitLen A < bitLen B) : A < B := by
  have h1 := (bitLen_spec A).1
  have hB : B ≠ 0 := fun e => by rw [e, show bitLen 0 = 0 from rfl] at h; omega
  have h3 := (bitLen_spec B).2 hB
  exact Nat.lt_of_lt_of_le h1 (Nat.le_trans (Nat.pow_le_pow_right (by decide) (by omega)) h3)
theorem bits_words (A : Nat) : bitLen A ≤ 32 * nw A := by
  have := (sz_bits (k := 32 * nw A) (x := (A : Int))).2 (by unfold Sz; rw [← bp_two]; exact nw_lt A)
  exact this
theorem div_bit2 {A B j : Nat} (hB : B ≠ 0) : (B * 2 ^ j ≤ A % (B * 2 ^ (j + 1)) → A % (B * 2 ^ j) = A % (B * 2 ^ (j + 1)) - B * 2 ^ j ∧ A / (B * 2 ^ j) * 2 ^ j = A / (B * 2 ^ (j + 1)) * 2 ^ (j + 1) + 2 ^ j) ∧ (¬ B * 2 ^ j ≤ A % (B * 2 ^ (j + 1)) → A % (B * 2 ^ j) = A % (B * 2 ^ (j + 1)) ∧ A / (B * 2 ^ j) * 2 ^ j = A / (B * 2 ^ (j + 1)) * 2 ^ (j + 1)) := by
  have e : B * 2 ^ (j + 1) = 2 * (B * 2 ^ j) := by rw [Nat.pow_succ, ← Nat.mul_assoc, Nat.mul_comm]
  obtain ⟨h1, h2⟩ := div_bit (A := A) (s := B * 2 ^ j) (Nat.mul_pos (by omega) (Nat.two_pow_pos j))
  rw [← e] at h1 h2
  constructor
  · intro h
    rw [if_pos h] at h1 h2
    refine ⟨h1, ?_⟩
    rw [h2, Nat.add_mul, Nat.one_mul, Nat.pow_succ]
    congr 1
    simp only [Nat.mul_assoc, Nat.mul_comm, Nat.mul_left_comm]
  · intro h
    rw [if_neg h] at h1 h2
    refine ⟨h1, ?_⟩
    rw [h2, Nat.add_zero, Nat.pow_succ]
    simp only [Nat.mul_assoc, Nat.mul_comm, Nat.mul_left_comm]
set_option maxHeartbeats 2000000 in
theorem divmod_less {u v : Value} {A B : Nat} {w : World} (h : Mv w u A) (h' : Mv w v B) (hA : nw A ≤ 900) (hB : nw B ≤ 900) (hl : bitLen A < bitLen B) :
    Calls Tryz.prog 90 #[u, v] w fun e w' => ∃ v1 v2, e = .returned (.tuple #[v1, v2]) ∧ Mv w' v1 (A / B) ∧ Mv w' v2 (A % B) ∧ Below w.heap.size w w' := by
  have hlt := bits_less hl
  rw [Nat.div_eq_of_lt hlt, Nat.mod_eq_of_lt hlt]
  have H1 := Lib.hid (bits_any h (by omega))
  have H2 := Lib.hid (bits_any h' (by omega))
  have hb1 := bits_words A
  have hb2 := bits_words B
  have HA := Lib.hid h
  clear h h' hlt
  generalize bitLen A = x at *
  generalize bitLen B = y at *
  have hneg : (x : Int) - (y : Int) < 0 := by omega
  have hx : x ≤ 28800 := by omega
  have hy : y ≤ 28800 := by omega
  clear hb1 hb2
  go_enter Tryz.func90, Tryz.ntmps90
  go_wp2_with fail
  refine H1.out.mono ?_
  rintro e w1 ⟨rfl, rfl⟩
  go_wp2_with fail
  refine H2.out.mono ?_
  rintro e w2 ⟨rfl, rfl⟩
  go_wp2
  go_ret2
  exact ⟨_, _, rfl, mv_nil _, HA.out, Below.refl _ _⟩
set_option maxHeartbeats 4000000 in
theorem divmod_more {u v : Value} {A B n : Nat} {w : World} (h : Mv w u A) (h' : Mv w v B) (hA : nw A ≤ 900) (hB : nw B ≤ 900) (hB0 : B ≠ 0) (hl : bitLen A = bitLen B + n) :
    Calls Tryz.prog 90 #[u, v] w fun e w' => ∃ v1 v2, e = .returned (.tuple #[v1, v2]) ∧ Mv w' v1 (A / B) ∧ Mv w' v2 (A % B) ∧ Below w.heap.size w w' := by
  obtain ⟨o1, o2⟩ := bits_order hB0 hl
  have hb1 := bits_words A
  have hb2 := bits_words B
  have hA0 : 0 < nw A := by
    rcases Nat.eq_zero_or_pos (nw A) with e | e
    · have hA1 := nw_zero.1 e
      rw [hA1, show bitLen 0 = 0 from rfl] at hl
      have h2 := (bitLen_spec B).1
      rw [show bitLen B = 0 by omega] at h2
      omega
    · exact e
  have HW : Hid (∀ j, j ≤ n → nw (B * 2 ^ j) ≤ 900) := fun j hj => Nat.le_trans (nw_le_of (Nat.lt_of_lt_of_le (o2 j hj) (by rw [bp_two]; exact Nat.pow_le_pow_right (by decide) hb1))) hA
  have HN : Hid (∀ X, nw (A % X) ≤ 900) := fun X => Nat.le_trans (nw_le_of (Nat.lt_of_le_of_lt (Nat.mod_le _ _) (nw_lt A))) hA
  have HQ : Hid (A / B < bb ^ (n / 32 + 1)) := by
    have h1 : A / B < 2 ^ (n + 1) := by rw [Nat.div_lt_iff_lt_mul (by omega), Nat.mul_comm]; exact o1
    refine Nat.lt_of_lt_of_le h1 ?_
    rw [bp_two]; exact Nat.pow_le_pow_right (by decide) (by omega)
  have HS : Hid (A % (B * 2 ^ (n + 1)) = A ∧ A / (B * 2 ^ (n + 1)) * 2 ^ (n + 1) = 0) := ⟨Nat.mod_eq_of_lt o1, by rw [Nat.div_eq_of_lt o1, Nat.zero_mul]⟩
  have H1 := Lib.hid (bits_any h (by omega))
  have H2 := Lib.hid (bits_any h' (by omega))
  have HA := Lib.hid h
  have HB := Lib.hid h'
  have HB0 := Lib.hid hB0
  have hoff : Hid (u.ownBlock ≠ some w.heap.size) := by
    obtain ⟨p, c, rfl, _, hx⟩ := h.old
    obtain ⟨b, rfl, hb, _⟩ := hx hA0
    show Value.ownBlock (.slice (some ⟨b, 0, none⟩) _ _) ≠ _
    intro e
    have : b = w.heap.size := Option.some.inj e
    omega
  clear h h' o1 o2 hA0 hB0
  generalize bitLen A = x at *
  generalize bitLen B = y at *
  have hneg : (x : Int) - (y : Int) = (n : Int) := by omega
  have hx : x ≤ 28800 := by omega
  have hy : y ≤ 28800 := by omega
  have hn : n ≤ 28800 := by omega
  have hn0 : ¬ (n : Int) < 0 := by omega
  obtain ⟨L, hL⟩ : ∃ L, n / 32 = L := ⟨_, rfl⟩
  rw [hL] at HQ
  have hLn : L ≤ 900 := by omega
  have E1 : (n : Int).tdiv 32 = (L : Int) := by rw [← hL]; exact (Int.ofNat_tdiv n 32).symm
  have HL := Lib.hid hL
  clear hb1 hb2 hl hL
  obtain ⟨i0, hi, hz0, hz1, hz2⟩ := info_parts info_u32
  go_enter Tryz.func90, Tryz.ntmps90
  go_wp2_with fail
  refine H1.out.mono ?_
  rintro e w1 ⟨rfl, rfl⟩
  go_wp2_with fail
  refine H2.out.mono ?_
  rintro e w2 ⟨rfl, rfl⟩
  go_wp2_with (first | (with_reducible refine wpList_make_full _ rfl _ _ 71 rfl w2.heap.size 22 i0 (.int .u32 0) 1 Tryz.underlying71 hi hz0 hz1 _ _ _ _ (L + 1) rfl rfl (by omega) (by omega) (by rw [hz2]; omega) (by unfold maxLen; omega) (Nat.le_refl _) ?_))
  intro w1 ho hg
  obtain ⟨b1, hb⟩ := made_blk ho hg
  clear ho hg H1 H2
  go_wp2_with fail
  go_loopw [8, 9] (fun r i wr => ∃ k : Nat, k ≤ n + 1 ∧ i = .int .i64 ((k : Int) - 1) ∧ Mv wr r (A % (B * 2 ^ k)) ∧ r.ownBlock ≠ some w2.heap.size ∧ Blk wr w2.heap.size (ds (A / (B * 2 ^ k) * 2 ^ k) (L + 1)) 22 ∧ Below w2.heap.size w2 wr) (fun _ i _ => (intOf i + 1).toNat)
  case atStart => exact ⟨n + 1, Nat.le_refl _, by go_num, by rw [HS.out.1]; exact HA.out.call hb, hoff.out, by rw [HS.out.2]; exact b1, hb⟩
  case round =>
    clear b1 hb
    obtain ⟨k, hk, rfl, hr, hof, b1, hb⟩ := hrel
    have HR := Lib.hid hr
    have HOF := Lib.hid hof
    have B1 := Lib.hid b1
    clear hr hof b1
    rcases Nat.eq_zero_or_pos k with rfl | hp
    · have hr := HR.out
      have b1 := B1.out
      rw [Nat.pow_zero, Nat.mul_one] at hr b1
      rw [Nat.mul_one] at b1
      go_wp2_with fail
      refine (trim_blk (c := 0) b1 HQ.out (by omega)).mono ?_
      rintro e w3 ⟨v', rfl, hv, rfl⟩
      go_wp2
      go_ret2
      exact ⟨v', _, rfl, hv, hr, hb⟩
    · obtain ⟨j, rfl⟩ : ∃ j, k = j + 1 := ⟨k - 1, by omega⟩
      rw [show ((j + 1 : Nat) : Int) - 1 = (j : Int) by omega]
      have hj0 : (0 : Int) ≤ (j : Int) := by omega
      have hB' := HB.out.call hb
      obtain ⟨D1, D2⟩ := div_bit2 (A := A) (B := B) (j := j) HB0.out
      have HD1 := Lib.hid D1
      have HD2 := Lib.hid D2
      clear D1 D2
      go_wp2_with fail
      refine (shl_any hB' (by omega) (n := j) (by omega)).mono ?_
      rintro e w3 ⟨s, rfl, hs, h3⟩
      have R3 := Lib.hid (HR.out.call h3)
      have B3 := Lib.hid (B1.out.call h3)
      have hb3 := bthen hb h3
      go_wp2_with fail
      refine (cmp_any R3.out hs (Nat.le_trans (HN.out _) (by omega)) (Nat.le_trans (HW.out j (by omega)) (by omega))).mono ?_
      rintro e w4 ⟨rfl, h4⟩
      have hs4 := Lib.hid (hs.call h4)
      have R4 := Lib.hid (R3.out.call h4)
      have B4 := Lib.hid (B3.out.call h4)
      have hb4 := bthen hb3 h4
      clear R3 B3 hb3 hs h3 h4
      by_cases hge : B * 2 ^ j ≤ A % (B * 2 ^ (j + 1))
      · obtain ⟨f1, f2⟩ := HD1.out hge
        have F1 := Lib.hid f1
        have F2 := Lib.hid f2
        have hcm : Hid ((0 : Int) ≤ cmpv (A % (B * 2 ^ (j + 1))) (B * 2 ^ j)) := by
          show (0 : Int) ≤ cmpv _ _
          unfold cmpv
          rw [if_neg (by omega)]
          split <;> decide
        have HGE := Lib.hid hge
        clear f1 f2 hge
        generalize cmpv (A % (B * 2 ^ (j + 1))) (B * 2 ^ j) = cc at *
        have hcc := hcm.out
        go_wp2_with fail
        refine (sub_any R4.out hs4.out (Nat.le_trans (HN.out _) (by omega)) HGE.out).mono ?_
        rintro e w5 ⟨r', rfl, hr5, hf5, h5⟩
        have hb5 := bthen hb4 h5
        have B5 := B4.out.call h5
        have l4 := B4.out.lt
        rw [← F1.out] at hr5
        obtain ⟨p1, p2, p3⟩ := bit_in (T := A / (B * 2 ^ (j + 1))) (j := j)
        rw [← F2.out] at p3
        obtain ⟨Y, hY⟩ : ∃ Y, A / (B * 2 ^ (j + 1)) * 2 ^ (j + 1) = Y := ⟨_, rfl⟩
        rw [hY] at B5 p1 p2 p3
        obtain ⟨q, hq⟩ : ∃ q, j / 32 = q := ⟨_, rfl⟩
        obtain ⟨r, hr'⟩ : ∃ r, j % 32 = r := ⟨_, rfl⟩
        have G1 : (j : Int).tdiv 32 = (q : Int) := by rw [← hq]; exact (Int.ofNat_tdiv j 32).symm
        have G2 : (j : Int).tmod 32 = (r : Int) := by rw [← hr']; exact (Int.ofNat_tmod j 32).symm
        have hqL : q < L + 1 := by have := HL.out; omega
        have hr32 : r < 32 := by omega
        rw [hq, hr'] at p1 p2 p3
        obtain ⟨P, hP⟩ : ∃ P, 2 ^ r = P := ⟨_, rfl⟩
        rw [hP] at p1 p2 p3
        obtain ⟨C, hC⟩ : ∃ C, dig Y q = C := ⟨_, rfl⟩
        have c5 := B5.cell (i := q) (ds_get hqL)
        have f5 := B5.frozen q
        rw [hC] at p1 p2 p3 c5
        obtain ⟨Z, hZ⟩ : ∃ Z, C + P = Z := ⟨_, rfl⟩
        rw [hZ] at p1 p2 p3
        have hbb := bb_eq
        have G3 : IntKind.u32.wrap (1 * 2 ^ r) = (P : Int) := by
          rw [Int.one_mul, show (2 : Int) ^ r = (P : Int) by rw [← hP]; simp, IntKind.wrap_u32]
          omega
        have G4 : IntKind.u32.wrap (2 ^ r) = (P : Int) := by
          rw [show (2 : Int) ^ r = (P : Int) by rw [← hP]; simp, IntKind.wrap_u32]
          omega
        have hZ4 : Z ≤ 4294967295 := by omega
        have hr3 : (r : Int) < 32 := by omega
        have hqL' : (q : Int) < (L : Int) + 1 := by omega
        have P1 := Lib.hid p1
        have P3 := Lib.hid p3
        have HB5 := Lib.hid B5
        have HR5 := Lib.hid hr5
        have HF5 := Lib.hid hf5
        clear hq hr' hP hC hZ hbb p1 p3 B5 hY hr5 hf5 F1 F2
        go_wp2
        go_roundw
        case rel =>
          have hne : r'.ownBlock ≠ some w2.heap.size := fun e => by have := HF5.out _ e; omega
          refine ⟨j, by omega, rfl, HR5.out.setOther hne _ _, hne, ?_, hb5.setCell (by exact Nat.le_refl _) _⟩
          have := HB5.out.set q (.int .u32 (Z : Nat))
          rw [ds_set P1.out, P3.out] at this
          exact this
        case measure => simp [intOf]
      · obtain ⟨f1, f2⟩ := HD2.out hge
        have F1 := Lib.hid f1
        have F2 := Lib.hid f2
        have hcm : Hid (¬ (0 : Int) ≤ cmpv (A % (B * 2 ^ (j + 1))) (B * 2 ^ j)) := by
          show ¬ (0 : Int) ≤ cmpv _ _
          unfold cmpv
          rw [if_pos (by omega)]
          decide
        clear f1 f2 hge
        generalize cmpv (A % (B * 2 ^ (j + 1))) (B * 2 ^ j) = cc at *
        have hcc := hcm.out
        have hcc' : cc < 0 := by omega
        go_wp2
        go_roundw
        case rel => exact ⟨j, by omega, rfl, by rw [F1.out]; exact R4.out, HOF.out, by rw [F2.out]; exact B4.out, hb4⟩
        case measure => simp [intOf]
theorem divmod_any {u v : Value} {A B : Nat} {w : World} (h : Mv w u A) (h' : Mv w v B) (hA : nw A ≤ 900) (hB : nw B ≤ 900) (hB0 : B ≠ 0) :
    Calls Tryz.prog 90 #[u, v] w fun e w' => ∃ v1 v2, e = .returned (.tuple #[v1, v2]) ∧ Mv w' v1 (A / B) ∧ Mv w' v2 (A % B) ∧ Below w.heap.size w w' := by
  by_cases hl : bitLen A < bitLen B
  · exact divmod_less h h' hA hB hl
  · exact divmod_more (n := bitLen A - bitLen B) h h' hA hB hB0 (by omega)
set_option maxHeartbeats 1000000 in
theorem gcdref_any {u v : Value} {A B : Nat} {w : World} (h : Mv w u A) (h' : Mv w v B) (hA : nw A ≤ 900) (hB : nw B ≤ 900) :
    Calls Tryz.prog 85 #[u, v] w fun e w' => ∃ v', e = .returned v' ∧ Mv w' v' (Nat.gcd A B) ∧ Below w.heap.size w w' := by
  have H1 := Lib.hid h
  have H2 := Lib.hid h'
  have HA := Lib.hid hA
  have HB := Lib.hid hB
  clear h h' hA hB
  go_enter Tryz.func85, Tryz.ntmps85
  go_wp2_with fail
  try simp only [Act.put, List.setIfInBounds_toArray, List.set_cons_zero, List.set_cons_succ]
  go_loopg [5, 6] B (fun g x y wr => ∃ X : Nat, Mv wr x X ∧ Mv wr y g ∧ nw X ≤ 900 ∧ nw g ≤ 900 ∧ Nat.gcd X g = Nat.gcd A B ∧ Below w.heap.size w wr)
  case atStart => exact ⟨A, H1.out, H2.out, HA.out, HB.out, rfl, Below.refl _ _⟩
  case round =>
    obtain ⟨X, hx, hy, nx, ny, hg, hb⟩ := hrel
    have HX := Lib.hid hx
    have HY := Lib.hid hy
    have HG := Lib.hid hg
    obtain ⟨p, c, e, hc, hp⟩ := hy.old
    subst e
    clear hx hg hp
    by_cases h0 : nw gk = 0
    · have hg0 : gk = 0 := nw_zero.1 h0
      have HG0 := HG.out
      rw [hg0, Nat.gcd_zero_right] at HG0
      rw [h0]
      clear hg0
      go_wp2
      go_ret
      exact ⟨_, rfl, by rw [← HG0]; exact HX.out, hb⟩
    · have h0' : (0 : Int) < (nw gk : Int) := by omega
      have hg0 : gk ≠ 0 := fun e => h0 (nw_zero.2 e)
      go_wp2_with fail
      refine (divmod_any HX.out HY.out nx ny hg0).mono ?_
      rintro e w1 ⟨q, r, rfl, hq, hr, h1⟩
      have hY1 := HY.out.call h1
      have hb1 := bthen hb h1
      have hlt : X % gk < gk := Nat.mod_lt _ (by omega)
      go_wp2
      go_roundg (X % gk)
      case measure => exact hlt
      case rel => exact ⟨gk, hY1, hr, ny, Nat.le_trans (nw_le_of (Nat.lt_trans hlt (nw_lt gk))) ny, by rw [← HG.out, Nat.gcd_comm X gk, Nat.gcd_rec gk X, Nat.gcd_comm], hb1⟩
end Go.Proofs.YtckolhalggcenaaGreat
