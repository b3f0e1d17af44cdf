/- RatioNear: what its numbers are. -/
import Derived.Test.YtcbhmmeobkhomaaRka
namespace Go.Proofs.Ytcbhmmeobkhomaa
set_option linter.unusedSimpArgs false
set_option linter.unusedVariables false
open Go.RowKit
set_option maxRecDepth 100000
theorem cm_le {x y : Int} (h : x ≤ y) : cm x y ≤ 0 := by
  unfold cm
  by_cases h1 : x < y
  · rw [if_pos h1]; decide
  · rw [if_neg h1, if_neg (by omega)]; decide
theorem rnd_le {n d : Int} (hd : 0 < d) (hd2 : d ≤ 65536) (k : Nat) {M : Int} (hM : (n.natAbs : Int) * 10 ^ k ≤ M) : rnd n d k ≤ M + 32768 := by
  have h0 := rnd_pos (n := n) hd k
  have h1 := (rnd_near (n := n) hd k).1
  have h2 : rnd n d k ≤ rnd n d k * d := by
    have := Int.mul_le_mul_of_nonneg_left (show (1 : Int) ≤ d by omega) h0
    rwa [Int.mul_one] at this
  omega
theorem sub_sf {aN aD bN bD E De : Int} (ha : Sf aN aD) (sa : Sz 64 aN ∧ Sz 64 aD) (sb : Sz 64 bN ∧ Sz 64 bD) (hb : Sf bN bD) (h : Rt E De) (hx : E * (aD * bD) = (aN * bD - bN * aD) * De) : Sf E De := by
  have hp : 0 < aD * bD := Int.mul_pos ha.1.1 hb.1.1
  obtain ⟨h1, h2⟩ := of_small hp h hx
  have s1 : Sz 129 (aN * bD - bN * aD) := by
    rw [Int.sub_eq_add_neg]
    exact sz_add (k := 128) (sz_mul sa.1 sb.2) (sz_neg (sz_mul sb.1 sa.2))
  have s2 : Sz 128 (aD * bD) := sz_mul sa.2 sb.2
  have hD := h.1
  exact ⟨h, sz_mono (sz_le s1 h1) (by omega), sz_mono (sz_le s2 (by omega)) (by omega)⟩
theorem sz64 {x : Int} (h : -9223372036854775808 ≤ x ∧ x ≤ 9223372036854775807) : Sz 64 x := sz_i64 h
theorem near_all3 (n : Int) (d g : Nat) (hn : -2147483648 ≤ n ∧ n ≤ 2147483647) (hd : d ≤ 65535) (hg : g ≤ 255) (w : World) :
    Calls Try.prog 3 #[.int .i32 n, .int .u16 (d : Int), .int .u8 (g : Int)] w fun e w' => e = .returned (.bool true) ∧ Below w.heap.size w w' := by
  obtain ⟨k, hk⟩ : ∃ k, g % 10 = k := ⟨_, rfl⟩
  have hk9 : k ≤ 9 := by omega
  obtain ⟨aN, aD, a1, a2, a3⟩ := Of_any (n := n) (d := (d : Int) + 1) (by omega) (by omega) (by omega)
  obtain ⟨a4, a5⟩ := of_small (by omega) a1 a2
  have a0 := a1.1
  have sa1 : Sz 64 aN := sz64 (by omega)
  have sa2 : Sz 64 aD := sz64 (by omega)
  have sA : Sf aN aD := ⟨a1, sz_mono sa1 (by omega), sz_mono sa2 (by omega)⟩
  have hpn : (10 : Nat) ^ k ≤ 10 ^ 9 := Nat.pow_le_pow_right (by decide) hk9
  have hpp : 0 < (10 : Nat) ^ k := Nat.pow_pos (by decide)
  obtain ⟨T, hT⟩ : ∃ T : Int, T = ((10 ^ k : Nat) : Int) := ⟨_, rfl⟩
  have hTi : (10 : Int) ^ k = T := by rw [hT]; simp
  have hT1 : 1 ≤ T ∧ T ≤ 1000000000 := by omega
  have hM : (aN.natAbs : Int) * 10 ^ k ≤ 2147483648 * 1000000000 := by
    rw [hTi]
    have h1 := Int.mul_le_mul_of_nonneg_left hT1.2 (show 0 ≤ (aN.natAbs : Int) by omega)
    have h2 := Int.mul_le_mul_of_nonneg_right (show (aN.natAbs : Int) ≤ 2147483648 by omega) (show (0 : Int) ≤ 1000000000 by decide)
    omega
  have hR0 := rnd_pos (n := aN) a0 k
  have hR1 := rnd_le (n := aN) a0 (by omega) k hM
  obtain ⟨hN1, hN2⟩ := rnd_near (n := aN) a0 k
  have fR : fits (rnd aN aD k) := sz_fits (sz64 (x := rnd aN aD k) (by omega)) (by omega)
  have DC := Decimal_any sA hk9 fR
  rw [hTi] at hN1 hN2
  obtain ⟨R, hR⟩ : ∃ R, rnd aN aD k = R := ⟨_, rfl⟩
  rw [hR] at DC hR0 hR1 hN1 hN2 fR
  obtain ⟨neg, hneg⟩ : ∃ neg, (decide (aN < 0) && decide (R ≠ 0)) = neg := ⟨_, rfl⟩
  rw [hneg] at DC
  obtain ⟨D, ⟨hB⟩⟩ := prt_of neg k R.natAbs fR
  have hBl : (ntx neg k (txt false R.natAbs)).length ≤ 1000 := by
    have hl : (txt false R.natAbs).length ≤ 400 := Nat.le_trans (txt_len false fR).1 (by decide)
    have := ptx_len k hk9 _ hl
    unfold ntx
    rw [List.length_append]
    have : (if neg then [45] else [] : List UInt8).length ≤ 1 := by split <;> simp
    omega
  obtain ⟨v, hv⟩ : ∃ v : Int, v = if neg then -(R.natAbs : Int) else (R.natAbs : Int) := ⟨_, rfl⟩
  have hvv : (0 ≤ aN ∧ v = R) ∨ (aN < 0 ∧ v = -R) := by
    by_cases h1 : aN < 0
    · right
      refine ⟨h1, ?_⟩
      by_cases h2 : R = 0
      · rw [hv]; split <;> omega
      · rw [hv, ← hneg, decide_eq_true h1, decide_eq_true (show R ≠ 0 from h2)]
        show -(R.natAbs : Int) = -R
        omega
    · left
      refine ⟨by omega, ?_⟩
      rw [hv, ← hneg, decide_eq_false h1]
      show (R.natAbs : Int) = R
      omega
  have hlo : -aD ≤ 2 * (aN * T - v * aD) ∧ 2 * (aN * T - v * aD) ≤ aD := by
    rcases hvv with ⟨h1, h2⟩ | ⟨h1, h2⟩
    · have e : (aN.natAbs : Int) = aN := by omega
      rw [e] at hN1 hN2
      rw [h2]; exact ⟨hN1, hN2⟩
    · have e : (aN.natAbs : Int) = -aN := by omega
      rw [e] at hN1 hN2
      have e2 : aN * T - v * aD = -(-aN * T - R * aD) := by rw [h2]; grind
      rw [e2]; omega
  have hvr : -2147483648000032768 ≤ v ∧ v ≤ 2147483648000032768 := by rcases hvv with ⟨_, h2⟩ | ⟨_, h2⟩ <;> omega
  obtain ⟨bN, bD, b1, b2, b3⟩ := Of_any (n := v) (d := T) (by omega) (by omega) (by omega)
  obtain ⟨b4, b5⟩ := of_small (by omega) b1 b2
  have b0 := b1.1
  have sb1 : Sz 64 bN := sz64 (by omega)
  have sb2 : Sz 64 bD := sz64 (by omega)
  have sB : Sf bN bD := ⟨b1, sz_mono sb1 (by omega), sz_mono sb2 (by omega)⟩
  obtain ⟨hN, hD, h1, h2, h3⟩ := Of_any (n := 1) (d := 2 * T) (by decide) (by omega) (by omega)
  obtain ⟨h4, h5⟩ := of_small (by omega) h1 h2
  have h0 := h1.1
  have sH : Sf hN hD := ⟨h1, sz_mono (sz64 (x := hN) (by omega)) (by omega), sz_mono (sz64 (x := hD) (by omega)) (by omega)⟩
  obtain ⟨eN, eD, e1, e2, e3, e4, e5⟩ := Sub_rany sA sB
  obtain ⟨fN, fD, f1, f2, f3, f4, f5⟩ := Sub_rany sB sA
  have sE := sub_sf sA ⟨sa1, sa2⟩ ⟨sb1, sb2⟩ sB e1 e2
  have sF := sub_sf sB ⟨sb1, sb2⟩ ⟨sa1, sa2⟩ sA f1 f2
  have n1 : 2 * eN * T ≤ eD := near1 a0 b0 e1.1 b2 e2 hlo.2
  have n2 : 2 * fN * T ≤ fD := by
    refine near1 (N := -aN) (v := -v) (N' := -bN) a0 b0 f1.1 (by rw [Int.neg_mul, b2, Int.neg_mul]) ?_ ?_
    · rw [Int.mul_comm aD bD, f2]; grind
    · have e : -aN * T - -v * aD = -(aN * T - v * aD) := by grind
      rw [e]; omega
  refine near_walk hn hd hg hk hB hBl (by omega) hT hv a3 DC b3 e5 h3 e3 f5 (Cmp_rany sE sH) (Cmp_rany sF sH) (fun _ => cm_le ?_) (fun _ => cm_le ?_) w
  · exact near2 (by omega) h2 h0 n1
  · exact near2 (by omega) h2 h0 n2
end Go.Proofs.Ytcbhmmeobkhomaa
