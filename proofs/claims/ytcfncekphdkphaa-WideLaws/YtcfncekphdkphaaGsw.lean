/- wide.guessWord. -/
import Derived.Test.YtcfncekphdkphaaSho
import Derived.Test.YtcfncekphdkphaaKnu
import Derived.BigQuiet
import Derived.Deep.QuietTactic
namespace Go.Proofs.Ytcfncekphdkphaa
set_option linter.unusedSimpArgs false
set_option linter.unusedVariables false
open Go.RowKit
set_option maxRecDepth 100000
theorem gw_top {H u2 U v1 v2 V q r : Nat} (hU : H * bb + u2 = U) (hV : v1 * bb + v2 = V) (h0 : 0 < V) (hq : q * v1 + r = H) (hr : r < v1) (hu : u2 ≤ 4294967295) : gw U V ≤ q := by
  have hb := bb_eq
  unfold gw
  apply Nat.le_trans (Nat.min_le_right _ _)
  have : U / V < q + 1 := by
    rw [Nat.div_lt_iff_lt_mul h0, ← hV, ← hU, ← hq]
    have : (q * v1 + r + 1) * bb ≤ (q + 1) * v1 * bb := Nat.mul_le_mul_right _ (by rw [Nat.add_mul, Nat.one_mul]; omega)
    have h2 : (q + 1) * v1 * bb ≤ (q + 1) * (v1 * bb + v2) := by rw [Nat.mul_add, Nat.mul_assoc]; omega
    rw [Nat.add_mul _ 1, Nat.one_mul] at this
    omega
  omega
theorem gw_break {H u2 U v1 v2 V G R : Nat} (hU : H * bb + u2 = U) (hV : v1 * bb + v2 = V) (h0 : 0 < V) (h1 : G * v1 + R = H) (hlt : gw U V < G) (hr : bb ≤ R + v1) (hH : H < (v1 + 1) * bb) (hv2 : v2 ≤ 4294967295) : gw U V = G - 1 ∧ G - 1 < bb := by
  have hb := bb_eq
  obtain ⟨K, rfl⟩ : ∃ K, G = K + 1 := ⟨G - 1, by omega⟩
  rw [Nat.add_mul, Nat.one_mul] at h1
  have hK : K < bb := by
    rcases Nat.lt_or_ge K bb with h | h
    · exact h
    · have := Nat.mul_le_mul_right v1 h
      rw [Nat.add_mul, Nat.one_mul, Nat.mul_comm v1] at hH
      omega
  have : K ≤ gw U V := by
    apply gw_le_of hK _ h0
    rw [← hU, ← hV, ← h1, Nat.mul_add]
    have a : K * v2 ≤ bb * bb := Nat.mul_le_mul (by omega) (by omega)
    have b : bb * bb ≤ (v1 + R) * bb := Nat.mul_le_mul_right _ (by omega)
    rw [Nat.add_assoc (K * v1), Nat.add_mul (K * v1), Nat.mul_assoc]
    omega
  omega
theorem gw_next {H v1 G R : Nat} (h1 : G * v1 + R = H) (hG : 0 < G) : (G - 1) * v1 + (R + v1) = H := by
  obtain ⟨K, rfl⟩ : ∃ K, G = K + 1 := ⟨G - 1, by omega⟩
  rw [Nat.add_mul, Nat.one_mul] at h1
  simp only [Nat.add_sub_cancel]
  omega
set_option maxHeartbeats 1000000 in
theorem guessWord_any {bu fu bv cu cv k u0 u1 u2 v1 v2 : Nat} (w : World) (hk : k ≤ 30)
    (c0 : w.cell? ⟨bu, fu + (k + 2), none⟩ = some (.int .u32 (u0 : Nat))) (c1 : w.cell? ⟨bu, fu + (k + 1), none⟩ = some (.int .u32 (u1 : Nat))) (c2 : w.cell? ⟨bu, fu + k, none⟩ = some (.int .u32 (u2 : Nat)))
    (e1 : w.cell? ⟨bv, k + 1, none⟩ = some (.int .u32 (v1 : Nat))) (e2 : w.cell? ⟨bv, k, none⟩ = some (.int .u32 (v2 : Nat)))
    (hu0 : u0 ≤ v1) (hu1 : u1 ≤ 4294967295) (hu2 : u2 ≤ 4294967295) (hv1 : v1 ≤ 4294967295) (hv2 : v2 ≤ 4294967295) (hn : 2147483648 ≤ v1) :
    Calls Try.prog 114 #[.slice (some ⟨bu, fu, none⟩) (k + 3) cu, .slice (some ⟨bv, 0, none⟩) (k + 2) cv] w fun e w' => e = .returned (.int .u32 (gw ((u0 * bb + u1) * bb + u2) (v1 * bb + v2) : Nat)) ∧ Below w.heap.size w w' := by
  have hk0 : (0 : Int) ≤ (k : Int) := by omega
  have i1 : IntKind.i64.wrap ((k : Int) + 2 - 1) = (k : Int) + 1 := by rw [IntKind.wrap_i64]; omega
  have i2 : IntKind.i64.wrap ((k : Int) + 2 - 2) = (k : Int) := by rw [IntKind.wrap_i64]; omega
  have j1 : (k : Int) + 1 < (k : Int) + 2 := by omega
  have j2 : (k : Int) < (k : Int) + 2 := by omega
  have j3 : (k : Int) + 2 < (k : Int) + 3 := by omega
  have j4 : (k : Int) + 1 < (k : Int) + 3 := by omega
  have j5 : (k : Int) < (k : Int) + 3 := by omega
  have n1 : (0 : Int) ≤ (k : Int) + 1 := by omega
  have n2 : (0 : Int) ≤ (k : Int) + 2 := by omega
  have hv0 : (v1 : Int) ≠ 0 := by omega
  have EO := or_join u0 u1 (by omega) hu1
  obtain ⟨H, hH⟩ : ∃ H, u1 + bb * u0 = H := ⟨_, rfl⟩
  rw [hH] at EO
  obtain ⟨U, hU⟩ : ∃ U, (u0 * bb + u1) * bb + u2 = U := ⟨_, rfl⟩
  obtain ⟨V, hV⟩ : ∃ V, v1 * bb + v2 = V := ⟨_, rfl⟩
  rw [hU, hV]
  have HU : Hid (H * bb + u2 = U) := by
    show H * bb + u2 = U
    rw [← hU, ← hH, Nat.mul_comm bb u0, Nat.add_comm u1]
  have HV := Lib.hid hV
  have HH : Hid (H < (v1 + 1) * bb ∧ H ≤ 18446744073709551615) := by
    show H < (v1 + 1) * bb ∧ H ≤ 18446744073709551615
    rw [← hH, Nat.add_mul, bb_eq]
    constructor <;> omega
  have HV0 : Hid (0 < V) := by
    show 0 < V
    rw [← hV, bb_eq]; omega
  have hu0' : u0 ≤ 4294967295 := by omega
  clear hH hU hV hu0
  obtain ⟨q, hq⟩ : ∃ q, H / v1 = q := ⟨_, rfl⟩
  obtain ⟨r, hr⟩ : ∃ r, H % v1 = r := ⟨_, rfl⟩
  have HQ : Hid (q * v1 + r = H ∧ r < bb ∧ r < v1) := by
    show q * v1 + r = H ∧ r < bb ∧ r < v1
    rw [← hq, ← hr, bb_eq]
    have := Nat.div_add_mod' H v1
    have := Nat.mod_lt H (show 0 < v1 by omega)
    refine ⟨by omega, by omega, by omega⟩
  have E1 : IntKind.u64.wrap ((H : Int) / (v1 : Int)) = (q : Int) := by
    rw [IntKind.wrap_u64, ← hq]
    have := HH.out.2
    have h3 := Nat.div_le_self H v1
    rw [show (H : Int) / (v1 : Int) = ((H / v1 : Nat) : Int) by push_cast; rfl]
    generalize H / v1 = x at *
    omega
  have E3 : (H : Int).tdiv (v1 : Int) = (H : Int) / (v1 : Int) := Int.tdiv_eq_ediv_of_nonneg (by omega)
  have E2 : (H : Int).tmod (v1 : Int) = (r : Int) := by rw [← hr]; exact (Int.ofNat_tmod H v1).symm
  clear hq hr
  go_enter Try.func114, Try.ntmps114
  go_wp2_with fail
  go_quiet (fail)
  go_wp2_with fail
  go_quiet (fail)
  go_wp2_with fail
  go_quiet (fail)
  go_wp2
  go_loop [9, 10] (fun g r => ∃ G R : Nat, g = .int .u64 G ∧ r = .int .u64 R ∧ G * v1 + R = H ∧ R < bb ∧ gw U V ≤ G) (fun g _ => (intOf g).toNat)
  case atStart =>
    refine ⟨q, r, rfl, rfl, HQ.out.1, HQ.out.2.1, ?_⟩
    exact gw_top HU.out HV.out HV0.out HQ.out.1 HQ.out.2.2 hu2
  case round =>
    obtain ⟨G, R, rfl, rfl, h1, h2, h3⟩ := hrel
    have G1 := Lib.hid h1
    have G2 := Lib.hid h2
    have G3 := Lib.hid h3
    have G4 : Hid (G ≤ H) := by
      show G ≤ H
      rw [← h1]
      exact Nat.le_trans (Nat.le_mul_of_pos_right G (by omega)) (Nat.le_add_right _ _)
    have h5 : G ≤ 18446744073709551615 := Nat.le_trans G4.out HH.out.2
    have h6 : R ≤ 4294967295 := by rw [bb_eq] at h2; omega
    clear h1 h2 h3
    by_cases hg : 4294967296 ≤ G
    · have LT := Lib.hid (gw_lt_of (U := U) (V := V) (g := G) (.inl (by rw [bb_eq]; exact hg)) HV0.out)
      have g1 : (0 : Int) < (G : Int) / 4294967296 := by omega
      by_cases hr : 4294967296 ≤ R + v1
      · have g2 : (0 : Int) < ((R : Int) + (v1 : Int)) / 4294967296 := by omega
        go_wp2
        go_ret
        have a := gw_break HU.out HV.out HV0.out G1.out LT.out (by rw [bb_eq]; exact hr) HH.out.1 hv2
        refine ⟨ret_int ?_, below_drewN (Below.refl _ _) _⟩
        have hb := bb_eq
        have := a.2
        rw [a.1]
        omega
      · have g2 : ((R : Int) + (v1 : Int)) / 4294967296 = 0 := by omega
        go_wp2
        go_round
        case rel => exact ⟨G - 1, by omega, R + v1, by omega, gw_next G1.out (by omega), by rw [bb_eq]; omega, by have := LT.out; omega⟩
        case measure => simp [intOf]; omega
    · have g1 : (G : Int) / 4294967296 = 0 := by omega
      have g9 : G ≤ 4294967295 := by omega
      have EO2 := or_join R u2 h6 hu2
      obtain ⟨T, hT⟩ : ∃ T, u2 + bb * R = T := ⟨_, rfl⟩
      rw [hT] at EO2
      obtain ⟨P, hP⟩ : ∃ P, G * v2 = P := ⟨_, rfl⟩
      have EP : (G : Int) * (v2 : Int) = (P : Int) := by rw [← hP]; push_cast; rfl
      have hP2 : P ≤ 18446744073709551615 := by
        rw [← hP]
        exact Nat.le_trans (Nat.mul_le_mul g9 hv2) (by decide)
      have TT := gw_test (v2 := v2) (u2 := u2) G1.out
      rw [HV.out, HU.out, hP, Nat.mul_comm R, Nat.add_comm (bb * R), hT] at TT
      have TH := Lib.hid TT
      clear TT hT hP
      by_cases ht : T < P
      · have LT := Lib.hid (gw_lt_of (U := U) (V := V) (g := G) (.inr (TH.out.1 ht)) HV0.out)
        have ht' : (T : Int) < (P : Int) := by omega
        have GP : Hid (0 < G) := Nat.lt_of_le_of_lt (Nat.zero_le _) LT.out
        have gp := GP.out
        by_cases hr : 4294967296 ≤ R + v1
        · have g2 : (0 : Int) < ((R : Int) + (v1 : Int)) / 4294967296 := by omega
          go_wp2
          go_ret
          have a := gw_break HU.out HV.out HV0.out G1.out LT.out (by rw [bb_eq]; exact hr) HH.out.1 hv2
          refine ⟨ret_int ?_, below_drewN (Below.refl _ _) _⟩
          have hb := bb_eq
          have := a.2
          rw [a.1]
          omega
        · have g2 : ((R : Int) + (v1 : Int)) / 4294967296 = 0 := by omega
          go_wp2
          go_round
          case rel => exact ⟨G - 1, by omega, R + v1, by omega, gw_next G1.out (by omega), by rw [bb_eq]; omega, by have := LT.out; omega⟩
          case measure => simp [intOf]; omega
      · have ht' : ¬ (T : Int) < (P : Int) := by omega
        go_wp2
        go_ret
        have a := gw_le_of (U := U) (V := V) (g := G) (by rw [bb_eq]; omega) (Nat.le_of_not_lt fun h => ht (TH.out.2 h)) HV0.out
        refine ⟨ret_int ?_, below_drewN (Below.refl _ _) _⟩
        have := G3.out
        rw [show gw U V = G by omega]
end Go.Proofs.Ytcfncekphdkphaa
