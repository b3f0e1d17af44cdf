/- RatioNear: the walk. -/
import Derived.Test.YtcbhmmeobkhomaaRkn
import Derived.Test.YtcbhmmeobkhomaaRnp
import Derived.Deep.DeepCutAuto
namespace Go.Proofs.Ytcbhmmeobkhomaa
set_option linter.unusedSimpArgs false
set_option linter.unusedVariables false
open Go.RowKit
set_option maxRecDepth 100000
def atv (k D i : Nat) : Int := if k ≠ 0 ∧ D < i then (D : Int) else -1
theorem Prt.pos {B : List UInt8} {neg : Bool} {k D q : Nat} (h : Prt B neg k D q) (hn : neg = true) : 1 ≤ D := by
  obtain ⟨X, Y, _, _, hB, hD, hk, _⟩ := h
  rw [hD, hn]; simp
theorem Prt.step {B : List UInt8} {neg : Bool} {k D q : Nat} (h : Prt B neg k D q) (i : Nat) : stV (B.take i) ≤ q := by
  have := stV_le (B.take i) (B.drop i)
  rwa [List.take_append_drop, h.all] at this
theorem take_snoc {B : List UInt8} {i : Nat} {c : UInt8} (h : B[i]? = some c) : B.take (i + 1) = B.take i ++ [c] := by rw [List.take_add_one, h]; rfl
set_option maxHeartbeats 16000000 in
theorem near_walk {n : Int} {d g k D q : Nat} {neg : Bool} {B : List UInt8} {aN aD bN bD eN eD fN fD hN hD c1 c2 v' T : Int}
    (hn : -2147483648 ≤ n ∧ n ≤ 2147483647) (hd : d ≤ 65535) (hg : g ≤ 255) (hk : g % 10 = k) (hB : Prt B neg k D q) (hBl : B.length ≤ 1000) (hq : q ≤ 4000000000000000000) (hT : T = ((10 ^ k : Nat) : Int)) (hv : v' = if neg then -(q : Int) else (q : Int))
    (O1 : Tl 5 #[.int .i64 n, .int .i64 ((d : Int) + 1)] (.tuple #[vf aN aD, .bool true])) (DC : Tl 6 #[vf aN aD, .int .i64 (k : Int)] (.tuple #[.string (bs B), .bool true]))
    (O2 : Tl 5 #[.int .i64 v', .int .i64 T] (.tuple #[vf bN bD, .bool true])) (S1 : Tl 7 #[vf aN aD, vf bN bD] (.tuple #[vf eN eD, .bool true])) (O3 : Tl 5 #[.int .i64 1, .int .i64 (2 * T)] (.tuple #[vf hN hD, .bool true])) (fe : fits eN)
    (S2 : Tl 7 #[vf bN bD, vf aN aD] (.tuple #[vf fN fD, .bool true])) (C1 : Tl 9 #[vf eN eD, vf hN hD] (.tuple #[.int .i64 c1, .bool true])) (C2 : Tl 9 #[vf fN fD, vf hN hD] (.tuple #[.int .i64 c2, .bool true])) (h1 : ¬ eN < 0 → c1 ≤ 0) (h2 : eN < 0 → c2 ≤ 0) (w : World) :
    Calls Try.prog 3 #[.int .i32 n, .int .u16 (d : Int), .int .u8 (g : Int)] w fun e w' => e = .returned (.bool true) ∧ Below w.heap.size w w' := by
  obtain ⟨s, hs⟩ : ∃ s, bs B = s := ⟨_, rfl⟩
  have hsz : s.size = B.length := by rw [← hs, bs_size]
  have hget : ∀ i (h : i < s.size), B[i]? = some s[i] := fun i h => by
    subst hs
    rw [bs_get, List.getElem?_eq_getElem]
  rw [hs] at DC
  have HGET := Lib.hid hget
  have HTT := Lib.hid hT
  have HSG := Lib.hid (fun w => Sign_any eD fe w)
  unfold vf at *
  have HO1 := Lib.hid O1
  have HDC := Lib.hid DC
  have HO2 := Lib.hid O2
  have HS1 := Lib.hid S1
  have HO3 := Lib.hid O3
  have HS2 := Lib.hid S2
  have HC1 := Lib.hid C1
  have HC2 := Lib.hid C2
  have H1 := Lib.hid h1
  have H2 := Lib.hid h2
  unfold Tl at *
  have hk9 : k ≤ 9 := by omega
  have hgk : (g : Int) % 10 = (k : Int) := by omega
  have kd : IntKind.i64.wrap ((d : Int) + 1) = (d : Int) + 1 := by rw [IntKind.wrap_i64]; omega
  have kq : IntKind.i64.wrap (-(q : Int)) = -(q : Int) := by rw [IntKind.wrap_i64]; omega
  have HBP := Lib.hid (show True from trivial)
  have hb := Below.refl w.heap.size w
  clear hs hget hT fe O1 DC O2 S1 O3 S2 C1 C2 h1 h2 hk
  go_enter Try.func3, Try.ntmps3
  go_wp2_with fail
  refine (known2_any _).mono ?_
  rintro e w1 ⟨rfl, h1⟩
  replace hb := bthen hb h1
  clear h1
  go_wp2_with fail
  refine (HO1.out _).mono ?_
  rintro e w1 ⟨rfl, h1⟩
  replace hb := bthen hb h1
  clear h1
  have f := Blk.new w1 (rr false 0 false 0) 29 rfl
  have b7 := laidR_new w1 (aN) (aD)
  replace hb := laidR_below hb (aN) (aD)
  go_wp2_with (first | (with_reducible refine alR rfl rfl ?_) | (with_reducible refine stR rfl rfl rfl rfl f (rr_length _ _ _ _) ?_) | (with_reducible refine ldFr rfl rfl rfl b7 ?_))
  clear f
  generalize (w1.alloc (.cells (rr false 0 false 0).toArray 29)).setRow w1.heap.size (fr (aN) (aD)).toArray = W at *
  generalize w1.heap.size = pl_b7 at *
  refine (HDC.out _).mono ?_
  rintro e w1 ⟨rfl, h1⟩
  replace b7 := b7.call h1
  replace hb := bthen hb h1
  clear h1
  go_wp2_with fail
  go_loop [12, 13, 14, 15] (fun v at' ng j => ∃ i : Nat, i ≤ B.length ∧ v = .int .i64 ((stV (B.take i) : Nat) : Int) ∧ at' = .int .i64 (atv k D i) ∧ ng = .bool (neg && decide (0 < i)) ∧ j = .int .i64 (i : Int)) (fun _ _ _ j => B.length - (intOf j).toNat)
  case atStart => exact ⟨0, Nat.zero_le _, rfl, by unfold atv; simp, by simp, rfl⟩
  case round =>
    obtain ⟨i, hi, rfl, rfl, rfl, rfl⟩ := hrel
    by_cases hlt : i < B.length
    · have hsi : i < s.size := by omega
      have hBi := HGET.out i hsi
      have hlt2 : (i : Int) < (B.length : Int) := by omega
      have hst := hB.step (i + 1)
      rcases hB.at i _ hBi with ⟨e1, hneg, h0⟩ | ⟨e1, hk0, hiD⟩ | ⟨hdg, hx1, hx2⟩
      · have d45 : ((s[i].toNat : Int) == 45) = true := by rw [e1]; rfl
        have z0 : ((i : Int) == 0) = true := by rw [h0]; rfl
        have HV : Hid (stV (B.take (i + 1)) = stV (B.take i)) := by show _ = _; rw [take_snoc hBi, e1]; exact stV_snoc_n _ (by decide)
        have HA : Hid (atv k D (i + 1) = atv k D i) := by
          show _ = _
          have := hB.pos hneg
          unfold atv; rw [if_neg (by omega), if_neg (by omega)]
        have HNG : Hid ((neg && decide (0 < i + 1)) = true) := by show _ = _; rw [hneg]; simp
        clear hBi e1 hst h0 hneg
        go_wp2_with fail
        go_round
        case rel => exact ⟨i + 1, by omega, by rw [HV.out], by rw [HA.out], by rw [HNG.out], by go_num⟩
        case measure => simp [intOf]; omega
      · have d45 : ((s[i].toNat : Int) == 45) = false := by rw [e1]; rfl
        have d46 : ((s[i].toNat : Int) == 46) = true := by rw [e1]; rfl
        have a0 : atv k D i < 0 := by unfold atv; rw [if_neg (by omega)]; decide
        have HV : Hid (stV (B.take (i + 1)) = stV (B.take i)) := by show _ = _; rw [take_snoc hBi, e1]; exact stV_snoc_n _ (by decide)
        have HA : Hid (atv k D (i + 1) = (i : Int)) := by show _ = _; unfold atv; rw [if_pos ⟨hk0, by omega⟩, hiD]
        have HNG : Hid ((neg && decide (0 < i + 1)) = (neg && decide (0 < i))) := by
          show _ = _
          cases hneg : neg
          · rfl
          · have := hB.pos hneg
            have e2 : decide (0 < i) = true := decide_eq_true (by omega)
            rw [e2]; simp
        clear hBi e1 hst hk0 hiD
        generalize atv k D i = A at *
        generalize stV (B.take i) = V at *
        go_wp2_with fail
        go_round
        case rel => exact ⟨i + 1, by omega, by rw [HV.out], by rw [HA.out], by rw [HNG.out], by go_num⟩
        case measure => simp [intOf]; omega
      · obtain ⟨g1, g2⟩ := (isD_iff _).1 hdg
        have d45 : ((s[i].toNat : Int) == 45) = false := by rw [beq_eq_false_iff_ne]; omega
        have d46 : ((s[i].toNat : Int) == 46) = false := by rw [beq_eq_false_iff_ne]; omega
        have g48 : (48 : Int) ≤ (s[i].toNat : Int) := by omega
        have g57 : (s[i].toNat : Int) ≤ 57 := by omega
        have hV : stV (B.take (i + 1)) = stV (B.take i) * 10 + (s[i].toNat - 48) := by rw [take_snoc hBi]; exact stV_snoc_d _ hdg
        have HV := Lib.hid hV
        rw [hV] at hst
        have HA : Hid (atv k D (i + 1) = atv k D i) := by
          show _ = _
          unfold atv
          by_cases hc : k ≠ 0 ∧ D < i
          · rw [if_pos hc, if_pos ⟨hc.1, by omega⟩]
          · rw [if_neg hc, if_neg (by omega)]
        have HNG : Hid ((neg && decide (0 < i + 1)) = (neg && decide (0 < i))) := by
          show _ = _
          cases hneg : neg
          · rfl
          · have e2 : decide (0 < i) = true := decide_eq_true (by
              rcases Nat.eq_zero_or_pos i with h | h
              · exact absurd ⟨hneg, h⟩ hx1
              · exact h)
            rw [e2]; simp
        clear hBi hV hdg hx1 hx2
        generalize atv k D i = A at *
        generalize stV (B.take i) = V at *
        have w1' : IntKind.i64.wrap ((V : Int) * 10) = (V : Int) * 10 := by rw [IntKind.wrap_i64]; omega
        have w2' : IntKind.u8.wrap ((s[i].toNat : Int) - 48) = (s[i].toNat : Int) - 48 := by rw [IntKind.wrap_u8]; omega
        have w3' : IntKind.i64.wrap ((V : Int) * 10 + ((s[i].toNat : Int) - 48)) = (V : Int) * 10 + ((s[i].toNat : Int) - 48) := by rw [IntKind.wrap_i64]; omega
        have HC : Hid ((V : Int) * 10 + ((s[i].toNat : Int) - 48) = ((V * 10 + (s[i].toNat - 48) : Nat) : Int)) := by show _ = _; omega
        go_wp2_with fail
        go_round
        case rel => exact ⟨i + 1, by omega, by rw [HV.out, ← HC.out], by rw [HA.out], by rw [HNG.out], by go_num⟩
        case measure => simp [intOf]; omega
    · obtain rfl : i = B.length := by omega
      have hall := hB.all
      have hlen := hB.len
      rw [List.take_length, hall]
      have hng : (neg && decide (0 < B.length)) = neg := by
        cases hneg : neg
        · rfl
        · have := hB.pos hneg
          have e2 : decide (0 < B.length) = true := decide_eq_true (by omega)
          rw [e2]; rfl
      rw [hng]
      obtain ⟨A, hA⟩ : ∃ A, atv k D B.length = A := ⟨_, rfl⟩
      rw [hA]
      by_cases hk0 : k = 0
      · have kz : ((k : Int) == 0) = true := by rw [hk0]; rfl
        have az : A < 0 := by rw [← hA]; unfold atv; rw [if_neg (by omega)]; decide
        have dz : decide (A < 0) = true := decide_eq_true az
        clear hA hall hng hlen hk0 hlt
        cases neg
        · obtain rfl : v' = (q : Int) := hv
          go_wp2_with fail
          go_loop [16, 17] (fun t j => ∃ i : Nat, i ≤ k ∧ t = .int .i64 ((10 ^ i : Nat) : Int) ∧ j = .int .i64 (i : Int)) (fun _ j => k - (intOf j).toNat)
          case atStart => exact ⟨0, Nat.zero_le _, rfl, rfl⟩
          case round =>
            obtain ⟨i, hi, rfl, rfl⟩ := hrel
            by_cases hlt : i < k
            · have hpw : (10 : Nat) ^ i ≤ 10 ^ 8 := Nat.pow_le_pow_right (by decide) (by omega)
              have hps : (10 : Nat) ^ (i + 1) = 10 ^ i * 10 := Nat.pow_succ ..
              have HPS := Lib.hid hps
              obtain ⟨p, hp⟩ : ∃ p, (10 : Nat) ^ i = p := ⟨_, rfl⟩
              rw [hp] at hpw HPS ⊢
              have kp : IntKind.i64.wrap ((p : Int) * 10) = (p : Int) * 10 := by rw [IntKind.wrap_i64]; omega
              clear hp hps
              go_wp2_with fail
              go_round
              case rel => exact ⟨i + 1, by omega, by rw [HPS.out]; exact congrArg (Value.int .i64) (by omega), by go_num⟩
              case measure => simp [intOf]; omega
            · obtain rfl : k = i := by omega
              have hpw : (10 : Nat) ^ k ≤ 10 ^ 9 := Nat.pow_le_pow_right (by decide) hk9
              have hT2 := HTT.out
              obtain ⟨p, hp⟩ : ∃ p, (10 : Nat) ^ k = p := ⟨_, rfl⟩
              rw [hp] at hpw hT2 ⊢
              have kp : IntKind.i64.wrap (2 * (p : Int)) = 2 * (p : Int) := by rw [IntKind.wrap_i64]; omega
              rw [hT2] at HO2 HO3
              clear hp hT2 hlt hi
              go_wp2_with fail
              refine (HO2.out _).mono ?_
              rintro e w1 ⟨rfl, h1⟩
              replace b7 := b7.call h1
              replace hb := bthen hb h1
              clear h1
              have f := Blk.new w1 (rr false 0 false 0) 29 rfl
              have b18 := laidR_new w1 (bN) (bD)
              replace b7 := laidR_old b7 (bN) (bD)
              replace hb := laidR_below hb (bN) (bD)
              go_wp2_with (first | (with_reducible refine alR rfl rfl ?_) | (with_reducible refine stR rfl rfl rfl rfl f (rr_length _ _ _ _) ?_) | (with_reducible refine ldFr rfl rfl rfl b7 ?_) | (with_reducible refine ldFr rfl rfl rfl b18 ?_))
              clear f
              generalize (w1.alloc (.cells (rr false 0 false 0).toArray 29)).setRow w1.heap.size (fr (bN) (bD)).toArray = W at *
              generalize w1.heap.size = pl_b18 at *
              refine (HS1.out _).mono ?_
              rintro e w1 ⟨rfl, h1⟩
              replace b7 := b7.call h1
              replace b18 := b18.call h1
              replace hb := bthen hb h1
              clear h1
              have hs20 := hb.size
              have f := Blk.new w1 (rr false 0 false 0) 29 rfl
              have b20 := laidR_new w1 (eN) (eD)
              replace b7 := laidR_old b7 (eN) (eD)
              replace b18 := laidR_old b18 (eN) (eD)
              replace hb := laidR_below hb (eN) (eD)
              go_wp2_with (first | (with_reducible refine alR rfl rfl ?_) | (with_reducible refine stR rfl rfl rfl rfl f (rr_length _ _ _ _) ?_))
              clear f
              generalize (w1.alloc (.cells (rr false 0 false 0).toArray 29)).setRow w1.heap.size (fr (eN) (eD)).toArray = W at *
              generalize w1.heap.size = pl_b20 at *
              refine (HO3.out _).mono ?_
              rintro e w1 ⟨rfl, h1⟩
              replace b7 := b7.call h1
              replace b18 := b18.call h1
              replace b20 := b20.call h1
              replace hb := bthen hb h1
              clear h1
              have l20 := b20.lt
              have f := Blk.new w1 (rr false 0 false 0) 29 rfl
              have b22 := laidR_new w1 (hN) (hD)
              replace b7 := laidR_old b7 (hN) (hD)
              replace b18 := laidR_old b18 (hN) (hD)
              replace b20 := laidR_old b20 (hN) (hD)
              replace hb := laidR_below hb (hN) (hD)
              go_wp2_with (first | (with_reducible refine alR rfl rfl ?_) | (with_reducible refine stR rfl rfl rfl rfl f (rr_length _ _ _ _) ?_) | (with_reducible refine ldFr rfl rfl rfl b20 ?_))
              clear f
              generalize (w1.alloc (.cells (rr false 0 false 0).toArray 29)).setRow w1.heap.size (fr (hN) (hD)).toArray = W at *
              generalize w1.heap.size = pl_b22 at *
              refine (HSG.out _).mono ?_
              rintro e w1 ⟨rfl, h1⟩
              replace b7 := b7.call h1
              replace b18 := b18.call h1
              replace b20 := b20.call h1
              replace b22 := b22.call h1
              replace hb := bthen hb h1
              clear h1
              by_cases hs : eN < 0
              · have hs2 : sn eN < 0 := (sn_neg eN).2 hs
                have hcc := H2.out (by omega)
                go_wp2_with (first | (with_reducible refine ldFr rfl rfl rfl b7 ?_) | (with_reducible refine ldFr rfl rfl rfl b18 ?_))
                refine (HS2.out _).mono ?_
                rintro e w1 ⟨rfl, h1⟩
                replace b20 := b20.call h1
                replace b22 := b22.call h1
                replace hb := bthen hb h1
                clear h1
                have b20' := b20.row (fr fN fD)
                have b22' := b22.rowOther (g := pl_b20) (fr fN fD).toArray (by omega)
                have hb' := below_row hb (g := pl_b20) hs20 (fr fN fD).toArray
                go_wp2_with (first | (with_reducible refine st_blk (vs := fr fN fD) rfl rfl rfl rfl b20 (by rw [fr_length, fr_length]) (by rw [fr_length]; kernel_rfl) (fr_one _ _) ?_) | (with_reducible refine ldFr rfl rfl rfl b20' ?_) | (with_reducible refine ldFr rfl rfl rfl b22' ?_))
                replace hb := hb'
                clear hb' b20' b22'
                refine (HC2.out _).mono ?_
                rintro e w1 ⟨rfl, h1⟩
                replace hb := bthen hb h1
                clear h1
                go_wp2
                go_ret
                exact ⟨rfl, hb⟩
              · have hs2 : ¬ sn eN < 0 := fun h => hs ((sn_neg eN).1 h)
                have hcc := H1.out (by omega)
                go_wp2_with (first | (with_reducible refine ldFr rfl rfl rfl b20 ?_) | (with_reducible refine ldFr rfl rfl rfl b22 ?_))
                refine (HC1.out _).mono ?_
                rintro e w1 ⟨rfl, h1⟩
                replace hb := bthen hb h1
                clear h1
                go_wp2
                go_ret
                exact ⟨rfl, hb⟩
        · obtain rfl : v' = -(q : Int) := hv
          go_wp2_with fail
          go_loop [16, 17] (fun t j => ∃ i : Nat, i ≤ k ∧ t = .int .i64 ((10 ^ i : Nat) : Int) ∧ j = .int .i64 (i : Int)) (fun _ j => k - (intOf j).toNat)
          case atStart => exact ⟨0, Nat.zero_le _, rfl, rfl⟩
          case round =>
            obtain ⟨i, hi, rfl, rfl⟩ := hrel
            by_cases hlt : i < k
            · have hpw : (10 : Nat) ^ i ≤ 10 ^ 8 := Nat.pow_le_pow_right (by decide) (by omega)
              have hps : (10 : Nat) ^ (i + 1) = 10 ^ i * 10 := Nat.pow_succ ..
              have HPS := Lib.hid hps
              obtain ⟨p, hp⟩ : ∃ p, (10 : Nat) ^ i = p := ⟨_, rfl⟩
              rw [hp] at hpw HPS ⊢
              have kp : IntKind.i64.wrap ((p : Int) * 10) = (p : Int) * 10 := by rw [IntKind.wrap_i64]; omega
              clear hp hps
              go_wp2_with fail
              go_round
              case rel => exact ⟨i + 1, by omega, by rw [HPS.out]; exact congrArg (Value.int .i64) (by omega), by go_num⟩
              case measure => simp [intOf]; omega
            · obtain rfl : k = i := by omega
              have hpw : (10 : Nat) ^ k ≤ 10 ^ 9 := Nat.pow_le_pow_right (by decide) hk9
              have hT2 := HTT.out
              obtain ⟨p, hp⟩ : ∃ p, (10 : Nat) ^ k = p := ⟨_, rfl⟩
              rw [hp] at hpw hT2 ⊢
              have kp : IntKind.i64.wrap (2 * (p : Int)) = 2 * (p : Int) := by rw [IntKind.wrap_i64]; omega
              rw [hT2] at HO2 HO3
              clear hp hT2 hlt hi
              go_wp2_with fail
              refine (HO2.out _).mono ?_
              rintro e w1 ⟨rfl, h1⟩
              replace b7 := b7.call h1
              replace hb := bthen hb h1
              clear h1
              have f := Blk.new w1 (rr false 0 false 0) 29 rfl
              have b18 := laidR_new w1 (bN) (bD)
              replace b7 := laidR_old b7 (bN) (bD)
              replace hb := laidR_below hb (bN) (bD)
              go_wp2_with (first | (with_reducible refine alR rfl rfl ?_) | (with_reducible refine stR rfl rfl rfl rfl f (rr_length _ _ _ _) ?_) | (with_reducible refine ldFr rfl rfl rfl b7 ?_) | (with_reducible refine ldFr rfl rfl rfl b18 ?_))
              clear f
              generalize (w1.alloc (.cells (rr false 0 false 0).toArray 29)).setRow w1.heap.size (fr (bN) (bD)).toArray = W at *
              generalize w1.heap.size = pl_b18 at *
              refine (HS1.out _).mono ?_
              rintro e w1 ⟨rfl, h1⟩
              replace b7 := b7.call h1
              replace b18 := b18.call h1
              replace hb := bthen hb h1
              clear h1
              have hs20 := hb.size
              have f := Blk.new w1 (rr false 0 false 0) 29 rfl
              have b20 := laidR_new w1 (eN) (eD)
              replace b7 := laidR_old b7 (eN) (eD)
              replace b18 := laidR_old b18 (eN) (eD)
              replace hb := laidR_below hb (eN) (eD)
              go_wp2_with (first | (with_reducible refine alR rfl rfl ?_) | (with_reducible refine stR rfl rfl rfl rfl f (rr_length _ _ _ _) ?_))
              clear f
              generalize (w1.alloc (.cells (rr false 0 false 0).toArray 29)).setRow w1.heap.size (fr (eN) (eD)).toArray = W at *
              generalize w1.heap.size = pl_b20 at *
              refine (HO3.out _).mono ?_
              rintro e w1 ⟨rfl, h1⟩
              replace b7 := b7.call h1
              replace b18 := b18.call h1
              replace b20 := b20.call h1
              replace hb := bthen hb h1
              clear h1
              have l20 := b20.lt
              have f := Blk.new w1 (rr false 0 false 0) 29 rfl
              have b22 := laidR_new w1 (hN) (hD)
              replace b7 := laidR_old b7 (hN) (hD)
              replace b18 := laidR_old b18 (hN) (hD)
              replace b20 := laidR_old b20 (hN) (hD)
              replace hb := laidR_below hb (hN) (hD)
              go_wp2_with (first | (with_reducible refine alR rfl rfl ?_) | (with_reducible refine stR rfl rfl rfl rfl f (rr_length _ _ _ _) ?_) | (with_reducible refine ldFr rfl rfl rfl b20 ?_))
              clear f
              generalize (w1.alloc (.cells (rr false 0 false 0).toArray 29)).setRow w1.heap.size (fr (hN) (hD)).toArray = W at *
              generalize w1.heap.size = pl_b22 at *
              refine (HSG.out _).mono ?_
              rintro e w1 ⟨rfl, h1⟩
              replace b7 := b7.call h1
              replace b18 := b18.call h1
              replace b20 := b20.call h1
              replace b22 := b22.call h1
              replace hb := bthen hb h1
              clear h1
              by_cases hs : eN < 0
              · have hs2 : sn eN < 0 := (sn_neg eN).2 hs
                have hcc := H2.out (by omega)
                go_wp2_with (first | (with_reducible refine ldFr rfl rfl rfl b7 ?_) | (with_reducible refine ldFr rfl rfl rfl b18 ?_))
                refine (HS2.out _).mono ?_
                rintro e w1 ⟨rfl, h1⟩
                replace b20 := b20.call h1
                replace b22 := b22.call h1
                replace hb := bthen hb h1
                clear h1
                have b20' := b20.row (fr fN fD)
                have b22' := b22.rowOther (g := pl_b20) (fr fN fD).toArray (by omega)
                have hb' := below_row hb (g := pl_b20) hs20 (fr fN fD).toArray
                go_wp2_with (first | (with_reducible refine st_blk (vs := fr fN fD) rfl rfl rfl rfl b20 (by rw [fr_length, fr_length]) (by rw [fr_length]; kernel_rfl) (fr_one _ _) ?_) | (with_reducible refine ldFr rfl rfl rfl b20' ?_) | (with_reducible refine ldFr rfl rfl rfl b22' ?_))
                replace hb := hb'
                clear hb' b20' b22'
                refine (HC2.out _).mono ?_
                rintro e w1 ⟨rfl, h1⟩
                replace hb := bthen hb h1
                clear h1
                go_wp2
                go_ret
                exact ⟨rfl, hb⟩
              · have hs2 : ¬ sn eN < 0 := fun h => hs ((sn_neg eN).1 h)
                have hcc := H1.out (by omega)
                go_wp2_with (first | (with_reducible refine ldFr rfl rfl rfl b20 ?_) | (with_reducible refine ldFr rfl rfl rfl b22 ?_))
                refine (HC1.out _).mono ?_
                rintro e w1 ⟨rfl, h1⟩
                replace hb := bthen hb h1
                clear h1
                go_wp2
                go_ret
                exact ⟨rfl, hb⟩
      · have kz : ((k : Int) == 0) = false := by rw [beq_eq_false_iff_ne]; omega
        have eA : A = (D : Int) := by rw [← hA]; unfold atv; rw [if_pos ⟨hk0, by rw [hlen, if_neg hk0]; omega⟩]
        rw [if_neg hk0] at hlen
        have az : ¬ A < 0 := by omega
        have dz : decide (A < 0) = false := decide_eq_false az
        have x1 : IntKind.i64.wrap ((B.length : Int) - A) = (B.length : Int) - A := by rw [IntKind.wrap_i64]; omega
        have x2 : IntKind.i64.wrap ((B.length : Int) - A - 1) = (k : Int) := by rw [IntKind.wrap_i64]; omega
        have x3 : ((k : Int) == (k : Int)) = true := by simp
        clear hA hall hng hlen eA hlt
        cases neg
        · obtain rfl : v' = (q : Int) := hv
          go_wp2_with fail
          go_loop [16, 17] (fun t j => ∃ i : Nat, i ≤ k ∧ t = .int .i64 ((10 ^ i : Nat) : Int) ∧ j = .int .i64 (i : Int)) (fun _ j => k - (intOf j).toNat)
          case atStart => exact ⟨0, Nat.zero_le _, rfl, rfl⟩
          case round =>
            obtain ⟨i, hi, rfl, rfl⟩ := hrel
            by_cases hlt : i < k
            · have hpw : (10 : Nat) ^ i ≤ 10 ^ 8 := Nat.pow_le_pow_right (by decide) (by omega)
              have hps : (10 : Nat) ^ (i + 1) = 10 ^ i * 10 := Nat.pow_succ ..
              have HPS := Lib.hid hps
              obtain ⟨p, hp⟩ : ∃ p, (10 : Nat) ^ i = p := ⟨_, rfl⟩
              rw [hp] at hpw HPS ⊢
              have kp : IntKind.i64.wrap ((p : Int) * 10) = (p : Int) * 10 := by rw [IntKind.wrap_i64]; omega
              clear hp hps
              go_wp2_with fail
              go_round
              case rel => exact ⟨i + 1, by omega, by rw [HPS.out]; exact congrArg (Value.int .i64) (by omega), by go_num⟩
              case measure => simp [intOf]; omega
            · obtain rfl : k = i := by omega
              have hpw : (10 : Nat) ^ k ≤ 10 ^ 9 := Nat.pow_le_pow_right (by decide) hk9
              have hT2 := HTT.out
              obtain ⟨p, hp⟩ : ∃ p, (10 : Nat) ^ k = p := ⟨_, rfl⟩
              rw [hp] at hpw hT2 ⊢
              have kp : IntKind.i64.wrap (2 * (p : Int)) = 2 * (p : Int) := by rw [IntKind.wrap_i64]; omega
              rw [hT2] at HO2 HO3
              clear hp hT2 hlt hi
              go_wp2_with fail
              refine (HO2.out _).mono ?_
              rintro e w1 ⟨rfl, h1⟩
              replace b7 := b7.call h1
              replace hb := bthen hb h1
              clear h1
              have f := Blk.new w1 (rr false 0 false 0) 29 rfl
              have b18 := laidR_new w1 (bN) (bD)
              replace b7 := laidR_old b7 (bN) (bD)
              replace hb := laidR_below hb (bN) (bD)
              go_wp2_with (first | (with_reducible refine alR rfl rfl ?_) | (with_reducible refine stR rfl rfl rfl rfl f (rr_length _ _ _ _) ?_) | (with_reducible refine ldFr rfl rfl rfl b7 ?_) | (with_reducible refine ldFr rfl rfl rfl b18 ?_))
              clear f
              generalize (w1.alloc (.cells (rr false 0 false 0).toArray 29)).setRow w1.heap.size (fr (bN) (bD)).toArray = W at *
              generalize w1.heap.size = pl_b18 at *
              refine (HS1.out _).mono ?_
              rintro e w1 ⟨rfl, h1⟩
              replace b7 := b7.call h1
              replace b18 := b18.call h1
              replace hb := bthen hb h1
              clear h1
              have hs20 := hb.size
              have f := Blk.new w1 (rr false 0 false 0) 29 rfl
              have b20 := laidR_new w1 (eN) (eD)
              replace b7 := laidR_old b7 (eN) (eD)
              replace b18 := laidR_old b18 (eN) (eD)
              replace hb := laidR_below hb (eN) (eD)
              go_wp2_with (first | (with_reducible refine alR rfl rfl ?_) | (with_reducible refine stR rfl rfl rfl rfl f (rr_length _ _ _ _) ?_))
              clear f
              generalize (w1.alloc (.cells (rr false 0 false 0).toArray 29)).setRow w1.heap.size (fr (eN) (eD)).toArray = W at *
              generalize w1.heap.size = pl_b20 at *
              refine (HO3.out _).mono ?_
              rintro e w1 ⟨rfl, h1⟩
              replace b7 := b7.call h1
              replace b18 := b18.call h1
              replace b20 := b20.call h1
              replace hb := bthen hb h1
              clear h1
              have l20 := b20.lt
              have f := Blk.new w1 (rr false 0 false 0) 29 rfl
              have b22 := laidR_new w1 (hN) (hD)
              replace b7 := laidR_old b7 (hN) (hD)
              replace b18 := laidR_old b18 (hN) (hD)
              replace b20 := laidR_old b20 (hN) (hD)
              replace hb := laidR_below hb (hN) (hD)
              go_wp2_with (first | (with_reducible refine alR rfl rfl ?_) | (with_reducible refine stR rfl rfl rfl rfl f (rr_length _ _ _ _) ?_) | (with_reducible refine ldFr rfl rfl rfl b20 ?_))
              clear f
              generalize (w1.alloc (.cells (rr false 0 false 0).toArray 29)).setRow w1.heap.size (fr (hN) (hD)).toArray = W at *
              generalize w1.heap.size = pl_b22 at *
              refine (HSG.out _).mono ?_
              rintro e w1 ⟨rfl, h1⟩
              replace b7 := b7.call h1
              replace b18 := b18.call h1
              replace b20 := b20.call h1
              replace b22 := b22.call h1
              replace hb := bthen hb h1
              clear h1
              by_cases hs : eN < 0
              · have hs2 : sn eN < 0 := (sn_neg eN).2 hs
                have hcc := H2.out (by omega)
                go_wp2_with (first | (with_reducible refine ldFr rfl rfl rfl b7 ?_) | (with_reducible refine ldFr rfl rfl rfl b18 ?_))
                refine (HS2.out _).mono ?_
                rintro e w1 ⟨rfl, h1⟩
                replace b20 := b20.call h1
                replace b22 := b22.call h1
                replace hb := bthen hb h1
                clear h1
                have b20' := b20.row (fr fN fD)
                have b22' := b22.rowOther (g := pl_b20) (fr fN fD).toArray (by omega)
                have hb' := below_row hb (g := pl_b20) hs20 (fr fN fD).toArray
                go_wp2_with (first | (with_reducible refine st_blk (vs := fr fN fD) rfl rfl rfl rfl b20 (by rw [fr_length, fr_length]) (by rw [fr_length]; kernel_rfl) (fr_one _ _) ?_) | (with_reducible refine ldFr rfl rfl rfl b20' ?_) | (with_reducible refine ldFr rfl rfl rfl b22' ?_))
                replace hb := hb'
                clear hb' b20' b22'
                refine (HC2.out _).mono ?_
                rintro e w1 ⟨rfl, h1⟩
                replace hb := bthen hb h1
                clear h1
                go_wp2
                go_ret
                exact ⟨rfl, hb⟩
              · have hs2 : ¬ sn eN < 0 := fun h => hs ((sn_neg eN).1 h)
                have hcc := H1.out (by omega)
                go_wp2_with (first | (with_reducible refine ldFr rfl rfl rfl b20 ?_) | (with_reducible refine ldFr rfl rfl rfl b22 ?_))
                refine (HC1.out _).mono ?_
                rintro e w1 ⟨rfl, h1⟩
                replace hb := bthen hb h1
                clear h1
                go_wp2
                go_ret
                exact ⟨rfl, hb⟩
        · obtain rfl : v' = -(q : Int) := hv
          go_wp2_with fail
          go_loop [16, 17] (fun t j => ∃ i : Nat, i ≤ k ∧ t = .int .i64 ((10 ^ i : Nat) : Int) ∧ j = .int .i64 (i : Int)) (fun _ j => k - (intOf j).toNat)
          case atStart => exact ⟨0, Nat.zero_le _, rfl, rfl⟩
          case round =>
            obtain ⟨i, hi, rfl, rfl⟩ := hrel
            by_cases hlt : i < k
            · have hpw : (10 : Nat) ^ i ≤ 10 ^ 8 := Nat.pow_le_pow_right (by decide) (by omega)
              have hps : (10 : Nat) ^ (i + 1) = 10 ^ i * 10 := Nat.pow_succ ..
              have HPS := Lib.hid hps
              obtain ⟨p, hp⟩ : ∃ p, (10 : Nat) ^ i = p := ⟨_, rfl⟩
              rw [hp] at hpw HPS ⊢
              have kp : IntKind.i64.wrap ((p : Int) * 10) = (p : Int) * 10 := by rw [IntKind.wrap_i64]; omega
              clear hp hps
              go_wp2_with fail
              go_round
              case rel => exact ⟨i + 1, by omega, by rw [HPS.out]; exact congrArg (Value.int .i64) (by omega), by go_num⟩
              case measure => simp [intOf]; omega
            · obtain rfl : k = i := by omega
              have hpw : (10 : Nat) ^ k ≤ 10 ^ 9 := Nat.pow_le_pow_right (by decide) hk9
              have hT2 := HTT.out
              obtain ⟨p, hp⟩ : ∃ p, (10 : Nat) ^ k = p := ⟨_, rfl⟩
              rw [hp] at hpw hT2 ⊢
              have kp : IntKind.i64.wrap (2 * (p : Int)) = 2 * (p : Int) := by rw [IntKind.wrap_i64]; omega
              rw [hT2] at HO2 HO3
              clear hp hT2 hlt hi
              go_wp2_with fail
              refine (HO2.out _).mono ?_
              rintro e w1 ⟨rfl, h1⟩
              replace b7 := b7.call h1
              replace hb := bthen hb h1
              clear h1
              have f := Blk.new w1 (rr false 0 false 0) 29 rfl
              have b18 := laidR_new w1 (bN) (bD)
              replace b7 := laidR_old b7 (bN) (bD)
              replace hb := laidR_below hb (bN) (bD)
              go_wp2_with (first | (with_reducible refine alR rfl rfl ?_) | (with_reducible refine stR rfl rfl rfl rfl f (rr_length _ _ _ _) ?_) | (with_reducible refine ldFr rfl rfl rfl b7 ?_) | (with_reducible refine ldFr rfl rfl rfl b18 ?_))
              clear f
              generalize (w1.alloc (.cells (rr false 0 false 0).toArray 29)).setRow w1.heap.size (fr (bN) (bD)).toArray = W at *
              generalize w1.heap.size = pl_b18 at *
              refine (HS1.out _).mono ?_
              rintro e w1 ⟨rfl, h1⟩
              replace b7 := b7.call h1
              replace b18 := b18.call h1
              replace hb := bthen hb h1
              clear h1
              have hs20 := hb.size
              have f := Blk.new w1 (rr false 0 false 0) 29 rfl
              have b20 := laidR_new w1 (eN) (eD)
              replace b7 := laidR_old b7 (eN) (eD)
              replace b18 := laidR_old b18 (eN) (eD)
              replace hb := laidR_below hb (eN) (eD)
              go_wp2_with (first | (with_reducible refine alR rfl rfl ?_) | (with_reducible refine stR rfl rfl rfl rfl f (rr_length _ _ _ _) ?_))
              clear f
              generalize (w1.alloc (.cells (rr false 0 false 0).toArray 29)).setRow w1.heap.size (fr (eN) (eD)).toArray = W at *
              generalize w1.heap.size = pl_b20 at *
              refine (HO3.out _).mono ?_
              rintro e w1 ⟨rfl, h1⟩
              replace b7 := b7.call h1
              replace b18 := b18.call h1
              replace b20 := b20.call h1
              replace hb := bthen hb h1
              clear h1
              have l20 := b20.lt
              have f := Blk.new w1 (rr false 0 false 0) 29 rfl
              have b22 := laidR_new w1 (hN) (hD)
              replace b7 := laidR_old b7 (hN) (hD)
              replace b18 := laidR_old b18 (hN) (hD)
              replace b20 := laidR_old b20 (hN) (hD)
              replace hb := laidR_below hb (hN) (hD)
              go_wp2_with (first | (with_reducible refine alR rfl rfl ?_) | (with_reducible refine stR rfl rfl rfl rfl f (rr_length _ _ _ _) ?_) | (with_reducible refine ldFr rfl rfl rfl b20 ?_))
              clear f
              generalize (w1.alloc (.cells (rr false 0 false 0).toArray 29)).setRow w1.heap.size (fr (hN) (hD)).toArray = W at *
              generalize w1.heap.size = pl_b22 at *
              refine (HSG.out _).mono ?_
              rintro e w1 ⟨rfl, h1⟩
              replace b7 := b7.call h1
              replace b18 := b18.call h1
              replace b20 := b20.call h1
              replace b22 := b22.call h1
              replace hb := bthen hb h1
              clear h1
              by_cases hs : eN < 0
              · have hs2 : sn eN < 0 := (sn_neg eN).2 hs
                have hcc := H2.out (by omega)
                go_wp2_with (first | (with_reducible refine ldFr rfl rfl rfl b7 ?_) | (with_reducible refine ldFr rfl rfl rfl b18 ?_))
                refine (HS2.out _).mono ?_
                rintro e w1 ⟨rfl, h1⟩
                replace b20 := b20.call h1
                replace b22 := b22.call h1
                replace hb := bthen hb h1
                clear h1
                have b20' := b20.row (fr fN fD)
                have b22' := b22.rowOther (g := pl_b20) (fr fN fD).toArray (by omega)
                have hb' := below_row hb (g := pl_b20) hs20 (fr fN fD).toArray
                go_wp2_with (first | (with_reducible refine st_blk (vs := fr fN fD) rfl rfl rfl rfl b20 (by rw [fr_length, fr_length]) (by rw [fr_length]; kernel_rfl) (fr_one _ _) ?_) | (with_reducible refine ldFr rfl rfl rfl b20' ?_) | (with_reducible refine ldFr rfl rfl rfl b22' ?_))
                replace hb := hb'
                clear hb' b20' b22'
                refine (HC2.out _).mono ?_
                rintro e w1 ⟨rfl, h1⟩
                replace hb := bthen hb h1
                clear h1
                go_wp2
                go_ret
                exact ⟨rfl, hb⟩
              · have hs2 : ¬ sn eN < 0 := fun h => hs ((sn_neg eN).1 h)
                have hcc := H1.out (by omega)
                go_wp2_with (first | (with_reducible refine ldFr rfl rfl rfl b20 ?_) | (with_reducible refine ldFr rfl rfl rfl b22 ?_))
                refine (HC1.out _).mono ?_
                rintro e w1 ⟨rfl, h1⟩
                replace hb := bthen hb h1
                clear h1
                go_wp2
                go_ret
                exact ⟨rfl, hb⟩
end Go.Proofs.Ytcbhmmeobkhomaa
