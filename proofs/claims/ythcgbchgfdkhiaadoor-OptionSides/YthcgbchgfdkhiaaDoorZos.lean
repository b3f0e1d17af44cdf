/- OptionSides: the walk. -/
import Derived.Test.YthcgbchgfdkhiaaDoorZod
import Derived.Deep.DeepCutAuto
namespace Go.Proofs.YthcgbchgfdkhiaaDoor
set_option linter.unusedSimpArgs false
set_option linter.unusedVariables false
open Go.RowKit
set_option maxRecDepth 100000
theorem one_blk (w : World) (u : List UInt8) : RdS (w.alloc (.cells #[.string (tx u)] 9)) (.slice (some ⟨w.heap.size, 0, none⟩) 1 1) [u] := rds_at (Blk.new w (strs [u]) 9 rfl)
/-- Parse of one word that was just laid. -/
theorem parse_one (u : List UInt8) (w : World) (hu : u.length ≤ 1000) (hE : Env w) : Calls Tryd.prog 7 #[.slice (some ⟨w.heap.size, 0, none⟩) 1 1] (w.alloc (.cells #[.string (tx u)] 9)) fun e w' => (∃ x y a n c, e = .returned (.tuple #[.agg #[.int .i64 x, .int .i64 y, .slice a n c], .bool (prs [u]).isSome])) ∧ Below w.heap.size w w' := by
  have hb : Below w.heap.size w (w.alloc (.cells #[.string (tx u)] 9)) := (Below.refl _ _).alloc (Nat.le_refl _) _
  refine (parse_any [u] _ _ (one_blk w u) (by simp) (by intro v hv; simp at hv; subst hv; omega) (hE.below hb)).mono ?_
  rintro e w' ⟨h1, h2⟩
  exact ⟨h2.shape, bthen hb h1⟩
theorem in_xy {x y : Int} (hx : 0 ≤ x) (hy : 0 ≤ y) : (decide (x ≤ 64) && decide (y ≤ 64)) = (inI 0 64 x && inI 0 64 y) := by
  unfold inI; simp [hx, hy]
set_option maxHeartbeats 8000000 in
theorem sides_walk (k c x y : Nat) (hk : k ≤ 255) (hc : c ≤ 65535) (hx : x ≤ 255) (hy : y ≤ 255) (w : World) (hE : Env w) :
    Calls Tryd.prog 5 #[.int .u8 (k : Int), .int .u16 (c : Int), .int .u8 (x : Int), .int .u8 (y : Int)] w fun e w' => e = .returned (.bool true) ∧ Below w.heap.size w w' := by
  have HK := Lib.hid (known8_any w hE)
  have HE := Lib.hid hE
  obtain ⟨m, hm⟩ : ∃ m : Nat, 4094 + c % 4 = m := ⟨_, rfl⟩
  have hm2 : (4094 : Int) + (c : Int) % 4 = (m : Int) := by omega
  have hm3 : (4094 : Int) + (c : Int).tmod 4 = (m : Int) := by rw [Int.tmod_eq_emod_of_nonneg (by omega)]; exact hm2
  have hmr : 4094 ≤ m ∧ m ≤ 4097 := by omega
  have kw : IntKind.i64.wrap (m : Int) = (m : Int) := by rw [IntKind.wrap_i64]; omega
  clear hE hm
  go_enter Tryd.func5, Tryd.ntmps5
  go_wp2_with fail
  refine HK.out.mono ?_
  rintro e w1 ⟨rfl, h1⟩
  have HB1 := Lib.hid h1
  have hE1 := HE.out.below h1
  have HE1 := Lib.hid hE1
  clear HK h1 hE1
  go_upto_region 4 with fail
  go_cut [11] (fun v wx => v = .bool (sideI k) ∧ wx = w1)
  case first =>
    rcases Bool.eq_false_or_eq_true ((k : Int) == 1) with k1 | k1
    · have e : Hid (sideI k = true) := by show _ = _; unfold sideI; rw [k1]; simp
      go_wp2_with fail
      go_meet
      case rel => exact ⟨by rw [e.out], rfl⟩
    rcases Bool.eq_false_or_eq_true ((k : Int) == 2) with k2 | k2
    · have e : Hid (sideI k = true) := by show _ = _; unfold sideI; rw [k1, k2]; simp
      go_wp2_with fail
      go_meet
      case rel => exact ⟨by rw [e.out], rfl⟩
    rcases Bool.eq_false_or_eq_true ((k : Int) == 4) with k3 | k3
    · have e : Hid (sideI k = true) := by show _ = _; unfold sideI; rw [k1, k2, k3]; simp
      go_wp2_with fail
      go_meet
      case rel => exact ⟨by rw [e.out], rfl⟩
    rcases Bool.eq_false_or_eq_true ((k : Int) == 8) with k4 | k4
    · have e : Hid (sideI k = true) := by show _ = _; unfold sideI; rw [k1, k2, k3, k4]; simp
      go_wp2_with fail
      go_meet
      case rel => exact ⟨by rw [e.out], rfl⟩
    rcases Bool.eq_false_or_eq_true ((k : Int) == 16) with k5 | k5
    · have e : Hid (sideI k = true) := by show _ = _; unfold sideI; rw [k1, k2, k3, k4, k5]; simp
      go_wp2_with fail
      go_meet
      case rel => exact ⟨by rw [e.out], rfl⟩
    rcases Bool.eq_false_or_eq_true ((k : Int) == 32) with k6 | k6
    · have e : Hid (sideI k = true) := by show _ = _; unfold sideI; rw [k1, k2, k3, k4, k5, k6]; simp
      go_wp2_with fail
      go_meet
      case rel => exact ⟨by rw [e.out], rfl⟩
    rcases Bool.eq_false_or_eq_true ((k : Int) == 64) with k7 | k7
    · have e : Hid (sideI k = true) := by show _ = _; unfold sideI; rw [k1, k2, k3, k4, k5, k6, k7]; simp
      go_wp2_with fail
      go_meet
      case rel => exact ⟨by rw [e.out], rfl⟩
    have e : Hid (sideI k = false) := by show _ = _; unfold sideI; rw [k1, k2, k3, k4, k5, k6, k7]; rfl
    go_wp2_with fail
    go_meet
    case rel => exact ⟨by rw [e.out], rfl⟩
  case rest =>
    obtain ⟨rfl, hq⟩ := hcut
    replace hq := hq.symm
    subst hq
    go_upto_region 5 with fail
    go_cut [12] (fun v wy => v = .bool (inI 0 64 x && inI 0 64 y) ∧ wy = w1)
    case first =>
      have e := Lib.hid (in_xy (x := (x : Int)) (y := (y : Int)) (by omega) (by omega))
      by_cases g1 : (x : Int) ≤ 64
      · by_cases g2 : (y : Int) ≤ 64
        · have e2 : Hid ((inI 0 64 (x : Int) && inI 0 64 (y : Int)) = true) := by rw [← e.out]; show _ = _; simp [g1, g2]
          go_wp2_with fail
          go_meet
          case rel => exact ⟨by rw [e2.out], rfl⟩
        · have e2 : Hid ((inI 0 64 (x : Int) && inI 0 64 (y : Int)) = false) := by rw [← e.out]; show _ = _; simp [g2]
          go_wp2_with fail
          go_meet
          case rel => exact ⟨by rw [e2.out], rfl⟩
      · have e2 : Hid ((inI 0 64 (x : Int) && inI 0 64 (y : Int)) = false) := by rw [← e.out]; show _ = _; simp [g1]
        go_wp2_with fail
        go_meet
        case rel => exact ⟨by rw [e2.out], rfl⟩
    case rest =>
      obtain ⟨rfl, hq⟩ := hcut
      replace hq := hq.symm
      subst hq
      have HN1 := Lib.hid fun w => Num_all (k : Int) w ⟨by omega, by omega⟩
      have HN2 := Lib.hid fun w => Num_all (m : Int) w ⟨by omega, by omega⟩
      have HN3 := Lib.hid fun w => Num_all (x : Int) w ⟨by omega, by omega⟩
      have HN4 := Lib.hid fun w => Num_all (y : Int) w ⟨by omega, by omega⟩
      have P1 := Lib.hid (prs_h (a := (k : Int)) ⟨by omega, by omega⟩)
      have P2 := Lib.hid (prs_c (a := (m : Int)) ⟨by omega, by omega⟩)
      have P3 := Lib.hid (prs_s (x := (x : Int)) (y := (y : Int)) (z := (k : Int)) ⟨by omega, by omega⟩ ⟨by omega, by omega⟩ ⟨by omega, by omega⟩)
      have l1 := numA_len (k : Int)
      have l2 := numA_len (m : Int)
      have l3 := numA_len (x : Int)
      have l4 := numA_len (y : Int)
      have z1 := tx_size (numA (k : Int))
      have z2 := tx_size (numA (m : Int))
      have z3 := tx_size (numA (x : Int))
      have z4 := tx_size (numA (y : Int))
      have y1 : ¬ 9223372036854775807 < 1 + (numA (k : Int)).length := by omega
      have y2 : ¬ 9223372036854775807 < 1 + (numA (m : Int)).length := by omega
      go_wp2_with fail
      refine (HN1.out _).mono ?_
      rintro e w2 ⟨rfl, h2⟩
      have hb2 := bthen HB1.out h2
      have hE2 := HE1.out.below h2
      have HP := parse_one (wtx 104 [(k : Int)]) w2 (Nat.le_trans (wtx_len _ _) (by simp)) hE2
      rw [P1.out, wtx1, show tx (104 :: numA (k : Int)) = (⟨#[104]⟩ : ByteArray) ++ tx (numA (k : Int)) from (tx_app [104] _).symm] at HP
      have HP1 := Lib.hid HP
      have HB2 := Lib.hid hb2
      have HE2 := Lib.hid hE2
      clear HP h2 hb2 hE2 HN1
      go_wp2_with fail
      refine HP1.out.mono ?_
      rintro e w3 ⟨⟨x1, x2, x3, x4, x5, rfl⟩, h3⟩
      have hb3 := bthen HB2.out h3
      have hE3 := HE2.out.below h3
      have hb4 := hb3.alloc hb3.size (.cells #[.int .i64 x1, .int .i64 x2, .slice x3 x4 x5] 25)
      have hE4 := hE3.below ((Below.refl _ _).alloc (Nat.le_refl _) (.cells #[.int .i64 x1, .int .i64 x2, .slice x3 x4 x5] 25))
      have HB4 := Lib.hid hb4
      have HE4 := Lib.hid hE4
      clear HP1 h3 hb3 hE3 hb4 hE4
      go_wp2_with fail
      generalize w3.alloc (.cells #[.int .i64 x1, .int .i64 x2, .slice x3 x4 x5] 25) = w4 at *
      refine (HN2.out _).mono ?_
      rintro e w5 ⟨rfl, h5⟩
      have hb5 := bthen HB4.out h5
      have hE5 := HE4.out.below h5
      have HP := parse_one (wtx 99 [(m : Int)]) w5 (Nat.le_trans (wtx_len _ _) (by simp)) hE5
      rw [P2.out, wtx1, show tx (99 :: numA (m : Int)) = (⟨#[99]⟩ : ByteArray) ++ tx (numA (m : Int)) from (tx_app [99] _).symm] at HP
      have HP2 := Lib.hid HP
      have HB5 := Lib.hid hb5
      have HE5 := Lib.hid hE5
      clear HP h5 hb5 hE5 HN2
      go_wp2_with fail
      refine HP2.out.mono ?_
      rintro e w6 ⟨⟨y1', y2', y3, y4, y5, rfl⟩, h6⟩
      have hb6 := bthen HB5.out h6
      have hE6 := HE5.out.below h6
      have hb7 := hb6.alloc hb6.size (.cells #[.int .i64 y1', .int .i64 y2', .slice y3 y4 y5] 25)
      have hE7 := hE6.below ((Below.refl _ _).alloc (Nat.le_refl _) (.cells #[.int .i64 y1', .int .i64 y2', .slice y3 y4 y5] 25))
      have HB7 := Lib.hid hb7
      have HE7 := Lib.hid hE7
      clear HP2 h6 hb6 hE6 hb7 hE7
      go_wp2_with fail
      generalize w6.alloc (.cells #[.int .i64 y1', .int .i64 y2', .slice y3 y4 y5] 25) = w7 at *
      obtain ⟨A1, hA1⟩ : ∃ A1, [115] ++ numA (x : Int) = A1 := ⟨_, rfl⟩
      obtain ⟨A2, hA2⟩ : ∃ A2, A1 ++ [44] = A2 := ⟨_, rfl⟩
      obtain ⟨A3, hA3⟩ : ∃ A3, A2 ++ numA (y : Int) = A3 := ⟨_, rfl⟩
      obtain ⟨A4, hA4⟩ : ∃ A4, A3 ++ [44] = A4 := ⟨_, rfl⟩
      obtain ⟨A5, hA5⟩ : ∃ A5, A4 ++ numA (k : Int) = A5 := ⟨_, rfl⟩
      have e5 : wtx 115 [(x : Int), (y : Int), (k : Int)] = A5 := by rw [wtx3, ← hA5, ← hA4, ← hA3, ← hA2, ← hA1]; simp
      have w1l : A1.length ≤ 21 := by rw [← hA1, List.length_append]; simp only [List.length_cons, List.length_nil]; omega
      have w2l : A2.length ≤ 22 := by rw [← hA2, List.length_append]; simp only [List.length_cons, List.length_nil]; omega
      have w3l : A3.length ≤ 42 := by rw [← hA3, List.length_append]; omega
      have w4l : A4.length ≤ 43 := by rw [← hA4, List.length_append]; simp only [List.length_cons, List.length_nil]; omega
      have w5l : A5.length ≤ 63 := by rw [← hA5, List.length_append]; omega
      have t1 : (⟨#[115]⟩ : ByteArray) ++ tx (numA (x : Int)) = tx A1 := by rw [← hA1]; exact tx_app [115] _
      have t2 : tx A1 ++ (⟨#[44]⟩ : ByteArray) = tx A2 := by rw [← hA2]; exact tx_app _ [44]
      have t3 : tx A2 ++ tx (numA (y : Int)) = tx A3 := by rw [← hA3]; exact tx_app _ _
      have t4 : tx A3 ++ (⟨#[44]⟩ : ByteArray) = tx A4 := by rw [← hA4]; exact tx_app _ [44]
      have t5 : tx A4 ++ tx (numA (k : Int)) = tx A5 := by rw [← hA5]; exact tx_app _ _
      have s1 := tx_size A1
      have s2 := tx_size A2
      have s3 := tx_size A3
      have s4 := tx_size A4
      have y6 : ¬ 9223372036854775807 < 1 + (numA (x : Int)).length := by omega
      have y7 : ¬ 9223372036854775807 < A1.length + 1 := by omega
      have y8 : ¬ 9223372036854775807 < A2.length + (numA (y : Int)).length := by omega
      have y9 : ¬ 9223372036854775807 < A3.length + 1 := by omega
      have y10 : ¬ 9223372036854775807 < A4.length + (numA (k : Int)).length := by omega
      have E5 := Lib.hid e5
      have W5 := Lib.hid w5l
      clear hA1 hA2 hA3 hA4 hA5 e5 w5l y1 y2 w1l w2l w3l w4l
      refine (HN3.out _).mono ?_
      rintro e w8 ⟨rfl, h8⟩
      have HB8 := Lib.hid (bthen HB7.out h8)
      have HE8 := Lib.hid (HE7.out.below h8)
      clear h8
      go_wp2_with fail
      refine (HN4.out _).mono ?_
      rintro e w9 ⟨rfl, h9⟩
      have HB9 := Lib.hid (bthen HB8.out h9)
      have HE9 := Lib.hid (HE8.out.below h9)
      clear h9
      go_wp2_with fail
      have HN1 := Lib.hid fun w => Num_all (k : Int) w ⟨by omega, by omega⟩
      refine (HN1.out _).mono ?_
      rintro e w10 ⟨rfl, h10⟩
      have hb10 := bthen HB9.out h10
      have hE10 := HE9.out.below h10
      have HP := parse_one A5 w10 (by have := W5.out; omega) hE10
      rw [← E5.out, P3.out, E5.out] at HP
      have HP3 := Lib.hid HP
      have HB10 := Lib.hid hb10
      have HE10 := Lib.hid hE10
      clear HP h10 hb10 hE10 HN1
      go_wp2_with fail
      refine HP3.out.mono ?_
      rintro e w11 ⟨⟨z1', z2', z3', z4', z5', rfl⟩, h11⟩
      have hb11 := bthen HB10.out h11
      have hb12 := hb11.alloc hb11.size (.cells #[.int .i64 z1', .int .i64 z2', .slice z3' z4' z5'] 25)
      have HB12 := Lib.hid hb12
      clear HP3 h11 hb11 hb12 t1 t2 t3 t4 t5
      have HI := Lib.hid (fun w => is_any (k : Int) 1 none 0 [] w (.inl ⟨rfl, none, 0, rfl⟩) (by decide))
      have hok : opOk (k : Int) 1 [] = sideI (k : Int) := by unfold opOk; rw [show inI 1 4096 1 = true from rfl]; simp
      have hszk : szOk ((x : Int), (y : Int), (k : Int)) = (sideI (k : Int) && (inI 0 64 (x : Int) && inI 0 64 (y : Int))) := rfl
      have hmm : inI 1 4096 (m : Int) = decide ((m : Int) ≤ 4096) := by unfold inI; simp; omega
      rw [hok] at HI
      rw [hszk, hmm]
      obtain ⟨pw, hpw⟩ : ∃ pw, sideI (k : Int) = pw := ⟨_, rfl⟩
      obtain ⟨iw, hiw⟩ : ∃ iw, (inI 0 64 (x : Int) && inI 0 64 (y : Int)) = iw := ⟨_, rfl⟩
      rw [hpw] at HI ⊢
      rw [hiw]
      clear hpw hiw hok hszk hmm
      by_cases hmc : (m : Int) ≤ 4096
      all_goals
        cases pw <;> cases iw
      all_goals
        go_wp2_with fail
        refine (HI.out _).mono ?_
        rintro e w13 ⟨rfl, h13⟩
        have HB13 := Lib.hid (bthen HB12.out h13)
        clear h13
        go_wp2
        go_ret
        exact ⟨rfl, HB13.out⟩
end Go.Proofs.YthcgbchgfdkhiaaDoor
