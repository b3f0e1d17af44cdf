/- What LineParts answers. -/
import Derived.Test.YtnaljheelmmcdaaGreatLgp
import Derived.Test.YtnaljheelmmcdaaGreatLgd
namespace Go.Proofs.YtnaljheelmmcdaaGreat
set_option linter.unusedSimpArgs false
set_option linter.unusedVariables false
open Go.RowKit
set_option maxRecDepth 100000
def U8 (x : Int) : Prop := 0 ≤ x ∧ x ≤ 255
theorem i64s {q : Int} (h : -1000000 ≤ q ∧ q ≤ 1000000) : -9223372036854775808 ≤ q ∧ q ≤ 9223372036854775807 := by omega
theorem pos_nil {a : Int} {b : Int} (ha : I8 a) (hb : I8 b) {U V K : Int} (hU : U8 U) (hV : U8 V) (hK : U8 K) (w : World) :
    Calls Tryz.prog 5 #[.int .i8 a, .int .i8 b, .int .i8 0, .int .i8 0, .int .u8 U, .int .u8 V, .int .u8 K] w fun e w' => e = .returned (.bool true) ∧ Below w.heap.size w w' := by
  have hb := Below.refl w.heap.size w
  go_enter Tryz.func5, Tryz.ntmps5
  go_wp2_with fail
  refine (known4_any _).mono ?_
  rintro e w1 ⟨rfl, h1⟩
  replace hb := bthen hb h1
  clear h1
  go_wp2
  go_ret
  exact ⟨rfl, hb⟩
set_option maxHeartbeats 16000000 in
theorem lpart_walk {a b X Y U V K p q j c1 c2 e1 e2 x1 x2 : Int} {ax ay cx cy ex ey xx xy : Rat} (ha : I8 a) (hb' : I8 b) (hX : I8 X) (hY : I8 Y) (hU : U8 U) (hV : U8 V) (hK : U8 K) (h0 : X ≠ 0 ∨ Y ≠ 0)
    (hp : U % 20 + 1 = p) (hq : V % 20 + 1 = q) (hj : K % (p + q + 1) = j) (m1 : p * X = c1) (m2 : p * Y = c2) (m3 : (p + q) * X = e1) (m4 : (p + q) * Y = e2) (m5 : j * X = x1) (m6 : j * Y = x2)
    (r1 : -1000000 ≤ c1 ∧ c1 ≤ 1000000) (r2 : -1000000 ≤ c2 ∧ c2 ≤ 1000000) (r3 : -1000000 ≤ e1 ∧ e1 ≤ 1000000) (r4 : -1000000 ≤ e2 ∧ e2 ≤ 1000000) (r5 : -1000000 ≤ x1 ∧ x1 ≤ 1000000) (r6 : -1000000 ≤ x2 ∧ x2 ≤ 1000000)
    (A1 : Tl 8 #[.int .i64 a, .int .i64 b] (vp ax ay)) (A2 : Tl 8 #[.int .i64 (a + c1), .int .i64 (b + c2)] (vp cx cy)) (A3 : Tl 8 #[.int .i64 (a + e1), .int .i64 (b + e2)] (vp ex ey)) (A4 : Tl 8 #[.int .i64 (a + x1), .int .i64 (b + x2)] (vp xx xy))
    (O1 : Tl 12 #[vp ax ay, vp ex ey, vp cx cy] (.tuple #[.bool true, .bool true])) (O2 : Tl 12 #[vp ax ay, vp ex ey, vp xx xy] (.tuple #[.bool true, .bool true])) (O3 : Tl 12 #[vp ax ay, vp cx cy, vp xx xy] (.tuple #[.bool (decide (j ≤ p)), .bool true])) (O4 : Tl 12 #[vp cx cy, vp ex ey, vp xx xy] (.tuple #[.bool (decide (p ≤ j)), .bool true]))
    (M1 : Tl 9 #[vp ax ay, vp cx cy, vp cx cy, vp ex ey] (.tuple #[.int .i64 1, .bool true])) (M2 : Tl 9 #[vp ax ay, vp ex ey, vp cx cy, vp ex ey] (.tuple #[.int .i64 2, .bool true])) (w : World) :
    Calls Tryz.prog 5 #[.int .i8 a, .int .i8 b, .int .i8 X, .int .i8 Y, .int .u8 U, .int .u8 V, .int .u8 K] w fun e w' => e = .returned (.bool true) ∧ Below w.heap.size w w' := by
  unfold I8 U8 at *
  have HA1 := Lib.hid A1
  have HA2 := Lib.hid A2
  have HA3 := Lib.hid A3
  have HA4 := Lib.hid A4
  have HO1 := Lib.hid O1
  have HO2 := Lib.hid O2
  have HO3 := Lib.hid O3
  have HO4 := Lib.hid O4
  have HM1 := Lib.hid M1
  have HM2 := Lib.hid M2
  have Hhp := Lib.hid hp
  have Hhq := Lib.hid hq
  have Hhj := Lib.hid hj
  have Hm1 := Lib.hid m1
  have Hm2 := Lib.hid m2
  have Hm3 := Lib.hid m3
  have Hm4 := Lib.hid m4
  have Hm5 := Lib.hid m5
  have Hm6 := Lib.hid m6
  clear A1 A2 A3 A4 O1 O2 O3 O4 M1 M2 hj m1 m2 m3 m4 m5 m6
  unfold Tl vp vl at HA1 HA2 HA3 HA4 HO1 HO2 HO3 HO4 HM1 HM2
  have hp1 : 1 ≤ p ∧ p ≤ 20 := by omega
  have hq1 : 1 ≤ q ∧ q ≤ 20 := by omega
  have hj1 : 0 ≤ j ∧ j ≤ 40 := by
    have h1 := Int.emod_nonneg K (show p + q + 1 ≠ 0 by omega)
    have h2 := Int.emod_lt_of_pos K (show 0 < p + q + 1 by omega)
    have := Hhj.out
    omega
  clear hp hq
  have hb := Below.refl w.heap.size w
  go_enter Tryz.func5, Tryz.ntmps5
  go_wp2_with fail
  refine (known4_any _).mono ?_
  rintro e w1 ⟨rfl, h1⟩
  replace hb := bthen hb h1
  clear h1
  have hx0 : (X = 0 ∧ ¬ Y = 0) ∨ ¬ X = 0 := by omega
  have hpos : 0 < p + q + 1 := by omega
  have Hn5 : Hid (K % (p + q + 1) * X = x1) := by have := Hm5.out; rw [← Hhj.out] at this; exact this
  have Hn6 : Hid (K % (p + q + 1) * Y = x2) := by have := Hm6.out; rw [← Hhj.out] at this; exact this
  rcases hx0 with ⟨rfl, hy0⟩ | hx0
  all_goals
    go_wp2_with fail
    rw [Hhp.out, Hhq.out]
    refine (HA1.out _).mono ?_
    rintro e w1 ⟨rfl, h1⟩
    replace hb := bthen hb h1
    clear h1
    have f := Blk.new w1 p0 31 rfl
    have b17 := laid_n w1 p0 (fq ax ++ fq ay) 31
    replace hb := laid_b hb p0 (fq ax ++ fq ay) 31
    go_wp2_with (first | (with_reducible refine alP rfl rfl ?_) | (with_reducible refine stPt rfl rfl rfl rfl f p0_len (rc_q _) (rc_q _) ?_) | (with_reducible refine mulI Hm1.out (i64s r1) rfl rfl rfl rfl ?_) | (with_reducible refine mulI Hm2.out (i64s r2) rfl rfl rfl rfl ?_))
    clear f
    generalize (w1.alloc (.cells p0.toArray 31)).setRow w1.heap.size (fq ax ++ fq ay).toArray = W at *
    generalize w1.heap.size = pl_b17 at *
    refine (HA2.out _).mono ?_
    rintro e w1 ⟨rfl, h1⟩
    replace b17 := b17.call h1
    replace hb := bthen hb h1
    clear h1
    have f := Blk.new w1 p0 31 rfl
    have b18 := laid_n w1 p0 (fq cx ++ fq cy) 31
    replace b17 := laid_o b17 p0 (fq cx ++ fq cy) 31
    replace hb := laid_b hb p0 (fq cx ++ fq cy) 31
    go_wp2_with (first | (with_reducible refine alP rfl rfl ?_) | (with_reducible refine stPt rfl rfl rfl rfl f p0_len (rc_q _) (rc_q _) ?_) | (with_reducible refine mulI Hm3.out (i64s r3) rfl rfl rfl rfl ?_) | (with_reducible refine mulI Hm4.out (i64s r4) rfl rfl rfl rfl ?_))
    clear f
    generalize (w1.alloc (.cells p0.toArray 31)).setRow w1.heap.size (fq cx ++ fq cy).toArray = W at *
    generalize w1.heap.size = pl_b18 at *
    refine (HA3.out _).mono ?_
    rintro e w1 ⟨rfl, h1⟩
    replace b17 := b17.call h1
    replace b18 := b18.call h1
    replace hb := bthen hb h1
    clear h1
    have f := Blk.new w1 p0 31 rfl
    have b19 := laid_n w1 p0 (fq ex ++ fq ey) 31
    replace b17 := laid_o b17 p0 (fq ex ++ fq ey) 31
    replace b18 := laid_o b18 p0 (fq ex ++ fq ey) 31
    replace hb := laid_b hb p0 (fq ex ++ fq ey) 31
    go_wp2_with (first | (with_reducible refine alP rfl rfl ?_) | (with_reducible refine stPt rfl rfl rfl rfl f p0_len (rc_q _) (rc_q _) ?_) | (with_reducible refine mulI Hn5.out (i64s r5) rfl rfl rfl rfl ?_) | (with_reducible refine mulI Hn6.out (i64s r6) rfl rfl rfl rfl ?_))
    clear f
    generalize (w1.alloc (.cells p0.toArray 31)).setRow w1.heap.size (fq ex ++ fq ey).toArray = W at *
    generalize w1.heap.size = pl_b19 at *
    try simp only [Hhj.out]
    refine (HA4.out _).mono ?_
    rintro e w1 ⟨rfl, h1⟩
    replace b17 := b17.call h1
    replace b18 := b18.call h1
    replace b19 := b19.call h1
    replace hb := bthen hb h1
    clear h1
    have f := Blk.new w1 p0 31 rfl
    have b21 := laid_n w1 p0 (fq xx ++ fq xy) 31
    replace b17 := laid_o b17 p0 (fq xx ++ fq xy) 31
    replace b18 := laid_o b18 p0 (fq xx ++ fq xy) 31
    replace b19 := laid_o b19 p0 (fq xx ++ fq xy) 31
    replace hb := laid_b hb p0 (fq xx ++ fq xy) 31
    go_wp2_with (first | (with_reducible refine alP rfl rfl ?_) | (with_reducible refine stPt rfl rfl rfl rfl f p0_len (rc_q _) (rc_q _) ?_) | (with_reducible refine ldPt rfl rfl rfl b17 (rc_q _) (rc_q _) ?_) | (with_reducible refine ldPt rfl rfl rfl b18 (rc_q _) (rc_q _) ?_) | (with_reducible refine ldPt rfl rfl rfl b19 (rc_q _) (rc_q _) ?_) | (with_reducible refine ldPt rfl rfl rfl b21 (rc_q _) (rc_q _) ?_))
    clear f
    generalize (w1.alloc (.cells p0.toArray 31)).setRow w1.heap.size (fq xx ++ fq xy).toArray = W at *
    generalize w1.heap.size = pl_b21 at *
    refine (HO1.out _).mono ?_
    rintro e w1 ⟨rfl, h1⟩
    replace b17 := b17.call h1
    replace b18 := b18.call h1
    replace b19 := b19.call h1
    replace b21 := b21.call h1
    replace hb := bthen hb h1
    clear h1
    go_wp2_with (first | (with_reducible refine ldPt rfl rfl rfl b17 (rc_q _) (rc_q _) ?_) | (with_reducible refine ldPt rfl rfl rfl b18 (rc_q _) (rc_q _) ?_) | (with_reducible refine ldPt rfl rfl rfl b19 (rc_q _) (rc_q _) ?_) | (with_reducible refine ldPt rfl rfl rfl b21 (rc_q _) (rc_q _) ?_))
    refine (HO2.out _).mono ?_
    rintro e w1 ⟨rfl, h1⟩
    replace b17 := b17.call h1
    replace b18 := b18.call h1
    replace b19 := b19.call h1
    replace b21 := b21.call h1
    replace hb := bthen hb h1
    clear h1
    go_wp2_with (first | (with_reducible refine ldPt rfl rfl rfl b17 (rc_q _) (rc_q _) ?_) | (with_reducible refine ldPt rfl rfl rfl b18 (rc_q _) (rc_q _) ?_) | (with_reducible refine ldPt rfl rfl rfl b19 (rc_q _) (rc_q _) ?_) | (with_reducible refine ldPt rfl rfl rfl b21 (rc_q _) (rc_q _) ?_))
    refine (HO3.out _).mono ?_
    rintro e w1 ⟨rfl, h1⟩
    replace b17 := b17.call h1
    replace b18 := b18.call h1
    replace b19 := b19.call h1
    replace b21 := b21.call h1
    replace hb := bthen hb h1
    clear h1
    go_wp2_with (first | (with_reducible refine ldPt rfl rfl rfl b17 (rc_q _) (rc_q _) ?_) | (with_reducible refine ldPt rfl rfl rfl b18 (rc_q _) (rc_q _) ?_) | (with_reducible refine ldPt rfl rfl rfl b19 (rc_q _) (rc_q _) ?_) | (with_reducible refine ldPt rfl rfl rfl b21 (rc_q _) (rc_q _) ?_))
    refine (HO4.out _).mono ?_
    rintro e w1 ⟨rfl, h1⟩
    replace b17 := b17.call h1
    replace b18 := b18.call h1
    replace b19 := b19.call h1
    replace b21 := b21.call h1
    replace hb := bthen hb h1
    clear h1
    go_wp2_with (first | (with_reducible refine ldPt rfl rfl rfl b17 (rc_q _) (rc_q _) ?_) | (with_reducible refine ldPt rfl rfl rfl b18 (rc_q _) (rc_q _) ?_) | (with_reducible refine ldPt rfl rfl rfl b19 (rc_q _) (rc_q _) ?_) | (with_reducible refine ldPt rfl rfl rfl b21 (rc_q _) (rc_q _) ?_))
    refine (HM1.out _).mono ?_
    rintro e w1 ⟨rfl, h1⟩
    replace b17 := b17.call h1
    replace b18 := b18.call h1
    replace b19 := b19.call h1
    replace b21 := b21.call h1
    replace hb := bthen hb h1
    clear h1
    go_wp2_with (first | (with_reducible refine ldPt rfl rfl rfl b17 (rc_q _) (rc_q _) ?_) | (with_reducible refine ldPt rfl rfl rfl b18 (rc_q _) (rc_q _) ?_) | (with_reducible refine ldPt rfl rfl rfl b19 (rc_q _) (rc_q _) ?_) | (with_reducible refine ldPt rfl rfl rfl b21 (rc_q _) (rc_q _) ?_))
    refine (HM2.out _).mono ?_
    rintro e w1 ⟨rfl, h1⟩
    replace b17 := b17.call h1
    replace b18 := b18.call h1
    replace b19 := b19.call h1
    replace b21 := b21.call h1
    replace hb := bthen hb h1
    clear h1
    clear HA1 HA2 HA3 HA4 HO1 HO2 HO3 HO4 HM1 HM2 b17 b18 b19 b21 Hm1 Hm2 Hm3 Hm4 Hn5 Hn6 Hhp Hhq Hhj
    rcases (show (j < p) ∨ (j = p) ∨ (p < j) by omega) with h | h | h
    · have d1 : decide (j ≤ p) = true := decide_eq_true (by omega)
      have d2 : decide (p ≤ j) = false := decide_eq_false (by omega)
      have g1 : j ≤ p := by omega
      have g2 : ¬ p ≤ j := by omega
      try simp only [d1, d2]
      go_wp2
      go_ret
      exact ⟨rfl, hb⟩
    · have d1 : decide (j ≤ p) = true := decide_eq_true (by omega)
      have d2 : decide (p ≤ j) = true := decide_eq_true (by omega)
      have g1 : j ≤ p := by omega
      have g2 : p ≤ j := by omega
      try simp only [d1, d2]
      clear h
      go_wp2
      go_ret
      exact ⟨rfl, hb⟩
    · have d1 : decide (j ≤ p) = false := decide_eq_false (by omega)
      have d2 : decide (p ≤ j) = true := decide_eq_true (by omega)
      have g1 : ¬ j ≤ p := by omega
      have g2 : p ≤ j := by omega
      try simp only [d1, d2]
      go_wp2
      go_ret
      exact ⟨rfl, hb⟩
theorem mul_r {x y : Int} (hx : -40 ≤ x ∧ x ≤ 40) (hy : I8 y) : -1000000 ≤ x * y ∧ x * y ≤ 1000000 := by
  have : (x * y).natAbs ≤ 40 * 128 := by rw [Int.natAbs_mul]; exact Nat.mul_le_mul (by omega) (by unfold I8 at hy; omega)
  omega
theorem mul_sg {x y : Int} (hx : 0 < x) (hy : y < 0) : x * y < 0 := Int.mul_neg_of_pos_of_neg hx hy
theorem lpart_any {a b X Y U V K : Int} (ha : I8 a) (hb : I8 b) (hX : I8 X) (hY : I8 Y) (hU : U8 U) (hV : U8 V) (hK : U8 K) (w : World) :
    Calls Tryz.prog 5 #[.int .i8 a, .int .i8 b, .int .i8 X, .int .i8 Y, .int .u8 U, .int .u8 V, .int .u8 K] w fun e w' => e = .returned (.bool true) ∧ Below w.heap.size w w' := by
  by_cases h0 : X ≠ 0 ∨ Y ≠ 0
  · obtain ⟨p, hp⟩ : ∃ p, U % 20 + 1 = p := ⟨_, rfl⟩
    obtain ⟨q, hq⟩ : ∃ q, V % 20 + 1 = q := ⟨_, rfl⟩
    obtain ⟨j, hj⟩ : ∃ j, K % (p + q + 1) = j := ⟨_, rfl⟩
    have hp1 : 1 ≤ p ∧ p ≤ 20 := by unfold U8 at hU; omega
    have hq1 : 1 ≤ q ∧ q ≤ 20 := by unfold U8 at hV; omega
    have hj1 : 0 ≤ j ∧ j ≤ p + q := by
      have h1 := Int.emod_nonneg K (show p + q + 1 ≠ 0 by omega)
      have h2 := Int.emod_lt_of_pos K (show 0 < p + q + 1 by omega)
      omega
    have gd : ∀ {x : Int}, -40 ≤ x ∧ x ≤ 40 → Gd ((a + x * X : Int) : Rat) ((b + x * Y : Int) : Rat) := fun {x} h => by
      have e1 := mul_r h hX
      have e2 := mul_r h hY
      unfold I8 at ha hb
      exact gd_i (by omega) (by omega)
    have at_ : ∀ {x : Int}, -40 ≤ x ∧ x ≤ 40 → Tl 8 #[.int .i64 (a + x * X), .int .i64 (b + x * Y)] (vp ((a + x * X : Int) : Rat) ((b + x * Y : Int) : Rat)) := fun {x} h => by
      have e1 := mul_r h hX
      have e2 := mul_r h hY
      unfold I8 at ha hb
      exact Atref_q (by omega) (by omega)
    have A1 := at_ (x := 0) (by omega)
    rw [Int.zero_mul, Int.zero_mul, Int.add_zero, Int.add_zero] at A1
    have ga := gd (x := 0) (by omega)
    have gc := gd (x := p) (by omega)
    have ge := gd (x := p + q) (by omega)
    have gx := gd (x := j) (by omega)
    have on := fun s t r => onq_int a b X Y s t r h0
    have on0 := fun t r => on 0 t r
    have ona := fun s t => on s t 0
    simp only [Int.zero_mul, Int.add_zero] at ga on0 ona
    have O1 := On_q ga ge gc
    rw [on0, decide_eq_true (by rw [Int.sub_zero]; exact Int.mul_nonneg (by omega) (by omega))] at O1
    have O2 := On_q ga ge gx
    rw [on0, decide_eq_true (by rw [Int.sub_zero]; exact Int.mul_nonneg (by omega) (by omega))] at O2
    have O3 := On_q ga gc gx
    rw [on0, show decide (0 ≤ (j - 0) * (p - j)) = decide (j ≤ p) by
      by_cases h : j ≤ p
      · rw [decide_eq_true h, decide_eq_true (Int.mul_nonneg (by omega) (by omega))]
      · rw [decide_eq_false h, decide_eq_false (by have := mul_sg (x := j - 0) (y := p - j) (by omega) (by omega); omega)]] at O3
    have O4 := On_q gc ge gx
    rw [on, show decide (0 ≤ (j - p) * (p + q - j)) = decide (p ≤ j) by
      by_cases h : p ≤ j
      · rw [decide_eq_true h, decide_eq_true (Int.mul_nonneg (by omega) (by omega))]
      · rw [decide_eq_false h, decide_eq_false (by have := mul_sg (x := p + q - j) (y := j - p) (by omega) (by omega); rw [Int.mul_comm]; omega)]] at O4
    have f1 : onq (a : Rat) (b : Rat) ((a + p * X : Int) : Rat) ((b + p * Y : Int) : Rat) ((a + (p + q) * X : Int) : Rat) ((b + (p + q) * Y : Int) : Rat) = false := by
      rw [on0]
      exact decide_eq_false (by have := mul_sg (x := p + q - 0) (y := p - (p + q)) (by omega) (by omega); omega)
    have f2 : onq ((a + p * X : Int) : Rat) ((b + p * Y : Int) : Rat) ((a + (p + q) * X : Int) : Rat) ((b + (p + q) * Y : Int) : Rat) (a : Rat) (b : Rat) = false := by
      rw [ona]
      exact decide_eq_false (by have := mul_sg (x := p + q - 0) (y := 0 - p) (by omega) (by omega); rw [Int.mul_comm]; omega)
    have M1 := Meet_q ga gc gc ge
    rw [mq_one f1 f2] at M1
    have M2 := Meet_q ga ge gc ge
    have t1 : onq (a : Rat) (b : Rat) ((a + (p + q) * X : Int) : Rat) ((b + (p + q) * Y : Int) : Rat) ((a + p * X : Int) : Rat) ((b + p * Y : Int) : Rat) = true := by
      rw [on0]
      exact decide_eq_true (by rw [Int.sub_zero]; exact Int.mul_nonneg (by omega) (by omega))
    rw [mq_part t1 (fun ⟨e1, e2⟩ => by
      rw [← e1, ← e2, onq_b] at f1
      cases f1)] at M2
    exact lpart_walk ha hb hX hY hU hV hK h0 hp hq hj rfl rfl rfl rfl rfl rfl (mul_r (by omega) hX) (mul_r (by omega) hY) (mul_r (by omega) hX) (mul_r (by omega) hY) (mul_r (by omega) hX) (mul_r (by omega) hY) A1 (at_ (by omega)) (at_ (by omega)) (at_ (by omega)) O1 O2 O3 O4 M1 M2 w
  · have hx : X = 0 := by omega
    have hy : Y = 0 := by omega
    subst hx hy
    exact pos_nil ha hb hU hV hK w
end Go.Proofs.YtnaljheelmmcdaaGreat
