/- Joined of: Lhg Lhw Lhx. -/
import Derived.Test.YtkknaigpdnokkaaGreatLgm
import Derived.Test.YtkknaigpdnokkaaGreatLni
import Derived.Test.YtkknaigpdnokkaaGreatMrf
import Derived.Test.YtkknaigpdnokkaaGreatLgd
import Derived.Test.YtkknaigpdnokkaaGreatPst
import Derived.Test.YtkknaigpdnokkaaGreatRows
import Derived.WalkKit
import Derived.ProofKit
import Derived.OpenShut
/- Heights of segments over the rational numbers. -/
namespace Go.Proofs.YtkknaigpdnokkaaGreat
set_option linter.unusedSimpArgs false
set_option linter.unusedVariables false
open Go.RowKit
theorem part_in {t p q : Rat} (e : t * p = q) (h : (0 < p ∧ 0 ≤ q ∧ q ≤ p) ∨ (p < 0 ∧ q ≤ 0 ∧ p ≤ q)) : 0 ≤ t ∧ t ≤ 1 := by
  rcases h with ⟨h1, h2, h3⟩ | ⟨h1, h2, h3⟩
  · constructor
    · apply Classical.byContradiction
      intro hn
      have := Rat.mul_pos (a := -t) (b := p) (by grind) h1
      grind
    · apply Classical.byContradiction
      intro hn
      have := Rat.mul_pos (a := t - 1) (b := p) (by grind) h1
      grind
  · constructor
    · apply Classical.byContradiction
      intro hn
      have := Rat.mul_pos (a := -t) (b := -p) (by grind) (by grind)
      grind
    · apply Classical.byContradiction
      intro hn
      have := Rat.mul_pos (a := t - 1) (b := -p) (by grind) (by grind)
      grind
theorem between_part {t b d : Rat} (h0 : 0 ≤ t) (h1 : t ≤ 1) : hq b d (b + t * (d - b)) = true := by
  rw [hq_iff]
  rcases Rat.le_total (a := b) (b := d) with h | h
  · have k1 := Rat.mul_nonneg (a := t) (b := d - b) h0 (by grind)
    have k2 := Rat.mul_nonneg (a := 1 - t) (b := d - b) (by grind) (by grind)
    left; constructor <;> grind
  · have k1 := Rat.mul_nonneg (a := t) (b := b - d) h0 (by grind)
    have k2 := Rat.mul_nonneg (a := 1 - t) (b := b - d) (by grind) (by grind)
    right; constructor <;> grind
theorem part_of {a c x : Rat} (h : a ≠ c) (hx : hq a c x = true) : ∃ t, (x - a) / (c - a) = t ∧ t * (c - a) = x - a ∧ 0 ≤ t ∧ t ≤ 1 := by
  have h0 : c - a ≠ 0 := by grind
  have e : (x - a) / (c - a) * (c - a) = x - a := Rat.div_mul_cancel h0
  refine ⟨_, rfl, e, ?_⟩
  rw [hq_iff] at hx
  refine part_in e ?_
  rcases hx with hx | hx
  · left; refine ⟨by grind, by grind, by grind⟩
  · right; refine ⟨by grind, by grind, by grind⟩
theorem atq_on {ax ay cx cy x : Rat} (h : ax ≠ cx) (hx : hq ax cx x = true) : onq ax ay cx cy x (atq ax cx ay cy x) = true := by
  obtain ⟨t, e1, e2, h0, h1⟩ := part_of h hx
  unfold atq
  rw [e1]
  have hb := between_part (b := ay) (d := cy) h0 h1
  rw [onq_iff]
  rw [hq_iff] at hx hb
  refine ⟨hx, hb, ?_⟩
  unfold crs
  grind
theorem atq_in {ax ay cx cy x : Rat} (h : ax ≠ cx) (hx : hq ax cx x = true) : hq ay cy (atq ax cx ay cy x) = true := by
  obtain ⟨t, e1, e2, h0, h1⟩ := part_of h hx
  unfold atq
  rw [e1]
  exact between_part h0 h1
theorem atq_back {ax ay cx cy x : Rat} (h : ax ≠ cx) (hx : hq ax cx x = true) (h' : ay ≠ cy) : atq ay cy ax cx (atq ax cx ay cy x) = x := by
  obtain ⟨t, e1, e2, h0, h1⟩ := part_of h hx
  unfold atq
  rw [e1, show ay + t * (cy - ay) - ay = t * (cy - ay) by grind, Rat.mul_div_cancel (by grind)]
  grind
theorem cq_neg (a x : Rat) : cq a x = - cq x a := by
  rcases cq_sp a x with ⟨h, e⟩ | ⟨h, e⟩ | ⟨h, e⟩ <;> rcases cq_sp x a with ⟨h', e'⟩ | ⟨h', e'⟩ | ⟨h', e'⟩ <;> rw [e, e'] <;> first | rfl | (exfalso; grind)
theorem hq_uv (a b x : Rat) : hq a b x = decide (cq x a * cq x b ≤ 0) := by
  unfold hq
  rw [cq_neg a x]
  rcases cq_rng x a with h | h | h <;> rcases cq_rng x b with h' | h' | h' <;> rw [h, h'] <;> decide
theorem bq_atq {ax ay cx cy : Int} {x : Rat} (h1 : ax.natAbs < 2 ^ 8) (h2 : ay.natAbs < 2 ^ 8) (h3 : cx.natAbs < 2 ^ 8) (h4 : cy.natAbs < 2 ^ 8) (hx : Bq 9 x) (h : (ax : Rat) ≠ (cx : Rat)) : Bq 60 (atq ax cx ay cy x) := by
  unfold atq
  have b1 : Bq 9 ((cx : Rat) - (ax : Rat)) := by
    rw [← Rat.intCast_sub]; exact bq_int (k := 9) (show (cx - ax).natAbs < 512 by omega) (by omega)
  have b2 : Bq 9 ((cy : Rat) - (ay : Rat)) := by
    rw [← Rat.intCast_sub]; exact bq_int (k := 9) (show (cy - ay).natAbs < 512 by omega) (by omega)
  have b3 := bq_sub hx (bq_int (k := 8) h1 (by omega))
  have b4 := bq_mul (bq_quo b3 b1 (by grind)) b2
  exact bq_mono (bq_add (bq_int (k := 8) h2 (by omega)) b4) (by omega)
end Go.Proofs.YtkknaigpdnokkaaGreat

/- What LineHeights answers. -/
namespace Go.Proofs.YtkknaigpdnokkaaGreat
set_option linter.unusedSimpArgs false
set_option linter.unusedVariables false
open Go.RowKit
set_option maxRecDepth 100000
section
variable {ops : Array Oper} {rest : List Oper} {o : Oper} {a : Act} {w : World} {Q : Exit → Act → World → Prop}
theorem eqqh {p q : Operand} {x : Rat} {ty : TypeId} (hw : Region.wanted o (yielded ops a.tmps) = true) (ho : o.op = .binOp .eql 27 p q ty) (hp : a.eval p = .agg (fq x).toArray) (hq : a.eval q = .agg (fq x).toArray) (hx : Fq2 x)
    (hr : wpList Tryz.prog ops Q rest (a.put o.dst (.bool true)) w) : wpList Tryz.prog ops Q (o :: rest) a w :=
  BigFrame.wpList_want hw fun _ hK => by
    have := hK _ _ hr
    unfold Oper.wp
    rw [op_eqq hx hx (decide_eq_true rfl) ho hp hq w]
    exact this
end
set_option maxHeartbeats 16000000 in
theorem lh_out {X1 Y1 X2 Y2 n d u v : Int} {ax ay cx cy x : Rat} {R : List Value} (h1 : I8 X1) (h2 : I8 Y1) (h3 : I8 X2) (h4 : I8 Y2) (hn : 0 ≤ n ∧ n ≤ 255) (hd : 0 ≤ d ∧ d ≤ 255) (hu : -1 ≤ u ∧ u ≤ 1) (hv : -1 ≤ v ∧ v ≤ 1) (hR : Rc R)
    (A1 : Tl 16 #[.int .i64 X1, .int .i64 Y1] (vp ax ay)) (A2 : Tl 16 #[.int .i64 X2, .int .i64 Y2] (vp cx cy)) (OF : Tl 17 #[.int .i64 n, .int .i64 (d + 1)] (.tuple #[vl (fq x), .bool true]))
    (Y : Tl 18 #[vp ax ay, vp cx cy, vl (fq x)] (.tuple #[vl R, .bool false])) (C1 : Tl 19 #[vl (fq x), vl (fq ax)] (.tuple #[.int .i64 u, .bool true])) (C2 : Tl 19 #[vl (fq x), vl (fq cx)] (.tuple #[.int .i64 v, .bool true]))
    (hh : X1 = X2 ∨ ¬ u * v ≤ 0) (w : World) :
    Calls Tryz.prog 4 #[.int .i8 X1, .int .i8 Y1, .int .i8 X2, .int .i8 Y2, .int .u8 n, .int .u8 d] w fun e w' => e = .returned (.bool true) ∧ Below w.heap.size w w' := by
  have HH := Lib.hid hh
  clear hh
  unfold I8 at *
  have HA1 := Lib.hid A1
  have HA2 := Lib.hid A2
  have HOF := Lib.hid OF
  have HY := Lib.hid Y
  have HC1 := Lib.hid C1
  have HC2 := Lib.hid C2
  have HhR := Lib.hid hR
  clear A1 A2 OF Y C1 C2 hR
  unfold Tl at HA1 HA2 HOF HY HC1 HC2
  try unfold vp at HA1
  try unfold vl at HA1
  try unfold vp at HA2
  try unfold vl at HA2
  try unfold vp at HOF
  try unfold vl at HOF
  try unfold vp at HY
  try unfold vl at HY
  try unfold vp at HC1
  try unfold vl at HC1
  try unfold vp at HC2
  try unfold vl at HC2
  have hb := Below.refl w.heap.size w
  have hn2 : (0 : Int) ≤ n ∧ n ≤ 255 := hn
  have hd2 : (0 : Int) ≤ d ∧ d ≤ 255 := hd
  go_enter Tryz.func4, Tryz.ntmps4
  go_wp2_with fail
  refine (known4_any _).mono ?_
  rintro e w1 ⟨rfl, h1⟩
  replace hb := bthen hb h1
  clear h1
  go_wp2_with fail
  refine (HA1.out _).mono ?_
  rintro e w1 ⟨rfl, h1⟩
  replace hb := bthen hb h1
  clear h1
  go_wp2_with fail
  refine (HA2.out _).mono ?_
  rintro e w1 ⟨rfl, h1⟩
  replace hb := bthen hb h1
  clear h1
  have f1 := (Blk.new w1 p0 40 rfl).old (.cells p0.toArray 40)
  have f2 := (Blk.new (w1.alloc (.cells p0.toArray 40)) p0 40 (b := w1.heap.size + 1) (by simp)).rowOther (g := w1.heap.size) (fq ax ++ fq ay).toArray (by omega)
  have b13 := (f1.row (fq ax ++ fq ay)).rowOther (g := w1.heap.size + 1) (fq cx ++ fq cy).toArray (by omega)
  have b14 := f2.row (fq cx ++ fq cy)
  have hs := hb.size
  have k1 : (w1.alloc (.cells p0.toArray 40)).heap.size = w1.heap.size + 1 := by simp
  replace hb := below_row (below_row ((hb.alloc hs (.cells p0.toArray 40)).alloc (by omega) (.cells p0.toArray 40)) (g := w1.heap.size) hs (fq ax ++ fq ay).toArray) (g := w1.heap.size + 1) (by omega) (fq cx ++ fq cy).toArray
  clear k1
  go_wp2_with (first | (with_reducible refine alP2 rfl rfl ?_) | (with_reducible refine alP rfl rfl ?_) | (with_reducible refine stPt rfl rfl rfl rfl f1 p0_len (rc_q _) (rc_q _) ?_) | (with_reducible refine stPt rfl rfl rfl rfl f2 p0_len (rc_q _) (rc_q _) ?_))
  clear f1 f2 hs
  try rw [show (w1.alloc (.cells p0.toArray 40)).heap.size = w1.heap.size + 1 by simp]
  generalize (((w1.alloc (.cells p0.toArray 40)).alloc (.cells p0.toArray 40)).setRow w1.heap.size (fq ax ++ fq ay).toArray).setRow (w1.heap.size + 1) (fq cx ++ fq cy).toArray = W at *
  generalize w1.heap.size + 1 = pl_b14 at *
  generalize w1.heap.size = pl_b13 at *
  refine (HOF.out _).mono ?_
  rintro e w1 ⟨rfl, h1⟩
  replace b13 := b13.call h1
  replace b14 := b14.call h1
  replace hb := bthen hb h1
  clear h1
  have f := Blk.new w1 (rr false 0 false 0) 27 rfl
  have b15 := laid_n w1 (rr false 0 false 0) (fq x) 27
  replace b13 := laid_o b13 (rr false 0 false 0) (fq x) 27
  replace b14 := laid_o b14 (rr false 0 false 0) (fq x) 27
  replace hb := laid_b hb (rr false 0 false 0) (fq x) 27
  go_wp2_with (first | (with_reducible refine alR rfl rfl ?_) | (with_reducible refine stQ rfl rfl rfl rfl f (rr_length _ _ _ _) (rc_q _) ?_) | (with_reducible refine ldPt rfl rfl rfl b13 (rc_q _) (rc_q _) ?_) | (with_reducible refine ldPt rfl rfl rfl b14 (rc_q _) (rc_q _) ?_) | (with_reducible refine ldA' rfl rfl rfl b15 (rc_q _) ?_))
  clear f
  generalize (w1.alloc (.cells (rr false 0 false 0).toArray 27)).setRow w1.heap.size (fq x).toArray = W at *
  generalize w1.heap.size = pl_b15 at *
  refine (HY.out _).mono ?_
  rintro e w1 ⟨rfl, h1⟩
  replace b13 := b13.call h1
  replace b14 := b14.call h1
  replace b15 := b15.call h1
  replace hb := bthen hb h1
  clear h1
  have f := Blk.new w1 (rr false 0 false 0) 27 rfl
  have b17 := laid_n w1 (rr false 0 false 0) (R) 27
  replace b13 := laid_o b13 (rr false 0 false 0) (R) 27
  replace b14 := laid_o b14 (rr false 0 false 0) (R) 27
  replace b15 := laid_o b15 (rr false 0 false 0) (R) 27
  replace hb := laid_b hb (rr false 0 false 0) (R) 27
  go_wp2_with (first | (with_reducible refine alR rfl rfl ?_) | (with_reducible refine stQ rfl rfl rfl rfl f (rr_length _ _ _ _) HhR.out ?_) | (with_reducible refine ldA' rfl rfl rfl b15 (rc_q _) ?_) | (with_reducible refine ldX rfl rfl rfl b13 (rc_q _) (rc_q _) ?_) | (with_reducible refine ldY rfl rfl rfl b13 (rc_q _) (rc_q _) ?_))
  clear f
  generalize (w1.alloc (.cells (rr false 0 false 0).toArray 27)).setRow w1.heap.size (R).toArray = W at *
  generalize w1.heap.size = pl_b17 at *
  refine (HC1.out _).mono ?_
  rintro e w1 ⟨rfl, h1⟩
  replace b13 := b13.call h1
  replace b14 := b14.call h1
  replace b15 := b15.call h1
  replace b17 := b17.call h1
  replace hb := bthen hb h1
  clear h1
  go_wp2_with (first | (with_reducible refine ldA' rfl rfl rfl b15 (rc_q _) ?_) | (with_reducible refine ldX rfl rfl rfl b14 (rc_q _) (rc_q _) ?_) | (with_reducible refine ldY rfl rfl rfl b14 (rc_q _) (rc_q _) ?_))
  refine (HC2.out _).mono ?_
  rintro e w1 ⟨rfl, h1⟩
  replace b13 := b13.call h1
  replace b14 := b14.call h1
  replace b15 := b15.call h1
  replace b17 := b17.call h1
  replace hb := bthen hb h1
  clear h1
  clear HA1 HA2 HOF HY HC1 HC2 b13 b14 b15 b17 HhR
  by_cases hx : X1 = X2
  · subst hx
    clear HH
    go_wp2
    go_ret
    exact ⟨rfl, hb⟩
  · have huv : ¬ u * v ≤ 0 := by have := HH.out.resolve_left hx; omega
    have hu0 : (u = -1 ∧ v = -1) ∨ (u = 1 ∧ v = 1) := by
      rcases (show u = -1 ∨ u = 0 ∨ u = 1 by omega) with rfl | rfl | rfl <;> rcases (show v = -1 ∨ v = 0 ∨ v = 1 by omega) with rfl | rfl | rfl <;> first | (exfalso; revert huv; decide) | (left; exact ⟨rfl, rfl⟩) | (right; exact ⟨rfl, rfl⟩)
    clear HH huv
    rcases hu0 with ⟨rfl, rfl⟩ | ⟨rfl, rfl⟩
    · go_wp2
      go_ret
      exact ⟨rfl, hb⟩
    · go_wp2
      go_ret
      exact ⟨rfl, hb⟩
set_option maxHeartbeats 16000000 in
theorem lh_in {X1 Y1 X2 Y2 n d u v : Int} {ax ay cx cy x : Rat} {R Z : List Value} {z : Bool} (h1 : I8 X1) (h2 : I8 Y1) (h3 : I8 X2) (h4 : I8 Y2) (hn : 0 ≤ n ∧ n ≤ 255) (hd : 0 ≤ d ∧ d ≤ 255) (hu : -1 ≤ u ∧ u ≤ 1) (hv : -1 ≤ v ∧ v ≤ 1) (hR : Rc R) (hZ : Rc Z)
    (A1 : Tl 16 #[.int .i64 X1, .int .i64 Y1] (vp ax ay)) (A2 : Tl 16 #[.int .i64 X2, .int .i64 Y2] (vp cx cy)) (OF : Tl 17 #[.int .i64 n, .int .i64 (d + 1)] (.tuple #[vl (fq x), .bool true]))
    (Y : Tl 18 #[vp ax ay, vp cx cy, vl (fq x)] (.tuple #[vl R, .bool true])) (C1 : Tl 19 #[vl (fq x), vl (fq ax)] (.tuple #[.int .i64 u, .bool true])) (C2 : Tl 19 #[vl (fq x), vl (fq cx)] (.tuple #[.int .i64 v, .bool true]))
    (O : Tl 20 #[vp ax ay, vp cx cy, vl (fq x ++ R)] (.tuple #[.bool true, .bool true])) (XA : Tl 21 #[vp ax ay, vp cx cy, vl R] (.tuple #[vl Z, .bool z]))
    (hne : X1 ≠ X2) (huv : u * v ≤ 0) (hz : Y1 = Y2 ∨ (z = true ∧ Z = fq x)) (fx : Fq2 x) (w : World) :
    Calls Tryz.prog 4 #[.int .i8 X1, .int .i8 Y1, .int .i8 X2, .int .i8 Y2, .int .u8 n, .int .u8 d] w fun e w' => e = .returned (.bool true) ∧ Below w.heap.size w w' := by
  have HZZ := Lib.hid hz
  have HO := Lib.hid O
  have HXA := Lib.hid XA
  have HhZ := Lib.hid hZ
  clear hz O XA hZ
  unfold Tl at HO HXA
  try unfold vp at HO
  try unfold vl at HO
  try unfold vp at HXA
  try unfold vl at HXA
  unfold I8 at *
  have HA1 := Lib.hid A1
  have HA2 := Lib.hid A2
  have HOF := Lib.hid OF
  have HY := Lib.hid Y
  have HC1 := Lib.hid C1
  have HC2 := Lib.hid C2
  have HhR := Lib.hid hR
  clear A1 A2 OF Y C1 C2 hR
  unfold Tl at HA1 HA2 HOF HY HC1 HC2
  try unfold vp at HA1
  try unfold vl at HA1
  try unfold vp at HA2
  try unfold vl at HA2
  try unfold vp at HOF
  try unfold vl at HOF
  try unfold vp at HY
  try unfold vl at HY
  try unfold vp at HC1
  try unfold vl at HC1
  try unfold vp at HC2
  try unfold vl at HC2
  have hb := Below.refl w.heap.size w
  have hn2 : (0 : Int) ≤ n ∧ n ≤ 255 := hn
  have hd2 : (0 : Int) ≤ d ∧ d ≤ 255 := hd
  go_enter Tryz.func4, Tryz.ntmps4
  go_wp2_with fail
  refine (known4_any _).mono ?_
  rintro e w1 ⟨rfl, h1⟩
  replace hb := bthen hb h1
  clear h1
  go_wp2_with fail
  refine (HA1.out _).mono ?_
  rintro e w1 ⟨rfl, h1⟩
  replace hb := bthen hb h1
  clear h1
  go_wp2_with fail
  refine (HA2.out _).mono ?_
  rintro e w1 ⟨rfl, h1⟩
  replace hb := bthen hb h1
  clear h1
  have f1 := (Blk.new w1 p0 40 rfl).old (.cells p0.toArray 40)
  have f2 := (Blk.new (w1.alloc (.cells p0.toArray 40)) p0 40 (b := w1.heap.size + 1) (by simp)).rowOther (g := w1.heap.size) (fq ax ++ fq ay).toArray (by omega)
  have b13 := (f1.row (fq ax ++ fq ay)).rowOther (g := w1.heap.size + 1) (fq cx ++ fq cy).toArray (by omega)
  have b14 := f2.row (fq cx ++ fq cy)
  have hs := hb.size
  have k1 : (w1.alloc (.cells p0.toArray 40)).heap.size = w1.heap.size + 1 := by simp
  replace hb := below_row (below_row ((hb.alloc hs (.cells p0.toArray 40)).alloc (by omega) (.cells p0.toArray 40)) (g := w1.heap.size) hs (fq ax ++ fq ay).toArray) (g := w1.heap.size + 1) (by omega) (fq cx ++ fq cy).toArray
  clear k1
  go_wp2_with (first | (with_reducible refine alP2 rfl rfl ?_) | (with_reducible refine alP rfl rfl ?_) | (with_reducible refine stPt rfl rfl rfl rfl f1 p0_len (rc_q _) (rc_q _) ?_) | (with_reducible refine stPt rfl rfl rfl rfl f2 p0_len (rc_q _) (rc_q _) ?_))
  clear f1 f2 hs
  try rw [show (w1.alloc (.cells p0.toArray 40)).heap.size = w1.heap.size + 1 by simp]
  generalize (((w1.alloc (.cells p0.toArray 40)).alloc (.cells p0.toArray 40)).setRow w1.heap.size (fq ax ++ fq ay).toArray).setRow (w1.heap.size + 1) (fq cx ++ fq cy).toArray = W at *
  generalize w1.heap.size + 1 = pl_b14 at *
  generalize w1.heap.size = pl_b13 at *
  refine (HOF.out _).mono ?_
  rintro e w1 ⟨rfl, h1⟩
  replace b13 := b13.call h1
  replace b14 := b14.call h1
  replace hb := bthen hb h1
  clear h1
  have f := Blk.new w1 (rr false 0 false 0) 27 rfl
  have b15 := laid_n w1 (rr false 0 false 0) (fq x) 27
  replace b13 := laid_o b13 (rr false 0 false 0) (fq x) 27
  replace b14 := laid_o b14 (rr false 0 false 0) (fq x) 27
  replace hb := laid_b hb (rr false 0 false 0) (fq x) 27
  go_wp2_with (first | (with_reducible refine alR rfl rfl ?_) | (with_reducible refine stQ rfl rfl rfl rfl f (rr_length _ _ _ _) (rc_q _) ?_) | (with_reducible refine ldPt rfl rfl rfl b13 (rc_q _) (rc_q _) ?_) | (with_reducible refine ldPt rfl rfl rfl b14 (rc_q _) (rc_q _) ?_) | (with_reducible refine ldA' rfl rfl rfl b15 (rc_q _) ?_))
  clear f
  generalize (w1.alloc (.cells (rr false 0 false 0).toArray 27)).setRow w1.heap.size (fq x).toArray = W at *
  generalize w1.heap.size = pl_b15 at *
  refine (HY.out _).mono ?_
  rintro e w1 ⟨rfl, h1⟩
  replace b13 := b13.call h1
  replace b14 := b14.call h1
  replace b15 := b15.call h1
  replace hb := bthen hb h1
  clear h1
  have f := Blk.new w1 (rr false 0 false 0) 27 rfl
  have b17 := laid_n w1 (rr false 0 false 0) (R) 27
  replace b13 := laid_o b13 (rr false 0 false 0) (R) 27
  replace b14 := laid_o b14 (rr false 0 false 0) (R) 27
  replace b15 := laid_o b15 (rr false 0 false 0) (R) 27
  replace hb := laid_b hb (rr false 0 false 0) (R) 27
  go_wp2_with (first | (with_reducible refine alR rfl rfl ?_) | (with_reducible refine stQ rfl rfl rfl rfl f (rr_length _ _ _ _) HhR.out ?_) | (with_reducible refine ldA' rfl rfl rfl b15 (rc_q _) ?_) | (with_reducible refine ldX rfl rfl rfl b13 (rc_q _) (rc_q _) ?_) | (with_reducible refine ldY rfl rfl rfl b13 (rc_q _) (rc_q _) ?_))
  clear f
  generalize (w1.alloc (.cells (rr false 0 false 0).toArray 27)).setRow w1.heap.size (R).toArray = W at *
  generalize w1.heap.size = pl_b17 at *
  refine (HC1.out _).mono ?_
  rintro e w1 ⟨rfl, h1⟩
  replace b13 := b13.call h1
  replace b14 := b14.call h1
  replace b15 := b15.call h1
  replace b17 := b17.call h1
  replace hb := bthen hb h1
  clear h1
  go_wp2_with (first | (with_reducible refine ldA' rfl rfl rfl b15 (rc_q _) ?_) | (with_reducible refine ldX rfl rfl rfl b14 (rc_q _) (rc_q _) ?_) | (with_reducible refine ldY rfl rfl rfl b14 (rc_q _) (rc_q _) ?_))
  refine (HC2.out _).mono ?_
  rintro e w1 ⟨rfl, h1⟩
  replace b13 := b13.call h1
  replace b14 := b14.call h1
  replace b15 := b15.call h1
  replace b17 := b17.call h1
  replace hb := bthen hb h1
  clear h1
  have hcase : (u = 0 ∨ (u = -1 ∧ v = 0) ∨ (u = -1 ∧ v = 1) ∨ (u = 1 ∧ v = 0) ∨ (u = 1 ∧ v = -1)) := by
    rcases (show u = -1 ∨ u = 0 ∨ u = 1 by omega) with rfl | rfl | rfl <;> rcases (show v = -1 ∨ v = 0 ∨ v = 1 by omega) with rfl | rfl | rfl <;> first | (exfalso; revert huv; decide) | omega
  have hwr : IntKind.i64.wrap (u * v) = u * v := by
    rcases hcase with rfl | ⟨rfl, rfl⟩ | ⟨rfl, rfl⟩ | ⟨rfl, rfl⟩ | ⟨rfl, rfl⟩ <;> first | rfl | (rw [Int.zero_mul]; rfl)
  have hbne : (X1 != X2) = true := bne_iff_ne.2 hne
  clear hcase
  go_wp2_with (first | (with_reducible refine ldPt rfl rfl rfl b13 (rc_q _) (rc_q _) ?_) | (with_reducible refine ldPt rfl rfl rfl b14 (rc_q _) (rc_q _) ?_) | (with_reducible refine ldA' rfl rfl rfl b15 (rc_q _) ?_) | (with_reducible refine ldA' rfl rfl rfl b17 HhR.out ?_) | (with_reducible refine bdP rfl rfl rfl rfl (rc_q _) HhR.out ?_))
  refine (HO.out _).mono ?_
  rintro e w1 ⟨rfl, h1⟩
  replace b13 := b13.call h1
  replace b14 := b14.call h1
  replace b15 := b15.call h1
  replace b17 := b17.call h1
  replace hb := bthen hb h1
  clear h1
  go_wp2_with (first | (with_reducible refine ldPt rfl rfl rfl b13 (rc_q _) (rc_q _) ?_) | (with_reducible refine ldPt rfl rfl rfl b14 (rc_q _) (rc_q _) ?_) | (with_reducible refine ldA' rfl rfl rfl b17 HhR.out ?_))
  refine (HXA.out _).mono ?_
  rintro e w1 ⟨rfl, h1⟩
  replace b15 := b15.call h1
  replace hb := bthen hb h1
  clear h1
  clear b13 b14 b17
  rcases HZZ.out with hyy | ⟨rfl, rfl⟩
  · subst hyy
    have f := Blk.new w1 (rr false 0 false 0) 27 rfl
    have b25 := laid_n w1 (rr false 0 false 0) (Z) 27
    replace b15 := laid_o b15 (rr false 0 false 0) (Z) 27
    replace hb := laid_b hb (rr false 0 false 0) (Z) 27
    go_wp2_with (first | (with_reducible refine alR rfl rfl ?_) | (with_reducible refine stQ rfl rfl rfl rfl f (rr_length _ _ _ _) HhZ.out ?_))
    clear f
    generalize (w1.alloc (.cells (rr false 0 false 0).toArray 27)).setRow w1.heap.size (Z).toArray = W at *
    generalize w1.heap.size = pl_b25 at *
    go_ret
    exact ⟨rfl, hb⟩
  · by_cases hyy : Y1 = Y2
    · subst hyy
      have f := Blk.new w1 (rr false 0 false 0) 27 rfl
      have b25 := laid_n w1 (rr false 0 false 0) (fq x) 27
      replace b15 := laid_o b15 (rr false 0 false 0) (fq x) 27
      replace hb := laid_b hb (rr false 0 false 0) (fq x) 27
      go_wp2_with (first | (with_reducible refine alR rfl rfl ?_) | (with_reducible refine stQ rfl rfl rfl rfl f (rr_length _ _ _ _) (rc_q _) ?_))
      clear f
      generalize (w1.alloc (.cells (rr false 0 false 0).toArray 27)).setRow w1.heap.size (fq x).toArray = W at *
      generalize w1.heap.size = pl_b25 at *
      go_ret
      exact ⟨rfl, hb⟩
    · have f := Blk.new w1 (rr false 0 false 0) 27 rfl
      have b25 := laid_n w1 (rr false 0 false 0) (fq x) 27
      replace b15 := laid_o b15 (rr false 0 false 0) (fq x) 27
      replace hb := laid_b hb (rr false 0 false 0) (fq x) 27
      go_wp2_with (first | (with_reducible refine alR rfl rfl ?_) | (with_reducible refine stQ rfl rfl rfl rfl f (rr_length _ _ _ _) (rc_q _) ?_) | (refine ldPg (by rfl) rfl rfl b25 (part_all _) (rc_q _).whole ?_) | (refine ldPg (by rfl) rfl rfl b15 (part_all _) (rc_q _).whole ?_) | (refine eqqh (by rfl) rfl rfl rfl fx ?_))
      clear f
      generalize (w1.alloc (.cells (rr false 0 false 0).toArray 27)).setRow w1.heap.size (fq x).toArray = W at *
      generalize w1.heap.size = pl_b25 at *
      go_ret
      exact ⟨rfl, hb⟩
theorem cq_in (x y : Rat) : -1 ≤ cq x y ∧ cq x y ≤ 1 := by
  rcases cq_rng x y with h | h | h <;> rw [h] <;> decide
theorem lh_any {X1 Y1 X2 Y2 n d : Int} (h1 : I8 X1) (h2 : I8 Y1) (h3 : I8 X2) (h4 : I8 Y2) (hn : 0 ≤ n ∧ n ≤ 255) (hd : 0 ≤ d ∧ d ≤ 255) (w : World) :
    Calls Tryz.prog 4 #[.int .i8 X1, .int .i8 Y1, .int .i8 X2, .int .i8 Y2, .int .u8 n, .int .u8 d] w fun e w' => e = .returned (.bool true) ∧ Below w.heap.size w w' := by
  have k1 := h1; have k2 := h2; have k3 := h3; have k4 := h4
  unfold I8 at k1 k2 k3 k4
  have A1 := Atref_q (n := X1) (m := Y1) (by omega) (by omega)
  have A2 := Atref_q (n := X2) (m := Y2) (by omega) (by omega)
  have OF := Ofref_q (n := n) (d := d + 1) (by omega) (by omega) (by omega)
  have ga : Gd ((X1 : Int) : Rat) ((Y1 : Int) : Rat) := gd_i (by omega) (by omega)
  have gc : Gd ((X2 : Int) : Rat) ((Y2 : Int) : Rat) := gd_i (by omega) (by omega)
  have hx9 : Bq 9 (Rat.divInt n (d + 1)) := bq_div (j := 9) (k := 9) (by omega) (by show n.natAbs < 2 ^ 9; omega) (by show (d + 1).natAbs < 2 ^ 9; omega) _ (Nat.le_refl _) (Nat.le_refl _)
  obtain ⟨x, hx⟩ : ∃ x, Rat.divInt n (d + 1) = x := ⟨_, rfl⟩
  rw [hx] at OF hx9
  have hx60 : Bq 60 x := bq_mono hx9 (by omega)
  have C1 := CmpRatref_q hx60 (by omega) ga.1 (by omega)
  have C2 := CmpRatref_q hx60 (by omega) gc.1 (by omega)
  have hinj : ((X1 : Int) : Rat) = ((X2 : Int) : Rat) ↔ X1 = X2 := Rat.intCast_inj
  have hinj' : ((Y1 : Int) : Rat) = ((Y2 : Int) : Rat) ↔ Y1 = Y2 := Rat.intCast_inj
  have e := hq_uv ((X1 : Int) : Rat) ((X2 : Int) : Rat) x
  by_cases hne : X1 = X2 ∨ hq ((X1 : Int) : Rat) ((X2 : Int) : Rat) x = false
  · have Y := YAt_out ga gc hx60 (hne.imp hinj.2 id)
    refine lh_out h1 h2 h3 h4 hn hd (cq_in _ _) (cq_in _ _) (rc_rr _ _ _ _) A1 A2 OF Y C1 C2 ?_ w
    refine hne.imp id fun h => ?_
    rw [h] at e
    intro hh
    rw [decide_eq_true hh] at e
    cases e
  · have hne1 : X1 ≠ X2 := fun h => hne (.inl h)
    have hq1 : hq ((X1 : Int) : Rat) ((X2 : Int) : Rat) x = true := by
      cases h : hq ((X1 : Int) : Rat) ((X2 : Int) : Rat) x with
      | true => rfl
      | false => exact absurd (.inr h) hne
    have hneq : ((X1 : Int) : Rat) ≠ ((X2 : Int) : Rat) := fun h => hne1 (hinj.1 h)
    have Y := YAt_in ga gc hx60 hneq hq1
    have by60 := bq_atq (ax := X1) (ay := Y1) (cx := X2) (cy := Y2) (by omega) (by omega) (by omega) (by omega) hx9 hneq
    have O := On_q ga gc ⟨hx60, by60⟩
    rw [atq_on hneq hq1] at O
    have huv : cq x ((X1 : Int) : Rat) * cq x ((X2 : Int) : Rat) ≤ 0 := by
      rw [hq1] at e
      exact of_decide_eq_true e.symm
    by_cases hy : Y1 = Y2
    · have XA := XAt_out ga gc by60 (.inl (hinj'.2 hy))
      exact lh_in h1 h2 h3 h4 hn hd (cq_in _ _) (cq_in _ _) (rc_q _) (rc_rr _ _ _ _) A1 A2 OF Y C1 C2 O XA hne1 huv (.inl hy) (hx60.f2 (by omega)) w
    · have hyq : ((Y1 : Int) : Rat) ≠ ((Y2 : Int) : Rat) := fun h => hy (hinj'.1 h)
      have XA := XAt_in ga gc by60 hyq (atq_in hneq hq1)
      rw [atq_back hneq hq1 hyq] at XA
      exact lh_in h1 h2 h3 h4 hn hd (cq_in _ _) (cq_in _ _) (rc_q _) (rc_q _) A1 A2 OF Y C1 C2 O XA hne1 huv (.inr ⟨rfl, rfl⟩) (hx60.f2 (by omega)) w
end Go.Proofs.YtkknaigpdnokkaaGreat

/- LineHeights answers true of every six numbers. No conditions. -/
namespace Go.Proofs.YtkknaigpdnokkaaGreat
set_option linter.unusedVariables false
open Go.RowKit
theorem i8_h {a : Int} (h : (Lit.int .i8 a).wf = true) : I8 a := by
  simp only [Lit.wf, Bool.and_eq_true, decide_eq_true_eq] at h
  exact h
theorem u8_h {a : Int} (h : (Lit.int .u8 a).wf = true) : 0 ≤ a ∧ a ≤ 255 := by
  simp only [Lit.wf, Bool.and_eq_true, decide_eq_true_eq] at h
  exact h
theorem lh_all (a0 : Int) (w0 : (Lit.int .i8 a0).wf = true) (a1 : Int) (w1 : (Lit.int .i8 a1).wf = true) (a2 : Int) (w2 : (Lit.int .i8 a2).wf = true) (a3 : Int) (w3 : (Lit.int .i8 a3).wf = true) (a4 : Int) (w4 : (Lit.int .u8 a4).wf = true) (a5 : Int) (w5 : (Lit.int .u8 a5).wf = true) (w : World) :
    Calls Tryz.prog 4 #[.int .i8 a0, .int .i8 a1, .int .i8 a2, .int .i8 a3, .int .u8 a4, .int .u8 a5] w fun e w' => e = .returned (.bool true) ∧ Below w.heap.size w w' :=
  lh_any (i8_h w0) (i8_h w1) (i8_h w2) (i8_h w3) (u8_h w4) (u8_h w5) w
end Go.Proofs.YtkknaigpdnokkaaGreat
namespace Go.Proofs.YtkknaigpdnokkaaGreat.lineHeights
open Go.ChangeShapes Go.WideShapes Go.ChangeAt Go.RowKit
set_option linter.unusedVariables false
theorem own : ownKnob Tryz.prog.godebug = none := by kernel_rfl
set_option maxRecDepth 100000 in
theorem lifted (os : Os) (started : os.Started) (H : Type) (enc : TypeId × Value → H) :
    ReturnsInHanded {} Tryz.checked os 4 .any (Rows.lineHeightsSpec.pre6 enc Tryz.prog Tryz.f4 Rows.lineHeightsRow.domain false) (Rows.lineHeightsSpec.post enc Tryz.prog Tryz.f4 false true false false) := by
  refine returnsInHanded_of_change (C := Tryz.checked) own started (by kernel_rfl) Tryz.func4
    (ChangeSpec.witness6 (enc := enc) (C := Tryz.checked) false ⟨#[], #[.int .i8 0, .int .i8 0, .int .i8 0, .int .i8 0, .int .u8 0, .int .u8 0], []⟩ 8 (by kernel_rfl) (by kernel_rfl) (by kernel_rfl) (by kernel_rfl)) ?_
  intro W base args ds gs before hval0 hW hcnd _
  have hval : ∀ (j : Nat) t v, Tryz.f4.params[j]? = some t → args[j]? = some v → Value.okWide Tryz.prog W .any base t v := hval0
  have hW' := hW
  obtain ⟨p, q, hA0, hV, rfl, hfz, hnd⟩ := hW
  have hA : DataW.TrodAll enc Tryz.prog W 0 (fun _ => true) true Tryz.f4.params.toList args.toList ds p := hA0
  rw [Tryz.params4] at hA hval
  obtain ⟨v0, vs0, d0, ds0, p0, q0, hargs, rfl, rfl, h0, r0⟩ := trodAll_cons hA
  obtain ⟨v1, vs1, d1, ds1, p1, q1, rfl, rfl, rfl, h1, r1⟩ := trodAll_cons r0
  obtain ⟨v2, vs2, d2, ds2, p2, q2, rfl, rfl, rfl, h2, r2⟩ := trodAll_cons r1
  obtain ⟨v3, vs3, d3, ds3, p3, q3, rfl, rfl, rfl, h3, r3⟩ := trodAll_cons r2
  obtain ⟨v4, vs4, d4, ds4, p4, q4, rfl, rfl, rfl, h4, r4⟩ := trodAll_cons r3
  obtain ⟨v5, vs5, d5, ds5, p5, q5, rfl, rfl, rfl, h5, r5⟩ := trodAll_cons r4
  obtain ⟨rfl, rfl, rfl⟩ := trodAll_nil r5
  obtain rfl : args = #[v0, v1, v2, v3, v4, v5] := by cases args; simp_all
  obtain ⟨rfl, rfl⟩ := trodVars_none hV
  obtain ⟨a0, rfl, rfl, rfl, w0⟩ := open_int Tryz.underlying38 (hval 0 38 v0 rfl rfl) h0
  obtain ⟨a1, rfl, rfl, rfl, w1⟩ := open_int Tryz.underlying38 (hval 1 38 v1 rfl rfl) h1
  obtain ⟨a2, rfl, rfl, rfl, w2⟩ := open_int Tryz.underlying38 (hval 2 38 v2 rfl rfl) h2
  obtain ⟨a3, rfl, rfl, rfl, w3⟩ := open_int Tryz.underlying38 (hval 3 38 v3 rfl rfl) h3
  obtain ⟨a4, rfl, rfl, rfl, w4⟩ := open_int Tryz.underlying5 (hval 4 5 v4 rfl rfl) h4
  obtain ⟨a5, rfl, rfl, rfl, w5⟩ := open_int Tryz.underlying5 (hval 5 5 v5 rfl rfl) h5
  clear hA0 hval0
  simp only [List.append_nil] at hW'
  refine (lh_all a0 w0 a1 w1 a2 w2 a3 w3 a4 w4 a5 w5 W).mono fun e W' ⟨he, hg⟩ => ?_
  subst he
  exact ⟨_, rfl, post_of_below (pa := []) (pv := []) hW' (fun _ _ _ => (trodAll_cons_mk (shut_bool Tryz.underlying4 _) trodAll_mk0)) (fun sp _ => (trodAll_cons_mk (shut_int Tryz.underlying38 w0) (trodAll_cons_mk (shut_int Tryz.underlying38 w1) (trodAll_cons_mk (shut_int Tryz.underlying38 w2) (trodAll_cons_mk (shut_int Tryz.underlying38 w3) (trodAll_cons_mk (shut_int Tryz.underlying5 w4) (trodAll_cons_mk (shut_int Tryz.underlying5 w5) trodAll_mk0))))))) (fun _ _ => rfl) rfl
    hg (ok_one (by kernel_rfl) rfl (okWide_bool_mk Tryz.underlying4 _))⟩
theorem over : Rows.lineHeightsRow.holds Tryz.pinned (OpenSpec.ofChange Rows.lineHeightsSpec) :=
  OpenClaim.holds_of_wide 4 Tryz.f4 rfl rfl rfl rfl rfl rfl rfl ⟨rfl, rfl, rfl, rfl, rfl⟩ rfl rfl rfl rfl rfl (by kernel_rfl) Tryz.func4 (by kernel_rfl)
    (of_decide_eq_true (by kernel_rfl)) (by unfold Func.isWrapper; first | (rw [if_pos (by decide +kernel)]; kernel_rfl) | (rw [if_neg (by decide +kernel)]; exact ⟨rfl, rfl⟩))
    (fun os started H enc _ => lifted os started H enc)
end Go.Proofs.YtkknaigpdnokkaaGreat.lineHeights
namespace Go.Proofs.YtkknaigpdnokkaaGreat
theorem lineHeights_holds : Rows.LineHeightsSaid := lineHeights.over
#print axioms lineHeights_holds
end Go.Proofs.YtkknaigpdnokkaaGreat
