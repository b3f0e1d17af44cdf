/- Joined of: Tct Tga Tcz. -/
import Derived.Test.YtckolhalggcenaaGreatTcr
import Derived.Test.YtckolhalggcenaaGreatTru
import Derived.Deep.DeepCutAuto
import Derived.Test.YtckolhalggcenaaGreatPnq
import Derived.Test.YtckolhalggcenaaGreatTcy
import Derived.Test.YtckolhalggcenaaGreatOpp
import Derived.Test.YtckolhalggcenaaGreatMrf
/- What TriCorners answers, of three points that may be. -/
namespace Go.Proofs.YtckolhalggcenaaGreat
set_option linter.unusedSimpArgs false
set_option linter.unusedVariables false
open Go.RowKit
set_option maxRecDepth 100000
set_option maxHeartbeats 4000000 in
theorem tcn_a {A B C D E F : List Value} (hA : Rc A) (hB : Rc B) (hC : Rc C) (hD : Rc D) (hE : Rc E) (hF : Rc F) (T : Tl 5 #[vl (A ++ B), vl (C ++ D), vl (E ++ F)] (.tuple #[.int .i64 0, .bool false])) :
    Tl 3 #[vl (A ++ B), vl (C ++ D), vl (E ++ F)] (.bool true) := by
  intro w
  unfold vl at *
  have HT := Lib.hid T
  unfold Tl at HT
  clear T
  have HA := Lib.hid hA
  have HB := Lib.hid hB
  have HC := Lib.hid hC
  have HD := Lib.hid hD
  have HE := Lib.hid hE
  have HF := Lib.hid hF
  clear hA hB hC hD hE hF
  have b3 := ((Blk.new w (A ++ B) 29 rfl).old (.cells (C ++ D).toArray 29)).old (.cells (E ++ F).toArray 29)
  have b4 := (Blk.new (w.alloc (.cells (A ++ B).toArray 29)) (C ++ D) 29 (b := w.heap.size + 1) (by simp)).old (.cells (E ++ F).toArray 29)
  have b5 := Blk.new ((w.alloc (.cells (A ++ B).toArray 29)).alloc (.cells (C ++ D).toArray 29)) (E ++ F) 29 (b := w.heap.size + 1 + 1) (by simp)
  have hb : Below w.heap.size w (((w.alloc (.cells (A ++ B).toArray 29)).alloc (.cells (C ++ D).toArray 29)).alloc (.cells (E ++ F).toArray 29)) := (((Below.refl _ _).alloc (Nat.le_refl _) _).alloc (by simp) _).alloc (by simp; omega) _
  go_enter Tryz.func3, Tryz.ntmps3
  go_wp2_with fail
  refine (known5_any _).mono ?_
  rintro e w1 ⟨rfl, h1⟩
  replace b3 := b3.call h1
  replace b4 := b4.call h1
  replace b5 := b5.call h1
  replace hb := bthen hb h1
  clear h1
  go_wp2_with (first | (with_reducible refine ldPt rfl rfl rfl b3 HA.out HB.out ?_) | (with_reducible refine ldPt rfl rfl rfl b4 HC.out HD.out ?_) | (with_reducible refine ldPt rfl rfl rfl b5 HE.out HF.out ?_))
  refine (HT.out _).mono ?_
  rintro e w1 ⟨rfl, h1⟩
  replace b3 := b3.call h1
  replace b4 := b4.call h1
  replace b5 := b5.call h1
  replace hb := bthen hb h1
  clear h1
  go_wp2
  go_ret
  exact ⟨rfl, hb⟩
set_option maxHeartbeats 4000000 in
theorem tcn_b {A B C D E F : List Value} (hA : Rc A) (hB : Rc B) (hC : Rc C) (hD : Rc D) (hE : Rc E) (hF : Rc F) (T : Tl 5 #[vl (A ++ B), vl (C ++ D), vl (E ++ F)] (.tuple #[.int .i64 0, .bool true])) :
    Tl 3 #[vl (A ++ B), vl (C ++ D), vl (E ++ F)] (.bool true) := by
  intro w
  unfold vl at *
  have HT := Lib.hid T
  unfold Tl at HT
  clear T
  have HA := Lib.hid hA
  have HB := Lib.hid hB
  have HC := Lib.hid hC
  have HD := Lib.hid hD
  have HE := Lib.hid hE
  have HF := Lib.hid hF
  clear hA hB hC hD hE hF
  have b3 := ((Blk.new w (A ++ B) 29 rfl).old (.cells (C ++ D).toArray 29)).old (.cells (E ++ F).toArray 29)
  have b4 := (Blk.new (w.alloc (.cells (A ++ B).toArray 29)) (C ++ D) 29 (b := w.heap.size + 1) (by simp)).old (.cells (E ++ F).toArray 29)
  have b5 := Blk.new ((w.alloc (.cells (A ++ B).toArray 29)).alloc (.cells (C ++ D).toArray 29)) (E ++ F) 29 (b := w.heap.size + 1 + 1) (by simp)
  have hb : Below w.heap.size w (((w.alloc (.cells (A ++ B).toArray 29)).alloc (.cells (C ++ D).toArray 29)).alloc (.cells (E ++ F).toArray 29)) := (((Below.refl _ _).alloc (Nat.le_refl _) _).alloc (by simp) _).alloc (by simp; omega) _
  go_enter Tryz.func3, Tryz.ntmps3
  go_wp2_with fail
  refine (known5_any _).mono ?_
  rintro e w1 ⟨rfl, h1⟩
  replace b3 := b3.call h1
  replace b4 := b4.call h1
  replace b5 := b5.call h1
  replace hb := bthen hb h1
  clear h1
  go_wp2_with (first | (with_reducible refine ldPt rfl rfl rfl b3 HA.out HB.out ?_) | (with_reducible refine ldPt rfl rfl rfl b4 HC.out HD.out ?_) | (with_reducible refine ldPt rfl rfl rfl b5 HE.out HF.out ?_))
  refine (HT.out _).mono ?_
  rintro e w1 ⟨rfl, h1⟩
  replace b3 := b3.call h1
  replace b4 := b4.call h1
  replace b5 := b5.call h1
  replace hb := bthen hb h1
  clear h1
  go_wp2
  go_ret
  exact ⟨rfl, hb⟩
set_option maxHeartbeats 4000000 in
theorem tcn_c {A B C D E F : List Value} (hA : Rc A) (hB : Rc B) (hC : Rc C) (hD : Rc D) (hE : Rc E) (hF : Rc F) (T : Tl 5 #[vl (A ++ B), vl (C ++ D), vl (E ++ F)] (.tuple #[.int .i64 (-1), .bool true])) :
    Tl 3 #[vl (A ++ B), vl (C ++ D), vl (E ++ F)] (.bool true) := by
  intro w
  unfold vl at *
  have HT := Lib.hid T
  unfold Tl at HT
  clear T
  have HA := Lib.hid hA
  have HB := Lib.hid hB
  have HC := Lib.hid hC
  have HD := Lib.hid hD
  have HE := Lib.hid hE
  have HF := Lib.hid hF
  clear hA hB hC hD hE hF
  have b3 := ((Blk.new w (A ++ B) 29 rfl).old (.cells (C ++ D).toArray 29)).old (.cells (E ++ F).toArray 29)
  have b4 := (Blk.new (w.alloc (.cells (A ++ B).toArray 29)) (C ++ D) 29 (b := w.heap.size + 1) (by simp)).old (.cells (E ++ F).toArray 29)
  have b5 := Blk.new ((w.alloc (.cells (A ++ B).toArray 29)).alloc (.cells (C ++ D).toArray 29)) (E ++ F) 29 (b := w.heap.size + 1 + 1) (by simp)
  have hb : Below w.heap.size w (((w.alloc (.cells (A ++ B).toArray 29)).alloc (.cells (C ++ D).toArray 29)).alloc (.cells (E ++ F).toArray 29)) := (((Below.refl _ _).alloc (Nat.le_refl _) _).alloc (by simp) _).alloc (by simp; omega) _
  go_enter Tryz.func3, Tryz.ntmps3
  go_wp2_with fail
  refine (known5_any _).mono ?_
  rintro e w1 ⟨rfl, h1⟩
  replace b3 := b3.call h1
  replace b4 := b4.call h1
  replace b5 := b5.call h1
  replace hb := bthen hb h1
  clear h1
  go_wp2_with (first | (with_reducible refine ldPt rfl rfl rfl b3 HA.out HB.out ?_) | (with_reducible refine ldPt rfl rfl rfl b4 HC.out HD.out ?_) | (with_reducible refine ldPt rfl rfl rfl b5 HE.out HF.out ?_))
  refine (HT.out _).mono ?_
  rintro e w1 ⟨rfl, h1⟩
  replace b3 := b3.call h1
  replace b4 := b4.call h1
  replace b5 := b5.call h1
  replace hb := bthen hb h1
  clear h1
  go_wp2
  go_ret
  exact ⟨rfl, hb⟩
end Go.Proofs.YtckolhalggcenaaGreat

/- Geometry of a triangle's corners. -/
namespace Go.Proofs.YtckolhalggcenaaGreat
set_option linter.unusedSimpArgs false
set_option linter.unusedVariables false
open Go.RowKit
set_option maxRecDepth 100000
theorem cqs (x u : Rat) : (x < u ∧ cq x u = -1) ∨ (x = u ∧ cq x u = 0) ∨ (u < x ∧ cq x u = 1) := by
  unfold cq
  by_cases h : x < u
  · exact .inl ⟨h, by rw [if_pos h]⟩
  · by_cases h' : u < x
    · exact .inr (.inr ⟨h', by rw [if_neg h, if_pos h']⟩)
    · exact .inr (.inl ⟨by grind, by rw [if_neg h, if_neg h']⟩)
theorem crs_rot (ax ay bx by' cx cy : Rat) : crs bx by' cx cy ax ay = crs ax ay bx by' cx cy := by unfold crs; grind
theorem crs_fl3 (ax ay bx by' cx cy : Rat) : crs ax ay cx cy bx by' = - crs ax ay bx by' cx cy := by unfold crs; grind
theorem dt_sy3 (ax ay bx by' cx cy : Rat) : dt ax ay cx cy bx by' = dt ax ay bx by' cx cy := by unfold dt; grind
theorem sqr_nn (x : Rat) : 0 ≤ x * x := by
  rcases Rat.le_total (a := 0) (b := x) with h | h
  · exact Rat.mul_nonneg h h
  · have : 0 ≤ (-x) * (-x) := Rat.mul_nonneg (by grind) (by grind)
    grind
theorem sqr_z {x y : Rat} (h : x * x + y * y ≤ 0) : x = 0 ∧ y = 0 := by
  have p (z : Rat) (hz : ¬ z = 0) : 0 < z * z := by
    rcases Rat.le_total (a := 0) (b := z) with h | h
    · exact Rat.mul_pos (by grind) (by grind)
    · have : 0 < (-z) * (-z) := Rat.mul_pos (by grind) (by grind)
      grind
  have h1 := sqr_nn x
  have h2 := sqr_nn y
  constructor
  · refine Classical.byContradiction fun h3 => ?_
    have := p x h3
    grind
  · refine Classical.byContradiction fun h3 => ?_
    have := p y h3
    grind
theorem one_blunt {ax ay bx by' cx cy : Rat} (h : 0 < crs ax ay bx by' cx cy) (h1 : dt ax ay bx by' cx cy ≤ 0) : 0 < dt bx by' cx cy ax ay := by
  refine Classical.byContradiction fun h2 => ?_
  have e : dt ax ay bx by' cx cy + dt bx by' cx cy ax ay = (bx - ax) * (bx - ax) + (by' - ay) * (by' - ay) := by unfold dt; grind
  obtain ⟨z1, z2⟩ := sqr_z (x := bx - ax) (y := by' - ay) (by grind)
  unfold crs at h
  rw [z1, z2] at h
  grind
theorem den_nz (x : Rat) : ((x.den : Int) : Rat) ≠ 0 := by
  intro e
  have := x.den_nz
  have h : ((x.den : Int) : Rat) = ((0 : Int) : Rat) := e
  have := Rat.intCast_inj.1 h
  omega
theorem num_q (x : Rat) : x * ((x.den : Int) : Rat) = ((x.num : Int) : Rat) := by
  have h : ((x.num : Int) : Rat) / ((x.den : Int) : Rat) = x := by
    rw [← Rat.divInt_eq_div]; exact Rat.num_divInt_den x
  have := den_nz x
  grind
theorem dif_q (x u : Rat) : (x - u) * (((x.den : Int) : Rat) * ((u.den : Int) : Rat)) = ((x.num * u.den - u.num * x.den : Int) : Rat) := by
  have h1 := num_q x
  have h2 := num_q u
  simp only [Rat.intCast_sub, Rat.intCast_mul]
  rw [← h1, ← h2]
  grind
def tK (ax ay bx by' cx cy : Rat) : Rat := (((bx.den : Int) : Rat) * ((ax.den : Int) : Rat)) * (((by'.den : Int) : Rat) * ((ay.den : Int) : Rat)) * (((cx.den : Int) : Rat) * ((ax.den : Int) : Rat)) * (((cy.den : Int) : Rat) * ((ay.den : Int) : Rat))
def tC (ax ay bx by' cx cy : Rat) : Int := (bx.num * ax.den - ax.num * bx.den) * (cy.num * ay.den - ay.num * cy.den) * ((by'.den * ay.den) * (cx.den * ax.den)) - (by'.num * ay.den - ay.num * by'.den) * (cx.num * ax.den - ax.num * cx.den) * ((bx.den * ax.den) * (cy.den * ay.den))
def tT (ax ay bx by' cx cy : Rat) : Int := (bx.num * ax.den - ax.num * bx.den) * (cx.num * ax.den - ax.num * cx.den) * ((by'.den * ay.den) * (cy.den * ay.den)) + (by'.num * ay.den - ay.num * by'.den) * (cy.num * ay.den - ay.num * cy.den) * ((bx.den * ax.den) * (cx.den * ax.den))
theorem tK_nz (ax ay bx by' cx cy : Rat) : tK ax ay bx by' cx cy ≠ 0 := by
  have h1 := den_nz ax
  have h2 := den_nz ay
  have h3 := den_nz bx
  have h4 := den_nz by'
  have h5 := den_nz cx
  have h6 := den_nz cy
  have m {x y : Rat} (hx : x ≠ 0) (hy : y ≠ 0) : x * y ≠ 0 := by grind
  unfold tK
  exact m (m (m (m h3 h1) (m h4 h2)) (m h5 h1)) (m h6 h2)
theorem K_cr {x1 x2 x3 x4 d1 d2 d3 d4 : Rat} {E1 E2 E3 E4 F1 F2 F3 F4 : Int} (e1 : x1 * d1 = E1) (e2 : x2 * d2 = E2) (e3 : x3 * d3 = E3) (e4 : x4 * d4 = E4) (f1 : d1 = F1) (f2 : d2 = F2) (f3 : d3 = F3) (f4 : d4 = F4) :
    (x1 * x2 - x3 * x4) * (d1 * d3 * d4 * d2) = ((E1 * E2 * (F3 * F4) - E3 * E4 * (F1 * F2) : Int) : Rat) := by
  simp only [Rat.intCast_sub, Rat.intCast_mul]
  rw [← e1, ← e2, ← e3, ← e4, ← f1, ← f2, ← f3, ← f4]
  grind
theorem K_dt {x1 x2 x3 x4 d1 d2 d3 d4 : Rat} {E1 E2 E3 E4 F1 F2 F3 F4 : Int} (e1 : x1 * d1 = E1) (e2 : x2 * d2 = E2) (e3 : x3 * d3 = E3) (e4 : x4 * d4 = E4) (f1 : d1 = F1) (f2 : d2 = F2) (f3 : d3 = F3) (f4 : d4 = F4) :
    (x1 * x4 + x3 * x2) * (d1 * d3 * d4 * d2) = ((E1 * E4 * (F3 * F2) + E3 * E2 * (F1 * F4) : Int) : Rat) := by
  simp only [Rat.intCast_add, Rat.intCast_mul]
  rw [← e1, ← e2, ← e3, ← e4, ← f1, ← f2, ← f3, ← f4]
  grind
theorem crs_K (ax ay bx by' cx cy : Rat) : crs ax ay bx by' cx cy * tK ax ay bx by' cx cy = (tC ax ay bx by' cx cy : Rat) := 
  K_cr (dif_q bx ax) (dif_q cy ay) (dif_q by' ay) (dif_q cx ax) (Rat.intCast_mul _ _).symm (Rat.intCast_mul _ _).symm (Rat.intCast_mul _ _).symm (Rat.intCast_mul _ _).symm
theorem dt_K (ax ay bx by' cx cy : Rat) : dt ax ay bx by' cx cy * tK ax ay bx by' cx cy = (tT ax ay bx by' cx cy : Rat) :=
  K_dt (dif_q bx ax) (dif_q cy ay) (dif_q by' ay) (dif_q cx ax) (Rat.intCast_mul _ _).symm (Rat.intCast_mul _ _).symm (Rat.intCast_mul _ _).symm (Rat.intCast_mul _ _).symm
theorem quo_of {c d : Rat} {C T : Int} {K : Rat} (hK : K ≠ 0) (hd : d ≠ 0) (h1 : c * K = (C : Rat)) (h2 : d * K = (T : Rat)) : c / d = Rat.divInt C T ∧ T ≠ 0 := by
  have hT : (T : Rat) ≠ 0 := by rw [← h2]; grind
  have hT' : T ≠ 0 := by intro e; rw [e] at hT; exact hT rfl
  refine ⟨?_, hT'⟩
  rw [Rat.divInt_eq_div, ← h1, ← h2]
  grind
theorem sz_one2 {x : Rat} (h : Bq 60 x) : Sz 60 x.num ∧ Sz 60 (x.den : Int) := ⟨h.1, h.2⟩
theorem sz_dif {x u : Rat} (h : Bq 60 x) (h' : Bq 60 u) : Sz 121 (x.num * u.den - u.num * x.den) ∧ Sz 120 ((x.den : Int) * u.den) := by
  refine ⟨?_, sz_mul h.2 h'.2⟩
  rw [Int.sub_eq_add_neg]
  exact sz_add (sz_mul h.1 h'.2) (sz_neg (sz_mul h'.1 h.2))
section
variable {ax ay bx by' cx cy : Rat} (ha : Gd ax ay) (hb : Gd bx by') (hc : Gd cx cy)
include ha hb hc
theorem sz_tC : Sz 483 (tC ax ay bx by' cx cy) := by
  unfold tC
  rw [Int.sub_eq_add_neg]
  obtain ⟨p1, p2⟩ := sz_dif hb.1 ha.1
  obtain ⟨q1, q2⟩ := sz_dif hc.2 ha.2
  obtain ⟨r1, r2⟩ := sz_dif hb.2 ha.2
  obtain ⟨s1, s2⟩ := sz_dif hc.1 ha.1
  exact sz_add (sz_mul (sz_mul p1 q1) (sz_mul r2 s2)) (sz_neg (sz_mul (sz_mul r1 s1) (sz_mul p2 q2)))
theorem sz_tT : Sz 483 (tT ax ay bx by' cx cy) := by
  unfold tT
  obtain ⟨p1, p2⟩ := sz_dif hb.1 ha.1
  obtain ⟨q1, q2⟩ := sz_dif hc.2 ha.2
  obtain ⟨r1, r2⟩ := sz_dif hb.2 ha.2
  obtain ⟨s1, s2⟩ := sz_dif hc.1 ha.1
  exact sz_add (sz_mul (sz_mul p1 s1) (sz_mul r2 q2)) (sz_mul (sz_mul r1 q1) (sz_mul p2 s2))
/-- A tangent has no more than 483 bits. -/
theorem bq_tan (h0 : dt ax ay bx by' cx cy ≠ 0) : Bq 483 (crs ax ay bx by' cx cy / dt ax ay bx by' cx cy) := by
  obtain ⟨e, h⟩ := quo_of (tK_nz ax ay bx by' cx cy) h0 (crs_K ax ay bx by' cx cy) (dt_K ax ay bx by' cx cy)
  rw [e]
  exact bq_div h (sz_tC ha hb hc) (sz_tT ha hb hc) _ (Nat.le_refl _) (Nat.le_refl _)
end
/-- The tangent lies below 1 where the area is less than the product. -/
theorem tan_one {c d : Rat} (hd : 0 < d) : cq (c / d) ((1 : Int) : Rat) < 0 ↔ 0 < cq d c := by
  have e : c / d * d = c := by grind
  have h1 : c / d < ((1 : Int) : Rat) ↔ c < d := by
    rw [show ((1 : Int) : Rat) = 1 from rfl]
    constructor
    · intro h
      have := Rat.mul_pos (show 0 < 1 - c / d by grind) hd
      grind
    · intro h
      refine Classical.byContradiction fun h' => ?_
      have := Rat.mul_nonneg (show 0 ≤ c / d - 1 by grind) (show 0 ≤ d by grind)
      grind
  rcases cqs (c / d) ((1 : Int) : Rat) with ⟨h, e1⟩ | ⟨h, e1⟩ | ⟨h, e1⟩ <;> rcases cqs d c with ⟨h', e2⟩ | ⟨h', e2⟩ | ⟨h', e2⟩ <;> rw [e1, e2] <;> constructor <;> intro h0 <;> first | decide | (exfalso; grind)
end Go.Proofs.YtckolhalggcenaaGreat

/- TriCorners: of any three points; the row. -/
namespace Go.Proofs.YtckolhalggcenaaGreat
set_option linter.unusedSimpArgs false
set_option linter.unusedVariables false
open Go.RowKit
set_option maxRecDepth 100000
/-- The tangent as Sharp tells it; is the corner sharp? -/
def tnq (c d : Rat) : Rat := if 0 < d then c / d else Rat.divInt 0 1
section
variable {ax ay bx by' cx cy : Rat} (ha : Gd ax ay) (hb : Gd bx by') (hc : Gd cx cy)
include ha hb hc
theorem Sharp_all : Tl 6 #[vp ax ay, vp bx by', vp cx cy] (.tuple #[vl (fq (tnq (crs ax ay bx by' cx cy) (dt ax ay bx by' cx cy))), .bool (decide (0 < dt ax ay bx by' cx cy)), .bool true]) := by
  unfold tnq
  by_cases h : 0 < dt ax ay bx by' cx cy
  · rw [if_pos h, decide_eq_true h]
    refine Sharp_yes ha hb hc ?_ (by grind)
    rcases cqs (dt ax ay bx by' cx cy) 0 with ⟨h1, e⟩ | ⟨h1, e⟩ | ⟨h1, e⟩
    · grind
    · grind
    · rw [e]; rfl
  · rw [if_neg h, decide_eq_false h]
    refine Sharp_no ha hb hc ?_
    rcases cqs (dt ax ay bx by' cx cy) 0 with ⟨h1, e⟩ | ⟨h1, e⟩ | ⟨h1, e⟩
    · rw [e]; rfl
    · rw [e]; rfl
    · exact absurd h1 h
theorem bq_tnq : Bq 483 (tnq (crs ax ay bx by' cx cy) (dt ax ay bx by' cx cy)) := by
  unfold tnq
  by_cases h : 0 < dt ax ay bx by' cx cy
  · rw [if_pos h]; exact bq_tan ha hb hc (by grind)
  · rw [if_neg h]
    exact bq_div (by decide) (sz_zero 483) (sz_mono (j := 1) (by unfold Sz; decide) (by omega)) _ (Nat.le_refl _) (Nat.le_refl _)
theorem Cmp_tnq {u : Rat} (hu : Bq 60 u) : Tl 7 #[vl (fq (tnq (crs ax ay bx by' cx cy) (dt ax ay bx by' cx cy))), vl (fq u)] (.tuple #[.int .i64 (cq (tnq (crs ax ay bx by' cx cy) (dt ax ay bx by' cx cy)) u), .bool true]) :=
  CmpRatref_q (bq_tnq ha hb hc) (by omega) hu (by omega)
end
theorem low_iff {c d : Rat} (hc : 0 < c) : (decide (0 < d) && decide (cq (tnq c d) ((1 : Int) : Rat) < 0)) = decide (0 < cq d c) := by
  by_cases h : 0 < d
  · rw [decide_eq_true h, Bool.true_and, show tnq c d = c / d from if_pos h]
    exact decide_eq_decide.2 (tan_one h)
  · rw [decide_eq_false h, Bool.false_and]
    symm
    refine decide_eq_false ?_
    rcases cqs d c with ⟨h1, e⟩ | ⟨h1, e⟩ | ⟨h1, e⟩
    · rw [e]; decide
    · rw [e]; decide
    · exfalso; grind
/-- Of three points that turn left. -/
theorem tc_left {ax ay bx by' cx cy : Rat} (ha : Gd ax ay) (hb : Gd bx by') (hc : Gd cx cy) (h : 0 < crs ax ay bx by' cx cy) (e1 : cq (crs ax ay bx by' cx cy) 0 = 1)
    (T : Tl 5 #[vp ax ay, vp bx by', vp cx cy] (.tuple #[.int .i64 1, .bool true])) : Tl 3 #[vp ax ay, vp bx by', vp cx cy] (.bool true) := by
  have r1 := crs_rot ax ay bx by' cx cy
  have r2 := (crs_rot bx by' cx cy ax ay).trans r1
  have hu : Bq 60 ((1 : Int) : Rat) := bq_int (show (1 : Int).natAbs < 2 ^ 60 by decide) (by omega)
  have L0 := low_iff (d := dt ax ay bx by' cx cy) h
  have L1 := low_iff (d := dt bx by' cx cy ax ay) h
  have L2 := low_iff (d := dt cx cy ax ay bx by') h
  have S1 := Sharp_all hb hc ha
  have S2 := Sharp_all hc ha hb
  have C1 := Cmp_tnq hb hc ha hu
  have C2 := Cmp_tnq hc ha hb hu
  rw [r1] at S1 C1
  rw [r2] at S2 C2
  have b01 : ¬ 0 < dt ax ay bx by' cx cy → 0 < dt bx by' cx cy ax ay := fun h' => one_blunt h (by grind)
  have b12 : ¬ 0 < dt bx by' cx cy ax ay → 0 < dt cx cy ax ay bx by' := fun h' => one_blunt (by rw [r1]; exact h) (by grind)
  have b20 : ¬ 0 < dt cx cy ax ay bx by' → 0 < dt ax ay bx by' cx cy := fun h' => one_blunt (by rw [r2]; exact h) (by grind)
  have G1 := Good_q ha hb hc e1 (g0 := decide (0 < cq (dt ax ay bx by' cx cy) (crs ax ay bx by' cx cy))) (g1 := decide (0 < cq (dt bx by' cx cy ax ay) (crs ax ay bx by' cx cy))) (g2 := decide (0 < cq (dt cx cy ax ay bx by') (crs ax ay bx by' cx cy))) rfl rfl rfl
  have G2 := Good_q hb hc ha (by rw [r1]; exact e1) (g0 := decide (0 < cq (dt bx by' cx cy ax ay) (crs ax ay bx by' cx cy))) (g1 := decide (0 < cq (dt cx cy ax ay bx by') (crs ax ay bx by' cx cy))) (g2 := decide (0 < cq (dt ax ay bx by' cx cy) (crs ax ay bx by' cx cy))) (by rw [r1]) (by rw [r1]) (by rw [r1])
  have G3 := Good_not ha hc hb (c := -1) (by
    rw [crs_fl3]
    rcases cqs (-crs ax ay bx by' cx cy) 0 with ⟨_, e⟩ | ⟨h1, _⟩ | ⟨h1, _⟩
    · exact e
    · exfalso; grind
    · exfalso; grind) (.inr rfl)
  rw [← L0, ← L1, ← L2] at G1 G2
  clear L0 L1 L2
  have S0 := Sharp_all ha hb hc
  have C0 := Cmp_tnq ha hb hc hu
  have or2 {p q : Prop} [Decidable p] [Decidable q] (h' : ¬ p → q) : (decide p || decide q) = true := by
    by_cases hp : p
    · rw [decide_eq_true hp]; rfl
    · rw [decide_eq_true (h' hp), Bool.or_true]
  have m01 := or2 b01
  have m12 := or2 b12
  have m20 := or2 b20
  have or3 (a b c : Bool) : (!(b || (c || a))) = !(a || (b || c)) := by cases a <;> cases b <;> cases c <;> rfl
  rw [or3] at G2
  clear b01 b12 b20 or2 or3 r1 r2 h e1
  generalize decide (0 < dt ax ay bx by' cx cy) = s0 at S0 G1 G2 m01 m20
  generalize decide (0 < dt bx by' cx cy ax ay) = s1 at S1 G1 G2 m01 m12
  generalize decide (0 < dt cx cy ax ay bx by') = s2 at S2 G1 G2 m12 m20
  exact tcn_yes (n1 := if s0 = true then 0 else 1) (n2 := if s1 = true then (if s0 = true then 0 else 1) else (if s0 = true then 0 else 1) + 1) (n3 := if s2 = true then (if s1 = true then (if s0 = true then 0 else 1) else (if s0 = true then 0 else 1) + 1) else (if s1 = true then (if s0 = true then 0 else 1) else (if s0 = true then 0 else 1) + 1) + 1)
    T S0 S1 S2 (Whole_q (n := 1) (by decide)) C0 C1 C2 G1 G2 G3 ⟨rfl, rfl⟩ ⟨rfl, rfl⟩ ⟨rfl, rfl⟩ (by cases s0 <;> decide) (by cases s0 <;> cases s1 <;> decide)
    (by clear S0 S1 S2 C0 C1 C2 G1 G2 G3 T; revert m01 m12 m20; cases s0 <;> cases s1 <;> cases s2 <;> decide) (by rw [Bool.or_assoc])
/-- Of three points whatever. -/
theorem tcn_all (s : Bool) {N : Nat} (t : Bool) {M : Nat} (s' : Bool) {K : Nat} (t' : Bool) {L : Nat} (hN : N < bb ^ 32) (hM : M < bb ^ 32) (hK : K < bb ^ 32) (hL : L < bb ^ 32)
    (u : Bool) {N2 : Nat} (v : Bool) {M2 : Nat} (u' : Bool) {K2 : Nat} (v' : Bool) {L2 : Nat} (hN2 : N2 < bb ^ 32) (hM2 : M2 < bb ^ 32) (hK2 : K2 < bb ^ 32) (hL2 : L2 < bb ^ 32)
    (x : Bool) {N3 : Nat} (y : Bool) {M3 : Nat} (x' : Bool) {K3 : Nat} (y' : Bool) {L3 : Nat} (hN3 : N3 < bb ^ 32) (hM3 : M3 < bb ^ 32) (hK3 : K3 < bb ^ 32) (hL3 : L3 < bb ^ 32) :
    Tl 3 #[vl (rr s N t M ++ rr s' K t' L), vl (rr u N2 v M2 ++ rr u' K2 v' L2), vl (rr x N3 y M3 ++ rr x' K3 y' L3)] (.bool true) := by
  have key (A B C D E F : List Value) (hA : Rc A) (hB : Rc B) (hC : Rc C) (hD : Rc D) (hE : Rc E) (hF : Rc F)
      (i1 : Tl 29 #[vl (A ++ B)] (.bool false) ∨ ∃ x y : Rat, A ++ B = fq x ++ fq y ∧ Gd x y ∧ Tl 29 #[vp x y] (.bool true))
      (i2 : Tl 29 #[vl (C ++ D)] (.bool false) ∨ ∃ x y : Rat, C ++ D = fq x ++ fq y ∧ Gd x y ∧ Tl 29 #[vp x y] (.bool true))
      (i3 : Tl 29 #[vl (E ++ F)] (.bool false) ∨ ∃ x y : Rat, E ++ F = fq x ++ fq y ∧ Gd x y ∧ Tl 29 #[vp x y] (.bool true)) :
      Tl 3 #[vl (A ++ B), vl (C ++ D), vl (E ++ F)] (.bool true) := by
    have bo (A B : List Value) (i : Tl 29 #[vl (A ++ B)] (.bool false) ∨ ∃ x y : Rat, A ++ B = fq x ++ fq y ∧ Gd x y ∧ Tl 29 #[vp x y] (.bool true)) : ∃ b : Bool, Tl 29 #[vl (A ++ B)] (.bool b) := by
      rcases i with i | ⟨x, y, e, _, i⟩
      · exact ⟨_, i⟩
      · rw [e]; exact ⟨_, i⟩
    obtain ⟨b1, o1⟩ := bo A B i1
    obtain ⟨b2, o2⟩ := bo C D i2
    obtain ⟨b3, o3⟩ := bo E F i3
    rcases i1 with i1 | ⟨ax, ay, e1, ha, i1⟩
    · exact tcn_a hA hB hC hD hE hF (Turn3_bad (s1 := false) (s2 := b2) (s3 := b3) rfl hA hB hC hD hE hF i1 o2 o3)
    · rcases i2 with i2 | ⟨bx, by', e2, hb, i2⟩
      · exact tcn_a hA hB hC hD hE hF (Turn3_bad (s1 := b1) (s2 := false) (s3 := b3) (by cases b1 <;> rfl) hA hB hC hD hE hF o1 i2 o3)
      · rcases i3 with i3 | ⟨cx, cy, e3, hc, i3⟩
        · exact tcn_a hA hB hC hD hE hF (Turn3_bad (s1 := b1) (s2 := b2) (s3 := false) (by cases b1 <;> cases b2 <;> rfl) hA hB hC hD hE hF o1 o2 i3)
        · rw [e1, e2, e3]
          have T := Turn3_q ha hb hc i1 i2 i3
          rcases cqs (crs ax ay bx by' cx cy) 0 with ⟨h, e⟩ | ⟨h, e⟩ | ⟨h, e⟩
          · rw [e] at T
            exact tcn_c (rc_q _) (rc_q _) (rc_q _) (rc_q _) (rc_q _) (rc_q _) T
          · rw [e] at T
            exact tcn_b (rc_q _) (rc_q _) (rc_q _) (rc_q _) (rc_q _) (rc_q _) T
          · have e' := e
            rw [e] at T
            exact tc_left ha hb hc h e' T
  exact key _ _ _ _ _ _ (rc_rr _ _ _ _) (rc_rr _ _ _ _) (rc_rr _ _ _ _) (rc_rr _ _ _ _) (rc_rr _ _ _ _) (rc_rr _ _ _ _)
    (isr3_cases s t hN hM s' t' hK hL) (isr3_cases u v hN2 hM2 u' v' hK2 hL2) (isr3_cases x y hN3 hM3 x' y' hK3 hL3)
theorem tc_any (s0 : Bool) (N0 : Nat) (t0 : Bool) (M0 : Nat) (u0 : Bool) (K0 : Nat) (x0 : Bool) (L0 : Nat) (hN0 : N0 < bb ^ 32) (hM0 : M0 < bb ^ 32) (hK0 : K0 < bb ^ 32) (hL0 : L0 < bb ^ 32)
    (s1 : Bool) (N1 : Nat) (t1 : Bool) (M1 : Nat) (u1 : Bool) (K1 : Nat) (x1 : Bool) (L1 : Nat) (hN1 : N1 < bb ^ 32) (hM1 : M1 < bb ^ 32) (hK1 : K1 < bb ^ 32) (hL1 : L1 < bb ^ 32)
    (s2 : Bool) (N2 : Nat) (t2 : Bool) (M2 : Nat) (u2 : Bool) (K2 : Nat) (x2 : Bool) (L2 : Nat) (hN2 : N2 < bb ^ 32) (hM2 : M2 < bb ^ 32) (hK2 : K2 < bb ^ 32) (hL2 : L2 < bb ^ 32) (w : World) :
    Calls Tryz.prog 3 #[.agg (rr s0 N0 t0 M0 ++ rr u0 K0 x0 L0).toArray, .agg (rr s1 N1 t1 M1 ++ rr u1 K1 x1 L1).toArray, .agg (rr s2 N2 t2 M2 ++ rr u2 K2 x2 L2).toArray] w fun e w' => e = .returned (.bool true) ∧ Below w.heap.size w w' :=
  tcn_all s0 t0 u0 x0 hN0 hM0 hK0 hL0 s1 t1 u1 x1 hN1 hM1 hK1 hL1 s2 t2 u2 x2 hN2 hM2 hK2 hL2 w
end Go.Proofs.YtckolhalggcenaaGreat
namespace Go.Proofs.YtckolhalggcenaaGreat.triCorners
open Go.ChangeShapes Go.WideShapes Go.ChangeAt Go.RowKit
set_option linter.unusedVariables false
theorem own : ownKnob Tryz.prog.godebug = none := by kernel_rfl
set_option maxRecDepth 100000 in
theorem lifted (os : Os) (started : os.Started) (H : Type) (enc : TypeId × Value → H) :
    ReturnsInHanded {} Tryz.checked os 3 .any (Rows.triCornersSpec.pre6 enc Tryz.prog Tryz.f3 Rows.triCornersRow.domain false) (Rows.triCornersSpec.post enc Tryz.prog Tryz.f3 false true false false) := by
  refine returnsInHanded_of_change (C := Tryz.checked) own started (by kernel_rfl) Tryz.func3
    (ChangeSpec.witness6 (enc := enc) (C := Tryz.checked) false ⟨#[], #[.agg p0.toArray, .agg p0.toArray, .agg p0.toArray], []⟩ 8 (by kernel_rfl) (by kernel_rfl) (by kernel_rfl) (by kernel_rfl)) ?_
  intro W base args ds gs before hval0 hW hcnd _
  have hval : ∀ (j : Nat) t v, Tryz.f3.params[j]? = some t → args[j]? = some v → Value.okWide Tryz.prog W .any base t v := hval0
  have hW' := hW
  obtain ⟨p, q, hA0, hV, rfl, hfz, hnd⟩ := hW
  have hA : DataW.TrodAll enc Tryz.prog W 0 (fun _ => true) true Tryz.f3.params.toList args.toList ds p := hA0
  rw [Tryz.params3] at hA hval
  obtain ⟨v0, vs0, d0, ds0, p0, q0, hargs, rfl, rfl, h0, r0⟩ := trodAll_cons hA
  obtain ⟨v1, vs1, d1, ds1, p1, q1, rfl, rfl, rfl, h1, r1⟩ := trodAll_cons r0
  obtain ⟨v2, vs2, d2, ds2, p2, q2, rfl, rfl, rfl, h2, r2⟩ := trodAll_cons r1
  obtain ⟨rfl, rfl, rfl⟩ := trodAll_nil r2
  obtain rfl : args = #[v0, v1, v2] := by cases args; simp_all
  obtain ⟨rfl, rfl⟩ := trodVars_none hV
  obtain ⟨s0, N0, t0, M0, u0, K0, x0, L0, rfl, hN0, hM0, hK0, hL0, rfl, hsh0⟩ := open_point (hval 0 29 v0 rfl rfl) h0
  obtain ⟨s1, N1, t1, M1, u1, K1, x1, L1, rfl, hN1, hM1, hK1, hL1, rfl, hsh1⟩ := open_point (hval 1 29 v1 rfl rfl) h1
  obtain ⟨s2, N2, t2, M2, u2, K2, x2, L2, rfl, hN2, hM2, hK2, hL2, rfl, hsh2⟩ := open_point (hval 2 29 v2 rfl rfl) h2
  clear hA0 hval0
  simp only [List.append_nil] at hW'
  refine (tc_any s0 N0 t0 M0 u0 K0 x0 L0 hN0 hM0 hK0 hL0 s1 N1 t1 M1 u1 K1 x1 L1 hN1 hM1 hK1 hL1 s2 N2 t2 M2 u2 K2 x2 L2 hN2 hM2 hK2 hL2 W).mono fun e W' ⟨he, hg⟩ => ?_
  subst he
  exact ⟨_, rfl, post_of_below (pa := []) (pv := []) hW' (fun _ _ _ => (trodAll_cons_mk (shut_bool Tryz.underlying4 _) trodAll_mk0)) (fun sp _ => (trodAll_cons_mk (hsh0 _ _ _ _) (trodAll_cons_mk (hsh1 _ _ _ _) (trodAll_cons_mk (hsh2 _ _ _ _) trodAll_mk0)))) (fun _ _ => rfl) rfl
    hg (ok_one (by kernel_rfl) rfl (okWide_bool_mk Tryz.underlying4 _))⟩
theorem over : Rows.triCornersRow.holds Tryz.pinned (OpenSpec.ofChange Rows.triCornersSpec) :=
  OpenClaim.holds_of_wide 3 Tryz.f3 rfl rfl rfl rfl rfl rfl rfl ⟨rfl, rfl, rfl, rfl, rfl⟩ rfl rfl rfl rfl rfl (by kernel_rfl) Tryz.func3 (by kernel_rfl)
    (of_decide_eq_true (by kernel_rfl)) (by unfold Func.isWrapper; first | (rw [if_pos (by decide +kernel)]; kernel_rfl) | (rw [if_neg (by decide +kernel)]; exact ⟨rfl, rfl⟩))
    (fun os started H enc _ => lifted os started H enc)
end Go.Proofs.YtckolhalggcenaaGreat.triCorners
namespace Go.Proofs.YtckolhalggcenaaGreat
theorem triCorners_holds : Rows.TriCornersSaid := triCorners.over
#print axioms triCorners_holds
end Go.Proofs.YtckolhalggcenaaGreat
