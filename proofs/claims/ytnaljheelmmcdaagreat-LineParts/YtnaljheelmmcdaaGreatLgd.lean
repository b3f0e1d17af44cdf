/- What LineGrid answers. -/
import Derived.Test.YtnaljheelmmcdaaGreatLgq
import Derived.Test.YtnaljheelmmcdaaGreatLni
namespace Go.Proofs.YtnaljheelmmcdaaGreat
set_option linter.unusedSimpArgs false
set_option linter.unusedVariables false
open Go.RowKit
set_option maxRecDepth 100000
section
variable {ops : Array Oper} {rest : List Oper} {o : Oper} {a : Act} {w : World} {Q : Exit → Act → World → Prop}
theorem mulI {x y : Operand} {ty : TypeId} {m k q : Int} (h : m * k = q) (hq : -9223372036854775808 ≤ q ∧ q ≤ 9223372036854775807) (hgd : o.guard = none) (ho : o.op = .binOp .mul 3 x y ty) (hx : a.eval x = .int .i64 m) (hy : a.eval y = .int .i64 k)
    (hr : wpList Tryz.prog ops Q rest (a.put o.dst (.int .i64 q)) w) : wpList Tryz.prog ops Q (o :: rest) a w :=
  wpList_plain hgd fun K hK => by
    have := hK _ _ hr
    unfold Oper.wp
    rw [op_mul h hq ho hx hy w]
    exact this
theorem mulIg {x y : Operand} {ty : TypeId} {m k q : Int} (h : m * k = q) (hq : -9223372036854775808 ≤ q ∧ q ≤ 9223372036854775807) (hw : Region.wanted o (yielded ops a.tmps) = true) (ho : o.op = .binOp .mul 3 x y ty) (hx : a.eval x = .int .i64 m) (hy : a.eval y = .int .i64 k)
    (hr : wpList Tryz.prog ops Q rest (a.put o.dst (.int .i64 q)) w) : wpList Tryz.prog ops Q (o :: rest) a w :=
  BigFrame.wpList_want hw fun _ hK => by
    have := hK _ _ hr
    unfold Oper.wp
    rw [op_mul h hq ho hx hy w]
    exact this
end
def sgi (n : Int) : Int := if 0 < n then 1 else if n < 0 then -1 else 0
theorem mul_rng {x y : Int} (hx : -255 ≤ x ∧ x ≤ 255) (hy : -255 ≤ y ∧ y ≤ 255) : -65025 ≤ x * y ∧ x * y ≤ 65025 := by
  have : (x * y).natAbs ≤ 255 * 255 := by rw [Int.natAbs_mul]; exact Nat.mul_le_mul (by omega) (by omega)
  omega
def I8 (x : Int) : Prop := -128 ≤ x ∧ x ≤ 127
set_option maxHeartbeats 2000000 in
theorem side_any {a b c d e f : Int} (ha : I8 a) (hb : I8 b) (hc : I8 c) (hd : I8 d) (he : I8 e) (hf : I8 f) : Tl 10 #[.int .i8 a, .int .i8 b, .int .i8 c, .int .i8 d, .int .i8 e, .int .i8 f] (.int .i64 (sgi ((c - a) * (f - b) - (d - b) * (e - a)))) := by
  intro w
  unfold I8 at *
  have hb' := Below.refl w.heap.size w
  obtain ⟨m1, hm1⟩ : ∃ m, (c - a) * (f - b) = m := ⟨_, rfl⟩
  obtain ⟨m2, hm2⟩ : ∃ m, (d - b) * (e - a) = m := ⟨_, rfl⟩
  have r1 : -65025 ≤ m1 ∧ m1 ≤ 65025 := by rw [← hm1]; exact mul_rng (by omega) (by omega)
  have r2 : -65025 ≤ m2 ∧ m2 ≤ 65025 := by rw [← hm2]; exact mul_rng (by omega) (by omega)
  rw [hm1, hm2]
  have q1 : -9223372036854775808 ≤ m1 ∧ m1 ≤ 9223372036854775807 := by omega
  have q2 : -9223372036854775808 ≤ m2 ∧ m2 ≤ 9223372036854775807 := by omega
  have H1 := Lib.hid hm1
  have H2 := Lib.hid hm2
  clear hm1 hm2
  rcases Int.lt_trichotomy (m1 - m2) 0 with h | h | h
  · rw [show sgi (m1 - m2) = -1 by unfold sgi; rw [if_neg (by omega), if_pos h]]
    have h' : ¬ 0 < m1 - m2 := by omega
    go_enter Tryz.func10, Tryz.ntmps10
    go_wp2_with (first | (with_reducible refine mulI H1.out q1 rfl rfl rfl rfl ?_) | (with_reducible refine mulI H2.out q2 rfl rfl rfl rfl ?_))
    go_ret
    exact ⟨rfl, hb'⟩
  · rw [show sgi (m1 - m2) = 0 by unfold sgi; rw [if_neg (by omega), if_neg (by omega)]]
    have h' : ¬ 0 < m1 - m2 := by omega
    have h'' : ¬ m1 - m2 < 0 := by omega
    go_enter Tryz.func10, Tryz.ntmps10
    go_wp2_with (first | (with_reducible refine mulI H1.out q1 rfl rfl rfl rfl ?_) | (with_reducible refine mulI H2.out q2 rfl rfl rfl rfl ?_))
    go_ret
    exact ⟨rfl, hb'⟩
  · rw [show sgi (m1 - m2) = 1 by unfold sgi; rw [if_pos h]]
    go_enter Tryz.func10, Tryz.ntmps10
    go_wp2_with (first | (with_reducible refine mulI H1.out q1 rfl rfl rfl rfl ?_) | (with_reducible refine mulI H2.out q2 rfl rfl rfl rfl ?_))
    go_ret
    exact ⟨rfl, hb'⟩
set_option maxHeartbeats 16000000 in
theorem lgrid_walk {a b c d e f g h : Int} {ax ay ex ey cx cy dx dy : Rat} {m p q r s u v : Int} (ha : I8 a) (hb' : I8 b) (hc : I8 c) (hd : I8 d) (he : I8 e) (hf : I8 f) (hg : I8 g) (hh : I8 h)
    (A1 : Tl 8 #[.int .i64 a, .int .i64 b] (vp ax ay)) (A2 : Tl 8 #[.int .i64 c, .int .i64 d] (vp ex ey)) (A3 : Tl 8 #[.int .i64 e, .int .i64 f] (vp cx cy)) (A4 : Tl 8 #[.int .i64 g, .int .i64 h] (vp dx dy))
    (M : Tl 9 #[vp ax ay, vp ex ey, vp cx cy, vp dx dy] (.tuple #[.int .i64 m, .bool true]))
    (S1 : Tl 10 #[.int .i8 a, .int .i8 b, .int .i8 c, .int .i8 d, .int .i8 e, .int .i8 f] (.int .i64 p)) (S2 : Tl 10 #[.int .i8 a, .int .i8 b, .int .i8 c, .int .i8 d, .int .i8 g, .int .i8 h] (.int .i64 q))
    (S3 : Tl 10 #[.int .i8 e, .int .i8 f, .int .i8 g, .int .i8 h, .int .i8 a, .int .i8 b] (.int .i64 r)) (S4 : Tl 10 #[.int .i8 e, .int .i8 f, .int .i8 g, .int .i8 h, .int .i8 c, .int .i8 d] (.int .i64 s))
    (hu : p * q = u) (hv : r * s = v) (ru : u = -1 ∨ u = 0 ∨ u = 1) (rv : v = -1 ∨ v = 0 ∨ v = 1) (hm : (u = -1 → v = -1 → m = 2) ∧ (u = 1 ∨ v = 1 → m = 0)) (w : World) :
    Calls Tryz.prog 3 #[.int .i8 a, .int .i8 b, .int .i8 c, .int .i8 d, .int .i8 e, .int .i8 f, .int .i8 g, .int .i8 h] w fun e w' => e = .returned (.bool true) ∧ Below w.heap.size w w' := by
  unfold I8 at *
  have HA1 := Lib.hid A1
  have HA2 := Lib.hid A2
  have HA3 := Lib.hid A3
  have HA4 := Lib.hid A4
  have HM := Lib.hid M
  have HS1 := Lib.hid S1
  have HS2 := Lib.hid S2
  have HS3 := Lib.hid S3
  have HS4 := Lib.hid S4
  have HU := Lib.hid hu
  have HV := Lib.hid hv
  have HM0 := Lib.hid hm
  clear A1 A2 A3 A4 M S1 S2 S3 S4 hu hv hm
  unfold Tl at HA1 HA2 HA3 HA4 HM HS1 HS2 HS3 HS4
  unfold vp vl at HA1 HA2 HA3 HA4 HM
  have qm : -9223372036854775808 ≤ (-1 : Int) ∧ (-1 : Int) ≤ 9223372036854775807 := by decide
  have q0 : -9223372036854775808 ≤ (0 : Int) ∧ (0 : Int) ≤ 9223372036854775807 := by decide
  have q1 : -9223372036854775808 ≤ (1 : Int) ∧ (1 : Int) ≤ 9223372036854775807 := by decide
  have hb := Below.refl w.heap.size w
  go_enter Tryz.func3, Tryz.ntmps3
  go_wp2_with fail
  refine (known4_any _).mono ?_
  rintro e w1 ⟨rfl, h1⟩
  replace hb := bthen hb h1
  clear h1
  go_wp2_with fail
  refine (HA1.out _).mono ?_
  rintro e w1 ⟨rfl, h1⟩
  replace hb := bthen hb h1
  clear h1
  go_wp2_with fail
  refine (HA2.out _).mono ?_
  rintro e w1 ⟨rfl, h1⟩
  replace hb := bthen hb h1
  clear h1
  have f1 := (Blk.new w1 p0 31 rfl).old (.cells p0.toArray 31)
  have f2 := (Blk.new (w1.alloc (.cells p0.toArray 31)) p0 31 (b := w1.heap.size + 1) (by simp)).rowOther (g := w1.heap.size) (fq ax ++ fq ay).toArray (by omega)
  have b17 := (f1.row (fq ax ++ fq ay)).rowOther (g := w1.heap.size + 1) (fq ex ++ fq ey).toArray (by omega)
  have b18 := f2.row (fq ex ++ fq ey)
  have hs := hb.size
  have k1 : (w1.alloc (.cells p0.toArray 31)).heap.size = w1.heap.size + 1 := by simp
  replace hb := below_row (below_row ((hb.alloc hs (.cells p0.toArray 31)).alloc (by omega) (.cells p0.toArray 31)) (g := w1.heap.size) hs (fq ax ++ fq ay).toArray) (g := w1.heap.size + 1) (by omega) (fq ex ++ fq ey).toArray
  clear k1
  go_wp2_with (first | (with_reducible refine alP2 rfl rfl ?_) | (with_reducible refine alP rfl rfl ?_) | (with_reducible refine stPt rfl rfl rfl rfl f1 p0_len (rc_q _) (rc_q _) ?_) | (with_reducible refine stPt rfl rfl rfl rfl f2 p0_len (rc_q _) (rc_q _) ?_))
  clear f1 f2 hs
  try rw [show (w1.alloc (.cells p0.toArray 31)).heap.size = w1.heap.size + 1 by simp]
  generalize (((w1.alloc (.cells p0.toArray 31)).alloc (.cells p0.toArray 31)).setRow w1.heap.size (fq ax ++ fq ay).toArray).setRow (w1.heap.size + 1) (fq ex ++ fq ey).toArray = W at *
  generalize w1.heap.size + 1 = pl_b18 at *
  generalize w1.heap.size = pl_b17 at *
  refine (HA3.out _).mono ?_
  rintro e w1 ⟨rfl, h1⟩
  replace b17 := b17.call h1
  replace b18 := b18.call h1
  replace hb := bthen hb h1
  clear h1
  go_wp2_with fail
  refine (HA4.out _).mono ?_
  rintro e w1 ⟨rfl, h1⟩
  replace b17 := b17.call h1
  replace b18 := b18.call h1
  replace hb := bthen hb h1
  clear h1
  have f1 := (Blk.new w1 p0 31 rfl).old (.cells p0.toArray 31)
  have f2 := (Blk.new (w1.alloc (.cells p0.toArray 31)) p0 31 (b := w1.heap.size + 1) (by simp)).rowOther (g := w1.heap.size) (fq cx ++ fq cy).toArray (by omega)
  have b19 := (f1.row (fq cx ++ fq cy)).rowOther (g := w1.heap.size + 1) (fq dx ++ fq dy).toArray (by omega)
  have b20 := f2.row (fq dx ++ fq dy)
  replace b17 := (((b17.old (.cells p0.toArray 31)).old (.cells p0.toArray 31)).rowOther (g := w1.heap.size) (fq cx ++ fq cy).toArray (by have := b17.lt; omega)).rowOther (g := w1.heap.size + 1) (fq dx ++ fq dy).toArray (by have := b17.lt; omega)
  replace b18 := (((b18.old (.cells p0.toArray 31)).old (.cells p0.toArray 31)).rowOther (g := w1.heap.size) (fq cx ++ fq cy).toArray (by have := b18.lt; omega)).rowOther (g := w1.heap.size + 1) (fq dx ++ fq dy).toArray (by have := b18.lt; omega)
  have hs := hb.size
  have k1 : (w1.alloc (.cells p0.toArray 31)).heap.size = w1.heap.size + 1 := by simp
  replace hb := below_row (below_row ((hb.alloc hs (.cells p0.toArray 31)).alloc (by omega) (.cells p0.toArray 31)) (g := w1.heap.size) hs (fq cx ++ fq cy).toArray) (g := w1.heap.size + 1) (by omega) (fq dx ++ fq dy).toArray
  clear k1
  go_wp2_with (first | (with_reducible refine alP2 rfl rfl ?_) | (with_reducible refine alP rfl rfl ?_) | (with_reducible refine stPt rfl rfl rfl rfl f1 p0_len (rc_q _) (rc_q _) ?_) | (with_reducible refine stPt rfl rfl rfl rfl f2 p0_len (rc_q _) (rc_q _) ?_) | (with_reducible refine ldPt rfl rfl rfl b17 (rc_q _) (rc_q _) ?_) | (with_reducible refine ldPt rfl rfl rfl b18 (rc_q _) (rc_q _) ?_) | (with_reducible refine ldPt rfl rfl rfl b19 (rc_q _) (rc_q _) ?_) | (with_reducible refine ldPt rfl rfl rfl b20 (rc_q _) (rc_q _) ?_))
  clear f1 f2 hs
  try rw [show (w1.alloc (.cells p0.toArray 31)).heap.size = w1.heap.size + 1 by simp]
  generalize (((w1.alloc (.cells p0.toArray 31)).alloc (.cells p0.toArray 31)).setRow w1.heap.size (fq cx ++ fq cy).toArray).setRow (w1.heap.size + 1) (fq dx ++ fq dy).toArray = W at *
  generalize w1.heap.size + 1 = pl_b20 at *
  generalize w1.heap.size = pl_b19 at *
  refine (HM.out _).mono ?_
  rintro e w1 ⟨rfl, h1⟩
  replace hb := bthen hb h1
  clear h1
  clear b17 b18 b19 b20
  go_wp2_with fail
  refine (HS1.out _).mono ?_
  rintro e w1 ⟨rfl, h1⟩
  replace hb := bthen hb h1
  clear h1
  go_wp2_with fail
  refine (HS2.out _).mono ?_
  rintro e w1 ⟨rfl, h1⟩
  replace hb := bthen hb h1
  clear h1
  go_wp2_with fail
  refine (HS3.out _).mono ?_
  rintro e w1 ⟨rfl, h1⟩
  replace hb := bthen hb h1
  clear h1
  go_wp2_with fail
  refine (HS4.out _).mono ?_
  rintro e w1 ⟨rfl, h1⟩
  replace hb := bthen hb h1
  clear h1
  clear ha hb' hc hd he hf hg hh HA1 HA2 HA3 HA4 HM HS1 HS2 HS3 HS4
  rcases ru with rfl | rfl | rfl <;> rcases rv with rfl | rfl | rfl
  · obtain rfl := HM0.out.1 rfl rfl
    go_wp2_with (first | (with_reducible refine mulI HU.out qm rfl rfl rfl rfl ?_) | (refine mulIg HV.out qm (by rfl) rfl rfl rfl ?_))
    go_ret
    exact ⟨rfl, hb⟩
  · go_wp2_with (first | (with_reducible refine mulI HU.out qm rfl rfl rfl rfl ?_) | (refine mulIg HV.out q0 (by rfl) rfl rfl rfl ?_))
    go_ret
    exact ⟨rfl, hb⟩
  · obtain rfl := HM0.out.2 (.inr rfl)
    go_wp2_with (first | (with_reducible refine mulI HU.out qm rfl rfl rfl rfl ?_) | (refine mulIg HV.out q1 (by rfl) rfl rfl rfl ?_))
    go_ret
    exact ⟨rfl, hb⟩
  · go_wp2_with (first | (with_reducible refine mulI HU.out q0 rfl rfl rfl rfl ?_) | (refine mulIg HV.out qm (by rfl) rfl rfl rfl ?_))
    go_ret
    exact ⟨rfl, hb⟩
  · go_wp2_with (first | (with_reducible refine mulI HU.out q0 rfl rfl rfl rfl ?_) | (refine mulIg HV.out q0 (by rfl) rfl rfl rfl ?_))
    go_ret
    exact ⟨rfl, hb⟩
  · obtain rfl := HM0.out.2 (.inr rfl)
    go_wp2_with (first | (with_reducible refine mulI HU.out q0 rfl rfl rfl rfl ?_) | (refine mulIg HV.out q1 (by rfl) rfl rfl rfl ?_))
    go_ret
    exact ⟨rfl, hb⟩
  · obtain rfl := HM0.out.2 (.inl rfl)
    go_wp2_with (first | (with_reducible refine mulI HU.out q1 rfl rfl rfl rfl ?_) | (refine mulIg HV.out qm (by rfl) rfl rfl rfl ?_))
    go_ret
    exact ⟨rfl, hb⟩
  · obtain rfl := HM0.out.2 (.inl rfl)
    go_wp2_with (first | (with_reducible refine mulI HU.out q1 rfl rfl rfl rfl ?_) | (refine mulIg HV.out q0 (by rfl) rfl rfl rfl ?_))
    go_ret
    exact ⟨rfl, hb⟩
  · obtain rfl := HM0.out.2 (.inl rfl)
    go_wp2_with (first | (with_reducible refine mulI HU.out q1 rfl rfl rfl rfl ?_) | (refine mulIg HV.out q1 (by rfl) rfl rfl rfl ?_))
    go_ret
    exact ⟨rfl, hb⟩
theorem sd_int (a b c d e f : Int) : sd (a : Rat) (b : Rat) (c : Rat) (d : Rat) (e : Rat) (f : Rat) = sgi ((c - a) * (f - b) - (d - b) * (e - a)) := by
  have hc : crs (a : Rat) (b : Rat) (c : Rat) (d : Rat) (e : Rat) (f : Rat) = (((c - a) * (f - b) - (d - b) * (e - a) : Int) : Rat) := by
    unfold crs
    rw [Rat.intCast_sub, Rat.intCast_mul, Rat.intCast_mul, Rat.intCast_sub, Rat.intCast_sub, Rat.intCast_sub, Rat.intCast_sub]
  unfold sd sgi
  rw [hc]
  generalize (c - a) * (f - b) - (d - b) * (e - a) = n
  unfold cq
  have h1 : ((n : Rat) < 0) ↔ n < 0 := by
    have := Rat.intCast_lt_intCast (a := n) (b := 0)
    simpa using this
  have h2 : ((0 : Rat) < (n : Rat)) ↔ 0 < n := by
    have := Rat.intCast_lt_intCast (a := 0) (b := n)
    simpa using this
  rcases Int.lt_trichotomy n 0 with h | h | h
  · rw [if_pos (h1.2 h), if_neg (by omega), if_pos h]
  · rw [if_neg (fun k => by have := h1.1 k; omega), if_neg (fun k => by have := h2.1 k; omega), if_neg (by omega), if_neg (by omega)]
  · rw [if_neg (fun k => by have := h1.1 k; omega), if_pos (h2.2 h), if_pos h]
theorem sgi_rng (n : Int) : sgi n = -1 ∨ sgi n = 0 ∨ sgi n = 1 := by unfold sgi; split; simp; split <;> simp
theorem sg2_rng (n m : Int) : sgi n * sgi m = -1 ∨ sgi n * sgi m = 0 ∨ sgi n * sgi m = 1 := by
  rcases sgi_rng n with h | h | h <;> rcases sgi_rng m with h' | h' | h' <;> rw [h, h'] <;> decide
theorem lgrid_any {a b c d e f g h : Int} (ha : I8 a) (hb : I8 b) (hc : I8 c) (hd : I8 d) (he : I8 e) (hf : I8 f) (hg : I8 g) (hh : I8 h) (w : World) :
    Calls Tryz.prog 3 #[.int .i8 a, .int .i8 b, .int .i8 c, .int .i8 d, .int .i8 e, .int .i8 f, .int .i8 g, .int .i8 h] w fun e w' => e = .returned (.bool true) ∧ Below w.heap.size w w' := by
  have gd : ∀ {x y : Int}, I8 x → I8 y → Gd (x : Rat) (y : Rat) := fun {x y} h h' => gd_i (Nat.lt_of_lt_of_le (show x.natAbs < 256 by unfold I8 at h; omega) (by decide)) (Nat.lt_of_lt_of_le (show y.natAbs < 256 by unfold I8 at h'; omega) (by decide))
  have rg : ∀ {x : Int}, I8 x → -9223372036854775808 ≤ x ∧ x ≤ 9223372036854775807 := fun {x} h => by unfold I8 at h; omega
  refine lgrid_walk ha hb hc hd he hf hg hh (Atref_q (rg ha) (rg hb)) (Atref_q (rg hc) (rg hd)) (Atref_q (rg he) (rg hf)) (Atref_q (rg hg) (rg hh)) (Meet_q (gd ha hb) (gd hc hd) (gd he hf) (gd hg hh)) (side_any ha hb hc hd he hf) (side_any ha hb hc hd hg hh) (side_any he hf hg hh ha hb) (side_any he hf hg hh hc hd) rfl rfl (sg2_rng _ _) (sg2_rng _ _) ⟨fun h1 h2 => ?_, fun h1 => ?_⟩ w
  · exact mq_two (by rw [sd_int, sd_int, h1]; decide) (by rw [sd_int, sd_int, h2]; decide)
  · rcases h1 with h1 | h1
    · exact mq_zero_a (by rw [sd_int, sd_int, h1]; decide)
    · exact mq_zero_b (by rw [sd_int, sd_int, h1]; decide)
end Go.Proofs.YtnaljheelmmcdaaGreat
