/- The reference's fractions: rat, New, Of. -/
import Derived.Test.YtckolhalggcenaaGreatMgn
namespace Go.Proofs.YtckolhalggcenaaGreat
set_option linter.unusedSimpArgs false
set_option linter.unusedVariables false
open Go.RowKit
set_option maxRecDepth 100000
theorem wideZ_any {v : Value} {M : Nat} {w : World} (s : Bool) (h : Mv w v M) (h32 : nw M ≤ 32) : Calls Tryz.prog 40 #[.bool s, v] w fun e w' => e = .returned (.tuple #[.agg (mk (zn s M)).toArray, .bool true]) ∧ Below w.heap.size w w' := by
  have := wideM_any s h h32
  rwa [wd_mk] at this
set_option maxHeartbeats 2000000 in
theorem rat_any {u v : Value} {A D : Nat} {w : World} (s : Bool) (h : Mv w u A) (h' : Mv w v D) (hA : nw A ≤ 32) (hD : nw D ≤ 32) (h0 : D ≠ 0) :
    Calls Tryz.prog 72 #[.bool s, u, v] w fun e w' => e = .returned (.tuple #[vf (zn s (A / Nat.gcd A D)) (zn false (D / Nat.gcd A D)), .bool true]) ∧ Below w.heap.size w w' := by
  have H1 := Lib.hid h
  have H2 := Lib.hid h'
  have hg0 : Nat.gcd A D ≠ 0 := fun e => h0 (Nat.eq_zero_of_gcd_eq_zero_right e)
  have hgD : Nat.gcd A D ≤ D := Nat.gcd_le_right _ (by omega)
  have NG : Hid (nw (Nat.gcd A D) ≤ 32) := Nat.le_trans (nw_le_of (Nat.lt_of_le_of_lt hgD (nw_lt D))) hD
  have NA : Hid (nw (A / Nat.gcd A D) ≤ 32) := Nat.le_trans (nw_le_of (Nat.lt_of_le_of_lt (Nat.div_le_self _ _) (nw_lt A))) hA
  have ND : Hid (nw (D / Nat.gcd A D) ≤ 32) := Nat.le_trans (nw_le_of (Nat.lt_of_le_of_lt (Nat.div_le_self _ _) (nw_lt D))) hD
  have HG := Lib.hid hg0
  obtain ⟨G, hG⟩ : ∃ G, Nat.gcd A D = G := ⟨_, rfl⟩
  rw [hG] at NG NA ND HG ⊢
  have EG := Lib.hid hG
  obtain ⟨x, hx⟩ : ∃ x, zn s (A / G) = x := ⟨_, rfl⟩
  obtain ⟨y, hy⟩ : ∃ y, zn false (D / G) = y := ⟨_, rfl⟩
  rw [hx, hy]
  have EX := Lib.hid hx
  have EY := Lib.hid hy
  unfold vf
  have b6 := Blk.new w (rr false 0 false 0) 27 rfl
  have hb : Below w.heap.size w (w.alloc (.cells (rr false 0 false 0).toArray 27)) := (Below.refl _ _).alloc (Nat.le_refl _) _
  clear h h' hg0 hgD h0 hG hx hy
  go_enter Tryz.func72, Tryz.ntmps72
  go_wp2_with (first | (with_reducible refine alR rfl rfl ?_))
  have m1 := H1.out.call hb
  have m2 := H2.out.call hb
  clear H1 H2
  refine (gcdref_any m1 m2 (by omega) (by omega)).mono ?_
  rintro e w1 ⟨g, rfl, mg, h1⟩
  rw [EG.out] at mg
  replace m1 := m1.call h1
  replace m2 := m2.call h1
  replace b6 := b6.call h1
  replace hb := bthen hb h1
  go_wp2_with fail
  refine (divmod_any m1 mg (by omega) (Nat.le_trans NG.out (by omega)) HG.out).mono ?_
  rintro e w2 ⟨p, p', rfl, mp, _, h2⟩
  replace m2 := m2.call h2
  replace mg := mg.call h2
  replace b6 := b6.call h2
  replace hb := bthen hb h2
  go_wp2_with fail
  refine (divmod_any m2 mg (by omega) (Nat.le_trans NG.out (by omega)) HG.out).mono ?_
  rintro e w3 ⟨q, q', rfl, mq, _, h3⟩
  replace mp := mp.call h3
  replace b6 := b6.call h3
  replace hb := bthen hb h3
  clear m1 m2 mg h1 h2 h3
  go_wp2_with fail
  refine (wideZ_any s mp NA.out).mono ?_
  rintro e w1 ⟨rfl, h1⟩
  have MQ := Lib.hid (mq.call h1)
  replace b6 := b6.call h1
  replace hb := bthen hb h1
  clear mq h1 mp
  rw [EX.out]
  have MW : Hid (Mv ((w1.alloc (.cells (wd false 0).toArray 25)).setRow w1.heap.size (mk x).toArray) q (D / G)) := MQ.out.call (laid_below (Below.refl _ _) x)
  have f := Blk.new w1 (wd false 0) 25 rfl
  have b13 := laid_new w1 (x)
  replace b6 := laid_old b6 (x)
  replace hb := laid_below hb (x)
  go_wp2_with (first | (with_reducible refine alW rfl rfl ?_) | (with_reducible refine stM rfl rfl rfl rfl f (wd_length _ _) ?_))
  clear f
  generalize (w1.alloc (.cells (wd false 0).toArray 25)).setRow w1.heap.size (mk (x)).toArray = W at *
  generalize w1.heap.size = pl_b13 at *
  refine (wideZ_any false MW.out ND.out).mono ?_
  rintro e w1 ⟨rfl, h1⟩
  replace b6 := b6.call h1
  replace b13 := b13.call h1
  replace hb := bthen hb h1
  clear h1 MW
  rw [EY.out]
  have l6 := b6.lt
  have f := Blk.new w1 (wd false 0) 25 rfl
  have b15 := laid_new w1 (y)
  replace b6 := laid_old b6 (y)
  replace b13 := laid_old b13 (y)
  replace hb := laid_below hb (y)
  go_wp2_with (first | (with_reducible refine alW rfl rfl ?_) | (with_reducible refine stM rfl rfl rfl rfl f (wd_length _ _) ?_) | (with_reducible refine ldM rfl rfl rfl b13 ?_) | (with_reducible refine ldM rfl rfl rfl b15 ?_) | (with_reducible refine bdF rfl rfl rfl rfl ?_) | (with_reducible refine stR rfl rfl rfl rfl b6 (rr_length _ _ _ _) ?_))
  clear f
  generalize (w1.alloc (.cells (wd false 0).toArray 25)).setRow w1.heap.size (mk (y)).toArray = W at *
  generalize w1.heap.size = pl_b15 at *
  exact ret_ct (cs := fr x y) (v := .bool true) rfl rfl rfl rfl (wholeF _ _) (b6.row _) ⟨rfl, below_row hb (by omega) _⟩
theorem frac_q {n d : Int} (hd : d ≠ 0) : zn (decide (n < 0) != decide (d < 0)) (n.natAbs / Nat.gcd n.natAbs d.natAbs) = (Rat.divInt n d).num ∧ zn false (d.natAbs / Nat.gcd n.natAbs d.natAbs) = (Rat.divInt n d).den := by
  obtain ⟨g, hg⟩ : ∃ g, Nat.gcd n.natAbs d.natAbs = g := ⟨_, rfl⟩
  have hgd : g ∣ d.natAbs := hg ▸ Nat.gcd_dvd_right _ _
  have hgn : g ∣ n.natAbs := hg ▸ Nat.gcd_dvd_left _ _
  have hg0 : 0 < g := Nat.pos_of_dvd_of_pos hgd (by omega)
  have hgc : Nat.gcd (n.natAbs / g) (d.natAbs / g) = 1 := by
    rw [Nat.gcd_div hgn hgd, hg, Nat.div_self hg0]
  rw [hg]
  have hdp : 0 < d.natAbs / g := Nat.div_pos (Nat.le_of_dvd (by omega) hgd) hg0
  refine q_of ⟨?_, ?_⟩ hd ?_
  · unfold zn; simp; omega
  · unfold Cop Int.gcd
    rw [zn_abs, zn_abs]; exact hgc
  · obtain ⟨x, hx⟩ := hgn
    obtain ⟨y, hy⟩ := hgd
    have ex : n.natAbs / g = x := by rw [hx, Nat.mul_div_cancel_left _ hg0]
    have ey : d.natAbs / g = y := by rw [hy, Nat.mul_div_cancel_left _ hg0]
    rw [ex, ey]
    have e1 : n = zn (decide (n < 0)) (g * x) := by rw [← hx, zn_self]
    have e2 : d = zn (decide (d < 0)) (g * y) := by rw [← hy, zn_self]
    generalize decide (n < 0) = s at *
    generalize decide (d < 0) = t at *
    rw [e1, e2, zn_mul, zn_mul]
    congr 1
    · cases s <;> cases t <;> rfl
    · simp only [Nat.mul_comm, Nat.mul_left_comm]
theorem op_neb {o : Oper} {a : Act} {x y : Operand} {ty : TypeId} {s t : Bool} (ho : o.op = .binOp .neq 4 x y ty) (hx : a.eval x = .bool s) (hy : a.eval y = .bool t) (w : World) :
    (execOp a.eval o).run Tryz.prog w = .ok (.value (.bool (s != t))) w := by
  unfold execOp
  simp only [ho, hx, hy]
  cases s <;> cases t <;> (go_simp <;> rfl)
theorem of_mk {x : Int} (hx : fits x) (w : World) : Calls Tryz.prog 32 #[.agg (mk x).toArray] w fun e w' => ∃ v, e = .returned v ∧ Mv w' v x.natAbs ∧ Below w.heap.size w w' := of_any _ hx w
theorem neg_mk {x : Int} (hx : fits x) : Tl 41 #[vw x] (.bool (decide (x < 0))) := fun w => by
  have := negref_any (decide (x < 0)) hx w
  rwa [show (decide (x < 0) && decide (x.natAbs ≠ 0)) = decide (x < 0) by by_cases h : x < 0 <;> simp [h]; omega] at this
theorem Is_mk {x : Int} (hx : fits x) : Tl 84 #[vw x] (.bool true) := fun w => by
  have := Isref_any (decide (x < 0)) hx w
  rwa [show (!decide (x < 0) || decide (x.natAbs ≠ 0)) = true by by_cases h : x < 0 <;> simp [h]; omega] at this
theorem Bits_mk {x : Int} (hx : fits x) : Tl 60 #[vw x] (.int .i64 (bitLen x.natAbs : Nat)) := fun w => Bitsref_any (decide (x < 0)) hx w
end Go.Proofs.YtckolhalggcenaaGreat
