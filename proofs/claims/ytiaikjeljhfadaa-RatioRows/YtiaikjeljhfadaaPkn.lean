/- What known answers, of points. -/
import Derived.Test.YtiaikjeljhfadaaPke
namespace Go.Proofs.Ytiaikjeljhfadaa
set_option linter.unusedSimpArgs false
set_option linter.unusedVariables false
open Go.RowKit
set_option maxRecDepth 100000
section
variable {ops : Array Oper} {rest : List Oper} {o : Oper} {a : Act} {w : World} {Q : Exit → Act → World → Prop}
theorem alP2 {ob : Obj} (hgd : o.guard = none) (ho : o.op = .alloc 66)
    (hr : wpList Try.prog ops Q rest (a.put o.dst (.pointer (some ⟨w.heap.size + 1, 0, none⟩))) ((w.alloc ob).alloc (.cells p0.toArray 66))) : wpList Try.prog ops Q (o :: rest) a (w.alloc ob) :=
  alP hgd ho (by rw [show (w.alloc ob).heap.size = w.heap.size + 1 by simp]; exact hr)
theorem stP0 {t : TypeId} {x y : Operand} {b : Nat} {cs : List Value} (hgd : o.guard = none) (ho : o.op = .store 66 x y) (hx : a.eval x = .pointer (some ⟨b, 0, none⟩)) (hy : a.eval y = .agg p0.toArray) (h : Blk w b cs t) (hl : cs.length = 132)
    (hr : wpList Try.prog ops Q rest (a.put o.dst undef) (w.setRow b p0.toArray)) : wpList Try.prog ops Q (o :: rest) a w :=
  st_blk hgd ho hx hy h (by rw [hl, p0_len]) (by rw [p0_len]; exact sizeP) (pt_one (rc_rr _ _ _ _) (rc_rr _ _ _ _)) hr
theorem alP3 {ob ob' : Obj} (hgd : o.guard = none) (ho : o.op = .alloc 66)
    (hr : wpList Try.prog ops Q rest (a.put o.dst (.pointer (some ⟨w.heap.size + 1 + 1, 0, none⟩))) (((w.alloc ob).alloc ob').alloc (.cells p0.toArray 66))) : wpList Try.prog ops Q (o :: rest) a ((w.alloc ob).alloc ob') :=
  alP hgd ho (by rw [show ((w.alloc ob).alloc ob').heap.size = w.heap.size + 1 + 1 by simp]; exact hr)
end
set_option maxHeartbeats 8000000 in
theorem known3_walk {ox oy xx xy yx yy c d g0 m1 m2 : Rat} (hc : Fq2 c) (hd : Fq2 d) (hf : Fq2 g0) (hm1 : Fq2 m1) (hm2 : Fq2 m2)
    (A1 : Tl 60 #[.int .i64 0, .int .i64 0] (vp ox oy)) (A2 : Tl 60 #[.int .i64 3, .int .i64 0] (vp xx xy)) (A3 : Tl 60 #[.int .i64 0, .int .i64 4] (vp yx yy))
    (T : Tl 57 #[vp ox oy, vp xx xy, vp yx yy] (.tuple #[.int .i64 1, .bool true])) (C : Tl 61 #[vp ox oy, vp xx xy, vp yx yy] (.tuple #[vq c, .bool true])) (D : Tl 62 #[vp ox oy, vp xx xy, vp yx yy] (.tuple #[vq d, .bool true])) (F : Tl 58 #[vp xx xy, vp yx yy] (.tuple #[vq g0, .bool true]))
    (M : ∀ {w : World} {b : Nat} {t : TypeId}, Blk w b (j2 (fq xx ++ fq xy) (fq yx ++ fq yy)) t → Calls Try.prog 59 #[.slice (some ⟨b, 0, none⟩) 2 2] w fun e w' => e = .returned (.tuple #[vp m1 m2, .bool true]) ∧ Below w.heap.size w w')
    (R : Tl 63 #[vp ox oy, vp xx xy] (.tuple #[.int .i64 (-1), .bool true])) (K1 : Tl 42 #[.int .i64 12] (vq c)) (K2 : Tl 42 #[.int .i64 0] (vq d)) (K3 : Tl 42 #[.int .i64 25] (vq g0)) (K4 : Tl 106 #[.int .i64 3] (vq m1)) (K5 : Tl 42 #[.int .i64 2] (vq m2)) (I1 : Tl 56 #[vp m1 m2] (.bool true)) (I2 : Tl 56 #[vl p0] (.bool false)) (w : World) :
    Calls Try.prog 55 #[] w fun e w' => e = .returned (.bool true) ∧ Below w.heap.size w w' := by
  have HN := Lib.hid (fun w => Mid_nil w)
  have HM := Lib.hid (fun (w : World) (b : Nat) (t : TypeId) h => M (w := w) (b := b) (t := t) h)
  have HA1 := Lib.hid A1
  have HA2 := Lib.hid A2
  have HA3 := Lib.hid A3
  have HT := Lib.hid T
  have HC := Lib.hid C
  have HD := Lib.hid D
  have HF := Lib.hid F
  have HR := Lib.hid R
  have HK1 := Lib.hid K1
  have HK2 := Lib.hid K2
  have HK3 := Lib.hid K3
  have HK4 := Lib.hid K4
  have HK5 := Lib.hid K5
  have HI1 := Lib.hid I1
  have HI2 := Lib.hid I2
  have Hc := Lib.hid hc
  have Hd := Lib.hid hd
  have Hf := Lib.hid hf
  have Hm1 := Lib.hid hm1
  have Hm2 := Lib.hid hm2
  clear A1 A2 A3 T C D F M R K1 K2 K3 K4 K5 I1 I2 hc hd hf hm1 hm2
  have eq1 : vq = fun q => .agg (fq q).toArray := rfl
  unfold Tl at HA1 HA2 HA3 HT HC HD HF HR HK1 HK2 HK3 HK4 HK5 HI1 HI2
  unfold vp vl at HA1 HA2 HA3 HT HC HD HF HR HI1 HM
  unfold vl at HI2 HN
  rw [eq1] at HC HD HF HK1 HK2 HK3 HK4 HK5
  clear eq1
  have hb := Below.refl w.heap.size w
  go_enter Try.func55, Try.ntmps55
  go_wp2_with fail
  refine (HA1.out _).mono ?_
  rintro e w1 ⟨rfl, h1⟩
  replace hb := bthen hb h1
  clear h1
  go_wp2_with fail
  refine (HA2.out _).mono ?_
  rintro e w1 ⟨rfl, h1⟩
  replace hb := bthen hb h1
  clear h1
  go_wp2_with fail
  refine (HA3.out _).mono ?_
  rintro e w1 ⟨rfl, h1⟩
  replace hb := bthen hb h1
  clear h1
  have f1 := ((Blk.new w1 p0 66 rfl).old (.cells p0.toArray 66)).old (.cells p0.toArray 66)
  have f2 := ((Blk.new (w1.alloc (.cells p0.toArray 66)) p0 66 (b := w1.heap.size + 1) (by simp)).old (.cells p0.toArray 66)).rowOther (g := w1.heap.size) (fq ox ++ fq oy).toArray (by omega)
  have f3 := ((Blk.new ((w1.alloc (.cells p0.toArray 66)).alloc (.cells p0.toArray 66)) p0 66 (b := w1.heap.size + 1 + 1) (by simp)).rowOther (g := w1.heap.size) (fq ox ++ fq oy).toArray (by omega)).rowOther (g := w1.heap.size + 1) (fq xx ++ fq xy).toArray (by omega)
  have b1 := ((f1.row (fq ox ++ fq oy)).rowOther (g := w1.heap.size + 1) (fq xx ++ fq xy).toArray (by omega)).rowOther (g := w1.heap.size + 1 + 1) (fq yx ++ fq yy).toArray (by omega)
  have b2 := (f2.row (fq xx ++ fq xy)).rowOther (g := w1.heap.size + 1 + 1) (fq yx ++ fq yy).toArray (by omega)
  have b3 := f3.row (fq yx ++ fq yy)
  have hs := hb.size
  have k1 : (w1.alloc (.cells p0.toArray 66)).heap.size = w1.heap.size + 1 := by simp
  have k2 : ((w1.alloc (.cells p0.toArray 66)).alloc (.cells p0.toArray 66)).heap.size = w1.heap.size + 1 + 1 := by simp
  replace hb := below_row (below_row (below_row (((hb.alloc hs (.cells p0.toArray 66)).alloc (by omega) (.cells p0.toArray 66)).alloc (by omega) (.cells p0.toArray 66)) (g := w1.heap.size) hs (fq ox ++ fq oy).toArray) (g := w1.heap.size + 1) (by omega) (fq xx ++ fq xy).toArray) (g := w1.heap.size + 1 + 1) (by omega) (fq yx ++ fq yy).toArray
  clear k1 k2
  go_wp2_with (first | (with_reducible refine alP3 rfl rfl ?_) | (with_reducible refine alP2 rfl rfl ?_) | (with_reducible refine alP rfl rfl ?_) | (with_reducible refine stPt rfl rfl rfl rfl f1 p0_len (rc_q _) (rc_q _) ?_) | (with_reducible refine stPt rfl rfl rfl rfl f2 p0_len (rc_q _) (rc_q _) ?_) | (with_reducible refine stPt rfl rfl rfl rfl f3 p0_len (rc_q _) (rc_q _) ?_) | (with_reducible refine ldPt rfl rfl rfl b1 (rc_q _) (rc_q _) ?_) | (with_reducible refine ldPt rfl rfl rfl b2 (rc_q _) (rc_q _) ?_) | (with_reducible refine ldPt rfl rfl rfl b3 (rc_q _) (rc_q _) ?_))
  clear f1 f2 f3 hs
  try rw [show ((w1.alloc (.cells p0.toArray 66)).alloc (.cells p0.toArray 66)).heap.size = w1.heap.size + 1 + 1 by simp]
  try rw [show (w1.alloc (.cells p0.toArray 66)).heap.size = w1.heap.size + 1 by simp]
  generalize (((((w1.alloc (.cells p0.toArray 66)).alloc (.cells p0.toArray 66)).alloc (.cells p0.toArray 66)).setRow w1.heap.size (fq ox ++ fq oy).toArray).setRow (w1.heap.size + 1) (fq xx ++ fq xy).toArray).setRow (w1.heap.size + 1 + 1) (fq yx ++ fq yy).toArray = W at *
  generalize w1.heap.size + 1 + 1 = pl3 at *
  generalize w1.heap.size + 1 = pl2 at *
  generalize w1.heap.size = pl1 at *
  refine (HT.out _).mono ?_
  rintro e w1 ⟨rfl, h1⟩
  replace b1 := b1.call h1
  replace b2 := b2.call h1
  replace b3 := b3.call h1
  replace hb := bthen hb h1
  clear h1
  go_wp2_with (first | (with_reducible refine ldPt rfl rfl rfl b1 (rc_q _) (rc_q _) ?_) | (with_reducible refine ldPt rfl rfl rfl b2 (rc_q _) (rc_q _) ?_) | (with_reducible refine ldPt rfl rfl rfl b3 (rc_q _) (rc_q _) ?_))
  refine (HC.out _).mono ?_
  rintro e w1 ⟨rfl, h1⟩
  replace b1 := b1.call h1
  replace b2 := b2.call h1
  replace b3 := b3.call h1
  replace hb := bthen hb h1
  clear h1
  have f := Blk.new w1 (rr false 0 false 0) 45 rfl
  have b6 := laid_n w1 (rr false 0 false 0) (fq c) 45
  replace b1 := laid_o b1 (rr false 0 false 0) (fq c) 45
  replace b2 := laid_o b2 (rr false 0 false 0) (fq c) 45
  replace b3 := laid_o b3 (rr false 0 false 0) (fq c) 45
  replace hb := laid_b hb (rr false 0 false 0) (fq c) 45
  go_wp2_with (first | (with_reducible refine alR rfl rfl ?_) | (with_reducible refine stQ rfl rfl rfl rfl f (rr_length _ _ _ _) (rc_q _) ?_) | (with_reducible refine ldPt rfl rfl rfl b1 (rc_q _) (rc_q _) ?_) | (with_reducible refine ldPt rfl rfl rfl b2 (rc_q _) (rc_q _) ?_) | (with_reducible refine ldPt rfl rfl rfl b3 (rc_q _) (rc_q _) ?_))
  clear f
  generalize (w1.alloc (.cells (rr false 0 false 0).toArray 45)).setRow w1.heap.size (fq c).toArray = W at *
  generalize w1.heap.size = pl_b6 at *
  refine (HD.out _).mono ?_
  rintro e w1 ⟨rfl, h1⟩
  replace b1 := b1.call h1
  replace b2 := b2.call h1
  replace b3 := b3.call h1
  replace b6 := b6.call h1
  replace hb := bthen hb h1
  clear h1
  have f := Blk.new w1 (rr false 0 false 0) 45 rfl
  have b8 := laid_n w1 (rr false 0 false 0) (fq d) 45
  replace b1 := laid_o b1 (rr false 0 false 0) (fq d) 45
  replace b2 := laid_o b2 (rr false 0 false 0) (fq d) 45
  replace b3 := laid_o b3 (rr false 0 false 0) (fq d) 45
  replace b6 := laid_o b6 (rr false 0 false 0) (fq d) 45
  replace hb := laid_b hb (rr false 0 false 0) (fq d) 45
  go_wp2_with (first | (with_reducible refine alR rfl rfl ?_) | (with_reducible refine stQ rfl rfl rfl rfl f (rr_length _ _ _ _) (rc_q _) ?_) | (with_reducible refine ldPt rfl rfl rfl b2 (rc_q _) (rc_q _) ?_) | (with_reducible refine ldPt rfl rfl rfl b3 (rc_q _) (rc_q _) ?_))
  clear f
  generalize (w1.alloc (.cells (rr false 0 false 0).toArray 45)).setRow w1.heap.size (fq d).toArray = W at *
  generalize w1.heap.size = pl_b8 at *
  have hW : ∀ w1 : World, ((w1.alloc (.cells (rr false 0 false 0).toArray 45)).setRow w1.heap.size (fq g0).toArray).heap.size = w1.heap.size + 1 := fun w1 => by simp
  refine (HF.out _).mono ?_
  rintro e w1 ⟨rfl, h1⟩
  replace b1 := b1.call h1
  replace b2 := b2.call h1
  replace b3 := b3.call h1
  replace b6 := b6.call h1
  replace b8 := b8.call h1
  replace hb := bthen hb h1
  clear h1
  have hW1 := hW w1
  have f := Blk.new w1 (rr false 0 false 0) 45 rfl
  have b10 := laid_n w1 (rr false 0 false 0) (fq g0) 45
  replace b1 := laid_o b1 (rr false 0 false 0) (fq g0) 45
  replace b2 := laid_o b2 (rr false 0 false 0) (fq g0) 45
  replace b3 := laid_o b3 (rr false 0 false 0) (fq g0) 45
  replace b6 := laid_o b6 (rr false 0 false 0) (fq g0) 45
  replace b8 := laid_o b8 (rr false 0 false 0) (fq g0) 45
  replace hb := laid_b hb (rr false 0 false 0) (fq g0) 45
  go_wp2_with (first | (with_reducible refine alR rfl rfl ?_) | (with_reducible refine stQ rfl rfl rfl rfl f (rr_length _ _ _ _) (rc_q _) ?_) | (with_reducible refine ldPt rfl rfl rfl b2 (rc_q _) (rc_q _) ?_) | (with_reducible refine ldPt rfl rfl rfl b3 (rc_q _) (rc_q _) ?_) | (with_reducible refine bsP2 rfl rfl rfl rfl (rc_q _) (rc_q _) (rc_q _) (rc_q _) ?_))
  clear f
  generalize (w1.alloc (.cells (rr false 0 false 0).toArray 45)).setRow w1.heap.size (fq g0).toArray = W at *
  generalize w1.heap.size = pl_b10 at *
  have sl := Blk.new W (j2 (fq xx ++ fq xy) (fq yx ++ fq yy)) 66 (b := pl_b10 + 1) hW1.symm
  replace b1 := b1.old (.cells (j2 (fq xx ++ fq xy) (fq yx ++ fq yy)).toArray 66)
  replace b2 := b2.old (.cells (j2 (fq xx ++ fq xy) (fq yx ++ fq yy)).toArray 66)
  replace b6 := b6.old (.cells (j2 (fq xx ++ fq xy) (fq yx ++ fq yy)).toArray 66)
  replace b8 := b8.old (.cells (j2 (fq xx ++ fq xy) (fq yx ++ fq yy)).toArray 66)
  replace b10 := b10.old (.cells (j2 (fq xx ++ fq xy) (fq yx ++ fq yy)).toArray 66)
  replace hb := hb.alloc hb.size (.cells (j2 (fq xx ++ fq xy) (fq yx ++ fq yy)).toArray 66)
  clear hW
  refine (HM.out _ _ _ sl).mono ?_
  rintro e w1 ⟨rfl, h1⟩
  replace b1 := b1.call h1
  replace b2 := b2.call h1
  replace b6 := b6.call h1
  replace b8 := b8.call h1
  replace b10 := b10.call h1
  replace hb := bthen hb h1
  clear h1
  clear sl hW1 b3
  have f := Blk.new w1 p0 66 rfl
  have b12 := laid_n w1 p0 (fq m1 ++ fq m2) 66
  replace b1 := laid_o b1 p0 (fq m1 ++ fq m2) 66
  replace b2 := laid_o b2 p0 (fq m1 ++ fq m2) 66
  replace b6 := laid_o b6 p0 (fq m1 ++ fq m2) 66
  replace b8 := laid_o b8 p0 (fq m1 ++ fq m2) 66
  replace b10 := laid_o b10 p0 (fq m1 ++ fq m2) 66
  replace hb := laid_b hb p0 (fq m1 ++ fq m2) 66
  go_wp2_with (first | (with_reducible refine alP rfl rfl ?_) | (with_reducible refine stPt rfl rfl rfl rfl f p0_len (rc_q _) (rc_q _) ?_))
  clear f
  generalize (w1.alloc (.cells p0.toArray 66)).setRow w1.heap.size (fq m1 ++ fq m2).toArray = W at *
  generalize w1.heap.size = pl_b12 at *
  refine (HN.out _).mono ?_
  rintro e w1 ⟨rfl, h1⟩
  replace b1 := b1.call h1
  replace b2 := b2.call h1
  replace b6 := b6.call h1
  replace b8 := b8.call h1
  replace b10 := b10.call h1
  replace b12 := b12.call h1
  replace hb := bthen hb h1
  clear h1
  have f := Blk.new w1 p0 66 rfl
  have b14 := laid_n w1 p0 (p0) 66
  replace b1 := laid_o b1 p0 (p0) 66
  replace b2 := laid_o b2 p0 (p0) 66
  replace b6 := laid_o b6 p0 (p0) 66
  replace b8 := laid_o b8 p0 (p0) 66
  replace b10 := laid_o b10 p0 (p0) 66
  replace b12 := laid_o b12 p0 (p0) 66
  replace hb := laid_b hb p0 (p0) 66
  go_wp2_with (first | (with_reducible refine alP rfl rfl ?_) | (with_reducible refine stP0 rfl rfl rfl rfl f p0_len ?_) | (with_reducible refine ldPt rfl rfl rfl b1 (rc_q _) (rc_q _) ?_) | (with_reducible refine ldPt rfl rfl rfl b2 (rc_q _) (rc_q _) ?_))
  clear f
  generalize (w1.alloc (.cells p0.toArray 66)).setRow w1.heap.size (p0).toArray = W at *
  generalize w1.heap.size = pl_b14 at *
  refine (HR.out _).mono ?_
  rintro e w1 ⟨rfl, h1⟩
  replace b6 := b6.call h1
  replace b8 := b8.call h1
  replace b10 := b10.call h1
  replace b12 := b12.call h1
  replace hb := bthen hb h1
  clear h1
  go_wp2_with fail
  refine rg_start [] (by kernel_rfl) (fun hS => ?_)
  replace hb := hb.drew
  refine rg_take 0 rfl (by as_aux_lemma => kernel_rfl) (by as_aux_lemma => kernel_rfl) (by as_aux_lemma => kernel_rfl) (by as_aux_lemma => rfl) hS (v := ?_) ?_ ?_
  rotate_left
  · (intro w' hS'; go_simp <;> try with_reducible rfl)
  try simp only [Act.put, List.setIfInBounds_toArray, List.set_cons_zero, List.set_cons_succ]
  refine rg_take 1 rfl (by as_aux_lemma => kernel_rfl) (by as_aux_lemma => kernel_rfl) (by as_aux_lemma => kernel_rfl) (by as_aux_lemma => rfl) hS (v := ?_) ?_ ?_
  rotate_left
  · (intro w' hS'; go_simp <;> try with_reducible rfl)
  try simp only [Act.put, List.setIfInBounds_toArray, List.set_cons_zero, List.set_cons_succ]
  refine rg_take 2 rfl (by as_aux_lemma => kernel_rfl) (by as_aux_lemma => kernel_rfl) (by as_aux_lemma => kernel_rfl) (by as_aux_lemma => rfl) hS (v := ?_) ?_ ?_
  rotate_left
  · (intro w' hS'; go_simp <;> try with_reducible rfl)
  try simp only [Act.put, List.setIfInBounds_toArray, List.set_cons_zero, List.set_cons_succ]
  refine rg_take 3 rfl (by as_aux_lemma => kernel_rfl) (by as_aux_lemma => kernel_rfl) (by as_aux_lemma => kernel_rfl) (by as_aux_lemma => rfl) hS (v := ?_) ?_ ?_
  rotate_left
  · (intro w' hS'; go_simp <;> try with_reducible rfl)
  try simp only [Act.put, List.setIfInBounds_toArray, List.set_cons_zero, List.set_cons_succ]
  refine rg_take 4 rfl (by as_aux_lemma => kernel_rfl) (by as_aux_lemma => kernel_rfl) (by as_aux_lemma => kernel_rfl) (by as_aux_lemma => rfl) hS (v := ?_) ?_ ?_
  rotate_left
  · (intro w' hS'; go_simp <;> try with_reducible rfl)
  try simp only [Act.put, List.setIfInBounds_toArray, List.set_cons_zero, List.set_cons_succ]
  refine rg_take 5 rfl (by as_aux_lemma => kernel_rfl) (by as_aux_lemma => kernel_rfl) (by as_aux_lemma => kernel_rfl) (by as_aux_lemma => rfl) hS (v := ?_) ?_ ?_
  rotate_left
  · (intro w' hS'; go_simp <;> try with_reducible rfl)
  try simp only [Act.put, List.setIfInBounds_toArray, List.set_cons_zero, List.set_cons_succ]
  refine rg_take 6 rfl (by as_aux_lemma => kernel_rfl) (by as_aux_lemma => kernel_rfl) (by as_aux_lemma => kernel_rfl) (by as_aux_lemma => rfl) hS (v := ?_) ?_ ?_
  rotate_left
  · (intro w' hS'; go_simp <;> try with_reducible rfl)
  try simp only [Act.put, List.setIfInBounds_toArray, List.set_cons_zero, List.set_cons_succ]
  refine rg_take 7 rfl (by as_aux_lemma => kernel_rfl) (by as_aux_lemma => kernel_rfl) (by as_aux_lemma => kernel_rfl) (by as_aux_lemma => rfl) hS (v := ?_) ?_ ?_
  rotate_left
  · (intro w' hS'; go_simp <;> try with_reducible rfl)
  try simp only [Act.put, List.setIfInBounds_toArray, List.set_cons_zero, List.set_cons_succ]
  refine rg_take 8 rfl (by as_aux_lemma => kernel_rfl) (by as_aux_lemma => kernel_rfl) (by as_aux_lemma => kernel_rfl) (by as_aux_lemma => rfl) hS (v := ?_) ?_ ?_
  rotate_left
  · (intro w' hS'; go_simp <;> try with_reducible rfl)
  try simp only [Act.put, List.setIfInBounds_toArray, List.set_cons_zero, List.set_cons_succ]
  refine rg_ld 9 rfl (by as_aux_lemma => kernel_rfl) (by as_aux_lemma => kernel_rfl) (by as_aux_lemma => kernel_rfl) (by as_aux_lemma => rfl) hS rfl rfl b6 (by simp <;> omega) (rc_q _).whole ?_
  try simp only [Act.put, List.setIfInBounds_toArray, List.set_cons_zero, List.set_cons_succ]
  refine rg_eff 10 rfl (by as_aux_lemma => kernel_rfl) (by as_aux_lemma => rfl) (fun K hK => ?_)
  go_simp
  refine (HK1.out _).mono ?_
  rintro e w1 ⟨rfl, h1⟩
  refine hK _ _ (hS.call h1) (fun hS => ?_)
  clear hK K
  replace hb := bthen hb h1
  clear h1
  try simp only [Act.put, List.setIfInBounds_toArray, List.set_cons_zero, List.set_cons_succ]
  refine rg_take 11 rfl (by as_aux_lemma => kernel_rfl) (by as_aux_lemma => kernel_rfl) (by as_aux_lemma => kernel_rfl) (by as_aux_lemma => rfl) hS (v := .bool true) (fun w' _ => op_eqq Hc.out Hc.out (decide_eq_true rfl) rfl rfl rfl w') ?_
  try simp only [Act.put, List.setIfInBounds_toArray, List.set_cons_zero, List.set_cons_succ]
  refine rg_take 12 rfl (by as_aux_lemma => kernel_rfl) (by as_aux_lemma => kernel_rfl) (by as_aux_lemma => kernel_rfl) (by as_aux_lemma => rfl) hS (v := ?_) ?_ ?_
  rotate_left
  · (intro w' hS'; go_simp <;> try with_reducible rfl)
  try simp only [Act.put, List.setIfInBounds_toArray, List.set_cons_zero, List.set_cons_succ]
  refine rg_take 13 rfl (by as_aux_lemma => kernel_rfl) (by as_aux_lemma => kernel_rfl) (by as_aux_lemma => kernel_rfl) (by as_aux_lemma => rfl) hS (v := ?_) ?_ ?_
  rotate_left
  · (intro w' hS'; go_simp <;> try with_reducible rfl)
  try simp only [Act.put, List.setIfInBounds_toArray, List.set_cons_zero, List.set_cons_succ]
  refine rg_take 14 rfl (by as_aux_lemma => kernel_rfl) (by as_aux_lemma => kernel_rfl) (by as_aux_lemma => kernel_rfl) (by as_aux_lemma => rfl) hS (v := ?_) ?_ ?_
  rotate_left
  · (intro w' hS'; go_simp <;> try with_reducible rfl)
  try simp only [Act.put, List.setIfInBounds_toArray, List.set_cons_zero, List.set_cons_succ]
  refine rg_take 15 rfl (by as_aux_lemma => kernel_rfl) (by as_aux_lemma => kernel_rfl) (by as_aux_lemma => kernel_rfl) (by as_aux_lemma => rfl) hS (v := ?_) ?_ ?_
  rotate_left
  · (intro w' hS'; go_simp <;> try with_reducible rfl)
  try simp only [Act.put, List.setIfInBounds_toArray, List.set_cons_zero, List.set_cons_succ]
  refine rg_take 16 rfl (by as_aux_lemma => kernel_rfl) (by as_aux_lemma => kernel_rfl) (by as_aux_lemma => kernel_rfl) (by as_aux_lemma => rfl) hS (v := ?_) ?_ ?_
  rotate_left
  · (intro w' hS'; go_simp <;> try with_reducible rfl)
  try simp only [Act.put, List.setIfInBounds_toArray, List.set_cons_zero, List.set_cons_succ]
  refine rg_ld 17 rfl (by as_aux_lemma => kernel_rfl) (by as_aux_lemma => kernel_rfl) (by as_aux_lemma => kernel_rfl) (by as_aux_lemma => rfl) hS rfl rfl b8 (by simp <;> omega) (rc_q _).whole ?_
  try simp only [Act.put, List.setIfInBounds_toArray, List.set_cons_zero, List.set_cons_succ]
  refine rg_eff 18 rfl (by as_aux_lemma => kernel_rfl) (by as_aux_lemma => rfl) (fun K hK => ?_)
  go_simp
  refine (HK2.out _).mono ?_
  rintro e w1 ⟨rfl, h1⟩
  refine hK _ _ (hS.call h1) (fun hS => ?_)
  clear hK K
  replace hb := bthen hb h1
  clear h1
  try simp only [Act.put, List.setIfInBounds_toArray, List.set_cons_zero, List.set_cons_succ]
  refine rg_take 19 rfl (by as_aux_lemma => kernel_rfl) (by as_aux_lemma => kernel_rfl) (by as_aux_lemma => kernel_rfl) (by as_aux_lemma => rfl) hS (v := .bool true) (fun w' _ => op_eqq Hd.out Hd.out (decide_eq_true rfl) rfl rfl rfl w') ?_
  try simp only [Act.put, List.setIfInBounds_toArray, List.set_cons_zero, List.set_cons_succ]
  refine rg_take 20 rfl (by as_aux_lemma => kernel_rfl) (by as_aux_lemma => kernel_rfl) (by as_aux_lemma => kernel_rfl) (by as_aux_lemma => rfl) hS (v := ?_) ?_ ?_
  rotate_left
  · (intro w' hS'; go_simp <;> try with_reducible rfl)
  try simp only [Act.put, List.setIfInBounds_toArray, List.set_cons_zero, List.set_cons_succ]
  refine rg_take 21 rfl (by as_aux_lemma => kernel_rfl) (by as_aux_lemma => kernel_rfl) (by as_aux_lemma => kernel_rfl) (by as_aux_lemma => rfl) hS (v := ?_) ?_ ?_
  rotate_left
  · (intro w' hS'; go_simp <;> try with_reducible rfl)
  try simp only [Act.put, List.setIfInBounds_toArray, List.set_cons_zero, List.set_cons_succ]
  refine rg_take 22 rfl (by as_aux_lemma => kernel_rfl) (by as_aux_lemma => kernel_rfl) (by as_aux_lemma => kernel_rfl) (by as_aux_lemma => rfl) hS (v := ?_) ?_ ?_
  rotate_left
  · (intro w' hS'; go_simp <;> try with_reducible rfl)
  try simp only [Act.put, List.setIfInBounds_toArray, List.set_cons_zero, List.set_cons_succ]
  refine rg_take 23 rfl (by as_aux_lemma => kernel_rfl) (by as_aux_lemma => kernel_rfl) (by as_aux_lemma => kernel_rfl) (by as_aux_lemma => rfl) hS (v := ?_) ?_ ?_
  rotate_left
  · (intro w' hS'; go_simp <;> try with_reducible rfl)
  try simp only [Act.put, List.setIfInBounds_toArray, List.set_cons_zero, List.set_cons_succ]
  refine rg_take 24 rfl (by as_aux_lemma => kernel_rfl) (by as_aux_lemma => kernel_rfl) (by as_aux_lemma => kernel_rfl) (by as_aux_lemma => rfl) hS (v := ?_) ?_ ?_
  rotate_left
  · (intro w' hS'; go_simp <;> try with_reducible rfl)
  try simp only [Act.put, List.setIfInBounds_toArray, List.set_cons_zero, List.set_cons_succ]
  refine rg_ld 25 rfl (by as_aux_lemma => kernel_rfl) (by as_aux_lemma => kernel_rfl) (by as_aux_lemma => kernel_rfl) (by as_aux_lemma => rfl) hS rfl rfl b10 (by simp <;> omega) (rc_q _).whole ?_
  try simp only [Act.put, List.setIfInBounds_toArray, List.set_cons_zero, List.set_cons_succ]
  refine rg_eff 26 rfl (by as_aux_lemma => kernel_rfl) (by as_aux_lemma => rfl) (fun K hK => ?_)
  go_simp
  refine (HK3.out _).mono ?_
  rintro e w1 ⟨rfl, h1⟩
  refine hK _ _ (hS.call h1) (fun hS => ?_)
  clear hK K
  replace hb := bthen hb h1
  clear h1
  try simp only [Act.put, List.setIfInBounds_toArray, List.set_cons_zero, List.set_cons_succ]
  refine rg_take 27 rfl (by as_aux_lemma => kernel_rfl) (by as_aux_lemma => kernel_rfl) (by as_aux_lemma => kernel_rfl) (by as_aux_lemma => rfl) hS (v := .bool true) (fun w' _ => op_eqq Hf.out Hf.out (decide_eq_true rfl) rfl rfl rfl w') ?_
  try simp only [Act.put, List.setIfInBounds_toArray, List.set_cons_zero, List.set_cons_succ]
  refine rg_take 28 rfl (by as_aux_lemma => kernel_rfl) (by as_aux_lemma => kernel_rfl) (by as_aux_lemma => kernel_rfl) (by as_aux_lemma => rfl) hS (v := ?_) ?_ ?_
  rotate_left
  · (intro w' hS'; go_simp <;> try with_reducible rfl)
  try simp only [Act.put, List.setIfInBounds_toArray, List.set_cons_zero, List.set_cons_succ]
  refine rg_take 29 rfl (by as_aux_lemma => kernel_rfl) (by as_aux_lemma => kernel_rfl) (by as_aux_lemma => kernel_rfl) (by as_aux_lemma => rfl) hS (v := ?_) ?_ ?_
  rotate_left
  · (intro w' hS'; go_simp <;> try with_reducible rfl)
  try simp only [Act.put, List.setIfInBounds_toArray, List.set_cons_zero, List.set_cons_succ]
  refine rg_take 30 rfl (by as_aux_lemma => kernel_rfl) (by as_aux_lemma => kernel_rfl) (by as_aux_lemma => kernel_rfl) (by as_aux_lemma => rfl) hS (v := ?_) ?_ ?_
  rotate_left
  · (intro w' hS'; go_simp <;> try with_reducible rfl)
  try simp only [Act.put, List.setIfInBounds_toArray, List.set_cons_zero, List.set_cons_succ]
  refine rg_take 31 rfl (by as_aux_lemma => kernel_rfl) (by as_aux_lemma => kernel_rfl) (by as_aux_lemma => kernel_rfl) (by as_aux_lemma => rfl) hS (v := ?_) ?_ ?_
  rotate_left
  · (intro w' hS'; go_simp <;> try with_reducible rfl)
  try simp only [Act.put, List.setIfInBounds_toArray, List.set_cons_zero, List.set_cons_succ]
  refine rg_take 32 rfl (by as_aux_lemma => kernel_rfl) (by as_aux_lemma => kernel_rfl) (by as_aux_lemma => kernel_rfl) (by as_aux_lemma => rfl) hS (v := ?_) ?_ ?_
  rotate_left
  · (intro w' hS'; go_simp <;> try with_reducible rfl)
  try simp only [Act.put, List.setIfInBounds_toArray, List.set_cons_zero, List.set_cons_succ]
  refine rg_ld 33 rfl (by as_aux_lemma => kernel_rfl) (by as_aux_lemma => kernel_rfl) (by as_aux_lemma => kernel_rfl) (by as_aux_lemma => rfl) hS rfl rfl b12 (by simp <;> omega) (wholeP (rc_q _) (rc_q _)) ?_
  try simp only [Act.put, List.setIfInBounds_toArray, List.set_cons_zero, List.set_cons_succ]
  refine rg_eff 34 rfl (by as_aux_lemma => kernel_rfl) (by as_aux_lemma => rfl) (fun K hK => ?_)
  go_simp
  refine (HK4.out _).mono ?_
  rintro e w1 ⟨rfl, h1⟩
  refine hK _ _ (hS.call h1) (fun hS => ?_)
  clear hK K
  replace hb := bthen hb h1
  clear h1
  try simp only [Act.put, List.setIfInBounds_toArray, List.set_cons_zero, List.set_cons_succ]
  refine rg_eff 35 rfl (by as_aux_lemma => kernel_rfl) (by as_aux_lemma => rfl) (fun K hK => ?_)
  go_simp
  refine (HK5.out _).mono ?_
  rintro e w1 ⟨rfl, h1⟩
  refine hK _ _ (hS.call h1) (fun hS => ?_)
  clear hK K
  replace hb := bthen hb h1
  clear h1
  try simp only [Act.put, List.setIfInBounds_toArray, List.set_cons_zero, List.set_cons_succ]
  refine rg_build 36 rfl (by as_aux_lemma => kernel_rfl) (by as_aux_lemma => kernel_rfl) (by as_aux_lemma => kernel_rfl) (by as_aux_lemma => rfl) hS rfl (pl := [(0, .agg (fq m1).toArray), (1, .agg (fq m2).toArray)]) (builtP (rc_q _) (rc_q _)) (by simp [Act.eval]) ?_
  try simp only [Act.put, List.setIfInBounds_toArray, List.set_cons_zero, List.set_cons_succ]
  refine rg_take 37 rfl (by as_aux_lemma => kernel_rfl) (by as_aux_lemma => kernel_rfl) (by as_aux_lemma => kernel_rfl) (by as_aux_lemma => rfl) hS (v := .bool true) (fun w' _ => op_eqP Hm1.out Hm2.out Hm1.out Hm2.out (decide_eq_true ⟨rfl, rfl⟩) rfl rfl rfl w') ?_
  try simp only [Act.put, List.setIfInBounds_toArray, List.set_cons_zero, List.set_cons_succ]
  refine rg_take 38 rfl (by as_aux_lemma => kernel_rfl) (by as_aux_lemma => kernel_rfl) (by as_aux_lemma => kernel_rfl) (by as_aux_lemma => rfl) hS (v := ?_) ?_ ?_
  rotate_left
  · (intro w' hS'; go_simp <;> try with_reducible rfl)
  try simp only [Act.put, List.setIfInBounds_toArray, List.set_cons_zero, List.set_cons_succ]
  refine rg_take 39 rfl (by as_aux_lemma => kernel_rfl) (by as_aux_lemma => kernel_rfl) (by as_aux_lemma => kernel_rfl) (by as_aux_lemma => rfl) hS (v := ?_) ?_ ?_
  rotate_left
  · (intro w' hS'; go_simp <;> try with_reducible rfl)
  try simp only [Act.put, List.setIfInBounds_toArray, List.set_cons_zero, List.set_cons_succ]
  refine rg_take 40 rfl (by as_aux_lemma => kernel_rfl) (by as_aux_lemma => kernel_rfl) (by as_aux_lemma => kernel_rfl) (by as_aux_lemma => rfl) hS (v := ?_) ?_ ?_
  rotate_left
  · (intro w' hS'; go_simp <;> try with_reducible rfl)
  try simp only [Act.put, List.setIfInBounds_toArray, List.set_cons_zero, List.set_cons_succ]
  refine rg_take 41 rfl (by as_aux_lemma => kernel_rfl) (by as_aux_lemma => kernel_rfl) (by as_aux_lemma => kernel_rfl) (by as_aux_lemma => rfl) hS (v := ?_) ?_ ?_
  rotate_left
  · (intro w' hS'; go_simp <;> try with_reducible rfl)
  try simp only [Act.put, List.setIfInBounds_toArray, List.set_cons_zero, List.set_cons_succ]
  refine rg_take 42 rfl (by as_aux_lemma => kernel_rfl) (by as_aux_lemma => kernel_rfl) (by as_aux_lemma => kernel_rfl) (by as_aux_lemma => rfl) hS (v := ?_) ?_ ?_
  rotate_left
  · (intro w' hS'; go_simp <;> try with_reducible rfl)
  try simp only [Act.put, List.setIfInBounds_toArray, List.set_cons_zero, List.set_cons_succ]
  refine rg_take 43 rfl (by as_aux_lemma => kernel_rfl) (by as_aux_lemma => kernel_rfl) (by as_aux_lemma => kernel_rfl) (by as_aux_lemma => rfl) hS (v := ?_) ?_ ?_
  rotate_left
  · (intro w' hS'; go_simp <;> try with_reducible rfl)
  try simp only [Act.put, List.setIfInBounds_toArray, List.set_cons_zero, List.set_cons_succ]
  refine rg_take 44 rfl (by as_aux_lemma => kernel_rfl) (by as_aux_lemma => kernel_rfl) (by as_aux_lemma => kernel_rfl) (by as_aux_lemma => rfl) hS (v := ?_) ?_ ?_
  rotate_left
  · (intro w' hS'; go_simp <;> try with_reducible rfl)
  try simp only [Act.put, List.setIfInBounds_toArray, List.set_cons_zero, List.set_cons_succ]
  refine rg_take 45 rfl (by as_aux_lemma => kernel_rfl) (by as_aux_lemma => kernel_rfl) (by as_aux_lemma => kernel_rfl) (by as_aux_lemma => rfl) hS (v := ?_) ?_ ?_
  rotate_left
  · (intro w' hS'; go_simp <;> try with_reducible rfl)
  try simp only [Act.put, List.setIfInBounds_toArray, List.set_cons_zero, List.set_cons_succ]
  refine rg_take 46 rfl (by as_aux_lemma => kernel_rfl) (by as_aux_lemma => kernel_rfl) (by as_aux_lemma => kernel_rfl) (by as_aux_lemma => rfl) hS (v := ?_) ?_ ?_
  rotate_left
  · (intro w' hS'; go_simp <;> try with_reducible rfl)
  try simp only [Act.put, List.setIfInBounds_toArray, List.set_cons_zero, List.set_cons_succ]
  refine rg_take 47 rfl (by as_aux_lemma => kernel_rfl) (by as_aux_lemma => kernel_rfl) (by as_aux_lemma => kernel_rfl) (by as_aux_lemma => rfl) hS (v := ?_) ?_ ?_
  rotate_left
  · (intro w' hS'; go_simp <;> try with_reducible rfl)
  try simp only [Act.put, List.setIfInBounds_toArray, List.set_cons_zero, List.set_cons_succ]
  refine rg_take 48 rfl (by as_aux_lemma => kernel_rfl) (by as_aux_lemma => kernel_rfl) (by as_aux_lemma => kernel_rfl) (by as_aux_lemma => rfl) hS (v := ?_) ?_ ?_
  rotate_left
  · (intro w' hS'; go_simp <;> try with_reducible rfl)
  try simp only [Act.put, List.setIfInBounds_toArray, List.set_cons_zero, List.set_cons_succ]
  refine rg_take 49 rfl (by as_aux_lemma => kernel_rfl) (by as_aux_lemma => kernel_rfl) (by as_aux_lemma => kernel_rfl) (by as_aux_lemma => rfl) hS (v := ?_) ?_ ?_
  rotate_left
  · (intro w' hS'; go_simp <;> try with_reducible rfl)
  try simp only [Act.put, List.setIfInBounds_toArray, List.set_cons_zero, List.set_cons_succ]
  refine rg_take 50 rfl (by as_aux_lemma => kernel_rfl) (by as_aux_lemma => kernel_rfl) (by as_aux_lemma => kernel_rfl) (by as_aux_lemma => rfl) hS (v := ?_) ?_ ?_
  rotate_left
  · (intro w' hS'; go_simp <;> try with_reducible rfl)
  try simp only [Act.put, List.setIfInBounds_toArray, List.set_cons_zero, List.set_cons_succ]
  refine rg_ld 51 rfl (by as_aux_lemma => kernel_rfl) (by as_aux_lemma => kernel_rfl) (by as_aux_lemma => kernel_rfl) (by as_aux_lemma => rfl) hS rfl rfl b12 (by simp <;> omega) (wholeP (rc_q _) (rc_q _)) ?_
  try simp only [Act.put, List.setIfInBounds_toArray, List.set_cons_zero, List.set_cons_succ]
  refine rg_eff 52 rfl (by as_aux_lemma => kernel_rfl) (by as_aux_lemma => rfl) (fun K hK => ?_)
  go_simp
  refine (HI1.out _).mono ?_
  rintro e w1 ⟨rfl, h1⟩
  refine hK _ _ (hS.call h1) (fun hS => ?_)
  clear hK K
  replace hb := bthen hb h1
  clear h1
  try simp only [Act.put, List.setIfInBounds_toArray, List.set_cons_zero, List.set_cons_succ]
  refine rg_take 53 rfl (by as_aux_lemma => kernel_rfl) (by as_aux_lemma => kernel_rfl) (by as_aux_lemma => kernel_rfl) (by as_aux_lemma => rfl) hS (v := ?_) ?_ ?_
  rotate_left
  · (intro w' hS'; go_simp <;> try with_reducible rfl)
  try simp only [Act.put, List.setIfInBounds_toArray, List.set_cons_zero, List.set_cons_succ]
  refine rg_take 54 rfl (by as_aux_lemma => kernel_rfl) (by as_aux_lemma => kernel_rfl) (by as_aux_lemma => kernel_rfl) (by as_aux_lemma => rfl) hS (v := ?_) ?_ ?_
  rotate_left
  · (intro w' hS'; go_simp <;> try with_reducible rfl)
  try simp only [Act.put, List.setIfInBounds_toArray, List.set_cons_zero, List.set_cons_succ]
  refine rg_build 55 rfl (by as_aux_lemma => kernel_rfl) (by as_aux_lemma => kernel_rfl) (by as_aux_lemma => kernel_rfl) (by as_aux_lemma => rfl) hS rfl (cs := p0.toArray) (pl := []) builtP0 (by simp [Act.eval]) ?_
  try simp only [Act.put, List.setIfInBounds_toArray, List.set_cons_zero, List.set_cons_succ]
  refine rg_eff 56 rfl (by as_aux_lemma => kernel_rfl) (by as_aux_lemma => rfl) (fun K hK => ?_)
  go_simp
  refine (HI2.out _).mono ?_
  rintro e w1 ⟨rfl, h1⟩
  refine hK _ _ (hS.call h1) (fun hS => ?_)
  clear hK K
  replace hb := bthen hb h1
  clear h1
  try simp only [Act.put, List.setIfInBounds_toArray, List.set_cons_zero, List.set_cons_succ]
  refine rg_take 57 rfl (by as_aux_lemma => kernel_rfl) (by as_aux_lemma => kernel_rfl) (by as_aux_lemma => kernel_rfl) (by as_aux_lemma => rfl) hS (v := ?_) ?_ ?_
  rotate_left
  · (intro w' hS'; go_simp <;> try with_reducible rfl)
  try simp only [Act.put, List.setIfInBounds_toArray, List.set_cons_zero, List.set_cons_succ]
  refine rg_take 58 rfl (by as_aux_lemma => kernel_rfl) (by as_aux_lemma => kernel_rfl) (by as_aux_lemma => kernel_rfl) (by as_aux_lemma => rfl) hS (v := ?_) ?_ ?_
  rotate_left
  · (intro w' hS'; go_simp <;> try with_reducible rfl)
  try simp only [Act.put, List.setIfInBounds_toArray, List.set_cons_zero, List.set_cons_succ]
  refine rg_take 59 rfl (by as_aux_lemma => kernel_rfl) (by as_aux_lemma => kernel_rfl) (by as_aux_lemma => kernel_rfl) (by as_aux_lemma => rfl) hS (v := ?_) ?_ ?_
  rotate_left
  · (intro w' hS'; go_simp <;> try with_reducible rfl)
  try simp only [Act.put, List.setIfInBounds_toArray, List.set_cons_zero, List.set_cons_succ]
  refine rg_done (by kernel_rfl) ?_
  go_wp2
  go_ret
  exact ⟨rfl, hb⟩
end Go.Proofs.Ytiaikjeljhfadaa
