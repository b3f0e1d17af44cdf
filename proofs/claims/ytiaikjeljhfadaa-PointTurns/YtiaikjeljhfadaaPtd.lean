/- What PointTurns answers, of three points that may be. -/
import Derived.Test.YtiaikjeljhfadaaPtw
namespace Go.Proofs.Ytiaikjeljhfadaa
set_option linter.unusedSimpArgs false
set_option linter.unusedVariables false
open Go.RowKit
set_option maxRecDepth 100000
set_option maxHeartbeats 16000000 in
theorem pturn_d {a1 a2 b1 b2 c1 c2 x z m1 m2 : Rat} {t v : Int} {eb : Bool} (hq : Fq2 a1 ∧ Fq2 a2 ∧ Fq2 b1 ∧ Fq2 b2 ∧ Fq2 x ∧ Fq2 z) (I1 : Tl 56 #[vp a1 a2] (.bool true)) (I2 : Tl 56 #[vp b1 b2] (.bool true)) (I3 : Tl 56 #[vp c1 c2] (.bool true))
    (T1 : Tl 57 #[vp a1 a2, vp b1 b2, vp c1 c2] (.tuple #[.int .i64 t, .bool true])) (T2 : Tl 57 #[vp b1 b2, vp c1 c2, vp a1 a2] (.tuple #[.int .i64 t, .bool true])) (T3 : Tl 57 #[vp b1 b2, vp a1 a2, vp c1 c2] (.tuple #[.int .i64 v, .bool true])) (hv : IntKind.i64.wrap (-v) = t)
    (F1 : Tl 58 #[vp a1 a2, vp b1 b2] (.tuple #[vq x, .bool true])) (F2 : Tl 58 #[vp b1 b2, vp a1 a2] (.tuple #[vq x, .bool true])) (K : Tl 42 #[.int .i64 0] (vq z)) (he : decide (x = z) = eb ∧ decide (a1 = b1 ∧ a2 = b2) = eb) (hg : (fq x)[0]? = some (.bool false))
    (M : ∀ (w : World) (b : Nat) (t : TypeId), Blk w b (j2 (fq a1 ++ fq a2) (fq b1 ++ fq b2)) t → Calls Try.prog 59 #[.slice (some ⟨b, 0, none⟩) 2 2] w fun e w' => e = .returned (.tuple #[vp m1 m2, .bool true]) ∧ Below w.heap.size w w')
    (IM : Tl 56 #[vp m1 m2] (.bool false)) (w : World) :
    Calls Try.prog 9 #[vp a1 a2, vp b1 b2, vp c1 c2] w fun e w' => e = .returned (.bool true) ∧ Below w.heap.size w w' := by
  have HI1 := Lib.hid I1
  have HI2 := Lib.hid I2
  have HI3 := Lib.hid I3
  have HT1 := Lib.hid T1
  have HT2 := Lib.hid T2
  have HT3 := Lib.hid T3
  have HF1 := Lib.hid F1
  have HF2 := Lib.hid F2
  have HK := Lib.hid K
  have HIM := Lib.hid IM
  have HM := Lib.hid M
  have HQ : Hid (Fq2 a1 ∧ Fq2 a2 ∧ Fq2 b1 ∧ Fq2 b2 ∧ Fq2 x ∧ Fq2 z) := Lib.hid hq
  have HDC : Hid (decide (x = z) = eb ∧ decide (a1 = b1 ∧ a2 = b2) = eb) := Lib.hid he
  have HV := Lib.hid hv
  have HG := Lib.hid hg
  clear I1 I2 I3 T1 T2 T3 F1 F2 K IM M hq he hv hg
  unfold Tl at HI1 HI2 HI3 HT1 HT2 HT3 HF1 HF2 HK HIM
  unfold vp at *
  unfold vl at HI1 HI2 HI3 HT1 HT2 HT3 HF1 HF2 HIM HM
  have eq1 : vq = fun q => .agg (fq q).toArray := rfl
  rw [eq1] at HF1 HF2 HK
  have hA := rc_q a1
  have hB := rc_q a2
  have hC := rc_q b1
  have hD := rc_q b2
  have hE := rc_q c1
  have hF := rc_q c2
  unfold vl
  have HA := Lib.hid hA
  have HB := Lib.hid hB
  have HC := Lib.hid hC
  have HD := Lib.hid hD
  have HE := Lib.hid hE
  have HF := Lib.hid hF
  clear hA hB hC hD hE hF
  have b3 := ((Blk.new w (fq a1 ++ fq a2) 66 rfl).old (.cells (fq b1 ++ fq b2).toArray 66)).old (.cells (fq c1 ++ fq c2).toArray 66)
  have b4 := (Blk.new (w.alloc (.cells (fq a1 ++ fq a2).toArray 66)) (fq b1 ++ fq b2) 66 (b := w.heap.size + 1) (by simp)).old (.cells (fq c1 ++ fq c2).toArray 66)
  have b5 := Blk.new ((w.alloc (.cells (fq a1 ++ fq a2).toArray 66)).alloc (.cells (fq b1 ++ fq b2).toArray 66)) (fq c1 ++ fq c2) 66 (b := w.heap.size + 1 + 1) (by simp)
  have hb : Below w.heap.size w (((w.alloc (.cells (fq a1 ++ fq a2).toArray 66)).alloc (.cells (fq b1 ++ fq b2).toArray 66)).alloc (.cells (fq c1 ++ fq c2).toArray 66)) := (((Below.refl _ _).alloc (Nat.le_refl _) _).alloc (by simp) _).alloc (by simp; omega) _
  go_enter Try.func9, Try.ntmps9
  go_wp2_with fail
  refine (known3_any _).mono ?_
  rintro e w1 ⟨rfl, h1⟩
  replace b3 := b3.call h1
  replace b4 := b4.call h1
  replace b5 := b5.call h1
  replace hb := bthen hb h1
  clear h1
  go_wp2_with (first | (with_reducible refine ldPt rfl rfl rfl b3 HA.out HB.out ?_))
  refine (HI1.out _).mono ?_
  rintro e w1 ⟨rfl, h1⟩
  replace b3 := b3.call h1
  replace b4 := b4.call h1
  replace b5 := b5.call h1
  replace hb := bthen hb h1
  clear h1
  go_wp2_with (first | (refine ldPtg (by rfl) rfl rfl b4 HC.out HD.out ?_))
  refine (HI2.out _).mono ?_
  rintro e w1 ⟨rfl, h1⟩
  replace b3 := b3.call h1
  replace b4 := b4.call h1
  replace b5 := b5.call h1
  replace hb := bthen hb h1
  clear h1
  go_wp2_with (first | (refine ldPtg (by rfl) rfl rfl b5 HE.out HF.out ?_))
  refine (HI3.out _).mono ?_
  rintro e w1 ⟨rfl, h1⟩
  replace b3 := b3.call h1
  replace b4 := b4.call h1
  replace b5 := b5.call h1
  replace hb := bthen hb h1
  clear h1
  go_wp2_with (first | (with_reducible refine ldPt rfl rfl rfl b3 (rc_q _) (rc_q _) ?_) | (with_reducible refine ldX rfl rfl rfl b3 (rc_q _) (rc_q _) ?_) | (with_reducible refine ldY rfl rfl rfl b3 (rc_q _) (rc_q _) ?_) | (with_reducible refine ldPt rfl rfl rfl b4 (rc_q _) (rc_q _) ?_) | (with_reducible refine ldX rfl rfl rfl b4 (rc_q _) (rc_q _) ?_) | (with_reducible refine ldY rfl rfl rfl b4 (rc_q _) (rc_q _) ?_) | (with_reducible refine ldPt rfl rfl rfl b5 (rc_q _) (rc_q _) ?_) | (with_reducible refine ldX rfl rfl rfl b5 (rc_q _) (rc_q _) ?_) | (with_reducible refine ldY rfl rfl rfl b5 (rc_q _) (rc_q _) ?_))
  refine (HT1.out _).mono ?_
  rintro e w1 ⟨rfl, h1⟩
  replace b3 := b3.call h1
  replace b4 := b4.call h1
  replace b5 := b5.call h1
  replace hb := bthen hb h1
  clear h1
  go_wp2_with (first | (with_reducible refine ldPt rfl rfl rfl b3 (rc_q _) (rc_q _) ?_) | (with_reducible refine ldX rfl rfl rfl b3 (rc_q _) (rc_q _) ?_) | (with_reducible refine ldY rfl rfl rfl b3 (rc_q _) (rc_q _) ?_) | (with_reducible refine ldPt rfl rfl rfl b4 (rc_q _) (rc_q _) ?_) | (with_reducible refine ldX rfl rfl rfl b4 (rc_q _) (rc_q _) ?_) | (with_reducible refine ldY rfl rfl rfl b4 (rc_q _) (rc_q _) ?_) | (with_reducible refine ldPt rfl rfl rfl b5 (rc_q _) (rc_q _) ?_) | (with_reducible refine ldX rfl rfl rfl b5 (rc_q _) (rc_q _) ?_) | (with_reducible refine ldY rfl rfl rfl b5 (rc_q _) (rc_q _) ?_))
  refine (HT2.out _).mono ?_
  rintro e w1 ⟨rfl, h1⟩
  replace b3 := b3.call h1
  replace b4 := b4.call h1
  replace b5 := b5.call h1
  replace hb := bthen hb h1
  clear h1
  go_wp2_with (first | (with_reducible refine ldPt rfl rfl rfl b3 (rc_q _) (rc_q _) ?_) | (with_reducible refine ldX rfl rfl rfl b3 (rc_q _) (rc_q _) ?_) | (with_reducible refine ldY rfl rfl rfl b3 (rc_q _) (rc_q _) ?_) | (with_reducible refine ldPt rfl rfl rfl b4 (rc_q _) (rc_q _) ?_) | (with_reducible refine ldX rfl rfl rfl b4 (rc_q _) (rc_q _) ?_) | (with_reducible refine ldY rfl rfl rfl b4 (rc_q _) (rc_q _) ?_) | (with_reducible refine ldPt rfl rfl rfl b5 (rc_q _) (rc_q _) ?_) | (with_reducible refine ldX rfl rfl rfl b5 (rc_q _) (rc_q _) ?_) | (with_reducible refine ldY rfl rfl rfl b5 (rc_q _) (rc_q _) ?_))
  refine (HT3.out _).mono ?_
  rintro e w1 ⟨rfl, h1⟩
  replace b3 := b3.call h1
  replace b4 := b4.call h1
  replace b5 := b5.call h1
  replace hb := bthen hb h1
  clear h1
  go_wp2_with (first | (with_reducible refine ldPt rfl rfl rfl b3 (rc_q _) (rc_q _) ?_) | (with_reducible refine ldX rfl rfl rfl b3 (rc_q _) (rc_q _) ?_) | (with_reducible refine ldY rfl rfl rfl b3 (rc_q _) (rc_q _) ?_) | (with_reducible refine ldPt rfl rfl rfl b4 (rc_q _) (rc_q _) ?_) | (with_reducible refine ldX rfl rfl rfl b4 (rc_q _) (rc_q _) ?_) | (with_reducible refine ldY rfl rfl rfl b4 (rc_q _) (rc_q _) ?_) | (with_reducible refine ldPt rfl rfl rfl b5 (rc_q _) (rc_q _) ?_) | (with_reducible refine ldX rfl rfl rfl b5 (rc_q _) (rc_q _) ?_) | (with_reducible refine ldY rfl rfl rfl b5 (rc_q _) (rc_q _) ?_))
  refine (HF1.out _).mono ?_
  rintro e w1 ⟨rfl, h1⟩
  replace b3 := b3.call h1
  replace b4 := b4.call h1
  replace b5 := b5.call h1
  replace hb := bthen hb h1
  clear h1
  have f := Blk.new w1 (rr false 0 false 0) 45 rfl
  have b13 := laid_n w1 (rr false 0 false 0) (fq x) 45
  replace b3 := laid_o b3 (rr false 0 false 0) (fq x) 45
  replace b4 := laid_o b4 (rr false 0 false 0) (fq x) 45
  replace b5 := laid_o b5 (rr false 0 false 0) (fq x) 45
  replace hb := laid_b hb (rr false 0 false 0) (fq x) 45
  go_wp2_with (first | (with_reducible refine alR rfl rfl ?_) | (with_reducible refine stQ rfl rfl rfl rfl f (rr_length _ _ _ _) (rc_q _) ?_) | (with_reducible refine ldPt rfl rfl rfl b3 (rc_q _) (rc_q _) ?_) | (with_reducible refine ldX rfl rfl rfl b3 (rc_q _) (rc_q _) ?_) | (with_reducible refine ldY rfl rfl rfl b3 (rc_q _) (rc_q _) ?_) | (with_reducible refine ldPt rfl rfl rfl b4 (rc_q _) (rc_q _) ?_) | (with_reducible refine ldX rfl rfl rfl b4 (rc_q _) (rc_q _) ?_) | (with_reducible refine ldY rfl rfl rfl b4 (rc_q _) (rc_q _) ?_) | (with_reducible refine ldPt rfl rfl rfl b5 (rc_q _) (rc_q _) ?_) | (with_reducible refine ldX rfl rfl rfl b5 (rc_q _) (rc_q _) ?_) | (with_reducible refine ldY rfl rfl rfl b5 (rc_q _) (rc_q _) ?_) | (with_reducible refine ldA' rfl rfl rfl b13 (rc_q _) ?_))
  clear f
  generalize (w1.alloc (.cells (rr false 0 false 0).toArray 45)).setRow w1.heap.size (fq x).toArray = W at *
  generalize w1.heap.size = pl_b13 at *
  refine (HF2.out _).mono ?_
  rintro e w1 ⟨rfl, h1⟩
  replace b3 := b3.call h1
  replace b4 := b4.call h1
  replace b5 := b5.call h1
  replace b13 := b13.call h1
  replace hb := bthen hb h1
  clear h1
  clear b5
  have hW1 : ((w1.alloc (.cells (rr false 0 false 0).toArray 45)).setRow w1.heap.size (fq x).toArray).heap.size = w1.heap.size + 1 := by simp
  have f := Blk.new w1 (rr false 0 false 0) 45 rfl
  have b15 := laid_n w1 (rr false 0 false 0) (fq x) 45
  replace b3 := laid_o b3 (rr false 0 false 0) (fq x) 45
  replace b4 := laid_o b4 (rr false 0 false 0) (fq x) 45
  replace b13 := laid_o b13 (rr false 0 false 0) (fq x) 45
  replace hb := laid_b hb (rr false 0 false 0) (fq x) 45
  go_wp2_with (first | (with_reducible refine alR rfl rfl ?_) | (with_reducible refine stQ rfl rfl rfl rfl f (rr_length _ _ _ _) (rc_q _) ?_) | (with_reducible refine ldPt rfl rfl rfl b3 (rc_q _) (rc_q _) ?_) | (with_reducible refine ldX rfl rfl rfl b3 (rc_q _) (rc_q _) ?_) | (with_reducible refine ldY rfl rfl rfl b3 (rc_q _) (rc_q _) ?_) | (with_reducible refine ldPt rfl rfl rfl b4 (rc_q _) (rc_q _) ?_) | (with_reducible refine ldX rfl rfl rfl b4 (rc_q _) (rc_q _) ?_) | (with_reducible refine ldY rfl rfl rfl b4 (rc_q _) (rc_q _) ?_) | (with_reducible refine ldA' rfl rfl rfl b13 (rc_q _) ?_) | (with_reducible refine ldA' rfl rfl rfl b15 (rc_q _) ?_) | (with_reducible refine bsP2 rfl rfl rfl rfl (rc_q _) (rc_q _) (rc_q _) (rc_q _) ?_))
  clear f
  generalize (w1.alloc (.cells (rr false 0 false 0).toArray 45)).setRow w1.heap.size (fq x).toArray = W at *
  generalize w1.heap.size = pl_b15 at *
  have sl := Blk.new W (j2 (fq a1 ++ fq a2) (fq b1 ++ fq b2)) 66 (b := pl_b15 + 1) hW1.symm
  replace b3 := b3.old (.cells (j2 (fq a1 ++ fq a2) (fq b1 ++ fq b2)).toArray 66)
  replace b4 := b4.old (.cells (j2 (fq a1 ++ fq a2) (fq b1 ++ fq b2)).toArray 66)
  replace b13 := b13.old (.cells (j2 (fq a1 ++ fq a2) (fq b1 ++ fq b2)).toArray 66)
  replace b15 := b15.old (.cells (j2 (fq a1 ++ fq a2) (fq b1 ++ fq b2)).toArray 66)
  replace hb := hb.alloc hb.size (.cells (j2 (fq a1 ++ fq a2) (fq b1 ++ fq b2)).toArray 66)
  refine (HM.out _ _ _ sl).mono ?_
  rintro e w1 ⟨rfl, h1⟩
  replace b3 := b3.call h1
  replace b4 := b4.call h1
  replace b13 := b13.call h1
  replace b15 := b15.call h1
  replace hb := bthen hb h1
  clear h1
  clear sl hW1
  have f := Blk.new w1 p0 66 rfl
  have b17 := laid_n w1 p0 (fq m1 ++ fq m2) 66
  replace b3 := laid_o b3 p0 (fq m1 ++ fq m2) 66
  replace b4 := laid_o b4 p0 (fq m1 ++ fq m2) 66
  replace b13 := laid_o b13 p0 (fq m1 ++ fq m2) 66
  replace b15 := laid_o b15 p0 (fq m1 ++ fq m2) 66
  replace hb := laid_b hb p0 (fq m1 ++ fq m2) 66
  go_wp2_with (first | (with_reducible refine alP rfl rfl ?_) | (with_reducible refine stPt rfl rfl rfl rfl f p0_len (rc_q _) (rc_q _) ?_) | (with_reducible refine ldPt rfl rfl rfl b3 (rc_q _) (rc_q _) ?_) | (with_reducible refine ldX rfl rfl rfl b3 (rc_q _) (rc_q _) ?_) | (with_reducible refine ldY rfl rfl rfl b3 (rc_q _) (rc_q _) ?_) | (with_reducible refine ldPt rfl rfl rfl b4 (rc_q _) (rc_q _) ?_) | (with_reducible refine ldX rfl rfl rfl b4 (rc_q _) (rc_q _) ?_) | (with_reducible refine ldY rfl rfl rfl b4 (rc_q _) (rc_q _) ?_) | (with_reducible refine ldA' rfl rfl rfl b13 (rc_q _) ?_) | (with_reducible refine ldA' rfl rfl rfl b15 (rc_q _) ?_) | (with_reducible refine ldPt rfl rfl rfl b17 (rc_q _) (rc_q _) ?_) | (with_reducible refine ldX rfl rfl rfl b17 (rc_q _) (rc_q _) ?_) | (with_reducible refine ldY rfl rfl rfl b17 (rc_q _) (rc_q _) ?_))
  clear f
  generalize (w1.alloc (.cells p0.toArray 66)).setRow w1.heap.size (fq m1 ++ fq m2).toArray = W at *
  generalize w1.heap.size = pl_b17 at *
  refine rg_start [] (by kernel_rfl) (fun hS => ?_)
  replace hb := hb.drew
  refine rg_take 0 rfl (by as_aux_lemma => kernel_rfl) (by as_aux_lemma => kernel_rfl) (by as_aux_lemma => kernel_rfl) (by as_aux_lemma => rfl) hS (v := ?_) ?_ ?_
  rotate_left
  · (intro w' hS'; go_simp <;> try with_reducible rfl)
  try simp only [Act.put, List.setIfInBounds_toArray, List.set_cons_zero, List.set_cons_succ]
  refine rg_take 1 rfl (by as_aux_lemma => kernel_rfl) (by as_aux_lemma => kernel_rfl) (by as_aux_lemma => kernel_rfl) (by as_aux_lemma => rfl) hS (v := ?_) ?_ ?_
  rotate_left
  · (intro w' hS'; go_simp <;> try with_reducible rfl)
  try simp only [Act.put, List.setIfInBounds_toArray, List.set_cons_zero, List.set_cons_succ]
  refine rg_take 2 rfl (by as_aux_lemma => kernel_rfl) (by as_aux_lemma => kernel_rfl) (by as_aux_lemma => kernel_rfl) (by as_aux_lemma => rfl) hS (v := ?_) ?_ ?_
  rotate_left
  · (intro w' hS'; go_simp <;> try with_reducible rfl)
  try simp only [Act.put, List.setIfInBounds_toArray, List.set_cons_zero, List.set_cons_succ]
  refine rg_take 3 rfl (by as_aux_lemma => kernel_rfl) (by as_aux_lemma => kernel_rfl) (by as_aux_lemma => kernel_rfl) (by as_aux_lemma => rfl) hS (v := ?_) ?_ ?_
  rotate_left
  · (intro w' hS'; go_simp <;> try with_reducible rfl)
  try simp only [Act.put, List.setIfInBounds_toArray, List.set_cons_zero, List.set_cons_succ]
  refine rg_take 4 rfl (by as_aux_lemma => kernel_rfl) (by as_aux_lemma => kernel_rfl) (by as_aux_lemma => kernel_rfl) (by as_aux_lemma => rfl) hS (v := ?_) ?_ ?_
  rotate_left
  · (intro w' hS'; go_simp <;> try with_reducible rfl)
  try simp only [Act.put, List.setIfInBounds_toArray, List.set_cons_zero, List.set_cons_succ]
  refine rg_take 5 rfl (by as_aux_lemma => kernel_rfl) (by as_aux_lemma => kernel_rfl) (by as_aux_lemma => kernel_rfl) (by as_aux_lemma => rfl) hS (v := ?_) ?_ ?_
  rotate_left
  · (intro w' hS'; go_simp <;> try with_reducible rfl)
  try simp only [Act.put, List.setIfInBounds_toArray, List.set_cons_zero, List.set_cons_succ]
  refine rg_take 6 rfl (by as_aux_lemma => kernel_rfl) (by as_aux_lemma => kernel_rfl) (by as_aux_lemma => kernel_rfl) (by as_aux_lemma => rfl) hS (v := ?_) ?_ ?_
  rotate_left
  · (intro w' hS'; go_simp <;> try with_reducible rfl)
  try simp only [Act.put, List.setIfInBounds_toArray, List.set_cons_zero, List.set_cons_succ]
  refine rg_take 7 rfl (by as_aux_lemma => kernel_rfl) (by as_aux_lemma => kernel_rfl) (by as_aux_lemma => kernel_rfl) (by as_aux_lemma => rfl) hS (v := ?_) ?_ ?_
  rotate_left
  · (intro w' hS'; go_simp <;> try with_reducible rfl)
  try simp only [Act.put, List.setIfInBounds_toArray, List.set_cons_zero, List.set_cons_succ]
  refine rg_take 8 rfl (by as_aux_lemma => kernel_rfl) (by as_aux_lemma => kernel_rfl) (by as_aux_lemma => kernel_rfl) (by as_aux_lemma => rfl) hS (v := ?_) ?_ ?_
  rotate_left
  · (intro w' hS'; go_simp <;> try with_reducible rfl)
  try simp only [Act.put, List.setIfInBounds_toArray, List.set_cons_zero, List.set_cons_succ]
  refine rg_take 9 rfl (by as_aux_lemma => kernel_rfl) (by as_aux_lemma => kernel_rfl) (by as_aux_lemma => kernel_rfl) (by as_aux_lemma => rfl) hS (v := ?_) ?_ ?_
  rotate_left
  · (intro w' hS'; go_simp <;> try with_reducible rfl)
  try simp only [Act.put, List.setIfInBounds_toArray, List.set_cons_zero, List.set_cons_succ]
  refine rg_take 10 rfl (by as_aux_lemma => kernel_rfl) (by as_aux_lemma => kernel_rfl) (by as_aux_lemma => kernel_rfl) (by as_aux_lemma => rfl) hS (v := ?_) ?_ ?_
  rotate_left
  · (intro w' hS'; go_simp <;> try with_reducible rfl)
  try simp only [Act.put, List.setIfInBounds_toArray, List.set_cons_zero, List.set_cons_succ]
  refine rg_take 11 rfl (by as_aux_lemma => kernel_rfl) (by as_aux_lemma => kernel_rfl) (by as_aux_lemma => kernel_rfl) (by as_aux_lemma => rfl) hS (v := ?_) ?_ ?_
  rotate_left
  · (intro w' hS'; go_simp <;> try with_reducible rfl)
  try simp only [Act.put, List.setIfInBounds_toArray, List.set_cons_zero, List.set_cons_succ]
  refine rg_take 12 rfl (by as_aux_lemma => kernel_rfl) (by as_aux_lemma => kernel_rfl) (by as_aux_lemma => kernel_rfl) (by as_aux_lemma => rfl) hS (v := ?_) ?_ ?_
  rotate_left
  · (intro w' hS'; go_simp <;> try with_reducible rfl)
  try simp only [Act.put, List.setIfInBounds_toArray, List.set_cons_zero, List.set_cons_succ]
  refine rg_take 13 rfl (by as_aux_lemma => kernel_rfl) (by as_aux_lemma => kernel_rfl) (by as_aux_lemma => kernel_rfl) (by as_aux_lemma => rfl) hS (v := ?_) ?_ ?_
  rotate_left
  · (intro w' hS'; go_simp <;> try with_reducible rfl)
  try simp only [Act.put, List.setIfInBounds_toArray, List.set_cons_zero, List.set_cons_succ]
  refine rg_take 14 rfl (by as_aux_lemma => kernel_rfl) (by as_aux_lemma => kernel_rfl) (by as_aux_lemma => kernel_rfl) (by as_aux_lemma => rfl) hS (v := ?_) ?_ ?_
  rotate_left
  · (intro w' hS'; go_simp <;> try with_reducible rfl)
  try simp only [Act.put, List.setIfInBounds_toArray, List.set_cons_zero, List.set_cons_succ]
  refine rg_take 15 rfl (by as_aux_lemma => kernel_rfl) (by as_aux_lemma => kernel_rfl) (by as_aux_lemma => kernel_rfl) (by as_aux_lemma => rfl) hS (v := ?_) ?_ ?_
  rotate_left
  · (intro w' hS'; go_simp <;> try with_reducible rfl)
  try simp only [Act.put, List.setIfInBounds_toArray, List.set_cons_zero, List.set_cons_succ]
  refine rg_take 16 rfl (by as_aux_lemma => kernel_rfl) (by as_aux_lemma => kernel_rfl) (by as_aux_lemma => kernel_rfl) (by as_aux_lemma => rfl) hS (v := ?_) ?_ ?_
  rotate_left
  · (intro w' hS'; go_simp <;> try with_reducible rfl)
  try simp only [Act.put, List.setIfInBounds_toArray, List.set_cons_zero, List.set_cons_succ]
  refine rg_take 17 rfl (by as_aux_lemma => kernel_rfl) (by as_aux_lemma => kernel_rfl) (by as_aux_lemma => kernel_rfl) (by as_aux_lemma => rfl) hS (v := ?_) ?_ ?_
  rotate_left
  · (intro w' hS'; go_simp <;> try with_reducible rfl)
  try simp only [Act.put, List.setIfInBounds_toArray, List.set_cons_zero, List.set_cons_succ]
  refine rg_take 18 rfl (by as_aux_lemma => kernel_rfl) (by as_aux_lemma => kernel_rfl) (by as_aux_lemma => kernel_rfl) (by as_aux_lemma => rfl) hS (v := ?_) ?_ ?_
  rotate_left
  · (intro w' hS'; go_simp <;> try with_reducible rfl)
  try simp only [Act.put, List.setIfInBounds_toArray, List.set_cons_zero, List.set_cons_succ]
  refine rg_take 19 rfl (by as_aux_lemma => kernel_rfl) (by as_aux_lemma => kernel_rfl) (by as_aux_lemma => kernel_rfl) (by as_aux_lemma => rfl) hS (v := ?_) ?_ ?_
  rotate_left
  · (intro w' hS'; go_simp <;> try with_reducible rfl)
  try simp only [Act.put, List.setIfInBounds_toArray, List.set_cons_zero, List.set_cons_succ]
  refine rg_take 20 rfl (by as_aux_lemma => kernel_rfl) (by as_aux_lemma => kernel_rfl) (by as_aux_lemma => kernel_rfl) (by as_aux_lemma => rfl) hS (v := ?_) ?_ ?_
  rotate_left
  · (intro w' hS'; go_simp <;> try with_reducible rfl)
  try simp only [Act.put, List.setIfInBounds_toArray, List.set_cons_zero, List.set_cons_succ]
  refine rg_take 21 rfl (by as_aux_lemma => kernel_rfl) (by as_aux_lemma => kernel_rfl) (by as_aux_lemma => kernel_rfl) (by as_aux_lemma => rfl) hS (v := ?_) ?_ ?_
  rotate_left
  · (intro w' hS'; go_simp <;> try with_reducible rfl)
  try simp only [Act.put, List.setIfInBounds_toArray, List.set_cons_zero, List.set_cons_succ]
  refine rg_take 22 rfl (by as_aux_lemma => kernel_rfl) (by as_aux_lemma => kernel_rfl) (by as_aux_lemma => kernel_rfl) (by as_aux_lemma => rfl) hS (v := ?_) ?_ ?_
  rotate_left
  · (intro w' hS'; go_simp <;> try with_reducible rfl)
  try simp only [Act.put, List.setIfInBounds_toArray, List.set_cons_zero, List.set_cons_succ]
  refine rg_take 23 rfl (by as_aux_lemma => kernel_rfl) (by as_aux_lemma => kernel_rfl) (by as_aux_lemma => kernel_rfl) (by as_aux_lemma => rfl) hS (v := ?_) ?_ ?_
  rotate_left
  · (intro w' hS'; go_simp <;> try with_reducible rfl)
  try simp only [Act.put, List.setIfInBounds_toArray, List.set_cons_zero, List.set_cons_succ]
  refine rg_take 24 rfl (by as_aux_lemma => kernel_rfl) (by as_aux_lemma => kernel_rfl) (by as_aux_lemma => kernel_rfl) (by as_aux_lemma => rfl) hS (v := ?_) ?_ ?_
  rotate_left
  · (intro w' hS'; go_simp <;> try with_reducible rfl)
  try simp only [Act.put, List.setIfInBounds_toArray, List.set_cons_zero, List.set_cons_succ]
  refine rg_take 25 rfl (by as_aux_lemma => kernel_rfl) (by as_aux_lemma => kernel_rfl) (by as_aux_lemma => kernel_rfl) (by as_aux_lemma => rfl) hS (v := .bool false) (fun w' _ => op_neI rfl rfl rfl w') ?_
  try simp only [Act.put, List.setIfInBounds_toArray, List.set_cons_zero, List.set_cons_succ]
  refine rg_take 26 rfl (by as_aux_lemma => kernel_rfl) (by as_aux_lemma => kernel_rfl) (by as_aux_lemma => kernel_rfl) (by as_aux_lemma => rfl) hS (v := ?_) ?_ ?_
  rotate_left
  · (intro w' hS'; go_simp <;> try with_reducible rfl)
  try simp only [Act.put, List.setIfInBounds_toArray, List.set_cons_zero, List.set_cons_succ]
  refine rg_take 27 rfl (by as_aux_lemma => kernel_rfl) (by as_aux_lemma => kernel_rfl) (by as_aux_lemma => kernel_rfl) (by as_aux_lemma => rfl) hS (v := ?_) ?_ ?_
  rotate_left
  · (intro w' hS'; go_simp <;> try with_reducible rfl)
  try simp only [Act.put, List.setIfInBounds_toArray, List.set_cons_zero, List.set_cons_succ]
  refine rg_take 28 rfl (by as_aux_lemma => kernel_rfl) (by as_aux_lemma => kernel_rfl) (by as_aux_lemma => kernel_rfl) (by as_aux_lemma => rfl) hS (v := ?_) ?_ ?_
  rotate_left
  · (intro w' hS'; go_simp <;> try with_reducible rfl)
  try simp only [Act.put, List.setIfInBounds_toArray, List.set_cons_zero, List.set_cons_succ]
  refine rg_take 29 rfl (by as_aux_lemma => kernel_rfl) (by as_aux_lemma => kernel_rfl) (by as_aux_lemma => kernel_rfl) (by as_aux_lemma => rfl) hS (v := ?_) ?_ ?_
  rotate_left
  · (intro w' hS'; go_simp <;> try with_reducible rfl)
  try simp only [Act.put, List.setIfInBounds_toArray, List.set_cons_zero, List.set_cons_succ]
  refine rg_take 30 rfl (by as_aux_lemma => kernel_rfl) (by as_aux_lemma => kernel_rfl) (by as_aux_lemma => kernel_rfl) (by as_aux_lemma => rfl) hS (v := .int .i64 t) (fun w' _ => op_negI HV.out rfl rfl w') ?_
  try simp only [Act.put, List.setIfInBounds_toArray, List.set_cons_zero, List.set_cons_succ]
  refine rg_take 31 rfl (by as_aux_lemma => kernel_rfl) (by as_aux_lemma => kernel_rfl) (by as_aux_lemma => kernel_rfl) (by as_aux_lemma => rfl) hS (v := .bool false) (fun w' _ => op_neI rfl rfl rfl w') ?_
  try simp only [Act.put, List.setIfInBounds_toArray, List.set_cons_zero, List.set_cons_succ]
  refine rg_take 32 rfl (by as_aux_lemma => kernel_rfl) (by as_aux_lemma => kernel_rfl) (by as_aux_lemma => kernel_rfl) (by as_aux_lemma => rfl) hS (v := ?_) ?_ ?_
  rotate_left
  · (intro w' hS'; go_simp <;> try with_reducible rfl)
  try simp only [Act.put, List.setIfInBounds_toArray, List.set_cons_zero, List.set_cons_succ]
  refine rg_take 33 rfl (by as_aux_lemma => kernel_rfl) (by as_aux_lemma => kernel_rfl) (by as_aux_lemma => kernel_rfl) (by as_aux_lemma => rfl) hS (v := ?_) ?_ ?_
  rotate_left
  · (intro w' hS'; go_simp <;> try with_reducible rfl)
  try simp only [Act.put, List.setIfInBounds_toArray, List.set_cons_zero, List.set_cons_succ]
  refine rg_ld 34 rfl (by as_aux_lemma => kernel_rfl) (by as_aux_lemma => kernel_rfl) (by as_aux_lemma => kernel_rfl) (by as_aux_lemma => rfl) hS rfl rfl b13 (by simp <;> omega) (rc_q _).whole ?_
  try simp only [Act.put, List.setIfInBounds_toArray, List.set_cons_zero, List.set_cons_succ]
  refine rg_ld 35 rfl (by as_aux_lemma => kernel_rfl) (by as_aux_lemma => kernel_rfl) (by as_aux_lemma => kernel_rfl) (by as_aux_lemma => rfl) hS rfl rfl b15 (by simp <;> omega) (rc_q _).whole ?_
  try simp only [Act.put, List.setIfInBounds_toArray, List.set_cons_zero, List.set_cons_succ]
  refine rg_take 36 rfl (by as_aux_lemma => kernel_rfl) (by as_aux_lemma => kernel_rfl) (by as_aux_lemma => kernel_rfl) (by as_aux_lemma => rfl) hS (v := .bool false) (fun w' _ => op_neqs HQ.out.2.2.2.2.1 rfl rfl rfl w') ?_
  try simp only [Act.put, List.setIfInBounds_toArray, List.set_cons_zero, List.set_cons_succ]
  refine rg_take 37 rfl (by as_aux_lemma => kernel_rfl) (by as_aux_lemma => kernel_rfl) (by as_aux_lemma => kernel_rfl) (by as_aux_lemma => rfl) hS (v := ?_) ?_ ?_
  rotate_left
  · (intro w' hS'; go_simp <;> try with_reducible rfl)
  try simp only [Act.put, List.setIfInBounds_toArray, List.set_cons_zero, List.set_cons_succ]
  refine rg_take 38 rfl (by as_aux_lemma => kernel_rfl) (by as_aux_lemma => kernel_rfl) (by as_aux_lemma => kernel_rfl) (by as_aux_lemma => rfl) hS (v := ?_) ?_ ?_
  rotate_left
  · (intro w' hS'; go_simp <;> try with_reducible rfl)
  try simp only [Act.put, List.setIfInBounds_toArray, List.set_cons_zero, List.set_cons_succ]
  refine rg_take 39 rfl (by as_aux_lemma => kernel_rfl) (by as_aux_lemma => kernel_rfl) (by as_aux_lemma => kernel_rfl) (by as_aux_lemma => rfl) hS (v := ?_) ?_ ?_
  rotate_left
  · (intro w' hS'; go_simp <;> try with_reducible rfl)
  try simp only [Act.put, List.setIfInBounds_toArray, List.set_cons_zero, List.set_cons_succ]
  refine rg_take 40 rfl (by as_aux_lemma => kernel_rfl) (by as_aux_lemma => kernel_rfl) (by as_aux_lemma => kernel_rfl) (by as_aux_lemma => rfl) hS (v := ?_) ?_ ?_
  rotate_left
  · (intro w' hS'; go_simp <;> try with_reducible rfl)
  try simp only [Act.put, List.setIfInBounds_toArray, List.set_cons_zero, List.set_cons_succ]
  refine rg_take 41 rfl (by as_aux_lemma => kernel_rfl) (by as_aux_lemma => kernel_rfl) (by as_aux_lemma => kernel_rfl) (by as_aux_lemma => rfl) hS (v := ?_) ?_ ?_
  rotate_left
  · (intro w' hS'; have hc := (b13.keep hS' (by simp <;> omega)).cell (i := 0) (v := .bool false) HG.out; go_simp <;> try with_reducible rfl)
  try simp only [Act.put, List.setIfInBounds_toArray, List.set_cons_zero, List.set_cons_succ]
  refine rg_take 42 rfl (by as_aux_lemma => kernel_rfl) (by as_aux_lemma => kernel_rfl) (by as_aux_lemma => kernel_rfl) (by as_aux_lemma => rfl) hS (v := ?_) ?_ ?_
  rotate_left
  · (intro w' hS'; go_simp <;> try with_reducible rfl)
  try simp only [Act.put, List.setIfInBounds_toArray, List.set_cons_zero, List.set_cons_succ]
  refine rg_take 43 rfl (by as_aux_lemma => kernel_rfl) (by as_aux_lemma => kernel_rfl) (by as_aux_lemma => kernel_rfl) (by as_aux_lemma => rfl) hS (v := ?_) ?_ ?_
  rotate_left
  · (intro w' hS'; go_simp <;> try with_reducible rfl)
  try simp only [Act.put, List.setIfInBounds_toArray, List.set_cons_zero, List.set_cons_succ]
  refine rg_ld 44 rfl (by as_aux_lemma => kernel_rfl) (by as_aux_lemma => kernel_rfl) (by as_aux_lemma => kernel_rfl) (by as_aux_lemma => rfl) hS rfl rfl b13 (by simp <;> omega) (rc_q _).whole ?_
  try simp only [Act.put, List.setIfInBounds_toArray, List.set_cons_zero, List.set_cons_succ]
  refine rg_ld 47 rfl (by as_aux_lemma => kernel_rfl) (by as_aux_lemma => kernel_rfl) (by as_aux_lemma => kernel_rfl) (by as_aux_lemma => rfl) hS rfl rfl b3 (by simp <;> omega) (wholeP (rc_q _) (rc_q _)) ?_
  try simp only [Act.put, List.setIfInBounds_toArray, List.set_cons_zero, List.set_cons_succ]
  refine rg_ld 48 rfl (by as_aux_lemma => kernel_rfl) (by as_aux_lemma => kernel_rfl) (by as_aux_lemma => kernel_rfl) (by as_aux_lemma => rfl) hS rfl rfl b4 (by simp <;> omega) (wholeP (rc_q _) (rc_q _)) ?_
  try simp only [Act.put, List.setIfInBounds_toArray, List.set_cons_zero, List.set_cons_succ]
  refine rg_take 49 rfl (by as_aux_lemma => kernel_rfl) (by as_aux_lemma => kernel_rfl) (by as_aux_lemma => kernel_rfl) (by as_aux_lemma => rfl) hS (v := .bool eb) (fun w' _ => op_eqP HQ.out.1 HQ.out.2.1 HQ.out.2.2.1 HQ.out.2.2.2.1 HDC.out.2 rfl rfl rfl w') ?_
  try simp only [Act.put, List.setIfInBounds_toArray, List.set_cons_zero, List.set_cons_succ]
  refine rg_eff 45 rfl (by as_aux_lemma => kernel_rfl) (by as_aux_lemma => rfl) (fun K hK => ?_)
  go_simp
  refine (HK.out _).mono ?_
  rintro e w1 ⟨rfl, h1⟩
  refine hK _ _ (hS.call h1) (fun hS => ?_)
  clear hK K
  replace hb := bthen hb h1
  replace b3 := b3.keep hS (by simp <;> omega)
  replace b4 := b4.keep hS (by simp <;> omega)
  replace b17 := b17.keep hS (by simp <;> omega)
  clear h1
  try simp only [Act.put, List.setIfInBounds_toArray, List.set_cons_zero, List.set_cons_succ]
  refine rg_take 46 rfl (by as_aux_lemma => kernel_rfl) (by as_aux_lemma => kernel_rfl) (by as_aux_lemma => kernel_rfl) (by as_aux_lemma => rfl) hS (v := .bool eb) (fun w' _ => op_eqq HQ.out.2.2.2.2.1 HQ.out.2.2.2.2.2 HDC.out.1 rfl rfl rfl w') ?_
  try simp only [Act.put, List.setIfInBounds_toArray, List.set_cons_zero, List.set_cons_succ]
  refine rg_take 50 rfl (by as_aux_lemma => kernel_rfl) (by as_aux_lemma => kernel_rfl) (by as_aux_lemma => kernel_rfl) (by as_aux_lemma => rfl) hS (v := .bool false) (fun w' _ => op_nebs rfl rfl rfl w') ?_
  try simp only [Act.put, List.setIfInBounds_toArray, List.set_cons_zero, List.set_cons_succ]
  refine rg_take 51 rfl (by as_aux_lemma => kernel_rfl) (by as_aux_lemma => kernel_rfl) (by as_aux_lemma => kernel_rfl) (by as_aux_lemma => rfl) hS (v := ?_) ?_ ?_
  rotate_left
  · (intro w' hS'; go_simp <;> try with_reducible rfl)
  try simp only [Act.put, List.setIfInBounds_toArray, List.set_cons_zero, List.set_cons_succ]
  refine rg_done (by kernel_rfl) ?_
  go_wp2_with (first | (with_reducible refine ldPt rfl rfl rfl b17 (rc_q _) (rc_q _) ?_))
  refine (HIM.out _).mono ?_
  rintro e w1 ⟨rfl, h1⟩
  replace hb := bthen hb h1
  clear h1
  go_wp2
  go_ret
  exact ⟨rfl, hb⟩
set_option maxHeartbeats 16000000 in
theorem pturn_e {a1 a2 b1 b2 c1 c2 x z m1 m2 p : Rat} {t v : Int} {eb : Bool} (hq : Fq2 a1 ∧ Fq2 a2 ∧ Fq2 b1 ∧ Fq2 b2 ∧ Fq2 x ∧ Fq2 z) (hp : Fq2 p) (I1 : Tl 56 #[vp a1 a2] (.bool true)) (I2 : Tl 56 #[vp b1 b2] (.bool true)) (I3 : Tl 56 #[vp c1 c2] (.bool true))
    (T1 : Tl 57 #[vp a1 a2, vp b1 b2, vp c1 c2] (.tuple #[.int .i64 t, .bool true])) (T2 : Tl 57 #[vp b1 b2, vp c1 c2, vp a1 a2] (.tuple #[.int .i64 t, .bool true])) (T3 : Tl 57 #[vp b1 b2, vp a1 a2, vp c1 c2] (.tuple #[.int .i64 v, .bool true])) (hv : IntKind.i64.wrap (-v) = t)
    (F1 : Tl 58 #[vp a1 a2, vp b1 b2] (.tuple #[vq x, .bool true])) (F2 : Tl 58 #[vp b1 b2, vp a1 a2] (.tuple #[vq x, .bool true])) (K : Tl 42 #[.int .i64 0] (vq z)) (he : decide (x = z) = eb ∧ decide (a1 = b1 ∧ a2 = b2) = eb) (hg : (fq x)[0]? = some (.bool false))
    (M : ∀ (w : World) (b : Nat) (t : TypeId), Blk w b (j2 (fq a1 ++ fq a2) (fq b1 ++ fq b2)) t → Calls Try.prog 59 #[.slice (some ⟨b, 0, none⟩) 2 2] w fun e w' => e = .returned (.tuple #[vp m1 m2, .bool true]) ∧ Below w.heap.size w w')
    (IM : Tl 56 #[vp m1 m2] (.bool true)) (T4 : Tl 57 #[vp a1 a2, vp b1 b2, vp m1 m2] (.tuple #[.int .i64 0, .bool true])) (F3 : Tl 58 #[vp a1 a2, vp m1 m2] (.tuple #[vq p, .bool true])) (F4 : Tl 58 #[vp m1 m2, vp b1 b2] (.tuple #[vq p, .bool true])) (w : World) :
    Calls Try.prog 9 #[vp a1 a2, vp b1 b2, vp c1 c2] w fun e w' => e = .returned (.bool true) ∧ Below w.heap.size w w' := by
  have HT4 := Lib.hid T4
  have HF3 := Lib.hid F3
  have HF4 := Lib.hid F4
  have HP := Lib.hid hp
  unfold Tl vp vl at HT4 HF3 HF4
  have eq0 : vq = fun q => .agg (fq q).toArray := rfl
  rw [eq0] at HF3 HF4
  clear T4 F3 F4 hp eq0
  have HI1 := Lib.hid I1
  have HI2 := Lib.hid I2
  have HI3 := Lib.hid I3
  have HT1 := Lib.hid T1
  have HT2 := Lib.hid T2
  have HT3 := Lib.hid T3
  have HF1 := Lib.hid F1
  have HF2 := Lib.hid F2
  have HK := Lib.hid K
  have HIM := Lib.hid IM
  have HM := Lib.hid M
  have HQ : Hid (Fq2 a1 ∧ Fq2 a2 ∧ Fq2 b1 ∧ Fq2 b2 ∧ Fq2 x ∧ Fq2 z) := Lib.hid hq
  have HDC : Hid (decide (x = z) = eb ∧ decide (a1 = b1 ∧ a2 = b2) = eb) := Lib.hid he
  have HV := Lib.hid hv
  have HG := Lib.hid hg
  clear I1 I2 I3 T1 T2 T3 F1 F2 K IM M hq he hv hg
  unfold Tl at HI1 HI2 HI3 HT1 HT2 HT3 HF1 HF2 HK HIM
  unfold vp at *
  unfold vl at HI1 HI2 HI3 HT1 HT2 HT3 HF1 HF2 HIM HM
  have eq1 : vq = fun q => .agg (fq q).toArray := rfl
  rw [eq1] at HF1 HF2 HK
  have hA := rc_q a1
  have hB := rc_q a2
  have hC := rc_q b1
  have hD := rc_q b2
  have hE := rc_q c1
  have hF := rc_q c2
  unfold vl
  have HA := Lib.hid hA
  have HB := Lib.hid hB
  have HC := Lib.hid hC
  have HD := Lib.hid hD
  have HE := Lib.hid hE
  have HF := Lib.hid hF
  clear hA hB hC hD hE hF
  have b3 := ((Blk.new w (fq a1 ++ fq a2) 66 rfl).old (.cells (fq b1 ++ fq b2).toArray 66)).old (.cells (fq c1 ++ fq c2).toArray 66)
  have b4 := (Blk.new (w.alloc (.cells (fq a1 ++ fq a2).toArray 66)) (fq b1 ++ fq b2) 66 (b := w.heap.size + 1) (by simp)).old (.cells (fq c1 ++ fq c2).toArray 66)
  have b5 := Blk.new ((w.alloc (.cells (fq a1 ++ fq a2).toArray 66)).alloc (.cells (fq b1 ++ fq b2).toArray 66)) (fq c1 ++ fq c2) 66 (b := w.heap.size + 1 + 1) (by simp)
  have hb : Below w.heap.size w (((w.alloc (.cells (fq a1 ++ fq a2).toArray 66)).alloc (.cells (fq b1 ++ fq b2).toArray 66)).alloc (.cells (fq c1 ++ fq c2).toArray 66)) := (((Below.refl _ _).alloc (Nat.le_refl _) _).alloc (by simp) _).alloc (by simp; omega) _
  go_enter Try.func9, Try.ntmps9
  go_wp2_with fail
  refine (known3_any _).mono ?_
  rintro e w1 ⟨rfl, h1⟩
  replace b3 := b3.call h1
  replace b4 := b4.call h1
  replace b5 := b5.call h1
  replace hb := bthen hb h1
  clear h1
  go_wp2_with (first | (with_reducible refine ldPt rfl rfl rfl b3 HA.out HB.out ?_))
  refine (HI1.out _).mono ?_
  rintro e w1 ⟨rfl, h1⟩
  replace b3 := b3.call h1
  replace b4 := b4.call h1
  replace b5 := b5.call h1
  replace hb := bthen hb h1
  clear h1
  go_wp2_with (first | (refine ldPtg (by rfl) rfl rfl b4 HC.out HD.out ?_))
  refine (HI2.out _).mono ?_
  rintro e w1 ⟨rfl, h1⟩
  replace b3 := b3.call h1
  replace b4 := b4.call h1
  replace b5 := b5.call h1
  replace hb := bthen hb h1
  clear h1
  go_wp2_with (first | (refine ldPtg (by rfl) rfl rfl b5 HE.out HF.out ?_))
  refine (HI3.out _).mono ?_
  rintro e w1 ⟨rfl, h1⟩
  replace b3 := b3.call h1
  replace b4 := b4.call h1
  replace b5 := b5.call h1
  replace hb := bthen hb h1
  clear h1
  go_wp2_with (first | (with_reducible refine ldPt rfl rfl rfl b3 (rc_q _) (rc_q _) ?_) | (with_reducible refine ldX rfl rfl rfl b3 (rc_q _) (rc_q _) ?_) | (with_reducible refine ldY rfl rfl rfl b3 (rc_q _) (rc_q _) ?_) | (with_reducible refine ldPt rfl rfl rfl b4 (rc_q _) (rc_q _) ?_) | (with_reducible refine ldX rfl rfl rfl b4 (rc_q _) (rc_q _) ?_) | (with_reducible refine ldY rfl rfl rfl b4 (rc_q _) (rc_q _) ?_) | (with_reducible refine ldPt rfl rfl rfl b5 (rc_q _) (rc_q _) ?_) | (with_reducible refine ldX rfl rfl rfl b5 (rc_q _) (rc_q _) ?_) | (with_reducible refine ldY rfl rfl rfl b5 (rc_q _) (rc_q _) ?_))
  refine (HT1.out _).mono ?_
  rintro e w1 ⟨rfl, h1⟩
  replace b3 := b3.call h1
  replace b4 := b4.call h1
  replace b5 := b5.call h1
  replace hb := bthen hb h1
  clear h1
  go_wp2_with (first | (with_reducible refine ldPt rfl rfl rfl b3 (rc_q _) (rc_q _) ?_) | (with_reducible refine ldX rfl rfl rfl b3 (rc_q _) (rc_q _) ?_) | (with_reducible refine ldY rfl rfl rfl b3 (rc_q _) (rc_q _) ?_) | (with_reducible refine ldPt rfl rfl rfl b4 (rc_q _) (rc_q _) ?_) | (with_reducible refine ldX rfl rfl rfl b4 (rc_q _) (rc_q _) ?_) | (with_reducible refine ldY rfl rfl rfl b4 (rc_q _) (rc_q _) ?_) | (with_reducible refine ldPt rfl rfl rfl b5 (rc_q _) (rc_q _) ?_) | (with_reducible refine ldX rfl rfl rfl b5 (rc_q _) (rc_q _) ?_) | (with_reducible refine ldY rfl rfl rfl b5 (rc_q _) (rc_q _) ?_))
  refine (HT2.out _).mono ?_
  rintro e w1 ⟨rfl, h1⟩
  replace b3 := b3.call h1
  replace b4 := b4.call h1
  replace b5 := b5.call h1
  replace hb := bthen hb h1
  clear h1
  go_wp2_with (first | (with_reducible refine ldPt rfl rfl rfl b3 (rc_q _) (rc_q _) ?_) | (with_reducible refine ldX rfl rfl rfl b3 (rc_q _) (rc_q _) ?_) | (with_reducible refine ldY rfl rfl rfl b3 (rc_q _) (rc_q _) ?_) | (with_reducible refine ldPt rfl rfl rfl b4 (rc_q _) (rc_q _) ?_) | (with_reducible refine ldX rfl rfl rfl b4 (rc_q _) (rc_q _) ?_) | (with_reducible refine ldY rfl rfl rfl b4 (rc_q _) (rc_q _) ?_) | (with_reducible refine ldPt rfl rfl rfl b5 (rc_q _) (rc_q _) ?_) | (with_reducible refine ldX rfl rfl rfl b5 (rc_q _) (rc_q _) ?_) | (with_reducible refine ldY rfl rfl rfl b5 (rc_q _) (rc_q _) ?_))
  refine (HT3.out _).mono ?_
  rintro e w1 ⟨rfl, h1⟩
  replace b3 := b3.call h1
  replace b4 := b4.call h1
  replace b5 := b5.call h1
  replace hb := bthen hb h1
  clear h1
  go_wp2_with (first | (with_reducible refine ldPt rfl rfl rfl b3 (rc_q _) (rc_q _) ?_) | (with_reducible refine ldX rfl rfl rfl b3 (rc_q _) (rc_q _) ?_) | (with_reducible refine ldY rfl rfl rfl b3 (rc_q _) (rc_q _) ?_) | (with_reducible refine ldPt rfl rfl rfl b4 (rc_q _) (rc_q _) ?_) | (with_reducible refine ldX rfl rfl rfl b4 (rc_q _) (rc_q _) ?_) | (with_reducible refine ldY rfl rfl rfl b4 (rc_q _) (rc_q _) ?_) | (with_reducible refine ldPt rfl rfl rfl b5 (rc_q _) (rc_q _) ?_) | (with_reducible refine ldX rfl rfl rfl b5 (rc_q _) (rc_q _) ?_) | (with_reducible refine ldY rfl rfl rfl b5 (rc_q _) (rc_q _) ?_))
  refine (HF1.out _).mono ?_
  rintro e w1 ⟨rfl, h1⟩
  replace b3 := b3.call h1
  replace b4 := b4.call h1
  replace b5 := b5.call h1
  replace hb := bthen hb h1
  clear h1
  have f := Blk.new w1 (rr false 0 false 0) 45 rfl
  have b13 := laid_n w1 (rr false 0 false 0) (fq x) 45
  replace b3 := laid_o b3 (rr false 0 false 0) (fq x) 45
  replace b4 := laid_o b4 (rr false 0 false 0) (fq x) 45
  replace b5 := laid_o b5 (rr false 0 false 0) (fq x) 45
  replace hb := laid_b hb (rr false 0 false 0) (fq x) 45
  go_wp2_with (first | (with_reducible refine alR rfl rfl ?_) | (with_reducible refine stQ rfl rfl rfl rfl f (rr_length _ _ _ _) (rc_q _) ?_) | (with_reducible refine ldPt rfl rfl rfl b3 (rc_q _) (rc_q _) ?_) | (with_reducible refine ldX rfl rfl rfl b3 (rc_q _) (rc_q _) ?_) | (with_reducible refine ldY rfl rfl rfl b3 (rc_q _) (rc_q _) ?_) | (with_reducible refine ldPt rfl rfl rfl b4 (rc_q _) (rc_q _) ?_) | (with_reducible refine ldX rfl rfl rfl b4 (rc_q _) (rc_q _) ?_) | (with_reducible refine ldY rfl rfl rfl b4 (rc_q _) (rc_q _) ?_) | (with_reducible refine ldPt rfl rfl rfl b5 (rc_q _) (rc_q _) ?_) | (with_reducible refine ldX rfl rfl rfl b5 (rc_q _) (rc_q _) ?_) | (with_reducible refine ldY rfl rfl rfl b5 (rc_q _) (rc_q _) ?_) | (with_reducible refine ldA' rfl rfl rfl b13 (rc_q _) ?_))
  clear f
  generalize (w1.alloc (.cells (rr false 0 false 0).toArray 45)).setRow w1.heap.size (fq x).toArray = W at *
  generalize w1.heap.size = pl_b13 at *
  refine (HF2.out _).mono ?_
  rintro e w1 ⟨rfl, h1⟩
  replace b3 := b3.call h1
  replace b4 := b4.call h1
  replace b5 := b5.call h1
  replace b13 := b13.call h1
  replace hb := bthen hb h1
  clear h1
  clear b5
  have hW1 : ((w1.alloc (.cells (rr false 0 false 0).toArray 45)).setRow w1.heap.size (fq x).toArray).heap.size = w1.heap.size + 1 := by simp
  have f := Blk.new w1 (rr false 0 false 0) 45 rfl
  have b15 := laid_n w1 (rr false 0 false 0) (fq x) 45
  replace b3 := laid_o b3 (rr false 0 false 0) (fq x) 45
  replace b4 := laid_o b4 (rr false 0 false 0) (fq x) 45
  replace b13 := laid_o b13 (rr false 0 false 0) (fq x) 45
  replace hb := laid_b hb (rr false 0 false 0) (fq x) 45
  go_wp2_with (first | (with_reducible refine alR rfl rfl ?_) | (with_reducible refine stQ rfl rfl rfl rfl f (rr_length _ _ _ _) (rc_q _) ?_) | (with_reducible refine ldPt rfl rfl rfl b3 (rc_q _) (rc_q _) ?_) | (with_reducible refine ldX rfl rfl rfl b3 (rc_q _) (rc_q _) ?_) | (with_reducible refine ldY rfl rfl rfl b3 (rc_q _) (rc_q _) ?_) | (with_reducible refine ldPt rfl rfl rfl b4 (rc_q _) (rc_q _) ?_) | (with_reducible refine ldX rfl rfl rfl b4 (rc_q _) (rc_q _) ?_) | (with_reducible refine ldY rfl rfl rfl b4 (rc_q _) (rc_q _) ?_) | (with_reducible refine ldA' rfl rfl rfl b13 (rc_q _) ?_) | (with_reducible refine ldA' rfl rfl rfl b15 (rc_q _) ?_) | (with_reducible refine bsP2 rfl rfl rfl rfl (rc_q _) (rc_q _) (rc_q _) (rc_q _) ?_))
  clear f
  generalize (w1.alloc (.cells (rr false 0 false 0).toArray 45)).setRow w1.heap.size (fq x).toArray = W at *
  generalize w1.heap.size = pl_b15 at *
  have sl := Blk.new W (j2 (fq a1 ++ fq a2) (fq b1 ++ fq b2)) 66 (b := pl_b15 + 1) hW1.symm
  replace b3 := b3.old (.cells (j2 (fq a1 ++ fq a2) (fq b1 ++ fq b2)).toArray 66)
  replace b4 := b4.old (.cells (j2 (fq a1 ++ fq a2) (fq b1 ++ fq b2)).toArray 66)
  replace b13 := b13.old (.cells (j2 (fq a1 ++ fq a2) (fq b1 ++ fq b2)).toArray 66)
  replace b15 := b15.old (.cells (j2 (fq a1 ++ fq a2) (fq b1 ++ fq b2)).toArray 66)
  replace hb := hb.alloc hb.size (.cells (j2 (fq a1 ++ fq a2) (fq b1 ++ fq b2)).toArray 66)
  refine (HM.out _ _ _ sl).mono ?_
  rintro e w1 ⟨rfl, h1⟩
  replace b3 := b3.call h1
  replace b4 := b4.call h1
  replace b13 := b13.call h1
  replace b15 := b15.call h1
  replace hb := bthen hb h1
  clear h1
  clear sl hW1
  have f := Blk.new w1 p0 66 rfl
  have b17 := laid_n w1 p0 (fq m1 ++ fq m2) 66
  replace b3 := laid_o b3 p0 (fq m1 ++ fq m2) 66
  replace b4 := laid_o b4 p0 (fq m1 ++ fq m2) 66
  replace b13 := laid_o b13 p0 (fq m1 ++ fq m2) 66
  replace b15 := laid_o b15 p0 (fq m1 ++ fq m2) 66
  replace hb := laid_b hb p0 (fq m1 ++ fq m2) 66
  go_wp2_with (first | (with_reducible refine alP rfl rfl ?_) | (with_reducible refine stPt rfl rfl rfl rfl f p0_len (rc_q _) (rc_q _) ?_) | (with_reducible refine ldPt rfl rfl rfl b3 (rc_q _) (rc_q _) ?_) | (with_reducible refine ldX rfl rfl rfl b3 (rc_q _) (rc_q _) ?_) | (with_reducible refine ldY rfl rfl rfl b3 (rc_q _) (rc_q _) ?_) | (with_reducible refine ldPt rfl rfl rfl b4 (rc_q _) (rc_q _) ?_) | (with_reducible refine ldX rfl rfl rfl b4 (rc_q _) (rc_q _) ?_) | (with_reducible refine ldY rfl rfl rfl b4 (rc_q _) (rc_q _) ?_) | (with_reducible refine ldA' rfl rfl rfl b13 (rc_q _) ?_) | (with_reducible refine ldA' rfl rfl rfl b15 (rc_q _) ?_) | (with_reducible refine ldPt rfl rfl rfl b17 (rc_q _) (rc_q _) ?_) | (with_reducible refine ldX rfl rfl rfl b17 (rc_q _) (rc_q _) ?_) | (with_reducible refine ldY rfl rfl rfl b17 (rc_q _) (rc_q _) ?_))
  clear f
  generalize (w1.alloc (.cells p0.toArray 66)).setRow w1.heap.size (fq m1 ++ fq m2).toArray = W at *
  generalize w1.heap.size = pl_b17 at *
  refine rg_start [] (by kernel_rfl) (fun hS => ?_)
  replace hb := hb.drew
  refine rg_take 0 rfl (by as_aux_lemma => kernel_rfl) (by as_aux_lemma => kernel_rfl) (by as_aux_lemma => kernel_rfl) (by as_aux_lemma => rfl) hS (v := ?_) ?_ ?_
  rotate_left
  · (intro w' hS'; go_simp <;> try with_reducible rfl)
  try simp only [Act.put, List.setIfInBounds_toArray, List.set_cons_zero, List.set_cons_succ]
  refine rg_take 1 rfl (by as_aux_lemma => kernel_rfl) (by as_aux_lemma => kernel_rfl) (by as_aux_lemma => kernel_rfl) (by as_aux_lemma => rfl) hS (v := ?_) ?_ ?_
  rotate_left
  · (intro w' hS'; go_simp <;> try with_reducible rfl)
  try simp only [Act.put, List.setIfInBounds_toArray, List.set_cons_zero, List.set_cons_succ]
  refine rg_take 2 rfl (by as_aux_lemma => kernel_rfl) (by as_aux_lemma => kernel_rfl) (by as_aux_lemma => kernel_rfl) (by as_aux_lemma => rfl) hS (v := ?_) ?_ ?_
  rotate_left
  · (intro w' hS'; go_simp <;> try with_reducible rfl)
  try simp only [Act.put, List.setIfInBounds_toArray, List.set_cons_zero, List.set_cons_succ]
  refine rg_take 3 rfl (by as_aux_lemma => kernel_rfl) (by as_aux_lemma => kernel_rfl) (by as_aux_lemma => kernel_rfl) (by as_aux_lemma => rfl) hS (v := ?_) ?_ ?_
  rotate_left
  · (intro w' hS'; go_simp <;> try with_reducible rfl)
  try simp only [Act.put, List.setIfInBounds_toArray, List.set_cons_zero, List.set_cons_succ]
  refine rg_take 4 rfl (by as_aux_lemma => kernel_rfl) (by as_aux_lemma => kernel_rfl) (by as_aux_lemma => kernel_rfl) (by as_aux_lemma => rfl) hS (v := ?_) ?_ ?_
  rotate_left
  · (intro w' hS'; go_simp <;> try with_reducible rfl)
  try simp only [Act.put, List.setIfInBounds_toArray, List.set_cons_zero, List.set_cons_succ]
  refine rg_take 5 rfl (by as_aux_lemma => kernel_rfl) (by as_aux_lemma => kernel_rfl) (by as_aux_lemma => kernel_rfl) (by as_aux_lemma => rfl) hS (v := ?_) ?_ ?_
  rotate_left
  · (intro w' hS'; go_simp <;> try with_reducible rfl)
  try simp only [Act.put, List.setIfInBounds_toArray, List.set_cons_zero, List.set_cons_succ]
  refine rg_take 6 rfl (by as_aux_lemma => kernel_rfl) (by as_aux_lemma => kernel_rfl) (by as_aux_lemma => kernel_rfl) (by as_aux_lemma => rfl) hS (v := ?_) ?_ ?_
  rotate_left
  · (intro w' hS'; go_simp <;> try with_reducible rfl)
  try simp only [Act.put, List.setIfInBounds_toArray, List.set_cons_zero, List.set_cons_succ]
  refine rg_take 7 rfl (by as_aux_lemma => kernel_rfl) (by as_aux_lemma => kernel_rfl) (by as_aux_lemma => kernel_rfl) (by as_aux_lemma => rfl) hS (v := ?_) ?_ ?_
  rotate_left
  · (intro w' hS'; go_simp <;> try with_reducible rfl)
  try simp only [Act.put, List.setIfInBounds_toArray, List.set_cons_zero, List.set_cons_succ]
  refine rg_take 8 rfl (by as_aux_lemma => kernel_rfl) (by as_aux_lemma => kernel_rfl) (by as_aux_lemma => kernel_rfl) (by as_aux_lemma => rfl) hS (v := ?_) ?_ ?_
  rotate_left
  · (intro w' hS'; go_simp <;> try with_reducible rfl)
  try simp only [Act.put, List.setIfInBounds_toArray, List.set_cons_zero, List.set_cons_succ]
  refine rg_take 9 rfl (by as_aux_lemma => kernel_rfl) (by as_aux_lemma => kernel_rfl) (by as_aux_lemma => kernel_rfl) (by as_aux_lemma => rfl) hS (v := ?_) ?_ ?_
  rotate_left
  · (intro w' hS'; go_simp <;> try with_reducible rfl)
  try simp only [Act.put, List.setIfInBounds_toArray, List.set_cons_zero, List.set_cons_succ]
  refine rg_take 10 rfl (by as_aux_lemma => kernel_rfl) (by as_aux_lemma => kernel_rfl) (by as_aux_lemma => kernel_rfl) (by as_aux_lemma => rfl) hS (v := ?_) ?_ ?_
  rotate_left
  · (intro w' hS'; go_simp <;> try with_reducible rfl)
  try simp only [Act.put, List.setIfInBounds_toArray, List.set_cons_zero, List.set_cons_succ]
  refine rg_take 11 rfl (by as_aux_lemma => kernel_rfl) (by as_aux_lemma => kernel_rfl) (by as_aux_lemma => kernel_rfl) (by as_aux_lemma => rfl) hS (v := ?_) ?_ ?_
  rotate_left
  · (intro w' hS'; go_simp <;> try with_reducible rfl)
  try simp only [Act.put, List.setIfInBounds_toArray, List.set_cons_zero, List.set_cons_succ]
  refine rg_take 12 rfl (by as_aux_lemma => kernel_rfl) (by as_aux_lemma => kernel_rfl) (by as_aux_lemma => kernel_rfl) (by as_aux_lemma => rfl) hS (v := ?_) ?_ ?_
  rotate_left
  · (intro w' hS'; go_simp <;> try with_reducible rfl)
  try simp only [Act.put, List.setIfInBounds_toArray, List.set_cons_zero, List.set_cons_succ]
  refine rg_take 13 rfl (by as_aux_lemma => kernel_rfl) (by as_aux_lemma => kernel_rfl) (by as_aux_lemma => kernel_rfl) (by as_aux_lemma => rfl) hS (v := ?_) ?_ ?_
  rotate_left
  · (intro w' hS'; go_simp <;> try with_reducible rfl)
  try simp only [Act.put, List.setIfInBounds_toArray, List.set_cons_zero, List.set_cons_succ]
  refine rg_take 14 rfl (by as_aux_lemma => kernel_rfl) (by as_aux_lemma => kernel_rfl) (by as_aux_lemma => kernel_rfl) (by as_aux_lemma => rfl) hS (v := ?_) ?_ ?_
  rotate_left
  · (intro w' hS'; go_simp <;> try with_reducible rfl)
  try simp only [Act.put, List.setIfInBounds_toArray, List.set_cons_zero, List.set_cons_succ]
  refine rg_take 15 rfl (by as_aux_lemma => kernel_rfl) (by as_aux_lemma => kernel_rfl) (by as_aux_lemma => kernel_rfl) (by as_aux_lemma => rfl) hS (v := ?_) ?_ ?_
  rotate_left
  · (intro w' hS'; go_simp <;> try with_reducible rfl)
  try simp only [Act.put, List.setIfInBounds_toArray, List.set_cons_zero, List.set_cons_succ]
  refine rg_take 16 rfl (by as_aux_lemma => kernel_rfl) (by as_aux_lemma => kernel_rfl) (by as_aux_lemma => kernel_rfl) (by as_aux_lemma => rfl) hS (v := ?_) ?_ ?_
  rotate_left
  · (intro w' hS'; go_simp <;> try with_reducible rfl)
  try simp only [Act.put, List.setIfInBounds_toArray, List.set_cons_zero, List.set_cons_succ]
  refine rg_take 17 rfl (by as_aux_lemma => kernel_rfl) (by as_aux_lemma => kernel_rfl) (by as_aux_lemma => kernel_rfl) (by as_aux_lemma => rfl) hS (v := ?_) ?_ ?_
  rotate_left
  · (intro w' hS'; go_simp <;> try with_reducible rfl)
  try simp only [Act.put, List.setIfInBounds_toArray, List.set_cons_zero, List.set_cons_succ]
  refine rg_take 18 rfl (by as_aux_lemma => kernel_rfl) (by as_aux_lemma => kernel_rfl) (by as_aux_lemma => kernel_rfl) (by as_aux_lemma => rfl) hS (v := ?_) ?_ ?_
  rotate_left
  · (intro w' hS'; go_simp <;> try with_reducible rfl)
  try simp only [Act.put, List.setIfInBounds_toArray, List.set_cons_zero, List.set_cons_succ]
  refine rg_take 19 rfl (by as_aux_lemma => kernel_rfl) (by as_aux_lemma => kernel_rfl) (by as_aux_lemma => kernel_rfl) (by as_aux_lemma => rfl) hS (v := ?_) ?_ ?_
  rotate_left
  · (intro w' hS'; go_simp <;> try with_reducible rfl)
  try simp only [Act.put, List.setIfInBounds_toArray, List.set_cons_zero, List.set_cons_succ]
  refine rg_take 20 rfl (by as_aux_lemma => kernel_rfl) (by as_aux_lemma => kernel_rfl) (by as_aux_lemma => kernel_rfl) (by as_aux_lemma => rfl) hS (v := ?_) ?_ ?_
  rotate_left
  · (intro w' hS'; go_simp <;> try with_reducible rfl)
  try simp only [Act.put, List.setIfInBounds_toArray, List.set_cons_zero, List.set_cons_succ]
  refine rg_take 21 rfl (by as_aux_lemma => kernel_rfl) (by as_aux_lemma => kernel_rfl) (by as_aux_lemma => kernel_rfl) (by as_aux_lemma => rfl) hS (v := ?_) ?_ ?_
  rotate_left
  · (intro w' hS'; go_simp <;> try with_reducible rfl)
  try simp only [Act.put, List.setIfInBounds_toArray, List.set_cons_zero, List.set_cons_succ]
  refine rg_take 22 rfl (by as_aux_lemma => kernel_rfl) (by as_aux_lemma => kernel_rfl) (by as_aux_lemma => kernel_rfl) (by as_aux_lemma => rfl) hS (v := ?_) ?_ ?_
  rotate_left
  · (intro w' hS'; go_simp <;> try with_reducible rfl)
  try simp only [Act.put, List.setIfInBounds_toArray, List.set_cons_zero, List.set_cons_succ]
  refine rg_take 23 rfl (by as_aux_lemma => kernel_rfl) (by as_aux_lemma => kernel_rfl) (by as_aux_lemma => kernel_rfl) (by as_aux_lemma => rfl) hS (v := ?_) ?_ ?_
  rotate_left
  · (intro w' hS'; go_simp <;> try with_reducible rfl)
  try simp only [Act.put, List.setIfInBounds_toArray, List.set_cons_zero, List.set_cons_succ]
  refine rg_take 24 rfl (by as_aux_lemma => kernel_rfl) (by as_aux_lemma => kernel_rfl) (by as_aux_lemma => kernel_rfl) (by as_aux_lemma => rfl) hS (v := ?_) ?_ ?_
  rotate_left
  · (intro w' hS'; go_simp <;> try with_reducible rfl)
  try simp only [Act.put, List.setIfInBounds_toArray, List.set_cons_zero, List.set_cons_succ]
  refine rg_take 25 rfl (by as_aux_lemma => kernel_rfl) (by as_aux_lemma => kernel_rfl) (by as_aux_lemma => kernel_rfl) (by as_aux_lemma => rfl) hS (v := .bool false) (fun w' _ => op_neI rfl rfl rfl w') ?_
  try simp only [Act.put, List.setIfInBounds_toArray, List.set_cons_zero, List.set_cons_succ]
  refine rg_take 26 rfl (by as_aux_lemma => kernel_rfl) (by as_aux_lemma => kernel_rfl) (by as_aux_lemma => kernel_rfl) (by as_aux_lemma => rfl) hS (v := ?_) ?_ ?_
  rotate_left
  · (intro w' hS'; go_simp <;> try with_reducible rfl)
  try simp only [Act.put, List.setIfInBounds_toArray, List.set_cons_zero, List.set_cons_succ]
  refine rg_take 27 rfl (by as_aux_lemma => kernel_rfl) (by as_aux_lemma => kernel_rfl) (by as_aux_lemma => kernel_rfl) (by as_aux_lemma => rfl) hS (v := ?_) ?_ ?_
  rotate_left
  · (intro w' hS'; go_simp <;> try with_reducible rfl)
  try simp only [Act.put, List.setIfInBounds_toArray, List.set_cons_zero, List.set_cons_succ]
  refine rg_take 28 rfl (by as_aux_lemma => kernel_rfl) (by as_aux_lemma => kernel_rfl) (by as_aux_lemma => kernel_rfl) (by as_aux_lemma => rfl) hS (v := ?_) ?_ ?_
  rotate_left
  · (intro w' hS'; go_simp <;> try with_reducible rfl)
  try simp only [Act.put, List.setIfInBounds_toArray, List.set_cons_zero, List.set_cons_succ]
  refine rg_take 29 rfl (by as_aux_lemma => kernel_rfl) (by as_aux_lemma => kernel_rfl) (by as_aux_lemma => kernel_rfl) (by as_aux_lemma => rfl) hS (v := ?_) ?_ ?_
  rotate_left
  · (intro w' hS'; go_simp <;> try with_reducible rfl)
  try simp only [Act.put, List.setIfInBounds_toArray, List.set_cons_zero, List.set_cons_succ]
  refine rg_take 30 rfl (by as_aux_lemma => kernel_rfl) (by as_aux_lemma => kernel_rfl) (by as_aux_lemma => kernel_rfl) (by as_aux_lemma => rfl) hS (v := .int .i64 t) (fun w' _ => op_negI HV.out rfl rfl w') ?_
  try simp only [Act.put, List.setIfInBounds_toArray, List.set_cons_zero, List.set_cons_succ]
  refine rg_take 31 rfl (by as_aux_lemma => kernel_rfl) (by as_aux_lemma => kernel_rfl) (by as_aux_lemma => kernel_rfl) (by as_aux_lemma => rfl) hS (v := .bool false) (fun w' _ => op_neI rfl rfl rfl w') ?_
  try simp only [Act.put, List.setIfInBounds_toArray, List.set_cons_zero, List.set_cons_succ]
  refine rg_take 32 rfl (by as_aux_lemma => kernel_rfl) (by as_aux_lemma => kernel_rfl) (by as_aux_lemma => kernel_rfl) (by as_aux_lemma => rfl) hS (v := ?_) ?_ ?_
  rotate_left
  · (intro w' hS'; go_simp <;> try with_reducible rfl)
  try simp only [Act.put, List.setIfInBounds_toArray, List.set_cons_zero, List.set_cons_succ]
  refine rg_take 33 rfl (by as_aux_lemma => kernel_rfl) (by as_aux_lemma => kernel_rfl) (by as_aux_lemma => kernel_rfl) (by as_aux_lemma => rfl) hS (v := ?_) ?_ ?_
  rotate_left
  · (intro w' hS'; go_simp <;> try with_reducible rfl)
  try simp only [Act.put, List.setIfInBounds_toArray, List.set_cons_zero, List.set_cons_succ]
  refine rg_ld 34 rfl (by as_aux_lemma => kernel_rfl) (by as_aux_lemma => kernel_rfl) (by as_aux_lemma => kernel_rfl) (by as_aux_lemma => rfl) hS rfl rfl b13 (by simp <;> omega) (rc_q _).whole ?_
  try simp only [Act.put, List.setIfInBounds_toArray, List.set_cons_zero, List.set_cons_succ]
  refine rg_ld 35 rfl (by as_aux_lemma => kernel_rfl) (by as_aux_lemma => kernel_rfl) (by as_aux_lemma => kernel_rfl) (by as_aux_lemma => rfl) hS rfl rfl b15 (by simp <;> omega) (rc_q _).whole ?_
  try simp only [Act.put, List.setIfInBounds_toArray, List.set_cons_zero, List.set_cons_succ]
  refine rg_take 36 rfl (by as_aux_lemma => kernel_rfl) (by as_aux_lemma => kernel_rfl) (by as_aux_lemma => kernel_rfl) (by as_aux_lemma => rfl) hS (v := .bool false) (fun w' _ => op_neqs HQ.out.2.2.2.2.1 rfl rfl rfl w') ?_
  try simp only [Act.put, List.setIfInBounds_toArray, List.set_cons_zero, List.set_cons_succ]
  refine rg_take 37 rfl (by as_aux_lemma => kernel_rfl) (by as_aux_lemma => kernel_rfl) (by as_aux_lemma => kernel_rfl) (by as_aux_lemma => rfl) hS (v := ?_) ?_ ?_
  rotate_left
  · (intro w' hS'; go_simp <;> try with_reducible rfl)
  try simp only [Act.put, List.setIfInBounds_toArray, List.set_cons_zero, List.set_cons_succ]
  refine rg_take 38 rfl (by as_aux_lemma => kernel_rfl) (by as_aux_lemma => kernel_rfl) (by as_aux_lemma => kernel_rfl) (by as_aux_lemma => rfl) hS (v := ?_) ?_ ?_
  rotate_left
  · (intro w' hS'; go_simp <;> try with_reducible rfl)
  try simp only [Act.put, List.setIfInBounds_toArray, List.set_cons_zero, List.set_cons_succ]
  refine rg_take 39 rfl (by as_aux_lemma => kernel_rfl) (by as_aux_lemma => kernel_rfl) (by as_aux_lemma => kernel_rfl) (by as_aux_lemma => rfl) hS (v := ?_) ?_ ?_
  rotate_left
  · (intro w' hS'; go_simp <;> try with_reducible rfl)
  try simp only [Act.put, List.setIfInBounds_toArray, List.set_cons_zero, List.set_cons_succ]
  refine rg_take 40 rfl (by as_aux_lemma => kernel_rfl) (by as_aux_lemma => kernel_rfl) (by as_aux_lemma => kernel_rfl) (by as_aux_lemma => rfl) hS (v := ?_) ?_ ?_
  rotate_left
  · (intro w' hS'; go_simp <;> try with_reducible rfl)
  try simp only [Act.put, List.setIfInBounds_toArray, List.set_cons_zero, List.set_cons_succ]
  refine rg_take 41 rfl (by as_aux_lemma => kernel_rfl) (by as_aux_lemma => kernel_rfl) (by as_aux_lemma => kernel_rfl) (by as_aux_lemma => rfl) hS (v := ?_) ?_ ?_
  rotate_left
  · (intro w' hS'; have hc := (b13.keep hS' (by simp <;> omega)).cell (i := 0) (v := .bool false) HG.out; go_simp <;> try with_reducible rfl)
  try simp only [Act.put, List.setIfInBounds_toArray, List.set_cons_zero, List.set_cons_succ]
  refine rg_take 42 rfl (by as_aux_lemma => kernel_rfl) (by as_aux_lemma => kernel_rfl) (by as_aux_lemma => kernel_rfl) (by as_aux_lemma => rfl) hS (v := ?_) ?_ ?_
  rotate_left
  · (intro w' hS'; go_simp <;> try with_reducible rfl)
  try simp only [Act.put, List.setIfInBounds_toArray, List.set_cons_zero, List.set_cons_succ]
  refine rg_take 43 rfl (by as_aux_lemma => kernel_rfl) (by as_aux_lemma => kernel_rfl) (by as_aux_lemma => kernel_rfl) (by as_aux_lemma => rfl) hS (v := ?_) ?_ ?_
  rotate_left
  · (intro w' hS'; go_simp <;> try with_reducible rfl)
  try simp only [Act.put, List.setIfInBounds_toArray, List.set_cons_zero, List.set_cons_succ]
  refine rg_ld 44 rfl (by as_aux_lemma => kernel_rfl) (by as_aux_lemma => kernel_rfl) (by as_aux_lemma => kernel_rfl) (by as_aux_lemma => rfl) hS rfl rfl b13 (by simp <;> omega) (rc_q _).whole ?_
  try simp only [Act.put, List.setIfInBounds_toArray, List.set_cons_zero, List.set_cons_succ]
  refine rg_ld 47 rfl (by as_aux_lemma => kernel_rfl) (by as_aux_lemma => kernel_rfl) (by as_aux_lemma => kernel_rfl) (by as_aux_lemma => rfl) hS rfl rfl b3 (by simp <;> omega) (wholeP (rc_q _) (rc_q _)) ?_
  try simp only [Act.put, List.setIfInBounds_toArray, List.set_cons_zero, List.set_cons_succ]
  refine rg_ld 48 rfl (by as_aux_lemma => kernel_rfl) (by as_aux_lemma => kernel_rfl) (by as_aux_lemma => kernel_rfl) (by as_aux_lemma => rfl) hS rfl rfl b4 (by simp <;> omega) (wholeP (rc_q _) (rc_q _)) ?_
  try simp only [Act.put, List.setIfInBounds_toArray, List.set_cons_zero, List.set_cons_succ]
  refine rg_take 49 rfl (by as_aux_lemma => kernel_rfl) (by as_aux_lemma => kernel_rfl) (by as_aux_lemma => kernel_rfl) (by as_aux_lemma => rfl) hS (v := .bool eb) (fun w' _ => op_eqP HQ.out.1 HQ.out.2.1 HQ.out.2.2.1 HQ.out.2.2.2.1 HDC.out.2 rfl rfl rfl w') ?_
  try simp only [Act.put, List.setIfInBounds_toArray, List.set_cons_zero, List.set_cons_succ]
  refine rg_eff 45 rfl (by as_aux_lemma => kernel_rfl) (by as_aux_lemma => rfl) (fun K hK => ?_)
  go_simp
  refine (HK.out _).mono ?_
  rintro e w1 ⟨rfl, h1⟩
  refine hK _ _ (hS.call h1) (fun hS => ?_)
  clear hK K
  replace hb := bthen hb h1
  replace b3 := b3.keep hS (by simp <;> omega)
  replace b4 := b4.keep hS (by simp <;> omega)
  replace b17 := b17.keep hS (by simp <;> omega)
  clear h1
  try simp only [Act.put, List.setIfInBounds_toArray, List.set_cons_zero, List.set_cons_succ]
  refine rg_take 46 rfl (by as_aux_lemma => kernel_rfl) (by as_aux_lemma => kernel_rfl) (by as_aux_lemma => kernel_rfl) (by as_aux_lemma => rfl) hS (v := .bool eb) (fun w' _ => op_eqq HQ.out.2.2.2.2.1 HQ.out.2.2.2.2.2 HDC.out.1 rfl rfl rfl w') ?_
  try simp only [Act.put, List.setIfInBounds_toArray, List.set_cons_zero, List.set_cons_succ]
  refine rg_take 50 rfl (by as_aux_lemma => kernel_rfl) (by as_aux_lemma => kernel_rfl) (by as_aux_lemma => kernel_rfl) (by as_aux_lemma => rfl) hS (v := .bool false) (fun w' _ => op_nebs rfl rfl rfl w') ?_
  try simp only [Act.put, List.setIfInBounds_toArray, List.set_cons_zero, List.set_cons_succ]
  refine rg_take 51 rfl (by as_aux_lemma => kernel_rfl) (by as_aux_lemma => kernel_rfl) (by as_aux_lemma => kernel_rfl) (by as_aux_lemma => rfl) hS (v := ?_) ?_ ?_
  rotate_left
  · (intro w' hS'; go_simp <;> try with_reducible rfl)
  try simp only [Act.put, List.setIfInBounds_toArray, List.set_cons_zero, List.set_cons_succ]
  refine rg_done (by kernel_rfl) ?_
  go_wp2_with (first | (with_reducible refine ldPt rfl rfl rfl b3 (rc_q _) (rc_q _) ?_) | (with_reducible refine ldX rfl rfl rfl b3 (rc_q _) (rc_q _) ?_) | (with_reducible refine ldY rfl rfl rfl b3 (rc_q _) (rc_q _) ?_) | (with_reducible refine ldPt rfl rfl rfl b4 (rc_q _) (rc_q _) ?_) | (with_reducible refine ldX rfl rfl rfl b4 (rc_q _) (rc_q _) ?_) | (with_reducible refine ldY rfl rfl rfl b4 (rc_q _) (rc_q _) ?_) | (with_reducible refine ldPt rfl rfl rfl b17 (rc_q _) (rc_q _) ?_) | (with_reducible refine ldX rfl rfl rfl b17 (rc_q _) (rc_q _) ?_) | (with_reducible refine ldY rfl rfl rfl b17 (rc_q _) (rc_q _) ?_))
  refine (HIM.out _).mono ?_
  rintro e w1 ⟨rfl, h1⟩
  replace b3 := b3.call h1
  replace b4 := b4.call h1
  replace b17 := b17.call h1
  replace hb := bthen hb h1
  clear h1
  go_wp2_with (first | (with_reducible refine ldPt rfl rfl rfl b3 (rc_q _) (rc_q _) ?_) | (with_reducible refine ldX rfl rfl rfl b3 (rc_q _) (rc_q _) ?_) | (with_reducible refine ldY rfl rfl rfl b3 (rc_q _) (rc_q _) ?_) | (with_reducible refine ldPt rfl rfl rfl b4 (rc_q _) (rc_q _) ?_) | (with_reducible refine ldX rfl rfl rfl b4 (rc_q _) (rc_q _) ?_) | (with_reducible refine ldY rfl rfl rfl b4 (rc_q _) (rc_q _) ?_) | (with_reducible refine ldPt rfl rfl rfl b17 (rc_q _) (rc_q _) ?_) | (with_reducible refine ldX rfl rfl rfl b17 (rc_q _) (rc_q _) ?_) | (with_reducible refine ldY rfl rfl rfl b17 (rc_q _) (rc_q _) ?_))
  refine (HT4.out _).mono ?_
  rintro e w1 ⟨rfl, h1⟩
  replace b3 := b3.call h1
  replace b4 := b4.call h1
  replace b17 := b17.call h1
  replace hb := bthen hb h1
  clear h1
  go_wp2_with (first | (with_reducible refine ldPt rfl rfl rfl b3 (rc_q _) (rc_q _) ?_) | (with_reducible refine ldX rfl rfl rfl b3 (rc_q _) (rc_q _) ?_) | (with_reducible refine ldY rfl rfl rfl b3 (rc_q _) (rc_q _) ?_) | (with_reducible refine ldPt rfl rfl rfl b4 (rc_q _) (rc_q _) ?_) | (with_reducible refine ldX rfl rfl rfl b4 (rc_q _) (rc_q _) ?_) | (with_reducible refine ldY rfl rfl rfl b4 (rc_q _) (rc_q _) ?_) | (with_reducible refine ldPt rfl rfl rfl b17 (rc_q _) (rc_q _) ?_) | (with_reducible refine ldX rfl rfl rfl b17 (rc_q _) (rc_q _) ?_) | (with_reducible refine ldY rfl rfl rfl b17 (rc_q _) (rc_q _) ?_))
  refine (HF3.out _).mono ?_
  rintro e w1 ⟨rfl, h1⟩
  replace b3 := b3.call h1
  replace b4 := b4.call h1
  replace b17 := b17.call h1
  replace hb := bthen hb h1
  clear h1
  have f := Blk.new w1 (rr false 0 false 0) 45 rfl
  have b21 := laid_n w1 (rr false 0 false 0) (fq p) 45
  replace b3 := laid_o b3 (rr false 0 false 0) (fq p) 45
  replace b4 := laid_o b4 (rr false 0 false 0) (fq p) 45
  replace b17 := laid_o b17 (rr false 0 false 0) (fq p) 45
  replace hb := laid_b hb (rr false 0 false 0) (fq p) 45
  go_wp2_with (first | (with_reducible refine alR rfl rfl ?_) | (with_reducible refine stQ rfl rfl rfl rfl f (rr_length _ _ _ _) (rc_q _) ?_) | (with_reducible refine ldPt rfl rfl rfl b3 (rc_q _) (rc_q _) ?_) | (with_reducible refine ldX rfl rfl rfl b3 (rc_q _) (rc_q _) ?_) | (with_reducible refine ldY rfl rfl rfl b3 (rc_q _) (rc_q _) ?_) | (with_reducible refine ldPt rfl rfl rfl b4 (rc_q _) (rc_q _) ?_) | (with_reducible refine ldX rfl rfl rfl b4 (rc_q _) (rc_q _) ?_) | (with_reducible refine ldY rfl rfl rfl b4 (rc_q _) (rc_q _) ?_) | (with_reducible refine ldPt rfl rfl rfl b17 (rc_q _) (rc_q _) ?_) | (with_reducible refine ldX rfl rfl rfl b17 (rc_q _) (rc_q _) ?_) | (with_reducible refine ldY rfl rfl rfl b17 (rc_q _) (rc_q _) ?_) | (with_reducible refine ldA' rfl rfl rfl b21 (rc_q _) ?_))
  clear f
  generalize (w1.alloc (.cells (rr false 0 false 0).toArray 45)).setRow w1.heap.size (fq p).toArray = W at *
  generalize w1.heap.size = pl_b21 at *
  refine (HF4.out _).mono ?_
  rintro e w1 ⟨rfl, h1⟩
  replace b3 := b3.call h1
  replace b4 := b4.call h1
  replace b17 := b17.call h1
  replace b21 := b21.call h1
  replace hb := bthen hb h1
  clear h1
  clear b3
  clear b4
  clear b17
  have hk := b21
  have f := Blk.new w1 (rr false 0 false 0) 45 rfl
  have b23 := laid_n w1 (rr false 0 false 0) (fq p) 45
  replace b21 := laid_o b21 (rr false 0 false 0) (fq p) 45
  replace hb := laid_b hb (rr false 0 false 0) (fq p) 45
  go_wp2_with (first | (with_reducible refine alR rfl rfl ?_) | (with_reducible refine stQ rfl rfl rfl rfl f (rr_length _ _ _ _) (rc_q _) ?_) | (with_reducible refine ldA' rfl rfl rfl b21 (rc_q _) ?_) | (with_reducible refine ldA' rfl rfl rfl b23 (rc_q _) ?_) | (refine ldAg (by rfl) rfl rfl b21 (rc_q _) ?_) | (refine ldAg (by rfl) rfl rfl b23 (rc_q _) ?_) | (refine eqqg (by rfl) rfl rfl rfl HP.out ?_))
  clear f
  generalize (w1.alloc (.cells (rr false 0 false 0).toArray 45)).setRow w1.heap.size (fq p).toArray = W at *
  generalize w1.heap.size = pl_b23 at *
  go_ret
  exact ⟨rfl, hb⟩
end Go.Proofs.Ytiaikjeljhfadaa
