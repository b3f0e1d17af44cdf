/- Joined of: Trk Tru. -/
import Derived.Test.YtckolhalggcenaaGreatTrp
import Derived.Test.YtckolhalggcenaaGreatPkn
import Derived.Test.YtckolhalggcenaaGreatIsa
/- What known answers, of triangles. -/
namespace Go.Proofs.YtckolhalggcenaaGreat
set_option linter.unusedSimpArgs false
set_option linter.unusedVariables false
open Go.RowKit
set_option maxRecDepth 100000
theorem r3_p0 {A B C : List Value} : Part (c3c A B C) 0 A := by rw [c3_eq]; exact part_l (part_all _)
theorem r3_p1 {A B C : List Value} (hA : Rc A) : Part (c3c A B C) 66 B := by rw [c3_eq]; exact part_r (f := 0) (part_l (part_all _)) hA.len
theorem r3_p2 {A B C : List Value} (hA : Rc A) (hB : Rc B) : Part (c3c A B C) 132 C := by
  rw [c3_eq]; exact part_r (f := 66) (part_r (f := 0) (part_all _) hB.len) hA.len
set_option maxHeartbeats 16000000 in
theorem known5_walk {ax ay ex ey cx cy px py qx qy s1 z0 x0 x1 x2 ar : Rat} (f1 : Fq2 s1) (f8 : Fq2 x1) (f4 : Fq2 ar)
    (A1 : Tl 10 #[.int .i64 0, .int .i64 0] (vp ax ay)) (A2 : Tl 10 #[.int .i64 2, .int .i64 0] (vp ex ey)) (A3 : Tl 10 #[.int .i64 0, .int .i64 2] (vp cx cy))
    (G1 : Tl 9 #[vp ax ay, vp ex ey, vp cx cy] (.tuple #[.bool true, .bool true])) (G2 : Tl 9 #[vp ax ay, vp cx cy, vp ex ey] (.tuple #[.bool false, .bool true]))
    (S1 : Tl 6 #[vp ex ey, vp cx cy, vp ax ay] (.tuple #[vl (fq s1), .bool true, .bool true])) (S2 : Tl 6 #[vp ax ay, vp ex ey, vp cx cy] (.tuple #[vl (fq z0), .bool false, .bool true]))
    (A4 : Tl 10 #[.int .i64 1, .int .i64 1] (vp px py)) (P4 : Tl 11 #[vp ax ay, vp ex ey, vp cx cy, vp px py] (.tuple #[.int .i64 0, .bool true]))
    (A5 : Tl 10 #[.int .i64 3, .int .i64 3] (vp qx qy)) (P5 : Tl 11 #[vp ax ay, vp ex ey, vp cx cy, vp qx qy] (.tuple #[.int .i64 (-1), .bool true]))
    (SD : Tl 12 #[vp ax ay, vp ex ey, vp cx cy] (.tuple #[vl (c3c (fq x0) (fq x1) (fq x2)), .bool true])) (AR : Tl 13 #[vp ax ay, vp ex ey, vp cx cy] (.tuple #[vl (fq ar), .bool true]))
    (W1 : Tl 8 #[.int .i64 1] (vq s1)) (W8 : Tl 8 #[.int .i64 8] (vq x1)) (W4 : Tl 8 #[.int .i64 4] (vq ar)) (w : World) :
    Calls Tryz.prog 4 #[] w fun e w' => e = .returned (.bool true) ∧ Below w.heap.size w w' := by
  have HA1 := Lib.hid A1
  have HA2 := Lib.hid A2
  have HA3 := Lib.hid A3
  have HG1 := Lib.hid G1
  have HG2 := Lib.hid G2
  have HS1 := Lib.hid S1
  have HS2 := Lib.hid S2
  have HA4 := Lib.hid A4
  have HP4 := Lib.hid P4
  have HA5 := Lib.hid A5
  have HP5 := Lib.hid P5
  have HSD := Lib.hid SD
  have HAR := Lib.hid AR
  have HW1 := Lib.hid W1
  have HW8 := Lib.hid W8
  have HW4 := Lib.hid W4
  have Hf1 := Lib.hid f1
  have Hf8 := Lib.hid f8
  have Hf4 := Lib.hid f4
  clear A1 A2 A3 G1 G2 S1 S2 A4 P4 A5 P5 SD AR W1 W8 W4 f1 f8 f4
  have eq1 : vq = fun q => .agg (fq q).toArray := rfl
  unfold Tl at HA1 HA2 HA3 HG1 HG2 HS1 HS2 HA4 HP4 HA5 HP5 HSD HAR HW1 HW8 HW4
  unfold vp vl at HA1 HA2 HA3 HG1 HG2 HS1 HS2 HA4 HP4 HA5 HP5 HSD HAR
  rw [eq1] at HW1 HW8 HW4
  clear eq1
  have hb := Below.refl w.heap.size w
  go_enter Tryz.func4, Tryz.ntmps4
  go_wp2_with fail
  refine (HA1.out _).mono ?_
  rintro e w1 ⟨rfl, h1⟩
  replace hb := bthen hb h1
  clear h1
  go_wp2_with fail
  refine (HA2.out _).mono ?_
  rintro e w1 ⟨rfl, h1⟩
  replace hb := bthen hb h1
  clear h1
  go_wp2_with fail
  refine (HA3.out _).mono ?_
  rintro e w1 ⟨rfl, h1⟩
  replace hb := bthen hb h1
  clear h1
  have f1 := ((Blk.new w1 p0 29 rfl).old (.cells p0.toArray 29)).old (.cells p0.toArray 29)
  have f2 := ((Blk.new (w1.alloc (.cells p0.toArray 29)) p0 29 (b := w1.heap.size + 1) (by simp)).old (.cells p0.toArray 29)).rowOther (g := w1.heap.size) (fq ax ++ fq ay).toArray (by omega)
  have f3 := ((Blk.new ((w1.alloc (.cells p0.toArray 29)).alloc (.cells p0.toArray 29)) p0 29 (b := w1.heap.size + 1 + 1) (by simp)).rowOther (g := w1.heap.size) (fq ax ++ fq ay).toArray (by omega)).rowOther (g := w1.heap.size + 1) (fq ex ++ fq ey).toArray (by omega)
  have b1 := ((f1.row (fq ax ++ fq ay)).rowOther (g := w1.heap.size + 1) (fq ex ++ fq ey).toArray (by omega)).rowOther (g := w1.heap.size + 1 + 1) (fq cx ++ fq cy).toArray (by omega)
  have b2 := (f2.row (fq ex ++ fq ey)).rowOther (g := w1.heap.size + 1 + 1) (fq cx ++ fq cy).toArray (by omega)
  have b3 := f3.row (fq cx ++ fq cy)
  have hs := hb.size
  have k1 : (w1.alloc (.cells p0.toArray 29)).heap.size = w1.heap.size + 1 := by simp
  have k2 : ((w1.alloc (.cells p0.toArray 29)).alloc (.cells p0.toArray 29)).heap.size = w1.heap.size + 1 + 1 := by simp
  replace hb := below_row (below_row (below_row (((hb.alloc hs (.cells p0.toArray 29)).alloc (by omega) (.cells p0.toArray 29)).alloc (by omega) (.cells p0.toArray 29)) (g := w1.heap.size) hs (fq ax ++ fq ay).toArray) (g := w1.heap.size + 1) (by omega) (fq ex ++ fq ey).toArray) (g := w1.heap.size + 1 + 1) (by omega) (fq cx ++ fq cy).toArray
  clear k1 k2
  go_wp2_with (first | (with_reducible refine alP3 rfl rfl ?_) | (with_reducible refine alP2 rfl rfl ?_) | (with_reducible refine alP rfl rfl ?_) | (with_reducible refine stPt rfl rfl rfl rfl f1 p0_len (rc_q _) (rc_q _) ?_) | (with_reducible refine stPt rfl rfl rfl rfl f2 p0_len (rc_q _) (rc_q _) ?_) | (with_reducible refine stPt rfl rfl rfl rfl f3 p0_len (rc_q _) (rc_q _) ?_) | (with_reducible refine ldPt rfl rfl rfl b1 (rc_q _) (rc_q _) ?_) | (with_reducible refine ldPt rfl rfl rfl b2 (rc_q _) (rc_q _) ?_) | (with_reducible refine ldPt rfl rfl rfl b3 (rc_q _) (rc_q _) ?_))
  clear f1 f2 f3 hs
  try rw [show ((w1.alloc (.cells p0.toArray 29)).alloc (.cells p0.toArray 29)).heap.size = w1.heap.size + 1 + 1 by simp]
  try rw [show (w1.alloc (.cells p0.toArray 29)).heap.size = w1.heap.size + 1 by simp]
  generalize (((((w1.alloc (.cells p0.toArray 29)).alloc (.cells p0.toArray 29)).alloc (.cells p0.toArray 29)).setRow w1.heap.size (fq ax ++ fq ay).toArray).setRow (w1.heap.size + 1) (fq ex ++ fq ey).toArray).setRow (w1.heap.size + 1 + 1) (fq cx ++ fq cy).toArray = W at *
  generalize w1.heap.size + 1 + 1 = pl_b3 at *
  generalize w1.heap.size + 1 = pl_b2 at *
  generalize w1.heap.size = pl_b1 at *
  refine (HG1.out _).mono ?_
  rintro e w1 ⟨rfl, h1⟩
  replace b1 := b1.call h1
  replace b2 := b2.call h1
  replace b3 := b3.call h1
  replace hb := bthen hb h1
  clear h1
  go_wp2_with (first | (with_reducible refine ldPt rfl rfl rfl b1 (rc_q _) (rc_q _) ?_) | (with_reducible refine ldPt rfl rfl rfl b2 (rc_q _) (rc_q _) ?_) | (with_reducible refine ldPt rfl rfl rfl b3 (rc_q _) (rc_q _) ?_))
  refine (HG2.out _).mono ?_
  rintro e w1 ⟨rfl, h1⟩
  replace b1 := b1.call h1
  replace b2 := b2.call h1
  replace b3 := b3.call h1
  replace hb := bthen hb h1
  clear h1
  go_wp2_with (first | (with_reducible refine ldPt rfl rfl rfl b1 (rc_q _) (rc_q _) ?_) | (with_reducible refine ldPt rfl rfl rfl b2 (rc_q _) (rc_q _) ?_) | (with_reducible refine ldPt rfl rfl rfl b3 (rc_q _) (rc_q _) ?_))
  refine (HS1.out _).mono ?_
  rintro e w1 ⟨rfl, h1⟩
  replace b1 := b1.call h1
  replace b2 := b2.call h1
  replace b3 := b3.call h1
  replace hb := bthen hb h1
  clear h1
  have f := Blk.new w1 (rr false 0 false 0) 27 rfl
  have b8 := laid_n w1 (rr false 0 false 0) (fq s1) 27
  replace b1 := laid_o b1 (rr false 0 false 0) (fq s1) 27
  replace b2 := laid_o b2 (rr false 0 false 0) (fq s1) 27
  replace b3 := laid_o b3 (rr false 0 false 0) (fq s1) 27
  replace hb := laid_b hb (rr false 0 false 0) (fq s1) 27
  go_wp2_with (first | (with_reducible refine alR rfl rfl ?_) | (with_reducible refine stQ rfl rfl rfl rfl f (rr_length _ _ _ _) (rc_q _) ?_) | (with_reducible refine ldPt rfl rfl rfl b1 (rc_q _) (rc_q _) ?_) | (with_reducible refine ldPt rfl rfl rfl b2 (rc_q _) (rc_q _) ?_) | (with_reducible refine ldPt rfl rfl rfl b3 (rc_q _) (rc_q _) ?_))
  clear f
  generalize (w1.alloc (.cells (rr false 0 false 0).toArray 27)).setRow w1.heap.size (fq s1).toArray = W at *
  generalize w1.heap.size = pl_b8 at *
  refine (HS2.out _).mono ?_
  rintro e w1 ⟨rfl, h1⟩
  replace b1 := b1.call h1
  replace b2 := b2.call h1
  replace b3 := b3.call h1
  replace b8 := b8.call h1
  replace hb := bthen hb h1
  clear h1
  have f := Blk.new w1 (rr false 0 false 0) 27 rfl
  have b11 := laid_n w1 (rr false 0 false 0) (fq z0) 27
  replace b1 := laid_o b1 (rr false 0 false 0) (fq z0) 27
  replace b2 := laid_o b2 (rr false 0 false 0) (fq z0) 27
  replace b3 := laid_o b3 (rr false 0 false 0) (fq z0) 27
  replace b8 := laid_o b8 (rr false 0 false 0) (fq z0) 27
  replace hb := laid_b hb (rr false 0 false 0) (fq z0) 27
  go_wp2_with (first | (with_reducible refine alR rfl rfl ?_) | (with_reducible refine stQ rfl rfl rfl rfl f (rr_length _ _ _ _) (rc_q _) ?_) | (with_reducible refine ldPt rfl rfl rfl b1 (rc_q _) (rc_q _) ?_) | (with_reducible refine ldPt rfl rfl rfl b2 (rc_q _) (rc_q _) ?_) | (with_reducible refine ldPt rfl rfl rfl b3 (rc_q _) (rc_q _) ?_))
  clear f
  generalize (w1.alloc (.cells (rr false 0 false 0).toArray 27)).setRow w1.heap.size (fq z0).toArray = W at *
  generalize w1.heap.size = pl_b11 at *
  clear b11
  refine rg_start [] (by kernel_rfl) (fun hS => ?_)
  replace hb := hb.drew
  refine rg_ldP 0 rfl (by kernel_rfl) (by kernel_rfl) (by kernel_rfl) (by rfl) hS rfl rfl b1 (by simp <;> omega) (part_all _) (wholeP (rc_q _) (rc_q _)) ?_
  try simp only [Act.put, List.setIfInBounds_toArray, List.set_cons_zero, List.set_cons_succ]
  refine rg_ldP 1 rfl (by kernel_rfl) (by kernel_rfl) (by kernel_rfl) (by rfl) hS rfl rfl b2 (by simp <;> omega) (part_all _) (wholeP (rc_q _) (rc_q _)) ?_
  try simp only [Act.put, List.setIfInBounds_toArray, List.set_cons_zero, List.set_cons_succ]
  refine rg_ldP 2 rfl (by kernel_rfl) (by kernel_rfl) (by kernel_rfl) (by rfl) hS rfl rfl b3 (by simp <;> omega) (part_all _) (wholeP (rc_q _) (rc_q _)) ?_
  try simp only [Act.put, List.setIfInBounds_toArray, List.set_cons_zero, List.set_cons_succ]
  refine rg_eff 3 rfl (by kernel_rfl) (by rfl) (fun K hK => ?_)
  go_simp
  refine (HA4.out _).mono ?_
  rintro e w1 ⟨rfl, h1⟩
  refine hK _ _ (hS.call h1) (fun hS => ?_)
  clear hK K
  replace hb := bthen hb h1
  clear h1
  try simp only [Act.put, List.setIfInBounds_toArray, List.set_cons_zero, List.set_cons_succ]
  refine rg_eff 4 rfl (by kernel_rfl) (by rfl) (fun K hK => ?_)
  go_simp
  refine (HP4.out _).mono ?_
  rintro e w1 ⟨rfl, h1⟩
  refine hK _ _ (hS.call h1) (fun hS => ?_)
  clear hK K
  replace hb := bthen hb h1
  clear h1
  try simp only [Act.put, List.setIfInBounds_toArray, List.set_cons_zero, List.set_cons_succ]
  refine rg_take 5 rfl (by kernel_rfl) (by kernel_rfl) (by kernel_rfl) (by rfl) hS (v := ?_) ?_ ?_
  rotate_left
  · (intro w' hS'; go_simp <;> try with_reducible rfl)
  try simp only [Act.put, List.setIfInBounds_toArray, List.set_cons_zero, List.set_cons_succ]
  refine rg_take 6 rfl (by kernel_rfl) (by kernel_rfl) (by kernel_rfl) (by rfl) hS (v := ?_) ?_ ?_
  rotate_left
  · (intro w' hS'; go_simp <;> try with_reducible rfl)
  try simp only [Act.put, List.setIfInBounds_toArray, List.set_cons_zero, List.set_cons_succ]
  refine rg_take 7 rfl (by kernel_rfl) (by kernel_rfl) (by kernel_rfl) (by rfl) hS (v := ?_) ?_ ?_
  rotate_left
  · (intro w' hS'; go_simp <;> try with_reducible rfl)
  try simp only [Act.put, List.setIfInBounds_toArray, List.set_cons_zero, List.set_cons_succ]
  refine rg_take 8 rfl (by kernel_rfl) (by kernel_rfl) (by kernel_rfl) (by rfl) hS (v := ?_) ?_ ?_
  rotate_left
  · (intro w' hS'; go_simp <;> try with_reducible rfl)
  try simp only [Act.put, List.setIfInBounds_toArray, List.set_cons_zero, List.set_cons_succ]
  refine rg_take 9 rfl (by kernel_rfl) (by kernel_rfl) (by kernel_rfl) (by rfl) hS (v := ?_) ?_ ?_
  rotate_left
  · (intro w' hS'; go_simp <;> try with_reducible rfl)
  try simp only [Act.put, List.setIfInBounds_toArray, List.set_cons_zero, List.set_cons_succ]
  refine rg_done (by kernel_rfl) ?_
  replace b1 := b1.keep hS (by simp)
  replace b2 := b2.keep hS (by simp)
  replace b3 := b3.keep hS (by simp)
  replace b8 := b8.keep hS (by simp)
  clear hS
  go_wp2_with fail
  refine rg_start [] (by kernel_rfl) (fun hS => ?_)
  replace hb := hb.drew
  refine rg_ldP 0 rfl (by kernel_rfl) (by kernel_rfl) (by kernel_rfl) (by rfl) hS rfl rfl b1 (by simp <;> omega) (part_all _) (wholeP (rc_q _) (rc_q _)) ?_
  try simp only [Act.put, List.setIfInBounds_toArray, List.set_cons_zero, List.set_cons_succ]
  refine rg_ldP 1 rfl (by kernel_rfl) (by kernel_rfl) (by kernel_rfl) (by rfl) hS rfl rfl b2 (by simp <;> omega) (part_all _) (wholeP (rc_q _) (rc_q _)) ?_
  try simp only [Act.put, List.setIfInBounds_toArray, List.set_cons_zero, List.set_cons_succ]
  refine rg_ldP 2 rfl (by kernel_rfl) (by kernel_rfl) (by kernel_rfl) (by rfl) hS rfl rfl b3 (by simp <;> omega) (part_all _) (wholeP (rc_q _) (rc_q _)) ?_
  try simp only [Act.put, List.setIfInBounds_toArray, List.set_cons_zero, List.set_cons_succ]
  refine rg_eff 3 rfl (by kernel_rfl) (by rfl) (fun K hK => ?_)
  go_simp
  refine (HA5.out _).mono ?_
  rintro e w1 ⟨rfl, h1⟩
  refine hK _ _ (hS.call h1) (fun hS => ?_)
  clear hK K
  replace hb := bthen hb h1
  clear h1
  try simp only [Act.put, List.setIfInBounds_toArray, List.set_cons_zero, List.set_cons_succ]
  refine rg_eff 4 rfl (by kernel_rfl) (by rfl) (fun K hK => ?_)
  go_simp
  refine (HP5.out _).mono ?_
  rintro e w1 ⟨rfl, h1⟩
  refine hK _ _ (hS.call h1) (fun hS => ?_)
  clear hK K
  replace hb := bthen hb h1
  clear h1
  try simp only [Act.put, List.setIfInBounds_toArray, List.set_cons_zero, List.set_cons_succ]
  refine rg_take 5 rfl (by kernel_rfl) (by kernel_rfl) (by kernel_rfl) (by rfl) hS (v := ?_) ?_ ?_
  rotate_left
  · (intro w' hS'; go_simp <;> try with_reducible rfl)
  try simp only [Act.put, List.setIfInBounds_toArray, List.set_cons_zero, List.set_cons_succ]
  refine rg_take 6 rfl (by kernel_rfl) (by kernel_rfl) (by kernel_rfl) (by rfl) hS (v := ?_) ?_ ?_
  rotate_left
  · (intro w' hS'; go_simp <;> try with_reducible rfl)
  try simp only [Act.put, List.setIfInBounds_toArray, List.set_cons_zero, List.set_cons_succ]
  refine rg_take 7 rfl (by kernel_rfl) (by kernel_rfl) (by kernel_rfl) (by rfl) hS (v := ?_) ?_ ?_
  rotate_left
  · (intro w' hS'; go_simp <;> try with_reducible rfl)
  try simp only [Act.put, List.setIfInBounds_toArray, List.set_cons_zero, List.set_cons_succ]
  refine rg_take 8 rfl (by kernel_rfl) (by kernel_rfl) (by kernel_rfl) (by rfl) hS (v := ?_) ?_ ?_
  rotate_left
  · (intro w' hS'; go_simp <;> try with_reducible rfl)
  try simp only [Act.put, List.setIfInBounds_toArray, List.set_cons_zero, List.set_cons_succ]
  refine rg_take 9 rfl (by kernel_rfl) (by kernel_rfl) (by kernel_rfl) (by rfl) hS (v := ?_) ?_ ?_
  rotate_left
  · (intro w' hS'; go_simp <;> try with_reducible rfl)
  try simp only [Act.put, List.setIfInBounds_toArray, List.set_cons_zero, List.set_cons_succ]
  refine rg_done (by kernel_rfl) ?_
  replace b1 := b1.keep hS (by simp)
  replace b2 := b2.keep hS (by simp)
  replace b3 := b3.keep hS (by simp)
  replace b8 := b8.keep hS (by simp)
  clear hS
  go_wp2_with (first | (with_reducible refine ldPt rfl rfl rfl b1 (rc_q _) (rc_q _) ?_) | (with_reducible refine ldPt rfl rfl rfl b2 (rc_q _) (rc_q _) ?_) | (with_reducible refine ldPt rfl rfl rfl b3 (rc_q _) (rc_q _) ?_))
  refine (HSD.out _).mono ?_
  rintro e w1 ⟨rfl, h1⟩
  replace b1 := b1.call h1
  replace b2 := b2.call h1
  replace b3 := b3.call h1
  replace b8 := b8.call h1
  replace hb := bthen hb h1
  clear h1
  have f := Blk.new w1 (c3c zR zR zR) 43 rfl
  have b18 := laid_n w1 (c3c zR zR zR) (c3c (fq x0) (fq x1) (fq x2)) 43
  replace b1 := laid_o b1 (c3c zR zR zR) (c3c (fq x0) (fq x1) (fq x2)) 43
  replace b2 := laid_o b2 (c3c zR zR zR) (c3c (fq x0) (fq x1) (fq x2)) 43
  replace b3 := laid_o b3 (c3c zR zR zR) (c3c (fq x0) (fq x1) (fq x2)) 43
  replace b8 := laid_o b8 (c3c zR zR zR) (c3c (fq x0) (fq x1) (fq x2)) 43
  replace hb := laid_b hb (c3c zR zR zR) (c3c (fq x0) (fq x1) (fq x2)) 43
  go_wp2_with (first | (with_reducible refine alR3 rfl rfl ?_) | (with_reducible refine stR3 rfl rfl rfl rfl f (r3_len (rc_rr _ _ _ _) (rc_rr _ _ _ _) (rc_rr _ _ _ _)) (rc_q _) (rc_q _) (rc_q _) ?_) | (with_reducible refine ldPt rfl rfl rfl b1 (rc_q _) (rc_q _) ?_) | (with_reducible refine ldPt rfl rfl rfl b2 (rc_q _) (rc_q _) ?_) | (with_reducible refine ldPt rfl rfl rfl b3 (rc_q _) (rc_q _) ?_))
  clear f
  generalize (w1.alloc (.cells (c3c zR zR zR).toArray 43)).setRow w1.heap.size (c3c (fq x0) (fq x1) (fq x2)).toArray = W at *
  generalize w1.heap.size = pl_b18 at *
  clear b1 b2 b3
  refine (HAR.out _).mono ?_
  rintro e w1 ⟨rfl, h1⟩
  replace b8 := b8.call h1
  replace b18 := b18.call h1
  replace hb := bthen hb h1
  clear h1
  have f := Blk.new w1 (rr false 0 false 0) 27 rfl
  have b20 := laid_n w1 (rr false 0 false 0) (fq ar) 27
  replace b8 := laid_o b8 (rr false 0 false 0) (fq ar) 27
  replace b18 := laid_o b18 (rr false 0 false 0) (fq ar) 27
  replace hb := laid_b hb (rr false 0 false 0) (fq ar) 27
  go_wp2_with (first | (with_reducible refine alR rfl rfl ?_) | (with_reducible refine stQ rfl rfl rfl rfl f (rr_length _ _ _ _) (rc_q _) ?_))
  clear f
  generalize (w1.alloc (.cells (rr false 0 false 0).toArray 27)).setRow w1.heap.size (fq ar).toArray = W at *
  generalize w1.heap.size = pl_b20 at *
  refine rg_start [] (by kernel_rfl) (fun hS => ?_)
  replace hb := hb.drew
  refine rg_take 0 rfl (by as_aux_lemma => kernel_rfl) (by as_aux_lemma => kernel_rfl) (by as_aux_lemma => kernel_rfl) (by as_aux_lemma => rfl) hS (v := ?_) ?_ ?_
  rotate_left
  · (intro w' hS'; go_simp <;> try with_reducible rfl)
  try simp only [Act.put, List.setIfInBounds_toArray, List.set_cons_zero, List.set_cons_succ]
  refine rg_take 1 rfl (by as_aux_lemma => kernel_rfl) (by as_aux_lemma => kernel_rfl) (by as_aux_lemma => kernel_rfl) (by as_aux_lemma => rfl) hS (v := ?_) ?_ ?_
  rotate_left
  · (intro w' hS'; go_simp <;> try with_reducible rfl)
  try simp only [Act.put, List.setIfInBounds_toArray, List.set_cons_zero, List.set_cons_succ]
  refine rg_take 2 rfl (by as_aux_lemma => kernel_rfl) (by as_aux_lemma => kernel_rfl) (by as_aux_lemma => kernel_rfl) (by as_aux_lemma => rfl) hS (v := ?_) ?_ ?_
  rotate_left
  · (intro w' hS'; go_simp <;> try with_reducible rfl)
  try simp only [Act.put, List.setIfInBounds_toArray, List.set_cons_zero, List.set_cons_succ]
  refine rg_take 3 rfl (by as_aux_lemma => kernel_rfl) (by as_aux_lemma => kernel_rfl) (by as_aux_lemma => kernel_rfl) (by as_aux_lemma => rfl) hS (v := ?_) ?_ ?_
  rotate_left
  · (intro w' hS'; go_simp <;> try with_reducible rfl)
  try simp only [Act.put, List.setIfInBounds_toArray, List.set_cons_zero, List.set_cons_succ]
  refine rg_take 4 rfl (by as_aux_lemma => kernel_rfl) (by as_aux_lemma => kernel_rfl) (by as_aux_lemma => kernel_rfl) (by as_aux_lemma => rfl) hS (v := ?_) ?_ ?_
  rotate_left
  · (intro w' hS'; go_simp <;> try with_reducible rfl)
  try simp only [Act.put, List.setIfInBounds_toArray, List.set_cons_zero, List.set_cons_succ]
  refine rg_take 5 rfl (by as_aux_lemma => kernel_rfl) (by as_aux_lemma => kernel_rfl) (by as_aux_lemma => kernel_rfl) (by as_aux_lemma => rfl) hS (v := ?_) ?_ ?_
  rotate_left
  · (intro w' hS'; go_simp <;> try with_reducible rfl)
  try simp only [Act.put, List.setIfInBounds_toArray, List.set_cons_zero, List.set_cons_succ]
  refine rg_take 6 rfl (by as_aux_lemma => kernel_rfl) (by as_aux_lemma => kernel_rfl) (by as_aux_lemma => kernel_rfl) (by as_aux_lemma => rfl) hS (v := ?_) ?_ ?_
  rotate_left
  · (intro w' hS'; go_simp <;> try with_reducible rfl)
  try simp only [Act.put, List.setIfInBounds_toArray, List.set_cons_zero, List.set_cons_succ]
  refine rg_take 7 rfl (by as_aux_lemma => kernel_rfl) (by as_aux_lemma => kernel_rfl) (by as_aux_lemma => kernel_rfl) (by as_aux_lemma => rfl) hS (v := ?_) ?_ ?_
  rotate_left
  · (intro w' hS'; go_simp <;> try with_reducible rfl)
  try simp only [Act.put, List.setIfInBounds_toArray, List.set_cons_zero, List.set_cons_succ]
  refine rg_take 8 rfl (by as_aux_lemma => kernel_rfl) (by as_aux_lemma => kernel_rfl) (by as_aux_lemma => kernel_rfl) (by as_aux_lemma => rfl) hS (v := ?_) ?_ ?_
  rotate_left
  · (intro w' hS'; go_simp <;> try with_reducible rfl)
  try simp only [Act.put, List.setIfInBounds_toArray, List.set_cons_zero, List.set_cons_succ]
  refine rg_take 9 rfl (by as_aux_lemma => kernel_rfl) (by as_aux_lemma => kernel_rfl) (by as_aux_lemma => kernel_rfl) (by as_aux_lemma => rfl) hS (v := ?_) ?_ ?_
  rotate_left
  · (intro w' hS'; go_simp <;> try with_reducible rfl)
  try simp only [Act.put, List.setIfInBounds_toArray, List.set_cons_zero, List.set_cons_succ]
  refine rg_take 10 rfl (by as_aux_lemma => kernel_rfl) (by as_aux_lemma => kernel_rfl) (by as_aux_lemma => kernel_rfl) (by as_aux_lemma => rfl) hS (v := ?_) ?_ ?_
  rotate_left
  · (intro w' hS'; go_simp <;> try with_reducible rfl)
  try simp only [Act.put, List.setIfInBounds_toArray, List.set_cons_zero, List.set_cons_succ]
  refine rg_take 11 rfl (by as_aux_lemma => kernel_rfl) (by as_aux_lemma => kernel_rfl) (by as_aux_lemma => kernel_rfl) (by as_aux_lemma => rfl) hS (v := ?_) ?_ ?_
  rotate_left
  · (intro w' hS'; go_simp <;> try with_reducible rfl)
  try simp only [Act.put, List.setIfInBounds_toArray, List.set_cons_zero, List.set_cons_succ]
  refine rg_take 12 rfl (by as_aux_lemma => kernel_rfl) (by as_aux_lemma => kernel_rfl) (by as_aux_lemma => kernel_rfl) (by as_aux_lemma => rfl) hS (v := ?_) ?_ ?_
  rotate_left
  · (intro w' hS'; go_simp <;> try with_reducible rfl)
  try simp only [Act.put, List.setIfInBounds_toArray, List.set_cons_zero, List.set_cons_succ]
  refine rg_take 13 rfl (by as_aux_lemma => kernel_rfl) (by as_aux_lemma => kernel_rfl) (by as_aux_lemma => kernel_rfl) (by as_aux_lemma => rfl) hS (v := ?_) ?_ ?_
  rotate_left
  · (intro w' hS'; go_simp <;> try with_reducible rfl)
  try simp only [Act.put, List.setIfInBounds_toArray, List.set_cons_zero, List.set_cons_succ]
  refine rg_take 14 rfl (by as_aux_lemma => kernel_rfl) (by as_aux_lemma => kernel_rfl) (by as_aux_lemma => kernel_rfl) (by as_aux_lemma => rfl) hS (v := ?_) ?_ ?_
  rotate_left
  · (intro w' hS'; go_simp <;> try with_reducible rfl)
  try simp only [Act.put, List.setIfInBounds_toArray, List.set_cons_zero, List.set_cons_succ]
  refine rg_take 15 rfl (by as_aux_lemma => kernel_rfl) (by as_aux_lemma => kernel_rfl) (by as_aux_lemma => kernel_rfl) (by as_aux_lemma => rfl) hS (v := ?_) ?_ ?_
  rotate_left
  · (intro w' hS'; go_simp <;> try with_reducible rfl)
  try simp only [Act.put, List.setIfInBounds_toArray, List.set_cons_zero, List.set_cons_succ]
  refine rg_take 16 rfl (by as_aux_lemma => kernel_rfl) (by as_aux_lemma => kernel_rfl) (by as_aux_lemma => kernel_rfl) (by as_aux_lemma => rfl) hS (v := ?_) ?_ ?_
  rotate_left
  · (intro w' hS'; go_simp <;> try with_reducible rfl)
  try simp only [Act.put, List.setIfInBounds_toArray, List.set_cons_zero, List.set_cons_succ]
  refine rg_take 17 rfl (by as_aux_lemma => kernel_rfl) (by as_aux_lemma => kernel_rfl) (by as_aux_lemma => kernel_rfl) (by as_aux_lemma => rfl) hS (v := ?_) ?_ ?_
  rotate_left
  · (intro w' hS'; go_simp <;> try with_reducible rfl)
  try simp only [Act.put, List.setIfInBounds_toArray, List.set_cons_zero, List.set_cons_succ]
  refine rg_ldP 18 rfl (by as_aux_lemma => kernel_rfl) (by as_aux_lemma => kernel_rfl) (by as_aux_lemma => kernel_rfl) (by as_aux_lemma => rfl) hS rfl rfl b8 (by simp <;> omega) (part_all _) (rc_q _).whole ?_
  try simp only [Act.put, List.setIfInBounds_toArray, List.set_cons_zero, List.set_cons_succ]
  refine rg_eff 19 rfl (by as_aux_lemma => kernel_rfl) (by as_aux_lemma => rfl) (fun K hK => ?_)
  go_simp
  refine (HW1.out _).mono ?_
  rintro e w1 ⟨rfl, h1⟩
  refine hK _ _ (hS.call h1) (fun hS => ?_)
  clear hK K
  replace hb := bthen hb h1
  clear h1
  try simp only [Act.put, List.setIfInBounds_toArray, List.set_cons_zero, List.set_cons_succ]
  refine rg_take 20 rfl (by as_aux_lemma => kernel_rfl) (by as_aux_lemma => kernel_rfl) (by as_aux_lemma => kernel_rfl) (by as_aux_lemma => rfl) hS (v := .bool true) (fun w' _ => op_eqq Hf1.out Hf1.out (decide_eq_true rfl) rfl rfl rfl w') ?_
  try simp only [Act.put, List.setIfInBounds_toArray, List.set_cons_zero, List.set_cons_succ]
  refine rg_take 21 rfl (by as_aux_lemma => kernel_rfl) (by as_aux_lemma => kernel_rfl) (by as_aux_lemma => kernel_rfl) (by as_aux_lemma => rfl) hS (v := ?_) ?_ ?_
  rotate_left
  · (intro w' hS'; go_simp <;> try with_reducible rfl)
  try simp only [Act.put, List.setIfInBounds_toArray, List.set_cons_zero, List.set_cons_succ]
  refine rg_take 22 rfl (by as_aux_lemma => kernel_rfl) (by as_aux_lemma => kernel_rfl) (by as_aux_lemma => kernel_rfl) (by as_aux_lemma => rfl) hS (v := ?_) ?_ ?_
  rotate_left
  · (intro w' hS'; go_simp <;> try with_reducible rfl)
  try simp only [Act.put, List.setIfInBounds_toArray, List.set_cons_zero, List.set_cons_succ]
  refine rg_take 23 rfl (by as_aux_lemma => kernel_rfl) (by as_aux_lemma => kernel_rfl) (by as_aux_lemma => kernel_rfl) (by as_aux_lemma => rfl) hS (v := ?_) ?_ ?_
  rotate_left
  · (intro w' hS'; go_simp <;> try with_reducible rfl)
  try simp only [Act.put, List.setIfInBounds_toArray, List.set_cons_zero, List.set_cons_succ]
  refine rg_take 24 rfl (by as_aux_lemma => kernel_rfl) (by as_aux_lemma => kernel_rfl) (by as_aux_lemma => kernel_rfl) (by as_aux_lemma => rfl) hS (v := ?_) ?_ ?_
  rotate_left
  · (intro w' hS'; go_simp <;> try with_reducible rfl)
  try simp only [Act.put, List.setIfInBounds_toArray, List.set_cons_zero, List.set_cons_succ]
  refine rg_take 25 rfl (by as_aux_lemma => kernel_rfl) (by as_aux_lemma => kernel_rfl) (by as_aux_lemma => kernel_rfl) (by as_aux_lemma => rfl) hS (v := ?_) ?_ ?_
  rotate_left
  · (intro w' hS'; go_simp <;> try with_reducible rfl)
  try simp only [Act.put, List.setIfInBounds_toArray, List.set_cons_zero, List.set_cons_succ]
  refine rg_take 26 rfl (by as_aux_lemma => kernel_rfl) (by as_aux_lemma => kernel_rfl) (by as_aux_lemma => kernel_rfl) (by as_aux_lemma => rfl) hS (v := ?_) ?_ ?_
  rotate_left
  · (intro w' hS'; go_simp <;> try with_reducible rfl)
  try simp only [Act.put, List.setIfInBounds_toArray, List.set_cons_zero, List.set_cons_succ]
  refine rg_take 27 rfl (by as_aux_lemma => kernel_rfl) (by as_aux_lemma => kernel_rfl) (by as_aux_lemma => kernel_rfl) (by as_aux_lemma => rfl) hS (v := ?_) ?_ ?_
  rotate_left
  · (intro w' hS'; go_simp <;> try with_reducible rfl)
  try simp only [Act.put, List.setIfInBounds_toArray, List.set_cons_zero, List.set_cons_succ]
  refine rg_take 28 rfl (by as_aux_lemma => kernel_rfl) (by as_aux_lemma => kernel_rfl) (by as_aux_lemma => kernel_rfl) (by as_aux_lemma => rfl) hS (v := ?_) ?_ ?_
  rotate_left
  · (intro w' hS'; go_simp <;> try with_reducible rfl)
  try simp only [Act.put, List.setIfInBounds_toArray, List.set_cons_zero, List.set_cons_succ]
  refine rg_take 29 rfl (by as_aux_lemma => kernel_rfl) (by as_aux_lemma => kernel_rfl) (by as_aux_lemma => kernel_rfl) (by as_aux_lemma => rfl) hS (v := ?_) ?_ ?_
  rotate_left
  · (intro w' hS'; go_simp <;> try with_reducible rfl)
  try simp only [Act.put, List.setIfInBounds_toArray, List.set_cons_zero, List.set_cons_succ]
  refine rg_take 30 rfl (by as_aux_lemma => kernel_rfl) (by as_aux_lemma => kernel_rfl) (by as_aux_lemma => kernel_rfl) (by as_aux_lemma => rfl) hS (v := ?_) ?_ ?_
  rotate_left
  · (intro w' hS'; go_simp <;> try with_reducible rfl)
  try simp only [Act.put, List.setIfInBounds_toArray, List.set_cons_zero, List.set_cons_succ]
  refine rg_take 31 rfl (by as_aux_lemma => kernel_rfl) (by as_aux_lemma => kernel_rfl) (by as_aux_lemma => kernel_rfl) (by as_aux_lemma => rfl) hS (v := ?_) ?_ ?_
  rotate_left
  · (intro w' hS'; go_simp <;> try with_reducible rfl)
  try simp only [Act.put, List.setIfInBounds_toArray, List.set_cons_zero, List.set_cons_succ]
  refine rg_take 32 rfl (by as_aux_lemma => kernel_rfl) (by as_aux_lemma => kernel_rfl) (by as_aux_lemma => kernel_rfl) (by as_aux_lemma => rfl) hS (v := ?_) ?_ ?_
  rotate_left
  · (intro w' hS'; go_simp <;> try with_reducible rfl)
  try simp only [Act.put, List.setIfInBounds_toArray, List.set_cons_zero, List.set_cons_succ]
  refine rg_take 33 rfl (by as_aux_lemma => kernel_rfl) (by as_aux_lemma => kernel_rfl) (by as_aux_lemma => kernel_rfl) (by as_aux_lemma => rfl) hS (v := ?_) ?_ ?_
  rotate_left
  · (intro w' hS'; go_simp <;> try with_reducible rfl)
  try simp only [Act.put, List.setIfInBounds_toArray, List.set_cons_zero, List.set_cons_succ]
  refine rg_take 34 rfl (by as_aux_lemma => kernel_rfl) (by as_aux_lemma => kernel_rfl) (by as_aux_lemma => kernel_rfl) (by as_aux_lemma => rfl) hS (v := ?_) ?_ ?_
  rotate_left
  · (intro w' hS'; go_simp <;> try with_reducible rfl)
  try simp only [Act.put, List.setIfInBounds_toArray, List.set_cons_zero, List.set_cons_succ]
  refine rg_take 35 rfl (by as_aux_lemma => kernel_rfl) (by as_aux_lemma => kernel_rfl) (by as_aux_lemma => kernel_rfl) (by as_aux_lemma => rfl) hS (v := ?_) ?_ ?_
  rotate_left
  · (intro w' hS'; go_simp <;> try with_reducible rfl)
  try simp only [Act.put, List.setIfInBounds_toArray, List.set_cons_zero, List.set_cons_succ]
  refine rg_take 36 rfl (by as_aux_lemma => kernel_rfl) (by as_aux_lemma => kernel_rfl) (by as_aux_lemma => kernel_rfl) (by as_aux_lemma => rfl) hS (v := ?_) ?_ ?_
  rotate_left
  · (intro w' hS'; go_simp <;> try with_reducible rfl)
  try simp only [Act.put, List.setIfInBounds_toArray, List.set_cons_zero, List.set_cons_succ]
  refine rg_take 37 rfl (by as_aux_lemma => kernel_rfl) (by as_aux_lemma => kernel_rfl) (by as_aux_lemma => kernel_rfl) (by as_aux_lemma => rfl) hS (v := ?_) ?_ ?_
  rotate_left
  · (intro w' hS'; go_simp <;> try with_reducible rfl)
  try simp only [Act.put, List.setIfInBounds_toArray, List.set_cons_zero, List.set_cons_succ]
  refine rg_take 38 rfl (by as_aux_lemma => kernel_rfl) (by as_aux_lemma => kernel_rfl) (by as_aux_lemma => kernel_rfl) (by as_aux_lemma => rfl) hS (v := ?_) ?_ ?_
  rotate_left
  · (intro w' hS'; go_simp <;> try with_reducible rfl)
  try simp only [Act.put, List.setIfInBounds_toArray, List.set_cons_zero, List.set_cons_succ]
  refine rg_take 39 rfl (by as_aux_lemma => kernel_rfl) (by as_aux_lemma => kernel_rfl) (by as_aux_lemma => kernel_rfl) (by as_aux_lemma => rfl) hS (v := ?_) ?_ ?_
  rotate_left
  · (intro w' hS'; go_simp <;> try with_reducible rfl)
  try simp only [Act.put, List.setIfInBounds_toArray, List.set_cons_zero, List.set_cons_succ]
  refine rg_take 40 rfl (by as_aux_lemma => kernel_rfl) (by as_aux_lemma => kernel_rfl) (by as_aux_lemma => kernel_rfl) (by as_aux_lemma => rfl) hS (v := ?_) ?_ ?_
  rotate_left
  · (intro w' hS'; go_simp <;> try with_reducible rfl)
  try simp only [Act.put, List.setIfInBounds_toArray, List.set_cons_zero, List.set_cons_succ]
  refine rg_take 41 rfl (by as_aux_lemma => kernel_rfl) (by as_aux_lemma => kernel_rfl) (by as_aux_lemma => kernel_rfl) (by as_aux_lemma => rfl) hS (v := ?_) ?_ ?_
  rotate_left
  · (intro w' hS'; go_simp <;> try with_reducible rfl)
  try simp only [Act.put, List.setIfInBounds_toArray, List.set_cons_zero, List.set_cons_succ]
  refine rg_take 42 rfl (by as_aux_lemma => kernel_rfl) (by as_aux_lemma => kernel_rfl) (by as_aux_lemma => kernel_rfl) (by as_aux_lemma => rfl) hS (v := ?_) ?_ ?_
  rotate_left
  · (intro w' hS'; go_simp <;> try with_reducible rfl)
  try simp only [Act.put, List.setIfInBounds_toArray, List.set_cons_zero, List.set_cons_succ]
  refine rg_take 43 rfl (by as_aux_lemma => kernel_rfl) (by as_aux_lemma => kernel_rfl) (by as_aux_lemma => kernel_rfl) (by as_aux_lemma => rfl) hS (v := ?_) ?_ ?_
  rotate_left
  · (intro w' hS'; go_simp <;> try with_reducible rfl)
  try simp only [Act.put, List.setIfInBounds_toArray, List.set_cons_zero, List.set_cons_succ]
  refine rg_take 44 rfl (by as_aux_lemma => kernel_rfl) (by as_aux_lemma => kernel_rfl) (by as_aux_lemma => kernel_rfl) (by as_aux_lemma => rfl) hS (v := ?_) ?_ ?_
  rotate_left
  · (intro w' hS'; go_simp <;> try with_reducible rfl)
  try simp only [Act.put, List.setIfInBounds_toArray, List.set_cons_zero, List.set_cons_succ]
  refine rg_take 45 rfl (by as_aux_lemma => kernel_rfl) (by as_aux_lemma => kernel_rfl) (by as_aux_lemma => kernel_rfl) (by as_aux_lemma => rfl) hS (v := ?_) ?_ ?_
  rotate_left
  · (intro w' hS'; go_simp <;> try with_reducible rfl)
  try simp only [Act.put, List.setIfInBounds_toArray, List.set_cons_zero, List.set_cons_succ]
  refine rg_take 46 rfl (by as_aux_lemma => kernel_rfl) (by as_aux_lemma => kernel_rfl) (by as_aux_lemma => kernel_rfl) (by as_aux_lemma => rfl) hS (v := ?_) ?_ ?_
  rotate_left
  · (intro w' hS'; go_simp <;> try with_reducible rfl)
  try simp only [Act.put, List.setIfInBounds_toArray, List.set_cons_zero, List.set_cons_succ]
  refine rg_take 47 rfl (by as_aux_lemma => kernel_rfl) (by as_aux_lemma => kernel_rfl) (by as_aux_lemma => kernel_rfl) (by as_aux_lemma => rfl) hS (v := ?_) ?_ ?_
  rotate_left
  · (intro w' hS'; go_simp <;> try with_reducible rfl)
  try simp only [Act.put, List.setIfInBounds_toArray, List.set_cons_zero, List.set_cons_succ]
  refine rg_ldP 48 rfl (by as_aux_lemma => kernel_rfl) (by as_aux_lemma => kernel_rfl) (by as_aux_lemma => kernel_rfl) (by as_aux_lemma => rfl) hS rfl rfl b18 (by simp <;> omega) (r3_p1 (rc_q _)) (rc_q _).whole ?_
  try simp only [Act.put, List.setIfInBounds_toArray, List.set_cons_zero, List.set_cons_succ]
  refine rg_eff 49 rfl (by as_aux_lemma => kernel_rfl) (by as_aux_lemma => rfl) (fun K hK => ?_)
  go_simp
  refine (HW8.out _).mono ?_
  rintro e w1 ⟨rfl, h1⟩
  refine hK _ _ (hS.call h1) (fun hS => ?_)
  clear hK K
  replace hb := bthen hb h1
  clear h1
  try simp only [Act.put, List.setIfInBounds_toArray, List.set_cons_zero, List.set_cons_succ]
  refine rg_take 50 rfl (by as_aux_lemma => kernel_rfl) (by as_aux_lemma => kernel_rfl) (by as_aux_lemma => kernel_rfl) (by as_aux_lemma => rfl) hS (v := .bool true) (fun w' _ => op_eqq Hf8.out Hf8.out (decide_eq_true rfl) rfl rfl rfl w') ?_
  try simp only [Act.put, List.setIfInBounds_toArray, List.set_cons_zero, List.set_cons_succ]
  refine rg_take 51 rfl (by as_aux_lemma => kernel_rfl) (by as_aux_lemma => kernel_rfl) (by as_aux_lemma => kernel_rfl) (by as_aux_lemma => rfl) hS (v := ?_) ?_ ?_
  rotate_left
  · (intro w' hS'; go_simp <;> try with_reducible rfl)
  try simp only [Act.put, List.setIfInBounds_toArray, List.set_cons_zero, List.set_cons_succ]
  refine rg_take 52 rfl (by as_aux_lemma => kernel_rfl) (by as_aux_lemma => kernel_rfl) (by as_aux_lemma => kernel_rfl) (by as_aux_lemma => rfl) hS (v := ?_) ?_ ?_
  rotate_left
  · (intro w' hS'; go_simp <;> try with_reducible rfl)
  try simp only [Act.put, List.setIfInBounds_toArray, List.set_cons_zero, List.set_cons_succ]
  refine rg_take 53 rfl (by as_aux_lemma => kernel_rfl) (by as_aux_lemma => kernel_rfl) (by as_aux_lemma => kernel_rfl) (by as_aux_lemma => rfl) hS (v := ?_) ?_ ?_
  rotate_left
  · (intro w' hS'; go_simp <;> try with_reducible rfl)
  try simp only [Act.put, List.setIfInBounds_toArray, List.set_cons_zero, List.set_cons_succ]
  refine rg_take 54 rfl (by as_aux_lemma => kernel_rfl) (by as_aux_lemma => kernel_rfl) (by as_aux_lemma => kernel_rfl) (by as_aux_lemma => rfl) hS (v := ?_) ?_ ?_
  rotate_left
  · (intro w' hS'; go_simp <;> try with_reducible rfl)
  try simp only [Act.put, List.setIfInBounds_toArray, List.set_cons_zero, List.set_cons_succ]
  refine rg_take 55 rfl (by as_aux_lemma => kernel_rfl) (by as_aux_lemma => kernel_rfl) (by as_aux_lemma => kernel_rfl) (by as_aux_lemma => rfl) hS (v := ?_) ?_ ?_
  rotate_left
  · (intro w' hS'; go_simp <;> try with_reducible rfl)
  try simp only [Act.put, List.setIfInBounds_toArray, List.set_cons_zero, List.set_cons_succ]
  refine rg_ldP 56 rfl (by as_aux_lemma => kernel_rfl) (by as_aux_lemma => kernel_rfl) (by as_aux_lemma => kernel_rfl) (by as_aux_lemma => rfl) hS rfl rfl b20 (by simp <;> omega) (part_all _) (rc_q _).whole ?_
  try simp only [Act.put, List.setIfInBounds_toArray, List.set_cons_zero, List.set_cons_succ]
  refine rg_eff 57 rfl (by as_aux_lemma => kernel_rfl) (by as_aux_lemma => rfl) (fun K hK => ?_)
  go_simp
  refine (HW4.out _).mono ?_
  rintro e w1 ⟨rfl, h1⟩
  refine hK _ _ (hS.call h1) (fun hS => ?_)
  clear hK K
  replace hb := bthen hb h1
  clear h1
  try simp only [Act.put, List.setIfInBounds_toArray, List.set_cons_zero, List.set_cons_succ]
  refine rg_take 58 rfl (by as_aux_lemma => kernel_rfl) (by as_aux_lemma => kernel_rfl) (by as_aux_lemma => kernel_rfl) (by as_aux_lemma => rfl) hS (v := .bool true) (fun w' _ => op_eqq Hf4.out Hf4.out (decide_eq_true rfl) rfl rfl rfl w') ?_
  try simp only [Act.put, List.setIfInBounds_toArray, List.set_cons_zero, List.set_cons_succ]
  refine rg_take 59 rfl (by as_aux_lemma => kernel_rfl) (by as_aux_lemma => kernel_rfl) (by as_aux_lemma => kernel_rfl) (by as_aux_lemma => rfl) hS (v := ?_) ?_ ?_
  rotate_left
  · (intro w' hS'; go_simp <;> try with_reducible rfl)
  try simp only [Act.put, List.setIfInBounds_toArray, List.set_cons_zero, List.set_cons_succ]
  refine rg_take 60 rfl (by as_aux_lemma => kernel_rfl) (by as_aux_lemma => kernel_rfl) (by as_aux_lemma => kernel_rfl) (by as_aux_lemma => rfl) hS (v := ?_) ?_ ?_
  rotate_left
  · (intro w' hS'; go_simp <;> try with_reducible rfl)
  try simp only [Act.put, List.setIfInBounds_toArray, List.set_cons_zero, List.set_cons_succ]
  refine rg_done (by kernel_rfl) ?_
  go_wp2
  go_ret
  exact ⟨rfl, hb⟩
end Go.Proofs.YtckolhalggcenaaGreat

/- Triangles over rational numbers; what known answers. -/
namespace Go.Proofs.YtckolhalggcenaaGreat
set_option linter.unusedSimpArgs false
set_option linter.unusedVariables false
open Go.RowKit
set_option maxRecDepth 100000
section
variable {ax ay bx by' cx cy px py : Rat} (ha : Gd ax ay) (hb : Gd bx by') (hc : Gd cx cy) (hp : Gd px py)
include ha hb
theorem far_q : Tl 47 #[vl (sdc (fq ax ++ fq ay) (fq bx ++ fq by'))] (vl (fq (dt ax ay bx by' bx by'))) := tfar_w (X := fq (dt ax ay bx by' bx by')) (ok := true) (pc_q _ _) (pc_q _ _) (rc_q _) (Far_q ha hb)
theorem turn_q {c : Int} (hp : Gd px py) (h : cq (crs ax ay bx by' px py) 0 = c) : Tl 46 #[vl (sdc (fq ax ++ fq ay) (fq bx ++ fq by')), vp px py] (.int .i64 c) := by
  subst h
  exact tturn_w (ok := true) (pc_q _ _) (pc_q _ _) (pc_q _ _) (Turn_q ha hb hp)
include hc
theorem area_q : Tl 28 #[vl (tqr ax ay bx by' cx cy)] (vl (fq (crs ax ay bx by' cx cy))) := area2_w (X := fq (crs ax ay bx by' cx cy)) (ok := true) (pc_q _ _) (pc_q _ _) (pc_q _ _) (rc_q _) (Cross_q ha hb hc)
theorem dot_q : Tl 34 #[vl (tqr ax ay bx by' cx cy)] (vl (fq (dt ax ay bx by' cx cy))) := tdot_w (X := fq (dt ax ay bx by' cx cy)) (ok := true) (pc_q _ _) (pc_q _ _) (pc_q _ _) (rc_q _) (Dot_q ha hb hc)
theorem above_q {x : Rat} {b : Bool} (hx : Bq 485 x) (h : decide (0 < cq (dt ax ay bx by' cx cy) x) = b) : Tl 45 #[vl (fq (dt ax ay bx by' cx cy)), vl (fq x)] (.bool b) := above_w (ok := true) (rc_q _) (rc_q _) h (Cmp_q (bq_dt ha hb hc) (by omega) hx (by omega))
theorem Area2_q : Tl 13 #[vp ax ay, vp bx by', vp cx cy] (.tuple #[vl (fq (crs ax ay bx by' cx cy)), .bool true]) := Area2_w ha hb hc (area_q ha hb hc)
theorem Sides_q : Tl 12 #[vp ax ay, vp bx by', vp cx cy] (.tuple #[vl (c3c (fq (dt ax ay bx by' bx by')) (fq (dt bx by' cx cy cx cy)) (fq (dt cx cy ax ay ax ay))), .bool true]) :=
  Sides_w ha hb hc (sides_w (pc_q _ _) (pc_q _ _) (pc_q _ _) (rc_q _) (rc_q _) (rc_q _) (far_q ha hb) (far_q hb hc) (far_q hc ha))
theorem Good_q {g0 g1 g2 : Bool} (h : cq (crs ax ay bx by' cx cy) 0 = 1) (h0 : decide (0 < cq (dt ax ay bx by' cx cy) (crs ax ay bx by' cx cy)) = g0) (h1 : decide (0 < cq (dt bx by' cx cy ax ay) (crs ax ay bx by' cx cy)) = g1) (h2 : decide (0 < cq (dt cx cy ax ay bx by') (crs ax ay bx by' cx cy)) = g2) :
    Tl 9 #[vp ax ay, vp bx by', vp cx cy] (.tuple #[.bool (!(g0 || (g1 || g2))), .bool true]) := by
  have TS := Sign_q (bq_crs ha hb hc) (by omega)
  rw [h] at TS
  exact Good_w ha hb hc (good_yes (pc_q _ _) (pc_q _ _) (pc_q _ _) (rc_q _) (rc_q _) (rc_q _) (rc_q _) (area_q ha hb hc) TS (dot_q ha hb hc) (dot_q hb hc ha) (dot_q hc ha hb) (above_q ha hb hc (bq_crs ha hb hc) h0) (above_q hb hc ha (bq_crs ha hb hc) h1) (above_q hc ha hb (bq_crs ha hb hc) h2))
theorem Good_not {c : Int} (h : cq (crs ax ay bx by' cx cy) 0 = c) (hc' : c = 0 ∨ c = -1) : Tl 9 #[vp ax ay, vp bx by', vp cx cy] (.tuple #[.bool false, .bool true]) := by
  have TS := Sign_q (bq_crs ha hb hc) (by omega)
  rw [h] at TS
  exact Good_w ha hb hc (good_no (pc_q _ _) (pc_q _ _) (pc_q _ _) (rc_q _) hc' (area_q ha hb hc) TS)
theorem Sharp_yes (h : decide (cq (dt ax ay bx by' cx cy) 0 ≤ 0) = false) (h0 : dt ax ay bx by' cx cy ≠ 0) : Tl 6 #[vp ax ay, vp bx by', vp cx cy] (.tuple #[vl (fq (crs ax ay bx by' cx cy / dt ax ay bx by' cx cy)), .bool true, .bool true]) :=
  Sharp_w ha hb hc (tangent_yes (pc_q _ _) (pc_q _ _) (pc_q _ _) (rc_q _) (rc_q _) (rc_q _) h (dot_q ha hb hc) (Sign_q (bq_dt ha hb hc) (by omega)) (area_q ha hb hc) (Div_q (bq_crs ha hb hc) (by omega) (bq_dt ha hb hc) (by omega) h0))
theorem Sharp_no (h : decide (cq (dt ax ay bx by' cx cy) 0 ≤ 0) = true) : Tl 6 #[vp ax ay, vp bx by', vp cx cy] (.tuple #[vl (fq (Rat.divInt 0 1)), .bool false, .bool true]) :=
  Sharp_w ha hb hc (tangent_no (pc_q _ _) (pc_q _ _) (pc_q _ _) (rc_q _) h (dot_q ha hb hc) (Sign_q (bq_dt ha hb hc) (by omega)))
theorem Place_q (hp : Gd px py) {c0 c1 c2 d0 d1 d2 : Int} (h : cq (crs ax ay bx by' cx cy) 0 = 1) (h0 : cq (crs ax ay bx by' px py) 0 = c0) (h1 : cq (crs bx by' cx cy px py) 0 = c1) (h2 : cq (crs cx cy ax ay px py) 0 = c2) (e0 : min 1 c0 = d0) (e1 : min d0 c1 = d1) (e2 : min d1 c2 = d2) :
    Tl 11 #[vp ax ay, vp bx by', vp cx cy, vp px py] (.tuple #[.int .i64 d2, .bool true]) :=
  Place_w ha hb hc hp (tleft_w (pc_q _ _) (pc_q _ _) (pc_q _ _) (c := 1) rfl (turn_q ha hb hc h)) (place_w (pc_q _ _) (pc_q _ _) (pc_q _ _) (pc_q _ _) e0 e1 e2 (turn_q ha hb hp h0) (turn_q hb hc hp h1) (turn_q hc ha hp h2))
end
theorem known5_any (w : World) : Calls Tryz.prog 4 #[] w fun e w' => e = .returned (.bool true) ∧ Below w.heap.size w w' := by
  have g0 : Gd ((0 : Int) : Rat) ((0 : Int) : Rat) := gd_i (by decide) (by decide)
  have g1 : Gd ((2 : Int) : Rat) ((0 : Int) : Rat) := gd_i (by decide) (by decide)
  have g2 : Gd ((0 : Int) : Rat) ((2 : Int) : Rat) := gd_i (by decide) (by decide)
  have g3 : Gd ((1 : Int) : Rat) ((1 : Int) : Rat) := gd_i (by decide) (by decide)
  have g4 : Gd ((3 : Int) : Rat) ((3 : Int) : Rat) := gd_i (by decide) (by decide)
  have G1 := Good_q g0 g1 g2 (g0 := false) (g1 := false) (g2 := false) (by decide +kernel) (by decide +kernel) (by decide +kernel) (by decide +kernel)
  have G2 := Good_not g0 g2 g1 (c := -1) (by decide +kernel) (.inr rfl)
  have S1 := Sharp_yes g1 g2 g0 (by decide +kernel) (by decide +kernel)
  rw [show crs ((2 : Int) : Rat) ((0 : Int) : Rat) ((0 : Int) : Rat) ((2 : Int) : Rat) ((0 : Int) : Rat) ((0 : Int) : Rat) / dt ((2 : Int) : Rat) ((0 : Int) : Rat) ((0 : Int) : Rat) ((2 : Int) : Rat) ((0 : Int) : Rat) ((0 : Int) : Rat) = ((1 : Int) : Rat) by decide +kernel] at S1
  have S2 := Sharp_no g0 g1 g2 (by decide +kernel)
  have P4 := Place_q g0 g1 g2 g3 (c0 := 1) (c1 := 0) (c2 := 1) (d0 := 1) (d1 := 0) (d2 := 0) (by decide +kernel) (by decide +kernel) (by decide +kernel) (by decide +kernel) rfl rfl rfl
  have P5 := Place_q g0 g1 g2 g4 (c0 := 1) (c1 := -1) (c2 := 1) (d0 := 1) (d1 := -1) (d2 := -1) (by decide +kernel) (by decide +kernel) (by decide +kernel) (by decide +kernel) rfl rfl rfl
  have SD := Sides_q g0 g1 g2
  rw [show dt ((2 : Int) : Rat) ((0 : Int) : Rat) ((0 : Int) : Rat) ((2 : Int) : Rat) ((0 : Int) : Rat) ((2 : Int) : Rat) = ((8 : Int) : Rat) by decide +kernel] at SD
  have AR := Area2_q g0 g1 g2
  rw [show crs ((0 : Int) : Rat) ((0 : Int) : Rat) ((2 : Int) : Rat) ((0 : Int) : Rat) ((0 : Int) : Rat) ((2 : Int) : Rat) = ((4 : Int) : Rat) by decide +kernel] at AR
  exact known5_walk (f2_i (n := 1) (by decide)) (f2_i (n := 8) (by decide)) (f2_i (n := 4) (by decide)) (Atref_q (n := 0) (m := 0) (by decide) (by decide)) (Atref_q (n := 2) (m := 0) (by decide) (by decide)) (Atref_q (n := 0) (m := 2) (by decide) (by decide))
    G1 G2 S1 S2 (Atref_q (n := 1) (m := 1) (by decide) (by decide)) P4 (Atref_q (n := 3) (m := 3) (by decide) (by decide)) P5 SD AR (Whole_q (n := 1) (by decide)) (Whole_q (n := 8) (by decide)) (Whole_q (n := 4) (by decide)) w
end Go.Proofs.YtckolhalggcenaaGreat
