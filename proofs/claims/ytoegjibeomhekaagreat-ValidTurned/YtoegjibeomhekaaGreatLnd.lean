/- Package line over the rational numbers: what lies on what; heights. -/
import Derived.Test.YtoegjibeomhekaaGreatLnc
namespace Go.Proofs.YtoegjibeomhekaaGreat
set_option linter.unusedSimpArgs false
set_option linter.unusedVariables false
open Go.RowKit
set_option maxRecDepth 100000
/-- A segment's value; the side of a point; whether a point lies on it. -/
def vg (ax ay bx' by' : Rat) : Value := vl (sgm (fq ax) (fq ay) (fq bx') (fq by'))
def sd (ax ay cx cy x y : Rat) : Int := cq (crs ax ay cx cy x y) 0
def onq (ax ay cx cy x y : Rat) : Bool := (hq ax cx x && hq ay cy y) && decide (sd ax ay cx cy x y = 0)
section
variable {ax ay cx cy x y : Rat} (ha : Gd ax ay) (hc : Gd cx cy) (hx : Gd x y)
include ha hc hx
theorem covers_q : Tl 59 #[vl (bx (fq ax) (fq ay) (fq cx) (fq cy)), vp x y] (.bool (hq ax cx x && hq ay cy y)) := by
  have T1 := holds_q ha.1 hc.1 hx.1
  have T2 := holds_q ha.2 hc.2 hx.2
  cases h : hq ax cx x
  · rw [h] at T1
    exact covers_a (rc_q _) (rc_q _) (rc_q _) (rc_q _) (rc_q _) (rc_q _) T1 T2
  · rw [h] at T1
    exact covers_b (rc_q _) (rc_q _) (rc_q _) (rc_q _) (rc_q _) (rc_q _) T1 T2
theorem side_q : Tl 60 #[vg ax ay cx cy, vp x y] (.int .i64 (sd ax ay cx cy x y)) :=
  side_walk (rc_q _) (rc_q _) (rc_q _) (rc_q _) (rc_q _) (rc_q _) (Turn_q ha hc hx)
theorem has_q : Tl 50 #[vg ax ay cx cy, vp x y] (.bool (onq ax ay cx cy x y)) := by
  have T1 := covers_q ha hc hx
  have T2 := side_q ha hc hx
  unfold onq
  cases h : (hq ax cx x && hq ay cy y)
  · rw [h] at T1
    exact shas_a (rc_q _) (rc_q _) (rc_q _) (rc_q _) (rc_q _) (rc_q _) T1 T2
  · rw [h] at T1
    exact shas_b (rc_q _) (rc_q _) (rc_q _) (rc_q _) (rc_q _) (rc_q _) T1 T2
end
theorem between_l (ax ay cx cy : Rat) : Tl 49 #[vp ax ay, vp cx cy] (vg ax ay cx cy) := lbetween_walk (rc_q _) (rc_q _) (rc_q _) (rc_q _)
set_option maxHeartbeats 1000000 in
theorem On_bad {A B C D E F : List Value} {s s' s'' : Bool} (hA : Rc A) (hB : Rc B) (hC : Rc C) (hD : Rc D) (hE : Rc E) (hF : Rc F) (T : Tl 34 #[vl (A ++ B)] (.bool s)) (T' : Tl 34 #[vl (C ++ D)] (.bool s')) (T'' : Tl 34 #[vl (E ++ F)] (.bool s'')) (hs : (s && (s' && s'')) = false) :
    Tl 40 #[vl (A ++ B), vl (C ++ D), vl (E ++ F)] (.tuple #[.bool false, .bool false]) := by
  intro w
  unfold vl at *
  have HT := Lib.hid T
  have HT' := Lib.hid T'
  have HT'' := Lib.hid T''
  have HS := Lib.hid hs
  have HA := Lib.hid hA
  have HB := Lib.hid hB
  have HC := Lib.hid hC
  have HD := Lib.hid hD
  have HE := Lib.hid hE
  have HF := Lib.hid hF
  clear T T' T'' hs hA hB hC hD hE hF
  have b2 := (((Blk.new w (A ++ B) 47 rfl).old (.cells (C ++ D).toArray 47)).old (.cells (E ++ F).toArray 47))
  have b3 := ((Blk.new (w.alloc (.cells (A ++ B).toArray 47)) (C ++ D) 47 (b := w.heap.size + 1) (by simp)).old (.cells (E ++ F).toArray 47))
  have b4 := (Blk.new ((w.alloc (.cells (A ++ B).toArray 47)).alloc (.cells (C ++ D).toArray 47)) (E ++ F) 47 (b := w.heap.size + 1 + 1) (by simp))
  have hb : Below w.heap.size w (((w.alloc (.cells (A ++ B).toArray 47)).alloc (.cells (C ++ D).toArray 47)).alloc (.cells (E ++ F).toArray 47)) := ((((Below.refl _ _).alloc (Nat.le_refl _) _).alloc (by simp <;> omega) _).alloc (by simp <;> omega) _)
  have hk : (((w.alloc (.cells (A ++ B).toArray 47)).alloc (.cells (C ++ D).toArray 47)).alloc (.cells (E ++ F).toArray 47)).heap.size = w.heap.size + 1 + 1 + 1 := by simp
  go_enter Tryz.func40, Tryz.ntmps40
  go_wp2_with (first | (with_reducible refine ldPt rfl rfl rfl b2 HA.out HB.out ?_) | (with_reducible refine ldPt rfl rfl rfl b3 HC.out HD.out ?_) | (with_reducible refine ldPt rfl rfl rfl b4 HE.out HF.out ?_) | (with_reducible refine bsP3 rfl rfl rfl rfl rfl HA.out HB.out HC.out HD.out HE.out HF.out ?_))
  have sl := Blk.new (((w.alloc (.cells (A ++ B).toArray 47)).alloc (.cells (C ++ D).toArray 47)).alloc (.cells (E ++ F).toArray 47)) (j3 (A ++ B) (C ++ D) (E ++ F)) 47 (b := w.heap.size + 1 + 1 + 1) hk.symm
  replace hb := hb.alloc hb.size (.cells (j3 (A ++ B) (C ++ D) (E ++ F)).toArray 47)
  try rw [hk]
  refine (lare_three HA.out HB.out HC.out HD.out HE.out HF.out HT.out HT'.out HT''.out sl).mono ?_
  rintro e w1 ⟨rfl, h1⟩
  replace hb := bthen hb h1
  rw [HS.out]
  go_wp2
  go_ret2
  exact ⟨rfl, hb⟩
set_option maxHeartbeats 1000000 in
theorem On_q {ax ay cx cy x y : Rat} (ha : Gd ax ay) (hc : Gd cx cy) (hx : Gd x y) : Tl 40 #[vp ax ay, vp cx cy, vp x y] (.tuple #[.bool (onq ax ay cx cy x y), .bool true]) := by
  intro w
  have HT := Lib.hid (Isp_q ha)
  have HT' := Lib.hid (Isp_q hc)
  have HT'' := Lib.hid (Isp_q hx)
  have HB := Lib.hid (between_l ax ay cx cy)
  have HH := Lib.hid (has_q ha hc hx)
  unfold vp vl at *
  unfold vg vl at HB HH
  unfold Tl at HB HH
  clear ha hc hx
  generalize onq ax ay cx cy x y = r at *
  have b2 := (((Blk.new w (fq ax ++ fq ay) 47 rfl).old (.cells (fq cx ++ fq cy).toArray 47)).old (.cells (fq x ++ fq y).toArray 47))
  have b3 := ((Blk.new (w.alloc (.cells (fq ax ++ fq ay).toArray 47)) (fq cx ++ fq cy) 47 (b := w.heap.size + 1) (by simp)).old (.cells (fq x ++ fq y).toArray 47))
  have b4 := (Blk.new ((w.alloc (.cells (fq ax ++ fq ay).toArray 47)).alloc (.cells (fq cx ++ fq cy).toArray 47)) (fq x ++ fq y) 47 (b := w.heap.size + 1 + 1) (by simp))
  have hb : Below w.heap.size w (((w.alloc (.cells (fq ax ++ fq ay).toArray 47)).alloc (.cells (fq cx ++ fq cy).toArray 47)).alloc (.cells (fq x ++ fq y).toArray 47)) := ((((Below.refl _ _).alloc (Nat.le_refl _) _).alloc (by simp <;> omega) _).alloc (by simp <;> omega) _)
  have hk : (((w.alloc (.cells (fq ax ++ fq ay).toArray 47)).alloc (.cells (fq cx ++ fq cy).toArray 47)).alloc (.cells (fq x ++ fq y).toArray 47)).heap.size = w.heap.size + 1 + 1 + 1 := by simp
  go_enter Tryz.func40, Tryz.ntmps40
  go_wp2_with (first | (with_reducible refine ldPt rfl rfl rfl b2 (rc_q _) (rc_q _) ?_) | (with_reducible refine ldPt rfl rfl rfl b3 (rc_q _) (rc_q _) ?_) | (with_reducible refine ldPt rfl rfl rfl b4 (rc_q _) (rc_q _) ?_) | (with_reducible refine bsP3 rfl rfl rfl rfl rfl (rc_q _) (rc_q _) (rc_q _) (rc_q _) (rc_q _) (rc_q _) ?_))
  have sl := Blk.new (((w.alloc (.cells (fq ax ++ fq ay).toArray 47)).alloc (.cells (fq cx ++ fq cy).toArray 47)).alloc (.cells (fq x ++ fq y).toArray 47)) (j3 (fq ax ++ fq ay) (fq cx ++ fq cy) (fq x ++ fq y)) 47 (b := w.heap.size + 1 + 1 + 1) hk.symm
  replace hb := hb.alloc hb.size (.cells (j3 (fq ax ++ fq ay) (fq cx ++ fq cy) (fq x ++ fq y)).toArray 47)
  replace b2 := b2.old (.cells (j3 (fq ax ++ fq ay) (fq cx ++ fq cy) (fq x ++ fq y)).toArray 47)
  replace b3 := b3.old (.cells (j3 (fq ax ++ fq ay) (fq cx ++ fq cy) (fq x ++ fq y)).toArray 47)
  replace b4 := b4.old (.cells (j3 (fq ax ++ fq ay) (fq cx ++ fq cy) (fq x ++ fq y)).toArray 47)
  try rw [hk]
  refine (lare_three (rc_q _) (rc_q _) (rc_q _) (rc_q _) (rc_q _) (rc_q _) HT.out HT'.out HT''.out sl).mono ?_
  rintro e w1 ⟨rfl, h1⟩
  replace b2 := b2.call h1
  replace b3 := b3.call h1
  replace b4 := b4.call h1
  replace hb := bthen hb h1
  clear h1 sl hk
  go_wp2_with fail
  refine rg_start [] (by kernel_rfl) (fun hS => ?_)
  replace hb := hb.drew
  replace b2 := b2.drew
  replace b3 := b3.drew
  replace b4 := b4.drew
  refine rg_ldP 0 rfl (by kernel_rfl) (by kernel_rfl) (by kernel_rfl) (by rfl) hS rfl rfl b2 (by simp <;> omega) (part_all _) (wholeP (rc_q _) (rc_q _)) ?_
  try simp only [Act.put, List.setIfInBounds_toArray, List.set_cons_zero, List.set_cons_succ]
  refine rg_ldP 1 rfl (by kernel_rfl) (by kernel_rfl) (by kernel_rfl) (by rfl) hS rfl rfl b3 (by simp <;> omega) (part_all _) (wholeP (rc_q _) (rc_q _)) ?_
  try simp only [Act.put, List.setIfInBounds_toArray, List.set_cons_zero, List.set_cons_succ]
  refine rg_ldP 3 rfl (by kernel_rfl) (by kernel_rfl) (by kernel_rfl) (by rfl) hS rfl rfl b4 (by simp <;> omega) (part_all _) (wholeP (rc_q _) (rc_q _)) ?_
  try simp only [Act.put, List.setIfInBounds_toArray, List.set_cons_zero, List.set_cons_succ]
  refine rg_eff 2 rfl (by kernel_rfl) (by rfl) (fun K hK => ?_)
  go_simp
  refine (HB.out _).mono ?_
  rintro e w1 ⟨rfl, h1⟩
  refine hK _ _ (hS.call h1) (fun hS => ?_)
  clear hK K
  replace hb := bthen hb h1
  clear h1
  try simp only [Act.put, List.setIfInBounds_toArray, List.set_cons_zero, List.set_cons_succ]
  refine rg_eff 4 rfl (by kernel_rfl) (by rfl) (fun K hK => ?_)
  go_simp
  refine (HH.out _).mono ?_
  rintro e w1 ⟨rfl, h1⟩
  refine hK _ _ (hS.call h1) (fun hS => ?_)
  clear hK K
  replace hb := bthen hb h1
  clear h1
  try simp only [Act.put, List.setIfInBounds_toArray, List.set_cons_zero, List.set_cons_succ]
  refine rg_take 5 rfl (by kernel_rfl) (by kernel_rfl) (by kernel_rfl) (by rfl) hS (v := ?_) ?_ ?_
  rotate_left
  · (intro w' hS'; go_simp <;> try with_reducible rfl)
  try simp only [Act.put, List.setIfInBounds_toArray, List.set_cons_zero, List.set_cons_succ]
  refine rg_take 6 rfl (by kernel_rfl) (by kernel_rfl) (by kernel_rfl) (by rfl) hS (v := ?_) ?_ ?_
  rotate_left
  · (intro w' hS'; go_simp <;> try with_reducible rfl)
  try simp only [Act.put, List.setIfInBounds_toArray, List.set_cons_zero, List.set_cons_succ]
  refine rg_done (by kernel_rfl) ?_
  go_wp2
  go_ret2
  exact ⟨rfl, hb⟩
/-- Where the other number is; a course's value. -/
def atq (a c b d x : Rat) : Rat := b + (x - a) / (c - a) * (d - b)
def vc (a c b d : Rat) : Value := vl (bx (fq a) (fq b) (fq c) (fq d))
end Go.Proofs.YtoegjibeomhekaaGreat
