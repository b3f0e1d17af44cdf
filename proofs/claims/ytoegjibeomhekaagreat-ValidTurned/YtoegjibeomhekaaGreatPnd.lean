/- Package point: between, Cross, Dot, Turn, Far. -/
import Derived.Test.YtoegjibeomhekaaGreatPnc
namespace Go.Proofs.YtoegjibeomhekaaGreat
set_option linter.unusedSimpArgs false
set_option linter.unusedVariables false
open Go.RowKit
set_option maxRecDepth 100000
set_option maxHeartbeats 1000000 in
theorem between_walk {A B C D X Y : List Value} (hA : Rc A) (hB : Rc B) (hC : Rc C) (hD : Rc D) (hX : Rc X) (hY : Rc Y) (T : Tl 104 #[vl C, vl A] (vl X)) (T' : Tl 104 #[vl D, vl B] (vl Y)) : Tl 98 #[vl (A ++ B), vl (C ++ D)] (vl (X ++ Y)) := by
  intro w
  unfold vl at *
  have HA := Lib.hid hA
  have HB := Lib.hid hB
  have HC := Lib.hid hC
  have HD := Lib.hid hD
  have HX := Lib.hid hX
  have HY := Lib.hid hY
  have HT := Lib.hid T
  have HT' := Lib.hid T'
  unfold Tl at HT HT'
  clear hA hB hC hD hX hY T T'
  have b2 := ((Blk.new w (A ++ B) 47 rfl).old (.cells (C ++ D).toArray 47)).old (.cells p0.toArray 133)
  have b3 := (Blk.new (w.alloc (.cells (A ++ B).toArray 47)) (C ++ D) 47 (b := w.heap.size + 1) (by simp)).old (.cells p0.toArray 133)
  have b4 := Blk.new ((w.alloc (.cells (A ++ B).toArray 47)).alloc (.cells (C ++ D).toArray 47)) p0 133 (b := w.heap.size + 1 + 1) (by simp)
  have hb : Below w.heap.size w (((w.alloc (.cells (A ++ B).toArray 47)).alloc (.cells (C ++ D).toArray 47)).alloc (.cells p0.toArray 133)) := (((Below.refl _ _).alloc (Nat.le_refl _) _).alloc (by simp) _).alloc (by simp; omega) _
  go_enter Tryz.func98, Tryz.ntmps98
  go_wp2_with (first | (with_reducible refine alV rfl rfl ?_))
  try rw [show ((w.alloc (.cells (A ++ B).toArray 47)).alloc (.cells (C ++ D).toArray 47)).heap.size = w.heap.size + 1 + 1 by simp]
  generalize (((w.alloc (.cells (A ++ B).toArray 47)).alloc (.cells (C ++ D).toArray 47)).alloc (.cells p0.toArray 133)) = W at *
  refine rg_start [w.heap.size + 1 + 1] (by kernel_rfl) (fun hS => ?_)
  replace hb := hb.drew
  replace b4 := b4.drew
  refine rg_take 0 rfl (by kernel_rfl) (by kernel_rfl) (by kernel_rfl) (by rfl) hS (v := ?_) ?_ ?_
  rotate_left
  · (intro w' hS'; go_simp <;> try with_reducible rfl)
  try simp only [Act.put, List.setIfInBounds_toArray, List.set_cons_zero, List.set_cons_succ]
  refine rg_ldP 1 rfl (by kernel_rfl) (by kernel_rfl) (by kernel_rfl) (by rfl) hS rfl rfl b3 (by simp <;> omega) partX HC.out.whole ?_
  try simp only [Act.put, List.setIfInBounds_toArray, List.set_cons_zero, List.set_cons_succ]
  refine rg_take 2 rfl (by kernel_rfl) (by kernel_rfl) (by kernel_rfl) (by rfl) hS (v := ?_) ?_ ?_
  rotate_left
  · (intro w' hS'; go_simp <;> try with_reducible rfl)
  try simp only [Act.put, List.setIfInBounds_toArray, List.set_cons_zero, List.set_cons_succ]
  refine rg_ldP 3 rfl (by kernel_rfl) (by kernel_rfl) (by kernel_rfl) (by rfl) hS rfl rfl b2 (by simp <;> omega) partX HA.out.whole ?_
  try simp only [Act.put, List.setIfInBounds_toArray, List.set_cons_zero, List.set_cons_succ]
  refine rg_take 5 rfl (by kernel_rfl) (by kernel_rfl) (by kernel_rfl) (by rfl) hS (v := ?_) ?_ ?_
  rotate_left
  · (intro w' hS'; go_simp <;> try with_reducible rfl)
  try simp only [Act.put, List.setIfInBounds_toArray, List.set_cons_zero, List.set_cons_succ]
  refine rg_ldP 6 rfl (by kernel_rfl) (by kernel_rfl) (by kernel_rfl) (by rfl) hS rfl rfl b3 (by simp <;> omega) (partY HC.out) HD.out.whole ?_
  try simp only [Act.put, List.setIfInBounds_toArray, List.set_cons_zero, List.set_cons_succ]
  refine rg_take 7 rfl (by kernel_rfl) (by kernel_rfl) (by kernel_rfl) (by rfl) hS (v := ?_) ?_ ?_
  rotate_left
  · (intro w' hS'; go_simp <;> try with_reducible rfl)
  try simp only [Act.put, List.setIfInBounds_toArray, List.set_cons_zero, List.set_cons_succ]
  refine rg_ldP 8 rfl (by kernel_rfl) (by kernel_rfl) (by kernel_rfl) (by rfl) hS rfl rfl b2 (by simp <;> omega) (partY HA.out) HB.out.whole ?_
  try simp only [Act.put, List.setIfInBounds_toArray, List.set_cons_zero, List.set_cons_succ]
  refine rg_eff 4 rfl (by kernel_rfl) (by rfl) (fun K hK => ?_)
  go_simp
  refine (HT.out _).mono ?_
  rintro e w1 ⟨rfl, h1⟩
  refine hK _ _ (hS.call h1) (fun hS => ?_)
  clear hK K
  replace b4 := b4.call h1
  replace hb := bthen hb h1
  clear h1
  try simp only [Act.put, List.setIfInBounds_toArray, List.set_cons_zero, List.set_cons_succ]
  refine rg_eff 9 rfl (by kernel_rfl) (by rfl) (fun K hK => ?_)
  go_simp
  refine (HT'.out _).mono ?_
  rintro e w1 ⟨rfl, h1⟩
  refine hK _ _ (hS.call h1) (fun hS => ?_)
  clear hK K
  replace b4 := b4.call h1
  replace hb := bthen hb h1
  clear h1
  try simp only [Act.put, List.setIfInBounds_toArray, List.set_cons_zero, List.set_cons_succ]
  refine rg_build 10 rfl (by kernel_rfl) (by kernel_rfl) (by kernel_rfl) (by rfl) hS rfl (pl := [(0, .agg X.toArray), (1, .agg Y.toArray)]) (builtV HX.out HY.out) (by simp [Act.eval]) ?_
  try simp only [Act.put, List.setIfInBounds_toArray, List.set_cons_zero, List.set_cons_succ]
  refine rg_eff 11 rfl (by kernel_rfl) (by rfl) (fun K hK => ?_)
  refine wp_st (vs := X ++ Y) rfl rfl rfl b4 (by rw [p0_len, pt_len HX.out HY.out]) (wholeV HX.out HY.out) (pt_one HX.out HY.out) ?_
  refine hK _ _ (hS.row (.inl (by simp)) _) (fun hS => ?_)
  clear hK K
  try simp only [Act.put, List.setIfInBounds_toArray, List.set_cons_zero, List.set_cons_succ]
  refine rg_done (by kernel_rfl) ?_
  go_wp2
  exact ret_c (cs := X ++ Y) rfl rfl rfl (wholeV HX.out HY.out) (b4.row _) ⟨rfl, below_row hb (by omega) _⟩
theorem lv_ne {A B : List Value} (hA : Rc A) (hB : Rc B) (s : Bool) (N : Nat) (t : Bool) (M : Nat) : (A ++ B).length ≠ (rr s N t M).length := by rw [pt_len hA hB, rr_length]; decide
end Go.Proofs.YtoegjibeomhekaaGreat
