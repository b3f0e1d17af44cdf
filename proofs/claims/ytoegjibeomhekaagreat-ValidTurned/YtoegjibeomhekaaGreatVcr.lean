/- Joined of: Vtn Vlv Vme Vxg Vsd Vcr. -/
import Derived.Test.YtoegjibeomhekaaGreatVpu
import Derived.Test.YtoegjibeomhekaaGreatIsa
import Derived.Test.YtoegjibeomhekaaGreatLgq
/- valid: turns, ends of segments. -/
namespace Go.Proofs.YtoegjibeomhekaaGreat
set_option linter.unusedSimpArgs false
set_option linter.unusedVariables false
open Go.RowKit
set_option maxRecDepth 100000
/-- The cells of a three, of a segment with its ends. -/
def cT (p : I3) : List Value := [.int .i64 p.1, .int .i64 p.2.1, .int .i64 p.2.2]
def cSt (f t : I3) : List Value := [.int .i64 f.1, .int .i64 f.2.1, .int .i64 f.2.2, .int .i64 t.1, .int .i64 t.2.1, .int .i64 t.2.2]
def cSd (s : Sd) : List Value := [.int .i64 s.1.1, .int .i64 s.1.2.1, .int .i64 s.1.2.2, .int .i64 s.2.1.1, .int .i64 s.2.1.2.1, .int .i64 s.2.1.2.2, .int .i64 s.2.2.1, .int .i64 s.2.2.2.1, .int .i64 s.2.2.2.2]
/-- In the greatest square. -/
def Bd (p : I3) : Prop := (0 ≤ p.1 ∧ p.1 ≤ 64) ∧ (0 ≤ p.2.1 ∧ p.2.1 ≤ 64)
theorem bd_mul {a b : Int} (ha : -64 ≤ a ∧ a ≤ 64) (hb : -64 ≤ b ∧ b ≤ 64) : -4096 ≤ a * b ∧ a * b ≤ 4096 := by
  have h1 := Int.mul_le_mul_of_nonneg_left (show b ≤ 64 by omega) (show 0 ≤ a + 64 by omega)
  have h2 := Int.mul_le_mul_of_nonneg_left (show -64 ≤ b by omega) (show 0 ≤ a + 64 by omega)
  have h3 := Int.mul_le_mul_of_nonneg_left (show b ≤ 64 by omega) (show 0 ≤ 64 - a by omega)
  have h4 := Int.mul_le_mul_of_nonneg_left (show -64 ≤ b by omega) (show 0 ≤ 64 - a by omega)
  rw [Int.add_mul, Int.add_mul] at h1 h2
  rw [Int.sub_mul, Int.sub_mul] at h3 h4
  omega
set_option maxHeartbeats 4000000 in
theorem turn_any (f t v : I3) (hf : Bd f) (ht : Bd t) (hv : Bd v) (w : World) : Calls Tryz.prog 44 #[.agg (cSt f t).toArray, .agg (cT v).toArray] w fun e w' => e = .returned (.int .i64 (tnI f t v)) ∧ Below w.heap.size w w' := by
  obtain ⟨fx, fy, fm⟩ := f
  obtain ⟨tx, ty, tm⟩ := t
  obtain ⟨vx, vy, vm⟩ := v
  unfold Bd at hf ht hv
  simp only at hf ht hv
  have e1 := bd_mul (a := tx - fx) (b := vy - fy) (by omega) (by omega)
  have e2 := bd_mul (a := ty - fy) (b := vx - fx) (by omega) (by omega)
  have k1 : IntKind.i64.wrap (tx - fx) = tx - fx := by rw [IntKind.wrap_i64]; omega
  have k2 : IntKind.i64.wrap (vy - fy) = vy - fy := by rw [IntKind.wrap_i64]; omega
  have k3 : IntKind.i64.wrap (ty - fy) = ty - fy := by rw [IntKind.wrap_i64]; omega
  have k4 : IntKind.i64.wrap (vx - fx) = vx - fx := by rw [IntKind.wrap_i64]; omega
  have k5 : IntKind.i64.wrap ((tx - fx) * (vy - fy)) = (tx - fx) * (vy - fy) := by rw [IntKind.wrap_i64]; omega
  have k6 : IntKind.i64.wrap ((ty - fy) * (vx - fx)) = (ty - fy) * (vx - fx) := by rw [IntKind.wrap_i64]; omega
  have k7 : IntKind.i64.wrap ((tx - fx) * (vy - fy) - (ty - fy) * (vx - fx)) = (tx - fx) * (vy - fy) - (ty - fy) * (vx - fx) := by rw [IntKind.wrap_i64]; omega
  have HT : Hid (tnI (fx, fy, fm) (tx, ty, tm) (vx, vy, vm) = (tx - fx) * (vy - fy) - (ty - fy) * (vx - fx)) := rfl
  generalize tnI (fx, fy, fm) (tx, ty, tm) (vx, vy, vm) = r at *
  clear e1 e2 hf ht hv
  simp only [cSt, cT]
  have B1 := Blk.new w [.int .i64 fx, .int .i64 fy, .int .i64 fm, .int .i64 tx, .int .i64 ty, .int .i64 tm] 61 rfl
  have B2 := Blk.new (w.alloc (.cells #[.int .i64 fx, .int .i64 fy, .int .i64 fm, .int .i64 tx, .int .i64 ty, .int .i64 tm] 61)) [.int .i64 vx, .int .i64 vy, .int .i64 vm] 31 (b := w.heap.size + 1) (by simp)
  have hb := bnew w (.cells #[.int .i64 fx, .int .i64 fy, .int .i64 fm, .int .i64 tx, .int .i64 ty, .int .i64 tm] 61)
  replace hb := hb.alloc hb.size (.cells #[.int .i64 vx, .int .i64 vy, .int .i64 vm] 31)
  replace B1 := B1.old (.cells #[.int .i64 vx, .int .i64 vy, .int .i64 vm] 31)
  have c0 := B1.cell (i := 0) rfl
  have c1 := B1.cell (i := 1) rfl
  have c3 := B1.cell (i := 3) rfl
  have c4 := B1.cell (i := 4) rfl
  have d0 := B2.cell (i := 0) rfl
  have d1 := B2.cell (i := 1) rfl
  clear B1 B2
  go_enter Tryz.func44, Tryz.ntmps44
  go_wp2
  go_ret
  exact ⟨by rw [HT.out]; rfl, hb⟩
set_option maxHeartbeats 4000000 in
theorem joins_any (s t : Sd) (w : World) : Calls Tryz.prog 45 #[.agg (cSd s).toArray, .agg (cSd t).toArray] w fun e w' => e = .returned (.bool (vJoin s t)) ∧ Below w.heap.size w w' := by
  have B1 := Blk.new w (cSd s) 63 rfl
  have B2 := Blk.new (w.alloc (.cells (cSd s).toArray 63)) (cSd t) 63 (b := w.heap.size + 1) (by simp)
  have hb := bnew w (.cells (cSd s).toArray 63)
  replace hb := hb.alloc hb.size (.cells (cSd t).toArray 63)
  replace B1 := B1.old (.cells (cSd t).toArray 63)
  have c0 := B1.cell (i := 0) rfl
  have c1 := B1.cell (i := 1) rfl
  have d0 := B2.cell (i := 0) rfl
  have d1 := B2.cell (i := 1) rfl
  have HJ : Hid (vJoin s t = (decide (s.1.1 = t.1.1) || (decide (s.1.1 = t.1.2.1) || (decide (s.1.2.1 = t.1.1) || decide (s.1.2.1 = t.1.2.1))))) := rfl
  generalize vJoin s t = r at *
  obtain ⟨⟨sa, sb, sm⟩, sf, st⟩ := s
  obtain ⟨⟨ta, tb, tm⟩, tf, tt⟩ := t
  simp only at c0 c1 d0 d1 HJ
  clear B1 B2
  generalize hX : (cSd ((sa, sb, sm), sf, st)).toArray = X at *
  generalize hY : (cSd ((ta, tb, tm), tf, tt)).toArray = Y at *
  clear hX hY
  by_cases h1 : sa = ta
  · have E : Hid (r = true) := by show _ = _; rw [HJ.out]; simp [h1]
    subst h1
    go_enter Tryz.func45, Tryz.ntmps45
    go_wp2
    go_ret
    exact ⟨by rw [E.out]; rfl, hb⟩
  have g1 : (sa == ta) = false := by simp [h1]
  by_cases h2 : sa = tb
  · have E : Hid (r = true) := by show _ = _; rw [HJ.out]; simp [h2]
    subst h2
    go_enter Tryz.func45, Tryz.ntmps45
    go_wp2
    go_ret
    exact ⟨by rw [E.out]; rfl, hb⟩
  have g2 : (sa == tb) = false := by simp [h2]
  by_cases h3 : sb = ta
  · have E : Hid (r = true) := by show _ = _; rw [HJ.out]; simp [h3]
    subst h3
    go_enter Tryz.func45, Tryz.ntmps45
    go_wp2
    go_ret
    exact ⟨by rw [E.out]; rfl, hb⟩
  have g3 : (sb == ta) = false := by simp [h3]
  by_cases h4 : sb = tb
  · have E : Hid (r = true) := by show _ = _; rw [HJ.out]; simp [h4]
    subst h4
    go_enter Tryz.func45, Tryz.ntmps45
    go_wp2
    go_ret
    exact ⟨by rw [E.out]; rfl, hb⟩
  have g4 : (sb == tb) = false := by simp [h4]
  have E : Hid (r = false) := by show _ = _; rw [HJ.out]; simp [h1, h2, h3, h4]
  go_enter Tryz.func45, Tryz.ntmps45
  go_wp2
  go_ret
  exact ⟨by rw [E.out]; rfl, hb⟩
set_option maxHeartbeats 4000000 in
theorem vmay_any (s t : Sd) (w : World) : Calls Tryz.prog 38 #[.agg (cSd s).toArray, .agg (cSd t).toArray] w fun e w' => e = .returned (.int .i64 (vMay s t)) ∧ Below w.heap.size w w' := by
  have B1 := Blk.new w (cSd s) 63 rfl
  have B2 := Blk.new (w.alloc (.cells (cSd s).toArray 63)) (cSd t) 63 (b := w.heap.size + 1) (by simp)
  have hb := bnew w (.cells (cSd s).toArray 63)
  replace hb := hb.alloc hb.size (.cells (cSd t).toArray 63)
  replace B1 := B1.old (.cells (cSd t).toArray 63)
  have hW : Whole Tryz.prog 63 (cSd s).length := ⟨_, Tryz.underlying63, rfl, by kernel_rfl⟩
  have hW' : Whole Tryz.prog 63 (cSd t).length := ⟨_, Tryz.underlying63, rfl, by kernel_rfl⟩
  have HJ := Lib.hid (joins_any s t)
  have HM : Hid (vMay s t = if vJoin s t then 1 else 0) := rfl
  generalize vMay s t = r at *
  generalize vJoin s t = j at *
  go_enter Tryz.func38, Tryz.ntmps38
  go_wp2_with (first | (with_reducible refine ldP rfl rfl rfl B1 (part_all _) hW ?_) | (with_reducible refine ldP rfl rfl rfl B2 (part_all _) hW' ?_))
  refine (HJ.out _).mono ?_
  rintro e w1 ⟨rfl, k1⟩
  replace hb := bthen hb k1
  clear k1 B1 B2
  cases j
  · go_wp2
    go_ret
    exact ⟨by rw [HM.out]; rfl, hb⟩
  · go_wp2
    go_ret
    exact ⟨by rw [HM.out]; rfl, hb⟩
end Go.Proofs.YtoegjibeomhekaaGreat

/- valid: leaves. -/
namespace Go.Proofs.YtoegjibeomhekaaGreat
set_option linter.unusedSimpArgs false
set_option linter.unusedVariables false
open Go.RowKit
set_option maxRecDepth 100000
theorem whSd (s : Sd) : Whole Tryz.prog 63 (cSd s).length := ⟨_, Tryz.underlying63, rfl, by kernel_rfl⟩
theorem whSt (f t : I3) : Whole Tryz.prog 61 (cSt f t).length := ⟨_, Tryz.underlying61, rfl, by kernel_rfl⟩
theorem whVt (p : I3) : Whole Tryz.prog 31 (cT p).length := ⟨_, Tryz.underlying31, rfl, by kernel_rfl⟩
theorem whSg (p : I3) : Whole Tryz.prog 33 (cT p).length := ⟨_, Tryz.underlying33, rfl, by kernel_rfl⟩
theorem ptSd (s : Sd) : Part (cSd s) 3 (cSt s.2.1 s.2.2) := fun j v hv => by
  match j, hv with
  | 0, hv => exact hv
  | 1, hv => exact hv
  | 2, hv => exact hv
  | 3, hv => exact hv
  | 4, hv => exact hv
  | 5, hv => exact hv
theorem ptF (s : Sd) : Part (cSd s) 3 (cT s.2.1) := fun j v hv => by
  match j, hv with
  | 0, hv => exact hv
  | 1, hv => exact hv
  | 2, hv => exact hv
theorem ptT (s : Sd) : Part (cSd s) 6 (cT s.2.2) := fun j v hv => by
  match j, hv with
  | 0, hv => exact hv
  | 1, hv => exact hv
  | 2, hv => exact hv
theorem ptSF (f t : I3) : Part (cSt f t) 0 (cT f) := fun j v hv => by
  match j, hv with
  | 0, hv => exact hv
  | 1, hv => exact hv
  | 2, hv => exact hv
theorem ptST (f t : I3) : Part (cSt f t) 3 (cT t) := fun j v hv => by
  match j, hv with
  | 0, hv => exact hv
  | 1, hv => exact hv
  | 2, hv => exact hv
/-- Both ends of a segment are in the greatest square. -/
def Bs (s : Sd) : Prop := Bd s.2.1 ∧ Bd s.2.2
set_option maxHeartbeats 4000000 in
theorem leaves_any (s t : Sd) (hs : Bs s) (ht : Bs t) (w : World) : Calls Tryz.prog 36 #[.agg (cSd s).toArray, .agg (cSd t).toArray] w fun e w' => e = .returned (.bool (vLvs s t)) ∧ Below w.heap.size w w' := by
  have B1 := Blk.new w (cSd s) 63 rfl
  have B2 := Blk.new (w.alloc (.cells (cSd s).toArray 63)) (cSd t) 63 (b := w.heap.size + 1) (by simp)
  have hb := bnew w (.cells (cSd s).toArray 63)
  replace hb := hb.alloc hb.size (.cells (cSd t).toArray 63)
  replace B1 := B1.old (.cells (cSd t).toArray 63)
  have HT1 := Lib.hid (turn_any s.2.1 s.2.2 t.2.1 hs.1 hs.2 ht.1)
  have HT2 := Lib.hid (turn_any s.2.1 s.2.2 t.2.2 hs.1 hs.2 ht.2)
  have HJ := Lib.hid (joins_any s t)
  have HL : Hid (vLvs s t = if vJoin s t then decide (tnI s.2.1 s.2.2 t.2.1 ≠ tnI s.2.1 s.2.2 t.2.2) else (decide (0 < tnI s.2.1 s.2.2 t.2.1) && decide (0 < tnI s.2.1 s.2.2 t.2.2)) || (decide (tnI s.2.1 s.2.2 t.2.1 < 0) && decide (tnI s.2.1 s.2.2 t.2.2 < 0))) := rfl
  generalize vLvs s t = r at *
  generalize tnI s.2.1 s.2.2 t.2.1 = p at *
  generalize tnI s.2.1 s.2.2 t.2.2 = q at *
  generalize vJoin s t = j at *
  clear hs ht
  go_enter Tryz.func36, Tryz.ntmps36
  go_wp2_with fail
  have hsz := hb.size
  generalize (w.alloc (.cells (cSd s).toArray 63)).alloc (.cells (cSd t).toArray 63) = W at *
  go_cut [5, 6] (fun v u wx => v = .int .i64 p ∧ u = .int .i64 q ∧ Below w.heap.size w wx ∧ Blk wx w.heap.size (cSd s) 63 ∧ Blk wx (w.heap.size + 1) (cSd t) 63)
  case first =>
    refine rg_start [] (by kernel_rfl) (fun hS => ?_)
    replace hb := hb.drew
    refine rg_take 0 rfl (by kernel_rfl) (by kernel_rfl) (by kernel_rfl) (by rfl) hS (v := ?_) ?_ ?_
    rotate_left
    · (intro w' hS'; go_simp <;> try with_reducible rfl)
    try simp only [Act.put, List.setIfInBounds_toArray, List.set_cons_zero, List.set_cons_succ]
    refine rg_ldP 1 rfl (by kernel_rfl) (by kernel_rfl) (by kernel_rfl) (by rfl) hS rfl rfl B1 (by simp <;> omega) (ptSd s) (whSt _ _) ?_
    try simp only [Act.put, List.setIfInBounds_toArray, List.set_cons_zero, List.set_cons_succ]
    refine rg_take 2 rfl (by kernel_rfl) (by kernel_rfl) (by kernel_rfl) (by rfl) hS (v := ?_) ?_ ?_
    rotate_left
    · (intro w' hS'; go_simp <;> try with_reducible rfl)
    try simp only [Act.put, List.setIfInBounds_toArray, List.set_cons_zero, List.set_cons_succ]
    refine rg_take 3 rfl (by kernel_rfl) (by kernel_rfl) (by kernel_rfl) (by rfl) hS (v := ?_) ?_ ?_
    rotate_left
    · (intro w' hS'; go_simp <;> try with_reducible rfl)
    try simp only [Act.put, List.setIfInBounds_toArray, List.set_cons_zero, List.set_cons_succ]
    refine rg_ldP 4 rfl (by kernel_rfl) (by kernel_rfl) (by kernel_rfl) (by rfl) hS rfl rfl B2 (by simp <;> omega) (ptF t) (whVt _) ?_
    try simp only [Act.put, List.setIfInBounds_toArray, List.set_cons_zero, List.set_cons_succ]
    refine rg_take 6 rfl (by kernel_rfl) (by kernel_rfl) (by kernel_rfl) (by rfl) hS (v := ?_) ?_ ?_
    rotate_left
    · (intro w' hS'; go_simp <;> try with_reducible rfl)
    try simp only [Act.put, List.setIfInBounds_toArray, List.set_cons_zero, List.set_cons_succ]
    refine rg_ldP 7 rfl (by kernel_rfl) (by kernel_rfl) (by kernel_rfl) (by rfl) hS rfl rfl B1 (by simp <;> omega) (ptSd s) (whSt _ _) ?_
    try simp only [Act.put, List.setIfInBounds_toArray, List.set_cons_zero, List.set_cons_succ]
    refine rg_take 8 rfl (by kernel_rfl) (by kernel_rfl) (by kernel_rfl) (by rfl) hS (v := ?_) ?_ ?_
    rotate_left
    · (intro w' hS'; go_simp <;> try with_reducible rfl)
    try simp only [Act.put, List.setIfInBounds_toArray, List.set_cons_zero, List.set_cons_succ]
    refine rg_take 9 rfl (by kernel_rfl) (by kernel_rfl) (by kernel_rfl) (by rfl) hS (v := ?_) ?_ ?_
    rotate_left
    · (intro w' hS'; go_simp <;> try with_reducible rfl)
    try simp only [Act.put, List.setIfInBounds_toArray, List.set_cons_zero, List.set_cons_succ]
    refine rg_ldP 10 rfl (by kernel_rfl) (by kernel_rfl) (by kernel_rfl) (by rfl) hS rfl rfl B2 (by simp <;> omega) (ptT t) (whVt _) ?_
    try simp only [Act.put, List.setIfInBounds_toArray, List.set_cons_zero, List.set_cons_succ]
    refine rg_eff 5 rfl (by kernel_rfl) (by rfl) (fun K hK => ?_)
    go_simp
    refine (HT1.out _).mono ?_
    rintro e w1 ⟨rfl, h1⟩
    refine hK _ _ (hS.call h1) (fun hS => ?_)
    clear hK K
    replace hb := bthen hb h1
    clear h1
    try simp only [Act.put, List.setIfInBounds_toArray, List.set_cons_zero, List.set_cons_succ]
    refine rg_eff 11 rfl (by kernel_rfl) (by rfl) (fun K hK => ?_)
    go_simp
    refine (HT2.out _).mono ?_
    rintro e w1 ⟨rfl, h1⟩
    refine hK _ _ (hS.call h1) (fun hS => ?_)
    clear hK K
    replace hb := bthen hb h1
    clear h1
    try simp only [Act.put, List.setIfInBounds_toArray, List.set_cons_zero, List.set_cons_succ]
    refine rg_take 12 rfl (by kernel_rfl) (by kernel_rfl) (by kernel_rfl) (by rfl) hS (v := ?_) ?_ ?_
    rotate_left
    · (intro w' hS'; go_simp <;> try with_reducible rfl)
    try simp only [Act.put, List.setIfInBounds_toArray, List.set_cons_zero, List.set_cons_succ]
    refine rg_take 13 rfl (by kernel_rfl) (by kernel_rfl) (by kernel_rfl) (by rfl) hS (v := ?_) ?_ ?_
    rotate_left
    · (intro w' hS'; go_simp <;> try with_reducible rfl)
    try simp only [Act.put, List.setIfInBounds_toArray, List.set_cons_zero, List.set_cons_succ]
    refine rg_done (by kernel_rfl) ?_
    go_wp2_with fail
    go_meet
    case rel => exact ⟨rfl, rfl, hb, B1.keep hS (by simp), B2.keep hS (by simp)⟩
  case rest =>
    clear hb B1 B2
    obtain ⟨rfl, rfl, hb, B1, B2⟩ := hcut
    go_wp2_with (first | (with_reducible refine ldP rfl rfl rfl B1 (part_all _) (whSd _) ?_) | (with_reducible refine ldP rfl rfl rfl B2 (part_all _) (whSd _) ?_))
    refine (HJ.out _).mono ?_
    rintro e w1 ⟨rfl, k1⟩
    replace hb := bthen hb k1
    clear k1 B1 B2 HJ HT1 HT2
    cases j
    · simp only [Bool.false_eq_true, if_false] at HL
      by_cases a1 : 0 < p
      · by_cases a2 : 0 < q
        · have E : Hid (r = true) := by show _ = _; rw [HL.out]; simp [a1, a2]
          go_wp2
          go_ret
          exact ⟨by rw [E.out]; first | rfl | (simp; done) | (simp; omega), hb⟩
        · have a3 : ¬ p < 0 := by omega
          have E : Hid (r = false) := by show _ = _; rw [HL.out]; simp [a1, a2, a3]
          go_wp2
          go_ret
          exact ⟨by rw [E.out]; first | rfl | (simp; done) | (simp; omega), hb⟩
      · by_cases a2 : p < 0
        · by_cases a3 : q < 0
          · have E : Hid (r = true) := by show _ = _; rw [HL.out]; simp [a2, a3]
            go_wp2
            go_ret
            exact ⟨by rw [E.out]; first | rfl | (simp; done) | (simp; omega), hb⟩
          · have E : Hid (r = false) := by show _ = _; rw [HL.out]; simp [a1, a2, a3]
            go_wp2
            go_ret
            exact ⟨by rw [E.out]; first | rfl | (simp; done) | (simp; omega), hb⟩
        · have E : Hid (r = false) := by show _ = _; rw [HL.out]; simp [a1, a2]
          go_wp2
          go_ret
          exact ⟨by rw [E.out]; first | rfl | (simp; done) | (simp; omega), hb⟩
    · simp only [if_true] at HL
      by_cases a1 : p = q
      · have E : Hid (r = false) := by show _ = _; rw [HL.out]; simp [a1]
        subst a1
        go_wp2
        go_ret
        exact ⟨by rw [E.out]; first | rfl | (simp; done) | (simp; omega), hb⟩
      · have g1 : (p == q) = false := by simp [a1]
        have E : Hid (r = true) := by show _ = _; rw [HL.out]; simp [a1]
        go_wp2
        go_ret
        exact ⟨by rw [E.out]; first | rfl | (simp; done) | (simp; omega), hb⟩
end Go.Proofs.YtoegjibeomhekaaGreat

/- valid: spot, meet, has, crosses. -/
namespace Go.Proofs.YtoegjibeomhekaaGreat
set_option linter.unusedSimpArgs false
set_option linter.unusedVariables false
open Go.RowKit
set_option maxRecDepth 100000
theorem i64s {n : Int} (h : 0 ≤ n ∧ n ≤ 64) : -9223372036854775808 ≤ n ∧ n ≤ 9223372036854775807 := by omega
set_option maxHeartbeats 1000000 in
theorem spot_any (p : I3) (h1 : -9223372036854775808 ≤ p.1 ∧ p.1 ≤ 9223372036854775807) (h2 : -9223372036854775808 ≤ p.2.1 ∧ p.2.1 ≤ 9223372036854775807) : Tl 20 #[.agg (cT p).toArray] (vp (p.1 : Rat) (p.2.1 : Rat)) := by
  intro w
  have HA := Lib.hid (At_q h1 h2)
  have HX := Lib.hid (rc_q (p.1 : Rat))
  have HY := Lib.hid (rc_q (p.2.1 : Rat))
  have B1 := Blk.new w (cT p) 31 rfl
  have c0 := B1.cell (i := 0) rfl
  have c1 := B1.cell (i := 1) rfl
  have hb := bnew w (.cells (cT p).toArray 31)
  have P2 := Blk.new (w.alloc (.cells (cT p).toArray 31)) p0 47 (b := w.heap.size + 1) (by simp)
  have c0' := (B1.old (.cells p0.toArray 47)).cell (i := 0) rfl
  have c1' := (B1.old (.cells p0.toArray 47)).cell (i := 1) rfl
  replace hb := hb.alloc hb.size (.cells p0.toArray 47)
  have hz : (w.alloc (.cells (cT p).toArray 31)).heap.size = w.heap.size + 1 := by simp
  unfold vp vl at *
  generalize hX : fq (p.1 : Rat) = X at *
  generalize hY : fq (p.2.1 : Rat) = Y at *
  clear hX hY h1 h2
  go_enter Tryz.func20, Tryz.ntmps20
  go_wp2_with (first | (with_reducible refine alP rfl rfl ?_))
  try rw [hz]
  generalize (w.alloc (.cells (cT p).toArray 31)).alloc (.cells p0.toArray 47) = W at *
  refine (HA.out _).mono ?_
  rintro e w1 ⟨rfl, k1⟩
  replace P2 := P2.call k1
  have hs1 := hb.size
  replace hb := bthen hb k1
  clear k1
  go_wp2_with (first | (with_reducible refine stPt rfl rfl rfl rfl P2 p0_len HX.out HY.out ?_))
  refine ret_c rfl rfl rfl (wholeP HX.out HY.out) (P2.row _) ?_
  exact ⟨rfl, below_row hb (Nat.le_succ _) _⟩
section
variable {f t : I3}
theorem bd_gd {p : I3} (h : Bd p) : Gd (p.1 : Rat) (p.2.1 : Rat) := gd_i (by have := h.1; omega) (by have := h.2; omega)
theorem bd_spot {p : I3} (h : Bd p) : Tl 20 #[.agg (cT p).toArray] (vp (p.1 : Rat) (p.2.1 : Rat)) := spot_any p (i64s h.1) (i64s h.2)
end
set_option maxHeartbeats 4000000 in
theorem vhas_any {f t : I3} (hf : Bd f) (ht : Bd t) {x y : Rat} (hx : Gd x y) : Tl 30 #[.agg (cSt f t).toArray, vp x y] (.bool (onq (f.1 : Rat) (f.2.1 : Rat) (t.1 : Rat) (t.2.1 : Rat) x y)) := by
  intro w
  have HS1 := Lib.hid (bd_spot hf)
  have HS2 := Lib.hid (bd_spot ht)
  have HO := Lib.hid (On_q (bd_gd hf) (bd_gd ht) hx)
  generalize onq (f.1 : Rat) (f.2.1 : Rat) (t.1 : Rat) (t.2.1 : Rat) x y = r at *
  unfold Tl at HS1 HS2
  generalize vp (f.1 : Rat) (f.2.1 : Rat) = F at *
  generalize vp (t.1 : Rat) (t.2.1 : Rat) = T at *
  unfold vp vl at *
  have HA := Lib.hid (rc_q x)
  have HB := Lib.hid (rc_q y)
  generalize fq x = A at *
  generalize fq y = B at *
  clear hf ht hx
  have b1 := ((Blk.new w (cSt f t) 61 rfl).old (.cells (A ++ B).toArray 47))
  have b2 := (Blk.new (w.alloc (.cells (cSt f t).toArray 61)) (A ++ B) 47 (b := w.heap.size + 1) (by simp))
  have hb : Below w.heap.size w ((w.alloc (.cells (cSt f t).toArray 61)).alloc (.cells (A ++ B).toArray 47)) := (((Below.refl _ _).alloc (Nat.le_refl _) _).alloc (by simp <;> omega) _)
  have hk : ((w.alloc (.cells (cSt f t).toArray 61)).alloc (.cells (A ++ B).toArray 47)).heap.size = w.heap.size + 1 + 1 := by simp
  go_enter Tryz.func30, Tryz.ntmps30
  go_wp2_with fail
  have hsz := hb.size
  generalize ((w.alloc (.cells (cSt f t).toArray 61)).alloc (.cells (A ++ B).toArray 47)) = W at *
  refine rg_start [] (by kernel_rfl) (fun hS => ?_)
  replace hb := hb.drew
  refine rg_take 0 rfl (by kernel_rfl) (by kernel_rfl) (by kernel_rfl) (by rfl) hS (v := ?_) ?_ ?_
  rotate_left
  · (intro w' hS'; go_simp <;> try with_reducible rfl)
  try simp only [Act.put, List.setIfInBounds_toArray, List.set_cons_zero, List.set_cons_succ]
  refine rg_ldP 1 rfl (by kernel_rfl) (by kernel_rfl) (by kernel_rfl) (by rfl) hS rfl rfl b1 (by simp <;> omega) (ptSF _ _) (whVt _) ?_
  try simp only [Act.put, List.setIfInBounds_toArray, List.set_cons_zero, List.set_cons_succ]
  refine rg_take 3 rfl (by kernel_rfl) (by kernel_rfl) (by kernel_rfl) (by rfl) hS (v := ?_) ?_ ?_
  rotate_left
  · (intro w' hS'; go_simp <;> try with_reducible rfl)
  try simp only [Act.put, List.setIfInBounds_toArray, List.set_cons_zero, List.set_cons_succ]
  refine rg_ldP 4 rfl (by kernel_rfl) (by kernel_rfl) (by kernel_rfl) (by rfl) hS rfl rfl b1 (by simp <;> omega) (ptST _ _) (whVt _) ?_
  try simp only [Act.put, List.setIfInBounds_toArray, List.set_cons_zero, List.set_cons_succ]
  refine rg_ldP 6 rfl (by kernel_rfl) (by kernel_rfl) (by kernel_rfl) (by rfl) hS rfl rfl b2 (by simp <;> omega) (part_all _) (wholeP HA.out HB.out) ?_
  try simp only [Act.put, List.setIfInBounds_toArray, List.set_cons_zero, List.set_cons_succ]
  refine rg_eff 2 rfl (by kernel_rfl) (by rfl) (fun K hK => ?_)
  go_simp
  refine (HS1.out _).mono ?_
  rintro e w1 ⟨rfl, h1⟩
  refine hK _ _ (hS.call h1) (fun hS => ?_)
  clear hK K
  replace hb := bthen hb h1
  clear h1
  try simp only [Act.put, List.setIfInBounds_toArray, List.set_cons_zero, List.set_cons_succ]
  refine rg_eff 5 rfl (by kernel_rfl) (by rfl) (fun K hK => ?_)
  go_simp
  refine (HS2.out _).mono ?_
  rintro e w1 ⟨rfl, h1⟩
  refine hK _ _ (hS.call h1) (fun hS => ?_)
  clear hK K
  replace hb := bthen hb h1
  clear h1
  try simp only [Act.put, List.setIfInBounds_toArray, List.set_cons_zero, List.set_cons_succ]
  refine rg_eff 7 rfl (by kernel_rfl) (by rfl) (fun K hK => ?_)
  go_simp
  refine (HO.out _).mono ?_
  rintro e w1 ⟨rfl, h1⟩
  refine hK _ _ (hS.call h1) (fun hS => ?_)
  clear hK K
  replace hb := bthen hb h1
  clear h1
  try simp only [Act.put, List.setIfInBounds_toArray, List.set_cons_zero, List.set_cons_succ]
  refine rg_take 8 rfl (by kernel_rfl) (by kernel_rfl) (by kernel_rfl) (by rfl) hS (v := ?_) ?_ ?_
  rotate_left
  · (intro w' hS'; go_simp <;> try with_reducible rfl)
  try simp only [Act.put, List.setIfInBounds_toArray, List.set_cons_zero, List.set_cons_succ]
  refine rg_take 9 rfl (by kernel_rfl) (by kernel_rfl) (by kernel_rfl) (by rfl) hS (v := ?_) ?_ ?_
  rotate_left
  · (intro w' hS'; go_simp <;> try with_reducible rfl)
  try simp only [Act.put, List.setIfInBounds_toArray, List.set_cons_zero, List.set_cons_succ]
  refine rg_take 10 rfl (by kernel_rfl) (by kernel_rfl) (by kernel_rfl) (by rfl) hS (v := ?_) ?_ ?_
  rotate_left
  · (intro w' hS'; go_simp <;> try with_reducible rfl)
  try simp only [Act.put, List.setIfInBounds_toArray, List.set_cons_zero, List.set_cons_succ]
  refine rg_take 11 rfl (by kernel_rfl) (by kernel_rfl) (by kernel_rfl) (by rfl) hS (v := ?_) ?_ ?_
  rotate_left
  · (intro w' hS'; go_simp <;> try with_reducible rfl)
  try simp only [Act.put, List.setIfInBounds_toArray, List.set_cons_zero, List.set_cons_succ]
  refine rg_take 12 rfl (by kernel_rfl) (by kernel_rfl) (by kernel_rfl) (by rfl) hS (v := ?_) ?_ ?_
  rotate_left
  · (intro w' hS'; go_simp <;> try with_reducible rfl)
  try simp only [Act.put, List.setIfInBounds_toArray, List.set_cons_zero, List.set_cons_succ]
  refine rg_done (by kernel_rfl) ?_
  go_wp2
  go_ret
  exact ⟨rfl, hb⟩
set_option maxHeartbeats 4000000 in
theorem vmeet_any {f t f' t' : I3} (hf : Bd f) (ht : Bd t) (hf' : Bd f') (ht' : Bd t') : Tl 37 #[.agg (cSt f t).toArray, .agg (cSt f' t').toArray] (.int .i64 (mq (f.1 : Rat) (f.2.1 : Rat) (t.1 : Rat) (t.2.1 : Rat) (f'.1 : Rat) (f'.2.1 : Rat) (t'.1 : Rat) (t'.2.1 : Rat))) := by
  intro w
  have HS1 := Lib.hid (bd_spot hf)
  have HS2 := Lib.hid (bd_spot ht)
  have HS3 := Lib.hid (bd_spot hf')
  have HS4 := Lib.hid (bd_spot ht')
  have HM := Lib.hid (Meet_q (bd_gd hf) (bd_gd ht) (bd_gd hf') (bd_gd ht'))
  generalize mq (f.1 : Rat) (f.2.1 : Rat) (t.1 : Rat) (t.2.1 : Rat) (f'.1 : Rat) (f'.2.1 : Rat) (t'.1 : Rat) (t'.2.1 : Rat) = r at *
  unfold Tl at HS1 HS2 HS3 HS4 HM
  generalize vp (f.1 : Rat) (f.2.1 : Rat) = F at *
  generalize vp (t.1 : Rat) (t.2.1 : Rat) = T at *
  generalize vp (f'.1 : Rat) (f'.2.1 : Rat) = F' at *
  generalize vp (t'.1 : Rat) (t'.2.1 : Rat) = T' at *
  clear hf ht hf' ht'
  have b1 := ((Blk.new w (cSt f t) 61 rfl).old (.cells (cSt f' t').toArray 61))
  have b2 := (Blk.new (w.alloc (.cells (cSt f t).toArray 61)) (cSt f' t') 61 (b := w.heap.size + 1) (by simp))
  have hb : Below w.heap.size w ((w.alloc (.cells (cSt f t).toArray 61)).alloc (.cells (cSt f' t').toArray 61)) := (((Below.refl _ _).alloc (Nat.le_refl _) _).alloc (by simp <;> omega) _)
  have hk : ((w.alloc (.cells (cSt f t).toArray 61)).alloc (.cells (cSt f' t').toArray 61)).heap.size = w.heap.size + 1 + 1 := by simp
  go_enter Tryz.func37, Tryz.ntmps37
  go_wp2_with fail
  have hsz := hb.size
  generalize ((w.alloc (.cells (cSt f t).toArray 61)).alloc (.cells (cSt f' t').toArray 61)) = W at *
  refine rg_start [] (by kernel_rfl) (fun hS => ?_)
  replace hb := hb.drew
  refine rg_take 0 rfl (by kernel_rfl) (by kernel_rfl) (by kernel_rfl) (by rfl) hS (v := ?_) ?_ ?_
  rotate_left
  · (intro w' hS'; go_simp <;> try with_reducible rfl)
  try simp only [Act.put, List.setIfInBounds_toArray, List.set_cons_zero, List.set_cons_succ]
  refine rg_ldP 1 rfl (by kernel_rfl) (by kernel_rfl) (by kernel_rfl) (by rfl) hS rfl rfl b1 (by simp <;> omega) (ptSF _ _) (whVt _) ?_
  try simp only [Act.put, List.setIfInBounds_toArray, List.set_cons_zero, List.set_cons_succ]
  refine rg_take 3 rfl (by kernel_rfl) (by kernel_rfl) (by kernel_rfl) (by rfl) hS (v := ?_) ?_ ?_
  rotate_left
  · (intro w' hS'; go_simp <;> try with_reducible rfl)
  try simp only [Act.put, List.setIfInBounds_toArray, List.set_cons_zero, List.set_cons_succ]
  refine rg_ldP 4 rfl (by kernel_rfl) (by kernel_rfl) (by kernel_rfl) (by rfl) hS rfl rfl b1 (by simp <;> omega) (ptST _ _) (whVt _) ?_
  try simp only [Act.put, List.setIfInBounds_toArray, List.set_cons_zero, List.set_cons_succ]
  refine rg_take 6 rfl (by kernel_rfl) (by kernel_rfl) (by kernel_rfl) (by rfl) hS (v := ?_) ?_ ?_
  rotate_left
  · (intro w' hS'; go_simp <;> try with_reducible rfl)
  try simp only [Act.put, List.setIfInBounds_toArray, List.set_cons_zero, List.set_cons_succ]
  refine rg_ldP 7 rfl (by kernel_rfl) (by kernel_rfl) (by kernel_rfl) (by rfl) hS rfl rfl b2 (by simp <;> omega) (ptSF _ _) (whVt _) ?_
  try simp only [Act.put, List.setIfInBounds_toArray, List.set_cons_zero, List.set_cons_succ]
  refine rg_take 9 rfl (by kernel_rfl) (by kernel_rfl) (by kernel_rfl) (by rfl) hS (v := ?_) ?_ ?_
  rotate_left
  · (intro w' hS'; go_simp <;> try with_reducible rfl)
  try simp only [Act.put, List.setIfInBounds_toArray, List.set_cons_zero, List.set_cons_succ]
  refine rg_ldP 10 rfl (by kernel_rfl) (by kernel_rfl) (by kernel_rfl) (by rfl) hS rfl rfl b2 (by simp <;> omega) (ptST _ _) (whVt _) ?_
  try simp only [Act.put, List.setIfInBounds_toArray, List.set_cons_zero, List.set_cons_succ]
  refine rg_eff 2 rfl (by kernel_rfl) (by rfl) (fun K hK => ?_)
  go_simp
  refine (HS1.out _).mono ?_
  rintro e w1 ⟨rfl, h1⟩
  refine hK _ _ (hS.call h1) (fun hS => ?_)
  clear hK K
  replace hb := bthen hb h1
  clear h1
  try simp only [Act.put, List.setIfInBounds_toArray, List.set_cons_zero, List.set_cons_succ]
  refine rg_eff 5 rfl (by kernel_rfl) (by rfl) (fun K hK => ?_)
  go_simp
  refine (HS2.out _).mono ?_
  rintro e w1 ⟨rfl, h1⟩
  refine hK _ _ (hS.call h1) (fun hS => ?_)
  clear hK K
  replace hb := bthen hb h1
  clear h1
  try simp only [Act.put, List.setIfInBounds_toArray, List.set_cons_zero, List.set_cons_succ]
  refine rg_eff 8 rfl (by kernel_rfl) (by rfl) (fun K hK => ?_)
  go_simp
  refine (HS3.out _).mono ?_
  rintro e w1 ⟨rfl, h1⟩
  refine hK _ _ (hS.call h1) (fun hS => ?_)
  clear hK K
  replace hb := bthen hb h1
  clear h1
  try simp only [Act.put, List.setIfInBounds_toArray, List.set_cons_zero, List.set_cons_succ]
  refine rg_eff 11 rfl (by kernel_rfl) (by rfl) (fun K hK => ?_)
  go_simp
  refine (HS4.out _).mono ?_
  rintro e w1 ⟨rfl, h1⟩
  refine hK _ _ (hS.call h1) (fun hS => ?_)
  clear hK K
  replace hb := bthen hb h1
  clear h1
  try simp only [Act.put, List.setIfInBounds_toArray, List.set_cons_zero, List.set_cons_succ]
  refine rg_eff 12 rfl (by kernel_rfl) (by rfl) (fun K hK => ?_)
  go_simp
  refine (HM.out _).mono ?_
  rintro e w1 ⟨rfl, h1⟩
  refine hK _ _ (hS.call h1) (fun hS => ?_)
  clear hK K
  replace hb := bthen hb h1
  clear h1
  try simp only [Act.put, List.setIfInBounds_toArray, List.set_cons_zero, List.set_cons_succ]
  refine rg_take 13 rfl (by kernel_rfl) (by kernel_rfl) (by kernel_rfl) (by rfl) hS (v := ?_) ?_ ?_
  rotate_left
  · (intro w' hS'; go_simp <;> try with_reducible rfl)
  try simp only [Act.put, List.setIfInBounds_toArray, List.set_cons_zero, List.set_cons_succ]
  refine rg_take 14 rfl (by kernel_rfl) (by kernel_rfl) (by kernel_rfl) (by rfl) hS (v := ?_) ?_ ?_
  rotate_left
  · (intro w' hS'; go_simp <;> try with_reducible rfl)
  try simp only [Act.put, List.setIfInBounds_toArray, List.set_cons_zero, List.set_cons_succ]
  refine rg_take 15 rfl (by kernel_rfl) (by kernel_rfl) (by kernel_rfl) (by rfl) hS (v := ?_) ?_ ?_
  rotate_left
  · (intro w' hS'; go_simp <;> try with_reducible rfl)
  try simp only [Act.put, List.setIfInBounds_toArray, List.set_cons_zero, List.set_cons_succ]
  refine rg_take 16 rfl (by kernel_rfl) (by kernel_rfl) (by kernel_rfl) (by rfl) hS (v := ?_) ?_ ?_
  rotate_left
  · (intro w' hS'; go_simp <;> try with_reducible rfl)
  try simp only [Act.put, List.setIfInBounds_toArray, List.set_cons_zero, List.set_cons_succ]
  refine rg_take 17 rfl (by kernel_rfl) (by kernel_rfl) (by kernel_rfl) (by rfl) hS (v := ?_) ?_ ?_
  rotate_left
  · (intro w' hS'; go_simp <;> try with_reducible rfl)
  try simp only [Act.put, List.setIfInBounds_toArray, List.set_cons_zero, List.set_cons_succ]
  refine rg_done (by kernel_rfl) ?_
  go_wp2
  go_ret
  exact ⟨rfl, hb⟩
end Go.Proofs.YtoegjibeomhekaaGreat

/- valid: crosses. -/
namespace Go.Proofs.YtoegjibeomhekaaGreat
set_option linter.unusedSimpArgs false
set_option linter.unusedVariables false
open Go.RowKit
set_option maxRecDepth 100000
set_option maxHeartbeats 4000000 in
theorem crosses_any (s t : Sd) (hs : Bs s) (ht : Bs t) : Tl 28 #[.agg (cSd s).toArray, .agg (cSd t).toArray] (.bool (vXng s t)) := by
  intro w
  have HL1 := Lib.hid (leaves_any s t hs ht)
  have HL2 := Lib.hid (leaves_any t s ht hs)
  have HM : Hid (Tl 37 #[.agg (cSt s.2.1 s.2.2).toArray, .agg (cSt t.2.1 t.2.2).toArray] (.int .i64 (vMq s t))) := vmeet_any hs.1 hs.2 ht.1 ht.2
  have HY := Lib.hid (vmay_any s t)
  have HX : Hid (vXng s t = (!(vLvs s t || vLvs t s) && !decide (vMq s t = vMay s t))) := rfl
  unfold Tl at HM
  generalize vXng s t = r at *
  generalize vLvs s t = p at *
  generalize vLvs t s = q at *
  generalize vMq s t = m at *
  generalize vMay s t = y at *
  clear hs ht
  have b1 := ((Blk.new w (cSd s) 63 rfl).old (.cells (cSd t).toArray 63))
  have b2 := (Blk.new (w.alloc (.cells (cSd s).toArray 63)) (cSd t) 63 (b := w.heap.size + 1) (by simp))
  have hb : Below w.heap.size w ((w.alloc (.cells (cSd s).toArray 63)).alloc (.cells (cSd t).toArray 63)) := (((Below.refl _ _).alloc (Nat.le_refl _) _).alloc (by simp <;> omega) _)
  have hk : ((w.alloc (.cells (cSd s).toArray 63)).alloc (.cells (cSd t).toArray 63)).heap.size = w.heap.size + 1 + 1 := by simp
  go_enter Tryz.func28, Tryz.ntmps28
  go_wp2_with (first | (with_reducible refine ldP rfl rfl rfl b1 (part_all _) (whSd _) ?_) | (with_reducible refine ldP rfl rfl rfl b2 (part_all _) (whSd _) ?_))
  have hsz := hb.size
  generalize ((w.alloc (.cells (cSd s).toArray 63)).alloc (.cells (cSd t).toArray 63)) = W at *
  refine (HL1.out _).mono ?_
  rintro e w1 ⟨rfl, k1⟩
  replace b1 := b1.call k1
  replace b2 := b2.call k1
  replace hb := bthen hb k1
  clear k1 hk
  cases p
  · go_wp2_with (first | (with_reducible refine ldP rfl rfl rfl b1 (part_all _) (whSd _) ?_) | (with_reducible refine ldP rfl rfl rfl b2 (part_all _) (whSd _) ?_) | (refine ldPg (by rfl) rfl rfl b1 (part_all _) (whSd _) ?_) | (refine ldPg (by rfl) rfl rfl b2 (part_all _) (whSd _) ?_))
    refine (HL2.out _).mono ?_
    rintro e w2 ⟨rfl, k1⟩
    replace b1 := b1.call k1
    replace b2 := b2.call k1
    replace hb := bthen hb k1
    clear k1
    cases q
    · go_wp2_with fail
      by_cases hmy : m = y
      · have E : Hid (r = false) := by show _ = _; rw [HX.out]; simp [hmy]
        subst hmy
        refine rg_start [] (by kernel_rfl) (fun hS => ?_)
        replace hb := hb.drew
        refine rg_take 0 rfl (by kernel_rfl) (by kernel_rfl) (by kernel_rfl) (by rfl) hS (v := ?_) ?_ ?_
        rotate_left
        · (intro w' hS'; go_simp <;> try with_reducible rfl)
        try simp only [Act.put, List.setIfInBounds_toArray, List.set_cons_zero, List.set_cons_succ]
        refine rg_ldP 1 rfl (by kernel_rfl) (by kernel_rfl) (by kernel_rfl) (by rfl) hS rfl rfl b1 (by simp <;> omega) (ptSd s) (whSt _ _) ?_
        try simp only [Act.put, List.setIfInBounds_toArray, List.set_cons_zero, List.set_cons_succ]
        refine rg_take 2 rfl (by kernel_rfl) (by kernel_rfl) (by kernel_rfl) (by rfl) hS (v := ?_) ?_ ?_
        rotate_left
        · (intro w' hS'; go_simp <;> try with_reducible rfl)
        try simp only [Act.put, List.setIfInBounds_toArray, List.set_cons_zero, List.set_cons_succ]
        refine rg_ldP 3 rfl (by kernel_rfl) (by kernel_rfl) (by kernel_rfl) (by rfl) hS rfl rfl b2 (by simp <;> omega) (ptSd t) (whSt _ _) ?_
        try simp only [Act.put, List.setIfInBounds_toArray, List.set_cons_zero, List.set_cons_succ]
        refine rg_ldP 5 rfl (by kernel_rfl) (by kernel_rfl) (by kernel_rfl) (by rfl) hS rfl rfl b1 (by simp <;> omega) (part_all _) (whSd _) ?_
        try simp only [Act.put, List.setIfInBounds_toArray, List.set_cons_zero, List.set_cons_succ]
        refine rg_ldP 6 rfl (by kernel_rfl) (by kernel_rfl) (by kernel_rfl) (by rfl) hS rfl rfl b2 (by simp <;> omega) (part_all _) (whSd _) ?_
        try simp only [Act.put, List.setIfInBounds_toArray, List.set_cons_zero, List.set_cons_succ]
        refine rg_eff 4 rfl (by kernel_rfl) (by rfl) (fun K hK => ?_)
        go_simp
        refine (HM.out _).mono ?_
        rintro e w1 ⟨rfl, h1⟩
        refine hK _ _ (hS.call h1) (fun hS => ?_)
        clear hK K
        replace hb := bthen hb h1
        clear h1
        try simp only [Act.put, List.setIfInBounds_toArray, List.set_cons_zero, List.set_cons_succ]
        refine rg_eff 7 rfl (by kernel_rfl) (by rfl) (fun K hK => ?_)
        go_simp
        refine (HY.out _).mono ?_
        rintro e w1 ⟨rfl, h1⟩
        refine hK _ _ (hS.call h1) (fun hS => ?_)
        clear hK K
        replace hb := bthen hb h1
        clear h1
        try simp only [Act.put, List.setIfInBounds_toArray, List.set_cons_zero, List.set_cons_succ]
        refine rg_take 8 rfl (by kernel_rfl) (by kernel_rfl) (by kernel_rfl) (by rfl) hS (v := ?_) ?_ ?_
        rotate_left
        · (intro w' hS'; go_simp <;> try with_reducible rfl)
        try simp only [Act.put, List.setIfInBounds_toArray, List.set_cons_zero, List.set_cons_succ]
        refine rg_take 9 rfl (by kernel_rfl) (by kernel_rfl) (by kernel_rfl) (by rfl) hS (v := ?_) ?_ ?_
        rotate_left
        · (intro w' hS'; go_simp <;> try with_reducible rfl)
        try simp only [Act.put, List.setIfInBounds_toArray, List.set_cons_zero, List.set_cons_succ]
        refine rg_done (by kernel_rfl) ?_
        go_wp2
        go_ret
        exact ⟨by rw [E.out]; first | rfl | (simp; done), hb⟩
      · have g : (m == y) = false := by simp [hmy]
        have E : Hid (r = true) := by show _ = _; rw [HX.out]; simp [hmy]
        refine rg_start [] (by kernel_rfl) (fun hS => ?_)
        replace hb := hb.drew
        refine rg_take 0 rfl (by kernel_rfl) (by kernel_rfl) (by kernel_rfl) (by rfl) hS (v := ?_) ?_ ?_
        rotate_left
        · (intro w' hS'; go_simp <;> try with_reducible rfl)
        try simp only [Act.put, List.setIfInBounds_toArray, List.set_cons_zero, List.set_cons_succ]
        refine rg_ldP 1 rfl (by kernel_rfl) (by kernel_rfl) (by kernel_rfl) (by rfl) hS rfl rfl b1 (by simp <;> omega) (ptSd s) (whSt _ _) ?_
        try simp only [Act.put, List.setIfInBounds_toArray, List.set_cons_zero, List.set_cons_succ]
        refine rg_take 2 rfl (by kernel_rfl) (by kernel_rfl) (by kernel_rfl) (by rfl) hS (v := ?_) ?_ ?_
        rotate_left
        · (intro w' hS'; go_simp <;> try with_reducible rfl)
        try simp only [Act.put, List.setIfInBounds_toArray, List.set_cons_zero, List.set_cons_succ]
        refine rg_ldP 3 rfl (by kernel_rfl) (by kernel_rfl) (by kernel_rfl) (by rfl) hS rfl rfl b2 (by simp <;> omega) (ptSd t) (whSt _ _) ?_
        try simp only [Act.put, List.setIfInBounds_toArray, List.set_cons_zero, List.set_cons_succ]
        refine rg_ldP 5 rfl (by kernel_rfl) (by kernel_rfl) (by kernel_rfl) (by rfl) hS rfl rfl b1 (by simp <;> omega) (part_all _) (whSd _) ?_
        try simp only [Act.put, List.setIfInBounds_toArray, List.set_cons_zero, List.set_cons_succ]
        refine rg_ldP 6 rfl (by kernel_rfl) (by kernel_rfl) (by kernel_rfl) (by rfl) hS rfl rfl b2 (by simp <;> omega) (part_all _) (whSd _) ?_
        try simp only [Act.put, List.setIfInBounds_toArray, List.set_cons_zero, List.set_cons_succ]
        refine rg_eff 4 rfl (by kernel_rfl) (by rfl) (fun K hK => ?_)
        go_simp
        refine (HM.out _).mono ?_
        rintro e w1 ⟨rfl, h1⟩
        refine hK _ _ (hS.call h1) (fun hS => ?_)
        clear hK K
        replace hb := bthen hb h1
        clear h1
        try simp only [Act.put, List.setIfInBounds_toArray, List.set_cons_zero, List.set_cons_succ]
        refine rg_eff 7 rfl (by kernel_rfl) (by rfl) (fun K hK => ?_)
        go_simp
        refine (HY.out _).mono ?_
        rintro e w1 ⟨rfl, h1⟩
        refine hK _ _ (hS.call h1) (fun hS => ?_)
        clear hK K
        replace hb := bthen hb h1
        clear h1
        try simp only [Act.put, List.setIfInBounds_toArray, List.set_cons_zero, List.set_cons_succ]
        refine rg_take 8 rfl (by kernel_rfl) (by kernel_rfl) (by kernel_rfl) (by rfl) hS (v := ?_) ?_ ?_
        rotate_left
        · (intro w' hS'; go_simp <;> try with_reducible rfl)
        try simp only [Act.put, List.setIfInBounds_toArray, List.set_cons_zero, List.set_cons_succ]
        refine rg_take 9 rfl (by kernel_rfl) (by kernel_rfl) (by kernel_rfl) (by rfl) hS (v := ?_) ?_ ?_
        rotate_left
        · (intro w' hS'; go_simp <;> try with_reducible rfl)
        try simp only [Act.put, List.setIfInBounds_toArray, List.set_cons_zero, List.set_cons_succ]
        refine rg_done (by kernel_rfl) ?_
        go_wp2
        go_ret
        exact ⟨by rw [E.out]; first | rfl | (simp; done) | (simp; exact hmy), hb⟩
    · have E : Hid (r = false) := by show _ = _; rw [HX.out]; simp
      go_wp2
      go_ret
      exact ⟨by rw [E.out]; rfl, hb⟩
  · have E : Hid (r = false) := by show _ = _; rw [HX.out]; simp
    go_wp2
    go_ret
    exact ⟨by rw [E.out]; rfl, hb⟩
end Go.Proofs.YtoegjibeomhekaaGreat

/- valid: sides. -/
namespace Go.Proofs.YtoegjibeomhekaaGreat
set_option linter.unusedSimpArgs false
set_option linter.unusedVariables false
open Go.RowKit
set_option maxRecDepth 100000
theorem vkeep {G : List Nat} {w0 w : World} {g i : Nat} {v : Value} (h : Keep G w0 w) (hg : g ∉ G) (hc : w0.cell? ⟨g, i, none⟩ = some v) : w.cell? ⟨g, i, none⟩ = some v := by
  have h2 := World.block_lt_of_cell? w0 _ hc
  exact (World.cell?_of_block (w := w0) (h.2 g h2 hg)).trans hc
theorem builtSt (f t : I3) : Tryz.prog.built 61 [(0, .agg (cT f).toArray), (1, .agg (cT t).toArray)] = some (cSt f t).toArray := by
  obtain ⟨a, b, c⟩ := f
  obtain ⟨d, e, g⟩ := t
  kernel_rfl
theorem builtSd (p f t : I3) : Tryz.prog.built 63 [(0, .agg (cT p).toArray), (1, .agg (cSt f t).toArray)] = some (cSd (p, f, t)).toArray := by
  obtain ⟨a, b, c⟩ := f
  obtain ⟨d, e, g⟩ := t
  obtain ⟨x, y, z⟩ := p
  kernel_rfl
theorem d_build1 (s : Sd) (w : World) : (Instr.buildSlice 58 1 #[(0, .agg (cSd s).toArray)]).run Tryz.prog w = .ok (.slice (some ⟨w.heap.size, 0, none⟩) 1 1) (w.alloc (.cells (cSd s).toArray 63)) := by
  obtain ⟨⟨a, b, c⟩, ⟨d, e, g⟩, x, y, z⟩ := s
  kernel_rfl
theorem wp_bsD1 {o : Oper} {a : Act} {w : World} {K : Act → World → Prop} {Q : Exit → Act → World → Prop} {p : Operand} {s : Sd} (ho : o.op = .buildSlice 58 1 #[(0, p)]) (hp : a.eval p = .agg (cSd s).toArray)
    (h : ∀ g w', w.heap.size ≤ g → Blk w' g (cSd s) 63 → Below w.heap.size w w' → K (a.put o.dst (.slice (some ⟨g, 0, none⟩) 1 1)) w') : o.wp Tryz.prog a w K Q := by
  have h := h w.heap.size _ (Nat.le_refl _) (Blk.new w (cSd s) 63 rfl) ((Below.refl _ _).alloc (Nat.le_refl _) _)
  unfold Oper.wp execOp
  simp only [ho, Sem.run_bind]
  rw [show Array.map (fun x : Nat × Operand => (x.fst, a.eval x.snd)) #[(0, p)] = #[(0, .agg (cSd s).toArray)] by simp [hp], d_build1]
  exact h
theorem info_side : (Tryz.prog.info? 63).map (fun i => (i.zero, i.size, i.bytes)) = some (some (.agg (cSd sd0).toArray), 9, 72) := by kernel_rfl
theorem vinfo_parts {P : Program} {e : TypeId} {z : Option Value} {n m : Nat} (h : (P.info? e).map (fun i => (i.zero, i.size, i.bytes)) = some (z, n, m)) : ∃ i, P.info? e = some i ∧ i.zero = z ∧ i.size = n ∧ i.bytes = m := by
  cases hq : P.info? e with
  | none => rw [hq] at h; simp at h
  | some i =>
    rw [hq] at h
    simp only [Option.map_some, Option.some.injEq, Prod.mk.injEq] at h
    exact ⟨i, rfl, h.1, h.2.1, h.2.2⟩
theorem cSd_one (s : Sd) : ∀ v ∈ cSd s, v.oneCell' = true := by
  intro v hv
  simp only [cSd, List.mem_cons, List.not_mem_nil, or_false] at hv
  rcases hv with rfl | rfl | rfl | rfl | rfl | rfl | rfl | rfl | rfl <;> rfl
theorem wp_appD {o : Oper} {a : Act} {w : World} {K : Act → World → Prop} {Q : Exit → Act → World → Prop} {s x : Operand} {B n g : Nat} {v : Value} {xs : List Value} {d : Sd}
    (ho : o.op = .call { callee := .builtin .append, args := #[s, x], argTypes := #[58, 58] }) (hs : a.eval s = v) (hx : a.eval x = .slice (some ⟨g, 0, none⟩) 1 1)
    (hown : w.ownsRow B 63 9 v n xs) (hg : Blk w g (cSd d) 63) (hn : n ≤ 2000000) (hB : B ≤ w.heap.size)
    (hr : ∀ v' w', w'.ownsRow B 63 9 v' (n + 1) (xs ++ cSd d) → w.grownBy w' v.ownBlock → K (a.put o.dst v') w') : o.wp Tryz.prog a w K Q := by
  obtain ⟨i0, hi0, hz0, hz1, hz2⟩ := vinfo_parts info_side
  refine wp_append_own w s x 58 ho B 63 i0 _ 9 72 Tryz.underlying58 hi0 hz0 hz1 hz2 rfl (by decide) v n xs hs hown ⟨g, 0, none⟩ 1 1 (cSd d) hx rfl ?_ (cSd_one d) ?_ ?_ hB ?_
  · intro j y hj
    have := hg.cell hj
    rw [show (⟨g, j, none⟩ : Addr) = (⟨g, 0, none⟩ : Addr).add j by cases j <;> simp [Addr.add]] at this
    exact this
  · unfold maxLen; omega
  · omega
  · intro v' w' k1 k2 _
    exact hr v' w' k1 k2
theorem vgrown {G : List Nat} {w0 w w' : World} {row : Option Nat} (h : Keep G w0 w) (hg : w.grownBy w' row) (hr : ∀ k, row = some k → k ∈ G) : Keep G w0 w' :=
  ⟨Nat.le_trans h.1 hg.size, fun k hk hn => (hg.block k (Nat.lt_of_lt_of_le hk h.1) (fun e => hn (hr k e.symm))).trans (h.2 k hk hn)⟩
theorem cT_rng {w : World} {g f : Nat} {x y z : Int} (h1 : w.cell? ⟨g, f, none⟩ = some (.int .i64 x)) (h2 : w.cell? ⟨g, f + 1, none⟩ = some (.int .i64 y)) (h3 : w.cell? ⟨g, f + 2, none⟩ = some (.int .i64 z)) : w.rangeAt g f (cT (x, y, z)) := fun j v hv => by
  match j, hv with
  | 0, hv => cases hv; exact h1
  | 1, hv => cases hv; exact h2
  | 2, hv => cases hv; exact h3
/-- Whether all ends are vertices. -/
def Ends (V S : List I3) : Prop := ∀ p ∈ S, ∃ a b : Nat, p.1 = (a : Int) ∧ p.2.1 = (b : Int) ∧ a < V.length ∧ b < V.length
section
variable {va : Option Addr} {vc : Nat} {sa : Option Addr} {sc : Nat} {ha : Option Addr} {hc : Nat} {V S : List I3} {H : List Hp}
set_option maxHeartbeats 8000000 in
theorem sides_any (w : World) (hR : RdV w va vc sa sc ha hc V S H) (hv : V.length ≤ 1000) (hs : S.length ≤ 1000) (hE : Ends V S) : Calls Tryz.prog 26 #[.agg #[.slice va V.length vc, .slice sa S.length sc, .slice ha H.length hc]] w fun e w' => ∃ v, e = .returned v ∧ w'.ownsRow w.heap.size 63 9 v S.length (S.flatMap fun p => cSd (sdOf V p)) ∧ Below w.heap.size w w' := by
  have B1 := Blk.new w [.slice va V.length vc, .slice sa S.length sc, .slice ha H.length hc] 51 rfl
  have hb := bnew w (.cells #[.slice va V.length vc, .slice sa S.length sc, .slice ha H.length hc] 51)
  have HR := Lib.hid (hR.below hb)
  have HE := Lib.hid hE
  have c1 := B1.cell (i := 1) rfl
  clear hR hE
  have hz : (w.alloc (.cells #[.slice va V.length vc, .slice sa S.length sc, .slice ha H.length hc] 51)).heap.size = w.heap.size + 1 := by simp
  go_enter Tryz.func26, Tryz.ntmps26
  go_wp2_with fail
  generalize w.alloc (.cells #[.slice va V.length vc, .slice sa S.length sc, .slice ha H.length hc] 51) = W at *
  clear c1
  go_loopw [3, 10] (fun v j wr => ∃ i : Nat, i ≤ S.length ∧ j = .int .i64 (i : Int) ∧ wr.ownsRow W.heap.size 63 9 v i ((S.take i).flatMap fun p => cSd (sdOf V p)) ∧ Below W.heap.size W wr) (fun _ j _ => S.length - (intOf j).toNat)
  case atStart => exact ⟨0, Nat.zero_le _, rfl, World.ownsRow_nil _ _ _ _, Below.refl _ _⟩
  case round =>
    obtain ⟨i, hi, rfl, ho, hr⟩ := hrel
    by_cases hlt : i < S.length
    · obtain ⟨⟨x, y, m⟩, hx⟩ : ∃ p, S[i]? = some p := ⟨_, List.getElem?_eq_getElem hlt⟩
      obtain ⟨a, b, e1, e2, ha', hb'⟩ := HE.out _ (List.mem_of_getElem? hx)
      simp only at e1 e2
      subst e1 e2
      obtain ⟨gv, ov, rfl, hcap, p1, p2, p3⟩ := HR.out.s.at hx
      obtain ⟨⟨fx, fy, fm⟩, hfx⟩ : ∃ p, V[a]? = some p := ⟨_, List.getElem?_eq_getElem ha'⟩
      obtain ⟨⟨tx, ty, tm⟩, htx⟩ : ∃ p, V[b]? = some p := ⟨_, List.getElem?_eq_getElem hb'⟩
      obtain ⟨gw, ow, rfl, hcap2, f1, f2, f3⟩ := HR.out.v.at hfx
      obtain ⟨gw', ow', e, _, t1, t2, t3⟩ := HR.out.v.at htx
      obtain ⟨rfl, rfl⟩ : gw' = gw ∧ ow' = ow := by
        injection e with e
        injection e with e1 e2
        exact ⟨e1.symm, e2.symm⟩
      have rf := cT_rng f1 f2 f3
      have rt := cT_rng t1 t2 t3
      have hgw : gw' < W.heap.size := World.block_lt_of_cell? W _ f1
      replace rf := rng_b rf hgw hr
      replace rt := rng_b rt hgw hr
      replace p1 := vcell hr p1
      replace p2 := vcell hr p2
      replace p3 := vcell hr p3
      simp only at p1 p2 p3
      have HX := Lib.hid hx
      have HS : Hid (((S.take (i + 1)).flatMap fun p => cSd (sdOf V p)) = ((S.take i).flatMap fun p => cSd (sdOf V p)) ++ cSd (((a : Int), (b : Int), m), (fx, fy, fm), (tx, ty, tm))) := by
        show _ = _
        have k1 : sdOf V ((a : Int), (b : Int), m) = (((a : Int), (b : Int), m), (fx, fy, fm), (tx, ty, tm)) := by
          unfold sdOf
          simp only [Int.toNat_natCast]
          rw [getD_some hfx, getD_some htx]
        rw [List.take_add_one, hx, Option.toList_some, List.flatMap_append, List.flatMap_singleton, k1]
      have BB := Blk.new wr [.int .i64 (a : Int), .int .i64 (b : Int), .int .i64 m] 33 rfl
      have B2 := (B1.call hr).old (.cells #[.int .i64 (a : Int), .int .i64 (b : Int), .int .i64 m] 33)
      have bn := bnew wr (.cells #[.int .i64 (a : Int), .int .i64 (b : Int), .int .i64 m] 33)
      have hrs := hr.size
      have hgr : gw' < wr.heap.size := Nat.lt_of_lt_of_le hgw hrs
      replace rf := rng_b rf hgr bn
      replace rt := rng_b rt hgr bn
      have hgr2 := Nat.lt_of_lt_of_le hgr bn.size
      have hlt2 := ho.lt
      have o2 := own_call ho bn
      have hr2 := hr.trans (bn.mono hrs)
      have hr2s := hr2.size
      have n1 : Hid (w.heap.size ∉ u3.ownBlock.toList) := by
        show _ ∉ _
        intro h
        have := (hlt2 _ (by simpa using h)).1
        omega
      have n2 : Hid (gw' ∉ u3.ownBlock.toList) := by
        show _ ∉ _
        intro h
        have := (hlt2 _ (by simpa using h)).1
        omega
      have n3 : Hid (wr.heap.size ∉ u3.ownBlock.toList) := by
        show _ ∉ _
        intro h
        have := (hlt2 _ (by simpa using h)).2
        omega
      have HG : Hid (∀ k, u3.ownBlock = some k → k ∈ u3.ownBlock.toList) := by
        apply Lib.hid
        intro k hk
        rw [hk]; simp
      clear hx hfx htx f1 f2 f3 t1 t2 t3 e hlt2 ho
      go_wp2_with fail
      generalize hWW : wr.alloc (.cells #[Value.int .i64 (a : Int), .int .i64 (b : Int), .int .i64 m] 33) = W2 at *
      clear hWW
      generalize wr.heap.size = bs at *
      refine rg_start u3.ownBlock.toList (by kernel_rfl) (fun hS => ?_)
      replace BB := BB.drew
      replace B2 := B2.drew
      replace o2 := o2.drew
      replace hr2 := hr2.drew
      refine rg_take 0 rfl (by kernel_rfl) (by kernel_rfl) (by kernel_rfl) (by rfl) hS (v := ?_) ?_ ?_
      rotate_left
      · (intro w' hS'; go_simp <;> try with_reducible rfl)
      try simp only [Act.put, List.setIfInBounds_toArray, List.set_cons_zero, List.set_cons_succ]
      refine rg_ldP 1 rfl (by kernel_rfl) (by kernel_rfl) (by kernel_rfl) (by rfl) hS rfl rfl BB n3.out (part_all _) (whSg ((a : Int), (b : Int), m)) ?_
      try simp only [Act.put, List.setIfInBounds_toArray, List.set_cons_zero, List.set_cons_succ]
      refine rg_take 2 rfl (by kernel_rfl) (by kernel_rfl) (by kernel_rfl) (by rfl) hS (v := ?_) ?_ ?_
      rotate_left
      · (intro w' hS'; go_simp <;> try with_reducible rfl)
      try simp only [Act.put, List.setIfInBounds_toArray, List.set_cons_zero, List.set_cons_succ]
      refine rg_take 3 rfl (by kernel_rfl) (by kernel_rfl) (by kernel_rfl) (by rfl) hS (v := ?_) ?_ ?_
      rotate_left
      · (intro w' hS'; go_simp <;> try with_reducible rfl)
      try simp only [Act.put, List.setIfInBounds_toArray, List.set_cons_zero, List.set_cons_succ]
      refine rg_take 4 rfl (by kernel_rfl) (by kernel_rfl) (by kernel_rfl) (by rfl) hS (v := ?_) ?_ ?_
      rotate_left
      · (intro w' hS'; have hc := vkeep hS' n1.out (B2.cell (i := 0) rfl); go_simp <;> try with_reducible rfl)
      try simp only [Act.put, List.setIfInBounds_toArray, List.set_cons_zero, List.set_cons_succ]
      refine rg_take 5 rfl (by kernel_rfl) (by kernel_rfl) (by kernel_rfl) (by rfl) hS (v := ?_) ?_ ?_
      rotate_left
      · (intro w' hS'; go_simp <;> try with_reducible rfl)
      try simp only [Act.put, List.setIfInBounds_toArray, List.set_cons_zero, List.set_cons_succ]
      refine rg_take 6 rfl (by kernel_rfl) (by kernel_rfl) (by kernel_rfl) (by rfl) hS (v := ?_) ?_ ?_
      rotate_left
      · (intro w' hS'; have hc := vkeep hS' n3.out (BB.cell (i := 0) rfl); go_simp <;> try with_reducible rfl)
      try simp only [Act.put, List.setIfInBounds_toArray, List.set_cons_zero, List.set_cons_succ]
      refine rg_take 7 rfl (by kernel_rfl) (by kernel_rfl) (by kernel_rfl) (by rfl) hS (v := ?_) ?_ ?_
      rotate_left
      · (intro w' hS'; go_simp <;> try with_reducible rfl)
      try simp only [Act.put, List.setIfInBounds_toArray, List.set_cons_zero, List.set_cons_succ]
      refine rg_take 8 rfl (by kernel_rfl) (by kernel_rfl) (by kernel_rfl) (by rfl) hS (v := (.agg (cT (fx, fy, fm)).toArray)) (fun w' hS' => (lop_rng rfl (by rfl) rf hgr2 n2.out hS' (whVt _))) ?_
      try simp only [Act.put, List.setIfInBounds_toArray, List.set_cons_zero, List.set_cons_succ]
      refine rg_take 9 rfl (by kernel_rfl) (by kernel_rfl) (by kernel_rfl) (by rfl) hS (v := ?_) ?_ ?_
      rotate_left
      · (intro w' hS'; go_simp <;> try with_reducible rfl)
      try simp only [Act.put, List.setIfInBounds_toArray, List.set_cons_zero, List.set_cons_succ]
      refine rg_take 10 rfl (by kernel_rfl) (by kernel_rfl) (by kernel_rfl) (by rfl) hS (v := ?_) ?_ ?_
      rotate_left
      · (intro w' hS'; go_simp <;> try with_reducible rfl)
      try simp only [Act.put, List.setIfInBounds_toArray, List.set_cons_zero, List.set_cons_succ]
      refine rg_take 11 rfl (by kernel_rfl) (by kernel_rfl) (by kernel_rfl) (by rfl) hS (v := ?_) ?_ ?_
      rotate_left
      · (intro w' hS'; have hc := vkeep hS' n1.out (B2.cell (i := 0) rfl); go_simp <;> try with_reducible rfl)
      try simp only [Act.put, List.setIfInBounds_toArray, List.set_cons_zero, List.set_cons_succ]
      refine rg_take 12 rfl (by kernel_rfl) (by kernel_rfl) (by kernel_rfl) (by rfl) hS (v := ?_) ?_ ?_
      rotate_left
      · (intro w' hS'; go_simp <;> try with_reducible rfl)
      try simp only [Act.put, List.setIfInBounds_toArray, List.set_cons_zero, List.set_cons_succ]
      refine rg_take 13 rfl (by kernel_rfl) (by kernel_rfl) (by kernel_rfl) (by rfl) hS (v := ?_) ?_ ?_
      rotate_left
      · (intro w' hS'; have hc := vkeep hS' n3.out (BB.cell (i := 1) rfl); go_simp <;> try with_reducible rfl)
      try simp only [Act.put, List.setIfInBounds_toArray, List.set_cons_zero, List.set_cons_succ]
      refine rg_take 14 rfl (by kernel_rfl) (by kernel_rfl) (by kernel_rfl) (by rfl) hS (v := ?_) ?_ ?_
      rotate_left
      · (intro w' hS'; go_simp <;> try with_reducible rfl)
      try simp only [Act.put, List.setIfInBounds_toArray, List.set_cons_zero, List.set_cons_succ]
      refine rg_take 15 rfl (by kernel_rfl) (by kernel_rfl) (by kernel_rfl) (by rfl) hS (v := (.agg (cT (tx, ty, tm)).toArray)) (fun w' hS' => (lop_rng rfl (by rfl) rt hgr2 n2.out hS' (whVt _))) ?_
      try simp only [Act.put, List.setIfInBounds_toArray, List.set_cons_zero, List.set_cons_succ]
      refine rg_build 16 rfl (by kernel_rfl) (by kernel_rfl) (by kernel_rfl) (by rfl) hS rfl (builtSt (fx, fy, fm) (tx, ty, tm)) (by simp [Act.eval]) ?_
      try simp only [Act.put, List.setIfInBounds_toArray, List.set_cons_zero, List.set_cons_succ]
      refine rg_build 17 rfl (by kernel_rfl) (by kernel_rfl) (by kernel_rfl) (by rfl) hS rfl (show Tryz.prog.built 63 [(0, .agg #[.int .i64 (a : Int), .int .i64 (b : Int), .int .i64 m]), (1, .agg (cSt (fx, fy, fm) (tx, ty, tm)).toArray)] = some (cSd (((a : Int), (b : Int), m), (fx, fy, fm), (tx, ty, tm))).toArray from builtSd ((a : Int), (b : Int), m) (fx, fy, fm) (tx, ty, tm)) (by simp [Act.eval]) ?_
      try simp only [Act.put, List.setIfInBounds_toArray, List.set_cons_zero, List.set_cons_succ]
      refine rg_eff 18 rfl (by kernel_rfl) (by rfl) (fun K hK => ?_)
      refine wp_bsD1 rfl rfl (fun gq wq gle BZ hq => ?_)
      refine hK _ _ (hS.call hq) (fun hS => ?_)
      clear hK K
      replace hr2 := hr2.trans (hq.mono hr2.size)
      replace o2 := own_call o2 hq
      clear hq gle
      try simp only [Act.put, List.setIfInBounds_toArray, List.set_cons_zero, List.set_cons_succ]
      refine rg_eff 19 rfl (by kernel_rfl) (by rfl) (fun K hK => ?_)
      refine wp_appD rfl rfl rfl o2 BZ (by omega) hr2.size (fun v3 w3 o3 hg => ?_)
      refine hK _ _ (vgrown hS hg HG.out) (fun hS => ?_)
      clear hK K
      replace hr2 := hr2.grown hg hr2.size (fun k hk => (o2.lt k hk).1)
      clear hg o2 BZ
      try simp only [Act.put, List.setIfInBounds_toArray, List.set_cons_zero, List.set_cons_succ]
      refine rg_take 20 rfl (by kernel_rfl) (by kernel_rfl) (by kernel_rfl) (by rfl) hS (v := ?_) ?_ ?_
      rotate_left
      · (intro w' hS'; go_simp <;> try with_reducible rfl)
      try simp only [Act.put, List.setIfInBounds_toArray, List.set_cons_zero, List.set_cons_succ]
      refine rg_done (by kernel_rfl) ?_
      go_wp2_with fail
      go_roundw
      case rel => exact ⟨i + 1, by omega, by go_num, by rw [HS.out]; exact o3, hr2⟩
      case measure => simp [intOf]; omega
    · obtain rfl : i = S.length := by omega
      rw [List.take_length] at ho
      go_wp2_with fail
      go_ret
      exact ⟨_, rfl, own_base ho (by rw [hz]; omega), bthen hb hr⟩
end
end Go.Proofs.YtoegjibeomhekaaGreat

/- valid: crossed. -/
namespace Go.Proofs.YtoegjibeomhekaaGreat
set_option linter.unusedSimpArgs false
set_option linter.unusedVariables false
open Go.RowKit
set_option maxRecDepth 100000
/-- The slice v reads as these segments. -/
def RdN (w : World) (v : Value) (L : List Sd) : Prop := (L = [] ∧ ∃ a c, v = .slice a 0 c) ∨ ∃ g c, v = .slice (some ⟨g, 0, none⟩) L.length c ∧ L.length ≤ c ∧ g < w.heap.size ∧ ∀ (i : Nat) s, L[i]? = some s → w.rangeAt g (i * 9) (cSd s)
theorem RdN.shape {w : World} {v : Value} {L : List Sd} (h : RdN w v L) : ∃ a c, v = .slice a L.length c ∧ L.length ≤ c := by
  rcases h with ⟨rfl, a, c, rfl⟩ | ⟨g, c, rfl, hc, _⟩
  · exact ⟨_, _, rfl, by simp⟩
  · exact ⟨_, _, rfl, hc⟩
theorem RdN.at {w : World} {a : Option Addr} {c : Nat} {L : List Sd} (h : RdN w (.slice a L.length c) L) {i : Nat} {s : Sd} (hi : L[i]? = some s) : ∃ g, a = some ⟨g, 0, none⟩ ∧ g < w.heap.size ∧ w.rangeAt g (i * 9) (cSd s) := by
  rcases h with ⟨rfl, _⟩ | ⟨g, c', e, hc', hg, hc⟩
  · simp at hi
  · injection e with e1 _ e3
    subst e3
    exact ⟨g, e1, hg, hc i s hi⟩
theorem RdN.below {w w' : World} {v : Value} {L : List Sd} (h : RdN w v L) (hb : Below w.heap.size w w') : RdN w' v L :=
  h.imp id fun ⟨g, c, e, hc, hg, hh⟩ => ⟨g, c, e, hc, Nat.lt_of_lt_of_le hg hb.size, fun i p hi => rng_b (hh i p hi) hg hb⟩
theorem RdN.take {w : World} {a : Option Addr} {c : Nat} {L : List Sd} (h : RdN w (.slice a L.length c) L) {i : Nat} (hi : i ≤ L.length) : RdN w (.slice a i c) (L.take i) := by
  have hl : (L.take i).length = i := by rw [List.length_take]; omega
  by_cases h0 : i = 0
  · subst h0
    exact .inl ⟨by simp, _, _, rfl⟩
  · rcases h with ⟨rfl, _⟩ | ⟨g, c', e, hc', hg, hc⟩
    · simp at hi; omega
    · injection e with e1 _ e3
      subst e1 e3
      refine .inr ⟨g, c, by rw [hl], by rw [hl]; omega, hg, fun j s hj => hc j s ?_⟩
      rw [List.getElem?_take] at hj
      split at hj
      · exact hj
      · cases hj
theorem RdN.of {w : World} {B : Nat} {v : Value} {L : List Sd} (h : w.ownsRow B 63 9 v L.length (L.flatMap cSd)) : RdN w v L := by
  rcases h.2 with ⟨rfl, h0⟩ | ⟨g, cap, cur, rfl, hb, hg, hcap, _⟩
  · exact .inl ⟨List.eq_nil_of_length_eq_zero h0, _, _, rfl⟩
  · refine .inr ⟨g, cap, rfl, hcap, (Array.getElem?_eq_some_iff.1 hg).1, fun i s hi j v hv => ?_⟩
    have := h.cells (g := g) rfl (i * 9 + j) v (by
      rw [List.flatMap_def]
      exact flat_get 9 _ i (cSd s) j v (fun P hP => by obtain ⟨q, _, rfl⟩ := List.mem_map.1 hP; rfl) (by rw [List.getElem?_map, hi]; rfl) hv)
    rwa [show (⟨g, 0, none⟩ : Addr).add (i * 9 + j) = ⟨g, i * 9 + j, none⟩ by simp [Addr.add]; intro h h'; simp [h, h']] at this
section
variable {ops : Array Oper} {rest : List Oper} {o : Oper} {a : Act} {w : World} {Q : Exit → Act → World → Prop}
theorem ldSd {x : Operand} {g f : Nat} {s : Sd} (hgd : o.guard = none) (ho : o.op = .load 63 x) (hx : a.eval x = .pointer (some ⟨g, f, none⟩)) (hr : w.rangeAt g f (cSd s))
    (h : wpList Tryz.prog ops Q rest (a.put o.dst (.agg (cSd s).toArray)) w) : wpList Tryz.prog ops Q (o :: rest) a w :=
  wpList_load_mid hgd _ x ho g f hx (cSd s) _ hr Tryz.underlying63 rfl (by kernel_rfl) h
theorem alSd (hgd : o.guard = none) (ho : o.op = .alloc 63)
    (hr : wpList Tryz.prog ops Q rest (a.put o.dst (.pointer (some ⟨w.heap.size, 0, none⟩))) (w.alloc (.cells (cSd sd0).toArray 63))) : wpList Tryz.prog ops Q (o :: rest) a w := al_blk hgd ho (by kernel_rfl) hr
theorem stSd {t : TypeId} {x y : Operand} {b : Nat} {s : Sd} {cs : List Value} (hgd : o.guard = none) (ho : o.op = .store 63 x y) (hx : a.eval x = .pointer (some ⟨b, 0, none⟩)) (hy : a.eval y = .agg (cSd s).toArray) (h : Blk w b cs t) (hl : cs.length = 9)
    (hr : wpList Tryz.prog ops Q rest (a.put o.dst undef) (w.setRow b (cSd s).toArray)) : wpList Tryz.prog ops Q (o :: rest) a w :=
  st_blk hgd ho hx hy h hl (by kernel_rfl) (cSd_one s) hr
end
set_option maxHeartbeats 4000000 in
theorem crs_idx {a : Option Addr} {c : Nat} {L : List Sd} (s : Sd) (w : World) (hR : RdN w (.slice a L.length c) L) (hl : L.length ≤ 1000) (hs : Bs s) (hok : ∀ t ∈ L, Bs t) :
    Calls Tryz.prog 35 #[.slice a L.length c, .func (.func 28) #[.agg (cSd s).toArray] #[]] w fun e w' => (∃ r : Int, e = .returned (.int .i64 r) ∧ ((L.any (vXng s) = true ∧ 0 ≤ r) ∨ (L.any (vXng s) = false ∧ r = -1))) ∧ Below w.heap.size w w' := by
  have HR := Lib.hid hR
  have HT : Hid (∀ t ∈ L, ∀ w, Calls Tryz.prog 28 #[.agg (cSd s).toArray, .agg (cSd t).toArray] w fun e w' => e = .returned (.bool (vXng s t)) ∧ Below w.heap.size w w') := by
    apply Lib.hid
    intro t ht
    exact crosses_any s t hs (hok t ht)
  clear hR hok hs
  generalize (cSd s).toArray = CS at *
  go_enter Tryz.func35, Tryz.ntmps35
  go_wp2_with fail
  go_loopw [8] (fun j wr => ∃ i : Nat, i ≤ L.length ∧ j = .int .i64 (i : Int) ∧ (L.take i).any (vXng s) = false ∧ Below w.heap.size w wr) (fun j _ => L.length - (intOf j).toNat)
  case atStart => exact ⟨0, Nat.zero_le _, rfl, rfl, Below.refl _ _⟩
  case round =>
    obtain ⟨i, hi, rfl, ha, hb⟩ := hrel
    have HA := Lib.hid ha
    clear ha
    by_cases hlt : i < L.length
    · obtain ⟨p, hx⟩ : ∃ p, L[i]? = some p := ⟨_, List.getElem?_eq_getElem hlt⟩
      have HX := Lib.hid hx
      have HTp := Lib.hid (HT.out p (List.mem_of_getElem? hx))
      obtain ⟨gv, rfl, hg, r0⟩ := (HR.out.below hb).at hx
      clear hx HT HR
      cases hf : vXng s p
      · rw [hf] at HTp
        have HF := Lib.hid hf
        clear hf
        go_wp2_with (first | (with_reducible refine ldSd rfl rfl rfl r0 ?_))
        refine (HTp.out _).mono ?_
        rintro e w1 ⟨rfl, h1⟩
        replace hb := bthen hb h1
        clear r0 h1
        go_wp2_with fail
        go_roundw
        case rel => exact ⟨i + 1, by omega, by go_num, any_take HX.out HA.out HF.out, hb⟩
        case measure => simp [intOf]; omega
      · rw [hf] at HTp
        have HF : Hid (L.any (vXng s) = true) := any_yes HX.out hf
        clear hf
        go_wp2_with (first | (with_reducible refine ldSd rfl rfl rfl r0 ?_))
        refine (HTp.out _).mono ?_
        rintro e w1 ⟨rfl, h1⟩
        replace hb := bthen hb h1
        clear r0 h1
        go_wp2_with fail
        go_ret
        exact ⟨⟨i, rfl, .inl ⟨HF.out, by omega⟩⟩, hb⟩
    · obtain rfl : i = L.length := by omega
      have HF := HA.out
      rw [List.take_length] at HF
      go_wp2_with fail
      go_ret
      exact ⟨⟨-1, rfl, .inr ⟨HF, rfl⟩⟩, hb⟩
set_option maxHeartbeats 1000000 in
theorem crs_any {a : Option Addr} {c : Nat} {L : List Sd} (s : Sd) (w : World) (hR : RdN w (.slice a L.length c) L) (hl : L.length ≤ 1000) (hs : Bs s) (hok : ∀ t ∈ L, Bs t) :
    Calls Tryz.prog 27 #[.slice a L.length c, .func (.func 28) #[.agg (cSd s).toArray] #[]] w fun e w' => e = .returned (.bool (L.any (vXng s))) ∧ Below w.heap.size w w' := by
  have HI := Lib.hid (crs_idx s w hR hl hs hok)
  clear hR hok hs
  generalize L.any (vXng s) = r at *
  generalize (cSd s).toArray = CS at *
  go_enter Tryz.func27, Tryz.ntmps27
  go_wp2_with fail
  refine HI.out.mono ?_
  rintro e w1 ⟨⟨k, rfl, hk⟩, h1⟩
  rcases hk with ⟨rfl, hk⟩ | ⟨rfl, rfl⟩
  · go_wp2
    go_ret
    exact ⟨by first | rfl | (simp; omega), h1⟩
  · go_wp2
    go_ret
    exact ⟨by first | rfl | simp, h1⟩
theorem take_getD {α : Type} {l : List α} {i : Nat} {x d : α} (h : l[i]? = some x) : l.getD i d = x := getD_some h
theorem op_mf {o : Oper} {a : Act} {fn : Fn} {x : Operand} {v : Value} (ho : o.op = .makeFunc fn #[x] #[]) (hx : a.eval x = v) (w : World) : (execOp a.eval o).run Tryz.prog w = .ok (.value (.func fn #[v] #[])) w := by
  unfold execOp
  simp only [ho, Sem.run_bind]
  rw [show Array.map a.eval #[x] = #[v] by simp [hx], show Array.map a.eval #[] = #[] by simp]
  simp [Instr.makeFunc, go_sem]
theorem wp_mf {o : Oper} {a : Act} {w : World} {K : Act → World → Prop} {Q : Exit → Act → World → Prop} {fn : Fn} {x : Operand} {v : Value} (ho : o.op = .makeFunc fn #[x] #[]) (hx : a.eval x = v) (h : K (a.put o.dst (.func fn #[v] #[])) w) : o.wp Tryz.prog a w K Q := by
  unfold Oper.wp
  rw [op_mf ho hx]
  exact h
section
variable {va : Option Addr} {vc : Nat} {sa : Option Addr} {sc : Nat} {ha : Option Addr} {hc : Nat} {V S : List I3} {H : List Hp}
set_option maxHeartbeats 8000000 in
theorem crossed_any (w : World) (hR : RdV w va vc sa sc ha hc V S H) (hv : V.length ≤ 1000) (hs : S.length ≤ 1000) (hE : Ends V S) (hB : ∀ p ∈ S, Bs (sdOf V p)) : Calls Tryz.prog 16 #[.agg #[.slice va V.length vc, .slice sa S.length sc, .slice ha H.length hc]] w fun e w' => e = .returned (.bool (vCrs V S)) ∧ Below w.heap.size w w' := by
  have B1 := Blk.new w [.slice va V.length vc, .slice sa S.length sc, .slice ha H.length hc] 51 rfl
  have hb := bnew w (.cells #[.slice va V.length vc, .slice sa S.length sc, .slice ha H.length hc] 51)
  have HS := Lib.hid (sides_any (w.alloc (.cells #[.slice va V.length vc, .slice sa S.length sc, .slice ha H.length hc] 51)) (hR.below hb) hv hs hE)
  have HB : Hid (∀ t ∈ S.map (sdOf V), Bs t) := by
    apply Lib.hid
    intro t ht
    obtain ⟨p, hp, rfl⟩ := List.mem_map.1 ht
    exact hB p hp
  have HC : Hid (vCrs V S = (List.range S.length).any (earlier vXng sd0 (S.map (sdOf V)))) := rfl
  have c0 := B1.cell (i := 0) rfl
  have c1 := B1.cell (i := 1) rfl
  have c2 := B1.cell (i := 2) rfl
  generalize vCrs V S = r at *
  clear hR hE hB
  go_enter Tryz.func16, Tryz.ntmps16
  go_wp2_with fail
  generalize w.alloc (.cells #[.slice va V.length vc, .slice sa S.length sc, .slice ha H.length hc] 51) = W at *
  clear c0 c1 c2
  refine HS.out.mono ?_
  rintro e w1 ⟨v, rfl, o1, k1⟩
  have hll : (S.map (sdOf V)).length = S.length := List.length_map ..
  rw [← hll] at HC
  have hN : RdN w1 v (S.map (sdOf V)) := RdN.of (by rw [hll, List.flatMap_map]; exact o1)
  have hL : (S.map (sdOf V)).length ≤ 1000 := by rw [hll]; exact hs
  replace hb := bthen hb k1
  clear o1 k1 hll HS B1
  generalize S.map (sdOf V) = L at *
  obtain ⟨va', vc', rfl, hcap⟩ := hN.shape
  have HN := Lib.hid hN
  clear hN
  go_wp2_with fail
  go_loopw [10] (fun j wr => ∃ i : Nat, i ≤ L.length ∧ j = .int .i64 (i : Int) ∧ (List.range i).any (earlier vXng sd0 L) = false ∧ Below w1.heap.size w1 wr) (fun j _ => L.length - (intOf j).toNat)
  case atStart => exact ⟨0, Nat.zero_le _, rfl, rfl, Below.refl _ _⟩
  case round =>
    obtain ⟨i, hi, rfl, ha, hr⟩ := hrel
    have HA := Lib.hid ha
    clear ha
    by_cases hlt : i < L.length
    · obtain ⟨s, hx⟩ : ∃ p, L[i]? = some p := ⟨_, List.getElem?_eq_getElem hlt⟩
      have HX := Lib.hid hx
      have hE : Hid (earlier vXng sd0 L i = (L.take i).any (vXng s)) := by show _ = _; unfold earlier; rw [getD_some hx]
      have hsz := hr.size
      obtain ⟨gv, e1, hg, r0⟩ := (HN.out.below hr).at hx
      have f := Blk.new wr (cSd sd0) 63 rfl
      have bs := laid_n wr (cSd sd0) (cSd s) 63
      have hr2 := laid_b (Below.refl wr.heap.size wr) (cSd sd0) (cSd s) 63
      have hib : i ≤ vc' := by omega
      subst e1
      clear hx
      go_wp2_with (first | (with_reducible refine ldSd rfl rfl rfl r0 ?_) | (with_reducible refine alSd rfl rfl ?_) | (with_reducible refine stSd rfl rfl rfl rfl f rfl ?_))
      generalize (wr.alloc (.cells (cSd sd0).toArray 63)).setRow wr.heap.size (cSd s).toArray = W2 at *
      have hr3 := hr.trans (hr2.mono hsz)
      have HK := Lib.hid (crs_any (a := some ⟨gv, 0, none⟩) (c := vc') (L := L.take i) s W2.drew)
      rw [show (L.take i).length = i by rw [List.length_take]; omega] at HK
      have N3 : RdN W2.drew (.slice (some ⟨gv, 0, none⟩) i vc') (L.take i) := ((HN.out.below (hr3.drew)).take (by omega))
      have hsB := HB.out s (List.mem_of_getElem? HX.out)
      have htB : ∀ t ∈ L.take i, Bs t := fun t ht => HB.out t (List.mem_of_mem_take ht)
      replace HK := Lib.hid (HK.out N3 (by omega) hsB htB)
      clear f r0 N3 hsB htB hr2
      rw [← hE.out] at HK
      cases hq : earlier vXng sd0 L i
      · rw [hq] at HK
        have HQ := Lib.hid hq
        clear hq
        refine rg_start [] (by kernel_rfl) (fun hS => ?_)
        replace hr3 := hr3.drew
        replace bs := bs.drew
        refine rg_take 0 rfl (by kernel_rfl) (by kernel_rfl) (by kernel_rfl) (by rfl) hS (v := ?_) ?_ ?_
        rotate_left
        · (intro w' hS'; go_simp <;> try with_reducible rfl)
        try simp only [Act.put, List.setIfInBounds_toArray, List.set_cons_zero, List.set_cons_succ]
        refine rg_take 1 rfl (by kernel_rfl) (by kernel_rfl) (by kernel_rfl) (by rfl) hS (v := ?_) ?_ ?_
        rotate_left
        · (intro w' hS'; go_simp <;> try with_reducible rfl)
        try simp only [Act.put, List.setIfInBounds_toArray, List.set_cons_zero, List.set_cons_succ]
        refine rg_take 2 rfl (by kernel_rfl) (by kernel_rfl) (by kernel_rfl) (by rfl) hS (v := ?_) ?_ ?_
        rotate_left
        · (intro w' hS'; go_simp <;> try with_reducible rfl)
        try simp only [Act.put, List.setIfInBounds_toArray, List.set_cons_zero, List.set_cons_succ]
        refine rg_ldP 3 rfl (by kernel_rfl) (by kernel_rfl) (by kernel_rfl) (by rfl) hS rfl rfl bs (by simp <;> omega) (part_all _) (whSd s) ?_
        try simp only [Act.put, List.setIfInBounds_toArray, List.set_cons_zero, List.set_cons_succ]
        refine rg_eff 4 rfl (by kernel_rfl) (by rfl) (fun K hK => ?_)
        refine wp_mf rfl (by rfl) ?_
        refine hK _ _ hS (fun hS => ?_)
        clear hK K
        try simp only [Act.put, List.setIfInBounds_toArray, List.set_cons_zero, List.set_cons_succ]
        refine rg_eff 5 rfl (by kernel_rfl) (by rfl) (fun K hK => ?_)
        go_simp
        refine (HK.out).mono ?_
        rintro e w1 ⟨rfl, h1⟩
        refine hK _ _ (hS.call h1) (fun hS => ?_)
        clear hK K
        replace hr3 := hr3.trans (h1.mono hr3.size)
        clear h1
        try simp only [Act.put, List.setIfInBounds_toArray, List.set_cons_zero, List.set_cons_succ]
        refine rg_done (by kernel_rfl) ?_
        go_wp2_with fail
        go_roundw
        case rel => exact ⟨i + 1, by omega, by go_num, range_snoc HA.out HQ.out, hr3⟩
        case measure => simp [intOf]; omega
      · rw [hq] at HK
        have E : Hid (r = true) := by show _ = _; rw [HC.out]; exact range_yes hlt hq
        clear hq
        refine rg_start [] (by kernel_rfl) (fun hS => ?_)
        replace hr3 := hr3.drew
        replace bs := bs.drew
        refine rg_take 0 rfl (by kernel_rfl) (by kernel_rfl) (by kernel_rfl) (by rfl) hS (v := ?_) ?_ ?_
        rotate_left
        · (intro w' hS'; go_simp <;> try with_reducible rfl)
        try simp only [Act.put, List.setIfInBounds_toArray, List.set_cons_zero, List.set_cons_succ]
        refine rg_take 1 rfl (by kernel_rfl) (by kernel_rfl) (by kernel_rfl) (by rfl) hS (v := ?_) ?_ ?_
        rotate_left
        · (intro w' hS'; go_simp <;> try with_reducible rfl)
        try simp only [Act.put, List.setIfInBounds_toArray, List.set_cons_zero, List.set_cons_succ]
        refine rg_take 2 rfl (by kernel_rfl) (by kernel_rfl) (by kernel_rfl) (by rfl) hS (v := ?_) ?_ ?_
        rotate_left
        · (intro w' hS'; go_simp <;> try with_reducible rfl)
        try simp only [Act.put, List.setIfInBounds_toArray, List.set_cons_zero, List.set_cons_succ]
        refine rg_ldP 3 rfl (by kernel_rfl) (by kernel_rfl) (by kernel_rfl) (by rfl) hS rfl rfl bs (by simp <;> omega) (part_all _) (whSd s) ?_
        try simp only [Act.put, List.setIfInBounds_toArray, List.set_cons_zero, List.set_cons_succ]
        refine rg_eff 4 rfl (by kernel_rfl) (by rfl) (fun K hK => ?_)
        refine wp_mf rfl (by rfl) ?_
        refine hK _ _ hS (fun hS => ?_)
        clear hK K
        try simp only [Act.put, List.setIfInBounds_toArray, List.set_cons_zero, List.set_cons_succ]
        refine rg_eff 5 rfl (by kernel_rfl) (by rfl) (fun K hK => ?_)
        go_simp
        refine (HK.out).mono ?_
        rintro e w1 ⟨rfl, h1⟩
        refine hK _ _ (hS.call h1) (fun hS => ?_)
        clear hK K
        replace hr3 := hr3.trans (h1.mono hr3.size)
        clear h1
        try simp only [Act.put, List.setIfInBounds_toArray, List.set_cons_zero, List.set_cons_succ]
        refine rg_done (by kernel_rfl) ?_
        go_wp2_with fail
        go_ret
        exact ⟨by rw [E.out]; rfl, bthen hb hr3⟩
    · obtain rfl : i = L.length := by omega
      have E : Hid (r = false) := by show _ = _; rw [HC.out]; exact HA.out
      go_wp2_with fail
      go_ret
      exact ⟨by rw [E.out]; rfl, bthen hb hr⟩
end
end Go.Proofs.YtoegjibeomhekaaGreat
