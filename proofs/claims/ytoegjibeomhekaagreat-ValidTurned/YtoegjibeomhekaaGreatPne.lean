/- Package point: Cross, Dot of points that may be reckoned with. -/
import Derived.Test.YtoegjibeomhekaaGreatPnd
namespace Go.Proofs.YtoegjibeomhekaaGreat
set_option linter.unusedSimpArgs false
set_option linter.unusedVariables false
open Go.RowKit
set_option maxRecDepth 100000
set_option maxHeartbeats 4000000 in
theorem Cross_walk {A B C D E F V1 V2 W1 W2 P1 P2 N : List Value} (hA : Rc A) (hB : Rc B) (hC : Rc C) (hD : Rc D) (hE : Rc E) (hF : Rc F) (hV1 : Rc V1) (hV2 : Rc V2) (hW1 : Rc W1) (hW2 : Rc W2) (hP1 : Rc P1) (hP2 : Rc P2) (hN : Rc N)
    (T1 : Tl 34 #[vl (A ++ B)] (.bool true)) (T2 : Tl 34 #[vl (C ++ D)] (.bool true)) (T3 : Tl 34 #[vl (E ++ F)] (.bool true))
    (G1 : Tl 98 #[vl (A ++ B), vl (C ++ D)] (vl (V1 ++ V2))) (G2 : Tl 98 #[vl (A ++ B), vl (E ++ F)] (vl (W1 ++ W2))) (M1 : Tl 100 #[vl V1, vl W2] (vl P1)) (M2 : Tl 100 #[vl V2, vl W1] (vl P2)) (S : Tl 99 #[vl P1, vl P2] (.tuple #[vl N, .bool true])) :
    Tl 88 #[vl (A ++ B), vl (C ++ D), vl (E ++ F)] (.tuple #[vl N, .bool true]) := by
  intro w
  have HT1 := Lib.hid T1
  have HT2 := Lib.hid T2
  have HT3 := Lib.hid T3
  unfold vl at *
  have HA := Lib.hid hA
  have HB := Lib.hid hB
  have HC := Lib.hid hC
  have HD := Lib.hid hD
  have HE := Lib.hid hE
  have HF := Lib.hid hF
  have HV1 := Lib.hid hV1
  have HV2 := Lib.hid hV2
  have HW1 := Lib.hid hW1
  have HW2 := Lib.hid hW2
  have HP1 := Lib.hid hP1
  have HP2 := Lib.hid hP2
  have HN := Lib.hid hN
  have HG1 := Lib.hid G1
  have HG2 := Lib.hid G2
  have HM1 := Lib.hid M1
  have HM2 := Lib.hid M2
  have HS := Lib.hid S
  unfold Tl at HG1 HG2 HM1 HM2 HS
  clear hA hB hC hD hE hF hV1 hV2 hW1 hW2 hP1 hP2 hN T1 T2 T3 G1 G2 M1 M2 S
  obtain ⟨oA, hoA⟩ : ∃ o, Obj.cells (A ++ B).toArray 47 = o := ⟨_, rfl⟩
  have b3 := (((Blk.new w (A ++ B) 47 rfl).old (.cells (C ++ D).toArray 47)).old (.cells (E ++ F).toArray 47)).old (.cells (rr false 0 false 0).toArray 45)
  have b4 := ((Blk.new (w.alloc (.cells (A ++ B).toArray 47)) (C ++ D) 47 (b := w.heap.size + 1) (by simp)).old (.cells (E ++ F).toArray 47)).old (.cells (rr false 0 false 0).toArray 45)
  have b5 := (Blk.new ((w.alloc (.cells (A ++ B).toArray 47)).alloc (.cells (C ++ D).toArray 47)) (E ++ F) 47 (b := w.heap.size + 1 + 1) (by simp)).old (.cells (rr false 0 false 0).toArray 45)
  have b6 := Blk.new (((w.alloc (.cells (A ++ B).toArray 47)).alloc (.cells (C ++ D).toArray 47)).alloc (.cells (E ++ F).toArray 47)) (rr false 0 false 0) 45 (b := w.heap.size + 1 + 1 + 1) (by simp)
  have hb : Below w.heap.size w ((((w.alloc (.cells (A ++ B).toArray 47)).alloc (.cells (C ++ D).toArray 47)).alloc (.cells (E ++ F).toArray 47)).alloc (.cells (rr false 0 false 0).toArray 45)) := ((((Below.refl _ _).alloc (Nat.le_refl _) _).alloc (by simp) _).alloc (by simp; omega) _).alloc (by simp; omega) _
  have hk2 : ((((w.alloc (.cells (A ++ B).toArray 47)).alloc (.cells (C ++ D).toArray 47)).alloc (.cells (E ++ F).toArray 47)).alloc (.cells (rr false 0 false 0).toArray 45)).heap.size = w.heap.size + 1 + 1 + 1 + 1 := by simp
  clear hoA oA
  go_enter Tryz.func88, Tryz.ntmps88
  go_wp2_with (first | (with_reducible refine alR rfl rfl ?_) | (with_reducible refine ldPt rfl rfl rfl b3 HA.out HB.out ?_) | (with_reducible refine ldPt rfl rfl rfl b4 HC.out HD.out ?_) | (with_reducible refine ldPt rfl rfl rfl b5 HE.out HF.out ?_) | (with_reducible refine bsP3 rfl rfl rfl rfl rfl HA.out HB.out HC.out HD.out HE.out HF.out ?_))
  have sl := Blk.new ((((w.alloc (.cells (A ++ B).toArray 47)).alloc (.cells (C ++ D).toArray 47)).alloc (.cells (E ++ F).toArray 47)).alloc (.cells (rr false 0 false 0).toArray 45)) (j3 (A ++ B) (C ++ D) (E ++ F)) 47 (b := w.heap.size + 1 + 1 + 1 + 1) hk2.symm
  try rw [show (((w.alloc (.cells (A ++ B).toArray 47)).alloc (.cells (C ++ D).toArray 47)).alloc (.cells (E ++ F).toArray 47)).heap.size = w.heap.size + 1 + 1 + 1 by simp]
  replace b3 := b3.old (.cells (j3 (A ++ B) (C ++ D) (E ++ F)).toArray 47)
  replace b4 := b4.old (.cells (j3 (A ++ B) (C ++ D) (E ++ F)).toArray 47)
  replace b5 := b5.old (.cells (j3 (A ++ B) (C ++ D) (E ++ F)).toArray 47)
  replace b6 := b6.old (.cells (j3 (A ++ B) (C ++ D) (E ++ F)).toArray 47)
  replace hb := hb.alloc hb.size (.cells (j3 (A ++ B) (C ++ D) (E ++ F)).toArray 47)
  clear hk2
  generalize ((((w.alloc (.cells (A ++ B).toArray 47)).alloc (.cells (C ++ D).toArray 47)).alloc (.cells (E ++ F).toArray 47)).alloc (.cells (rr false 0 false 0).toArray 45)).alloc (.cells (j3 (A ++ B) (C ++ D) (E ++ F)).toArray 47) = W at *
  refine (are_three HA.out HB.out HC.out HD.out HE.out HF.out HT1.out HT2.out HT3.out sl).mono ?_
  rintro e w1 ⟨rfl, h1⟩
  replace b3 := b3.call h1
  replace b4 := b4.call h1
  replace b5 := b5.call h1
  replace b6 := b6.call h1
  replace hb := bthen hb h1
  clear h1 sl HT1 HT2 HT3
  go_wp2_with fail
  have hsz := hb.size
  try simp only [Act.put, List.setIfInBounds_toArray, List.set_cons_zero, List.set_cons_succ]
  go_cut [8, 9] (fun p p' wx => ∃ q q', p = .pointer (some ⟨q, 0, none⟩) ∧ p' = .pointer (some ⟨q', 0, none⟩) ∧ Below w.heap.size w wx ∧ Blk wx q (V1 ++ V2) 133 ∧ Blk wx q' (W1 ++ W2) 133 ∧ Blk wx (w.heap.size + 1 + 1 + 1) (rr false 0 false 0) 45)
  case first =>
    refine rg_start [] (by kernel_rfl) (fun hS => ?_)
    replace hb := hb.drew
    refine rg_ld 0 rfl (by kernel_rfl) (by kernel_rfl) (by kernel_rfl) (by rfl) hS rfl rfl b3 (by simp <;> omega) (wholeP HA.out HB.out) ?_
    try simp only [Act.put, List.setIfInBounds_toArray, List.set_cons_zero, List.set_cons_succ]
    refine rg_ld 1 rfl (by kernel_rfl) (by kernel_rfl) (by kernel_rfl) (by rfl) hS rfl rfl b4 (by simp <;> omega) (wholeP HC.out HD.out) ?_
    try simp only [Act.put, List.setIfInBounds_toArray, List.set_cons_zero, List.set_cons_succ]
    refine rg_ld 3 rfl (by kernel_rfl) (by kernel_rfl) (by kernel_rfl) (by rfl) hS rfl rfl b3 (by simp <;> omega) (wholeP HA.out HB.out) ?_
    try simp only [Act.put, List.setIfInBounds_toArray, List.set_cons_zero, List.set_cons_succ]
    refine rg_ld 4 rfl (by kernel_rfl) (by kernel_rfl) (by kernel_rfl) (by rfl) hS rfl rfl b5 (by simp <;> omega) (wholeP HE.out HF.out) ?_
    try simp only [Act.put, List.setIfInBounds_toArray, List.set_cons_zero, List.set_cons_succ]
    refine rg_three 2 6 7 rfl rfl rfl (by kernel_rfl) (by rfl) (by rfl) (by rfl) (fun K hK => ?_) (fun K hK => ?_) (fun K hK => ?_)
    · go_simp
      refine (HG1.out _).mono ?_
      rintro e w1 ⟨rfl, h1⟩
      refine hK _ _ (hS.call h1) (fun hS => ?_)
      clear hK K
      try replace a5 := a5.call h1
      try replace a6 := a6.call h1
      replace hb := bthen hb h1
      clear h1
      try simp only [Act.put, List.setIfInBounds_toArray, List.set_cons_zero, List.set_cons_succ]
      refine rg_three 5 6 7 rfl rfl rfl (by kernel_rfl) (by rfl) (by rfl) (by rfl) (fun K hK => ?_) (fun K hK => ?_) (fun K hK => ?_)
      · go_simp
        refine (HG2.out _).mono ?_
        rintro e w1 ⟨rfl, h1⟩
        refine hK _ _ (hS.call h1) (fun hS => ?_)
        clear hK K
        try replace a5 := a5.call h1
        try replace a6 := a6.call h1
        replace hb := bthen hb h1
        clear h1
        try simp only [Act.put, List.setIfInBounds_toArray, List.set_cons_zero, List.set_cons_succ]
        refine rg_two 6 7 rfl rfl (by kernel_rfl) (by rfl) (by rfl) (fun K hK => ?_) (fun K hK => ?_)
        · refine wp_alB (zs := p0) rfl (by kernel_rfl) (fun p5 q5 a5 => ?_)
          try (have hne : p5 ≠ p6 := by have := a6.lt; omega)
          replace q5 := Nat.le_trans hS.1 q5
          refine hK _ _ (hS.alloc _) (fun hS => ?_)
          clear hK K
          try replace a6 := a6.old (.cells p0.toArray 133)
          replace hb := hb.alloc hb.size (.cells p0.toArray 133)
          try simp only [Act.put, List.setIfInBounds_toArray, List.set_cons_zero, List.set_cons_succ]
          refine rg_eff 7 rfl (by kernel_rfl) (by rfl) (fun K hK => ?_)
          refine wp_alB (zs := p0) rfl (by kernel_rfl) (fun p6 q6 a6 => ?_)
          try (have hne : p5 ≠ p6 := by have := a5.lt; omega)
          replace q6 := Nat.le_trans hS.1 q6
          refine hK _ _ (hS.alloc _) (fun hS => ?_)
          clear hK K
          try replace a5 := a5.old (.cells p0.toArray 133)
          replace hb := hb.alloc hb.size (.cells p0.toArray 133)
          try simp only [Act.put, List.setIfInBounds_toArray, List.set_cons_zero, List.set_cons_succ]
          refine rg_eff 8 rfl (by kernel_rfl) (by rfl) (fun K hK => ?_)
          refine wp_st (vs := V1 ++ V2) rfl rfl rfl a5 (by rw [p0_len, pt_len HV1.out HV2.out]) (wholeV HV1.out HV2.out) (pt_one HV1.out HV2.out) ?_
          refine hK _ _ (hS.row (.inr q5) _) (fun hS => ?_)
          clear hK K
          replace a5 := a5.row (V1 ++ V2)
          replace a6 := a6.rowOther (g := p5) (V1 ++ V2).toArray (by omega)
          replace hb := below_row hb (g := p5) (by omega) (V1 ++ V2).toArray
          try simp only [Act.put, List.setIfInBounds_toArray, List.set_cons_zero, List.set_cons_succ]
          refine rg_eff 9 rfl (by kernel_rfl) (by rfl) (fun K hK => ?_)
          refine wp_st (vs := W1 ++ W2) rfl rfl rfl a6 (by rw [p0_len, pt_len HW1.out HW2.out]) (wholeV HW1.out HW2.out) (pt_one HW1.out HW2.out) ?_
          refine hK _ _ (hS.row (.inr q6) _) (fun hS => ?_)
          clear hK K
          replace a6 := a6.row (W1 ++ W2)
          replace a5 := a5.rowOther (g := p6) (W1 ++ W2).toArray (by omega)
          replace hb := below_row hb (g := p6) (by omega) (W1 ++ W2).toArray
          try simp only [Act.put, List.setIfInBounds_toArray, List.set_cons_zero, List.set_cons_succ]
          refine rg_done (by kernel_rfl) ?_
          go_wp2_with fail
          go_meet
          case rel => exact ⟨p5, p6, rfl, rfl, hb, a5, a6, b6.keep hS (by simp)⟩
        · refine wp_alB (zs := p0) rfl (by kernel_rfl) (fun p6 q6 a6 => ?_)
          try (have hne : p5 ≠ p6 := by have := a5.lt; omega)
          replace q6 := Nat.le_trans hS.1 q6
          refine hK _ _ (hS.alloc _) (fun hS => ?_)
          clear hK K
          try replace a5 := a5.old (.cells p0.toArray 133)
          replace hb := hb.alloc hb.size (.cells p0.toArray 133)
          try simp only [Act.put, List.setIfInBounds_toArray, List.set_cons_zero, List.set_cons_succ]
          refine rg_eff 6 rfl (by kernel_rfl) (by rfl) (fun K hK => ?_)
          refine wp_alB (zs := p0) rfl (by kernel_rfl) (fun p5 q5 a5 => ?_)
          try (have hne : p5 ≠ p6 := by have := a6.lt; omega)
          replace q5 := Nat.le_trans hS.1 q5
          refine hK _ _ (hS.alloc _) (fun hS => ?_)
          clear hK K
          try replace a6 := a6.old (.cells p0.toArray 133)
          replace hb := hb.alloc hb.size (.cells p0.toArray 133)
          try simp only [Act.put, List.setIfInBounds_toArray, List.set_cons_zero, List.set_cons_succ]
          refine rg_eff 8 rfl (by kernel_rfl) (by rfl) (fun K hK => ?_)
          refine wp_st (vs := V1 ++ V2) rfl rfl rfl a5 (by rw [p0_len, pt_len HV1.out HV2.out]) (wholeV HV1.out HV2.out) (pt_one HV1.out HV2.out) ?_
          refine hK _ _ (hS.row (.inr q5) _) (fun hS => ?_)
          clear hK K
          replace a5 := a5.row (V1 ++ V2)
          replace a6 := a6.rowOther (g := p5) (V1 ++ V2).toArray (by omega)
          replace hb := below_row hb (g := p5) (by omega) (V1 ++ V2).toArray
          try simp only [Act.put, List.setIfInBounds_toArray, List.set_cons_zero, List.set_cons_succ]
          refine rg_eff 9 rfl (by kernel_rfl) (by rfl) (fun K hK => ?_)
          refine wp_st (vs := W1 ++ W2) rfl rfl rfl a6 (by rw [p0_len, pt_len HW1.out HW2.out]) (wholeV HW1.out HW2.out) (pt_one HW1.out HW2.out) ?_
          refine hK _ _ (hS.row (.inr q6) _) (fun hS => ?_)
          clear hK K
          replace a6 := a6.row (W1 ++ W2)
          replace a5 := a5.rowOther (g := p6) (W1 ++ W2).toArray (by omega)
          replace hb := below_row hb (g := p6) (by omega) (W1 ++ W2).toArray
          try simp only [Act.put, List.setIfInBounds_toArray, List.set_cons_zero, List.set_cons_succ]
          refine rg_done (by kernel_rfl) ?_
          go_wp2_with fail
          go_meet
          case rel => exact ⟨p5, p6, rfl, rfl, hb, a5, a6, b6.keep hS (by simp)⟩
      · refine wp_alB (zs := p0) rfl (by kernel_rfl) (fun p5 q5 a5 => ?_)
        try (have hne : p5 ≠ p6 := by have := a6.lt; omega)
        replace q5 := Nat.le_trans hS.1 q5
        refine hK _ _ (hS.alloc _) (fun hS => ?_)
        clear hK K
        try replace a6 := a6.old (.cells p0.toArray 133)
        replace hb := hb.alloc hb.size (.cells p0.toArray 133)
        try simp only [Act.put, List.setIfInBounds_toArray, List.set_cons_zero, List.set_cons_succ]
        refine rg_two 5 7 rfl rfl (by kernel_rfl) (by rfl) (by rfl) (fun K hK => ?_) (fun K hK => ?_)
        · go_simp
          refine (HG2.out _).mono ?_
          rintro e w1 ⟨rfl, h1⟩
          refine hK _ _ (hS.call h1) (fun hS => ?_)
          clear hK K
          try replace a5 := a5.call h1
          try replace a6 := a6.call h1
          replace hb := bthen hb h1
          clear h1
          try simp only [Act.put, List.setIfInBounds_toArray, List.set_cons_zero, List.set_cons_succ]
          refine rg_eff 7 rfl (by kernel_rfl) (by rfl) (fun K hK => ?_)
          refine wp_alB (zs := p0) rfl (by kernel_rfl) (fun p6 q6 a6 => ?_)
          try (have hne : p5 ≠ p6 := by have := a5.lt; omega)
          replace q6 := Nat.le_trans hS.1 q6
          refine hK _ _ (hS.alloc _) (fun hS => ?_)
          clear hK K
          try replace a5 := a5.old (.cells p0.toArray 133)
          replace hb := hb.alloc hb.size (.cells p0.toArray 133)
          try simp only [Act.put, List.setIfInBounds_toArray, List.set_cons_zero, List.set_cons_succ]
          refine rg_eff 8 rfl (by kernel_rfl) (by rfl) (fun K hK => ?_)
          refine wp_st (vs := V1 ++ V2) rfl rfl rfl a5 (by rw [p0_len, pt_len HV1.out HV2.out]) (wholeV HV1.out HV2.out) (pt_one HV1.out HV2.out) ?_
          refine hK _ _ (hS.row (.inr q5) _) (fun hS => ?_)
          clear hK K
          replace a5 := a5.row (V1 ++ V2)
          replace a6 := a6.rowOther (g := p5) (V1 ++ V2).toArray (by omega)
          replace hb := below_row hb (g := p5) (by omega) (V1 ++ V2).toArray
          try simp only [Act.put, List.setIfInBounds_toArray, List.set_cons_zero, List.set_cons_succ]
          refine rg_eff 9 rfl (by kernel_rfl) (by rfl) (fun K hK => ?_)
          refine wp_st (vs := W1 ++ W2) rfl rfl rfl a6 (by rw [p0_len, pt_len HW1.out HW2.out]) (wholeV HW1.out HW2.out) (pt_one HW1.out HW2.out) ?_
          refine hK _ _ (hS.row (.inr q6) _) (fun hS => ?_)
          clear hK K
          replace a6 := a6.row (W1 ++ W2)
          replace a5 := a5.rowOther (g := p6) (W1 ++ W2).toArray (by omega)
          replace hb := below_row hb (g := p6) (by omega) (W1 ++ W2).toArray
          try simp only [Act.put, List.setIfInBounds_toArray, List.set_cons_zero, List.set_cons_succ]
          refine rg_done (by kernel_rfl) ?_
          go_wp2_with fail
          go_meet
          case rel => exact ⟨p5, p6, rfl, rfl, hb, a5, a6, b6.keep hS (by simp)⟩
        · refine wp_alB (zs := p0) rfl (by kernel_rfl) (fun p6 q6 a6 => ?_)
          try (have hne : p5 ≠ p6 := by have := a5.lt; omega)
          replace q6 := Nat.le_trans hS.1 q6
          refine hK _ _ (hS.alloc _) (fun hS => ?_)
          clear hK K
          try replace a5 := a5.old (.cells p0.toArray 133)
          replace hb := hb.alloc hb.size (.cells p0.toArray 133)
          try simp only [Act.put, List.setIfInBounds_toArray, List.set_cons_zero, List.set_cons_succ]
          refine rg_eff 5 rfl (by kernel_rfl) (by rfl) (fun K hK => ?_)
          go_simp
          refine (HG2.out _).mono ?_
          rintro e w1 ⟨rfl, h1⟩
          refine hK _ _ (hS.call h1) (fun hS => ?_)
          clear hK K
          try replace a5 := a5.call h1
          try replace a6 := a6.call h1
          replace hb := bthen hb h1
          clear h1
          try simp only [Act.put, List.setIfInBounds_toArray, List.set_cons_zero, List.set_cons_succ]
          refine rg_eff 8 rfl (by kernel_rfl) (by rfl) (fun K hK => ?_)
          refine wp_st (vs := V1 ++ V2) rfl rfl rfl a5 (by rw [p0_len, pt_len HV1.out HV2.out]) (wholeV HV1.out HV2.out) (pt_one HV1.out HV2.out) ?_
          refine hK _ _ (hS.row (.inr q5) _) (fun hS => ?_)
          clear hK K
          replace a5 := a5.row (V1 ++ V2)
          replace a6 := a6.rowOther (g := p5) (V1 ++ V2).toArray (by omega)
          replace hb := below_row hb (g := p5) (by omega) (V1 ++ V2).toArray
          try simp only [Act.put, List.setIfInBounds_toArray, List.set_cons_zero, List.set_cons_succ]
          refine rg_eff 9 rfl (by kernel_rfl) (by rfl) (fun K hK => ?_)
          refine wp_st (vs := W1 ++ W2) rfl rfl rfl a6 (by rw [p0_len, pt_len HW1.out HW2.out]) (wholeV HW1.out HW2.out) (pt_one HW1.out HW2.out) ?_
          refine hK _ _ (hS.row (.inr q6) _) (fun hS => ?_)
          clear hK K
          replace a6 := a6.row (W1 ++ W2)
          replace a5 := a5.rowOther (g := p6) (W1 ++ W2).toArray (by omega)
          replace hb := below_row hb (g := p6) (by omega) (W1 ++ W2).toArray
          try simp only [Act.put, List.setIfInBounds_toArray, List.set_cons_zero, List.set_cons_succ]
          refine rg_done (by kernel_rfl) ?_
          go_wp2_with fail
          go_meet
          case rel => exact ⟨p5, p6, rfl, rfl, hb, a5, a6, b6.keep hS (by simp)⟩
      · refine wp_alB (zs := p0) rfl (by kernel_rfl) (fun p6 q6 a6 => ?_)
        try (have hne : p5 ≠ p6 := by have := a5.lt; omega)
        replace q6 := Nat.le_trans hS.1 q6
        refine hK _ _ (hS.alloc _) (fun hS => ?_)
        clear hK K
        try replace a5 := a5.old (.cells p0.toArray 133)
        replace hb := hb.alloc hb.size (.cells p0.toArray 133)
        try simp only [Act.put, List.setIfInBounds_toArray, List.set_cons_zero, List.set_cons_succ]
        refine rg_two 5 6 rfl rfl (by kernel_rfl) (by rfl) (by rfl) (fun K hK => ?_) (fun K hK => ?_)
        · go_simp
          refine (HG2.out _).mono ?_
          rintro e w1 ⟨rfl, h1⟩
          refine hK _ _ (hS.call h1) (fun hS => ?_)
          clear hK K
          try replace a5 := a5.call h1
          try replace a6 := a6.call h1
          replace hb := bthen hb h1
          clear h1
          try simp only [Act.put, List.setIfInBounds_toArray, List.set_cons_zero, List.set_cons_succ]
          refine rg_eff 6 rfl (by kernel_rfl) (by rfl) (fun K hK => ?_)
          refine wp_alB (zs := p0) rfl (by kernel_rfl) (fun p5 q5 a5 => ?_)
          try (have hne : p5 ≠ p6 := by have := a6.lt; omega)
          replace q5 := Nat.le_trans hS.1 q5
          refine hK _ _ (hS.alloc _) (fun hS => ?_)
          clear hK K
          try replace a6 := a6.old (.cells p0.toArray 133)
          replace hb := hb.alloc hb.size (.cells p0.toArray 133)
          try simp only [Act.put, List.setIfInBounds_toArray, List.set_cons_zero, List.set_cons_succ]
          refine rg_eff 8 rfl (by kernel_rfl) (by rfl) (fun K hK => ?_)
          refine wp_st (vs := V1 ++ V2) rfl rfl rfl a5 (by rw [p0_len, pt_len HV1.out HV2.out]) (wholeV HV1.out HV2.out) (pt_one HV1.out HV2.out) ?_
          refine hK _ _ (hS.row (.inr q5) _) (fun hS => ?_)
          clear hK K
          replace a5 := a5.row (V1 ++ V2)
          replace a6 := a6.rowOther (g := p5) (V1 ++ V2).toArray (by omega)
          replace hb := below_row hb (g := p5) (by omega) (V1 ++ V2).toArray
          try simp only [Act.put, List.setIfInBounds_toArray, List.set_cons_zero, List.set_cons_succ]
          refine rg_eff 9 rfl (by kernel_rfl) (by rfl) (fun K hK => ?_)
          refine wp_st (vs := W1 ++ W2) rfl rfl rfl a6 (by rw [p0_len, pt_len HW1.out HW2.out]) (wholeV HW1.out HW2.out) (pt_one HW1.out HW2.out) ?_
          refine hK _ _ (hS.row (.inr q6) _) (fun hS => ?_)
          clear hK K
          replace a6 := a6.row (W1 ++ W2)
          replace a5 := a5.rowOther (g := p6) (W1 ++ W2).toArray (by omega)
          replace hb := below_row hb (g := p6) (by omega) (W1 ++ W2).toArray
          try simp only [Act.put, List.setIfInBounds_toArray, List.set_cons_zero, List.set_cons_succ]
          refine rg_done (by kernel_rfl) ?_
          go_wp2_with fail
          go_meet
          case rel => exact ⟨p5, p6, rfl, rfl, hb, a5, a6, b6.keep hS (by simp)⟩
        · refine wp_alB (zs := p0) rfl (by kernel_rfl) (fun p5 q5 a5 => ?_)
          try (have hne : p5 ≠ p6 := by have := a6.lt; omega)
          replace q5 := Nat.le_trans hS.1 q5
          refine hK _ _ (hS.alloc _) (fun hS => ?_)
          clear hK K
          try replace a6 := a6.old (.cells p0.toArray 133)
          replace hb := hb.alloc hb.size (.cells p0.toArray 133)
          try simp only [Act.put, List.setIfInBounds_toArray, List.set_cons_zero, List.set_cons_succ]
          refine rg_eff 5 rfl (by kernel_rfl) (by rfl) (fun K hK => ?_)
          go_simp
          refine (HG2.out _).mono ?_
          rintro e w1 ⟨rfl, h1⟩
          refine hK _ _ (hS.call h1) (fun hS => ?_)
          clear hK K
          try replace a5 := a5.call h1
          try replace a6 := a6.call h1
          replace hb := bthen hb h1
          clear h1
          try simp only [Act.put, List.setIfInBounds_toArray, List.set_cons_zero, List.set_cons_succ]
          refine rg_eff 8 rfl (by kernel_rfl) (by rfl) (fun K hK => ?_)
          refine wp_st (vs := V1 ++ V2) rfl rfl rfl a5 (by rw [p0_len, pt_len HV1.out HV2.out]) (wholeV HV1.out HV2.out) (pt_one HV1.out HV2.out) ?_
          refine hK _ _ (hS.row (.inr q5) _) (fun hS => ?_)
          clear hK K
          replace a5 := a5.row (V1 ++ V2)
          replace a6 := a6.rowOther (g := p5) (V1 ++ V2).toArray (by omega)
          replace hb := below_row hb (g := p5) (by omega) (V1 ++ V2).toArray
          try simp only [Act.put, List.setIfInBounds_toArray, List.set_cons_zero, List.set_cons_succ]
          refine rg_eff 9 rfl (by kernel_rfl) (by rfl) (fun K hK => ?_)
          refine wp_st (vs := W1 ++ W2) rfl rfl rfl a6 (by rw [p0_len, pt_len HW1.out HW2.out]) (wholeV HW1.out HW2.out) (pt_one HW1.out HW2.out) ?_
          refine hK _ _ (hS.row (.inr q6) _) (fun hS => ?_)
          clear hK K
          replace a6 := a6.row (W1 ++ W2)
          replace a5 := a5.rowOther (g := p6) (W1 ++ W2).toArray (by omega)
          replace hb := below_row hb (g := p6) (by omega) (W1 ++ W2).toArray
          try simp only [Act.put, List.setIfInBounds_toArray, List.set_cons_zero, List.set_cons_succ]
          refine rg_done (by kernel_rfl) ?_
          go_wp2_with fail
          go_meet
          case rel => exact ⟨p5, p6, rfl, rfl, hb, a5, a6, b6.keep hS (by simp)⟩
    · refine wp_alB (zs := p0) rfl (by kernel_rfl) (fun p5 q5 a5 => ?_)
      try (have hne : p5 ≠ p6 := by have := a6.lt; omega)
      replace q5 := Nat.le_trans hS.1 q5
      refine hK _ _ (hS.alloc _) (fun hS => ?_)
      clear hK K
      try replace a6 := a6.old (.cells p0.toArray 133)
      replace hb := hb.alloc hb.size (.cells p0.toArray 133)
      try simp only [Act.put, List.setIfInBounds_toArray, List.set_cons_zero, List.set_cons_succ]
      refine rg_two 2 7 rfl rfl (by kernel_rfl) (by rfl) (by rfl) (fun K hK => ?_) (fun K hK => ?_)
      · go_simp
        refine (HG1.out _).mono ?_
        rintro e w1 ⟨rfl, h1⟩
        refine hK _ _ (hS.call h1) (fun hS => ?_)
        clear hK K
        try replace a5 := a5.call h1
        try replace a6 := a6.call h1
        replace hb := bthen hb h1
        clear h1
        try simp only [Act.put, List.setIfInBounds_toArray, List.set_cons_zero, List.set_cons_succ]
        refine rg_two 5 7 rfl rfl (by kernel_rfl) (by rfl) (by rfl) (fun K hK => ?_) (fun K hK => ?_)
        · go_simp
          refine (HG2.out _).mono ?_
          rintro e w1 ⟨rfl, h1⟩
          refine hK _ _ (hS.call h1) (fun hS => ?_)
          clear hK K
          try replace a5 := a5.call h1
          try replace a6 := a6.call h1
          replace hb := bthen hb h1
          clear h1
          try simp only [Act.put, List.setIfInBounds_toArray, List.set_cons_zero, List.set_cons_succ]
          refine rg_eff 7 rfl (by kernel_rfl) (by rfl) (fun K hK => ?_)
          refine wp_alB (zs := p0) rfl (by kernel_rfl) (fun p6 q6 a6 => ?_)
          try (have hne : p5 ≠ p6 := by have := a5.lt; omega)
          replace q6 := Nat.le_trans hS.1 q6
          refine hK _ _ (hS.alloc _) (fun hS => ?_)
          clear hK K
          try replace a5 := a5.old (.cells p0.toArray 133)
          replace hb := hb.alloc hb.size (.cells p0.toArray 133)
          try simp only [Act.put, List.setIfInBounds_toArray, List.set_cons_zero, List.set_cons_succ]
          refine rg_eff 8 rfl (by kernel_rfl) (by rfl) (fun K hK => ?_)
          refine wp_st (vs := V1 ++ V2) rfl rfl rfl a5 (by rw [p0_len, pt_len HV1.out HV2.out]) (wholeV HV1.out HV2.out) (pt_one HV1.out HV2.out) ?_
          refine hK _ _ (hS.row (.inr q5) _) (fun hS => ?_)
          clear hK K
          replace a5 := a5.row (V1 ++ V2)
          replace a6 := a6.rowOther (g := p5) (V1 ++ V2).toArray (by omega)
          replace hb := below_row hb (g := p5) (by omega) (V1 ++ V2).toArray
          try simp only [Act.put, List.setIfInBounds_toArray, List.set_cons_zero, List.set_cons_succ]
          refine rg_eff 9 rfl (by kernel_rfl) (by rfl) (fun K hK => ?_)
          refine wp_st (vs := W1 ++ W2) rfl rfl rfl a6 (by rw [p0_len, pt_len HW1.out HW2.out]) (wholeV HW1.out HW2.out) (pt_one HW1.out HW2.out) ?_
          refine hK _ _ (hS.row (.inr q6) _) (fun hS => ?_)
          clear hK K
          replace a6 := a6.row (W1 ++ W2)
          replace a5 := a5.rowOther (g := p6) (W1 ++ W2).toArray (by omega)
          replace hb := below_row hb (g := p6) (by omega) (W1 ++ W2).toArray
          try simp only [Act.put, List.setIfInBounds_toArray, List.set_cons_zero, List.set_cons_succ]
          refine rg_done (by kernel_rfl) ?_
          go_wp2_with fail
          go_meet
          case rel => exact ⟨p5, p6, rfl, rfl, hb, a5, a6, b6.keep hS (by simp)⟩
        · refine wp_alB (zs := p0) rfl (by kernel_rfl) (fun p6 q6 a6 => ?_)
          try (have hne : p5 ≠ p6 := by have := a5.lt; omega)
          replace q6 := Nat.le_trans hS.1 q6
          refine hK _ _ (hS.alloc _) (fun hS => ?_)
          clear hK K
          try replace a5 := a5.old (.cells p0.toArray 133)
          replace hb := hb.alloc hb.size (.cells p0.toArray 133)
          try simp only [Act.put, List.setIfInBounds_toArray, List.set_cons_zero, List.set_cons_succ]
          refine rg_eff 5 rfl (by kernel_rfl) (by rfl) (fun K hK => ?_)
          go_simp
          refine (HG2.out _).mono ?_
          rintro e w1 ⟨rfl, h1⟩
          refine hK _ _ (hS.call h1) (fun hS => ?_)
          clear hK K
          try replace a5 := a5.call h1
          try replace a6 := a6.call h1
          replace hb := bthen hb h1
          clear h1
          try simp only [Act.put, List.setIfInBounds_toArray, List.set_cons_zero, List.set_cons_succ]
          refine rg_eff 8 rfl (by kernel_rfl) (by rfl) (fun K hK => ?_)
          refine wp_st (vs := V1 ++ V2) rfl rfl rfl a5 (by rw [p0_len, pt_len HV1.out HV2.out]) (wholeV HV1.out HV2.out) (pt_one HV1.out HV2.out) ?_
          refine hK _ _ (hS.row (.inr q5) _) (fun hS => ?_)
          clear hK K
          replace a5 := a5.row (V1 ++ V2)
          replace a6 := a6.rowOther (g := p5) (V1 ++ V2).toArray (by omega)
          replace hb := below_row hb (g := p5) (by omega) (V1 ++ V2).toArray
          try simp only [Act.put, List.setIfInBounds_toArray, List.set_cons_zero, List.set_cons_succ]
          refine rg_eff 9 rfl (by kernel_rfl) (by rfl) (fun K hK => ?_)
          refine wp_st (vs := W1 ++ W2) rfl rfl rfl a6 (by rw [p0_len, pt_len HW1.out HW2.out]) (wholeV HW1.out HW2.out) (pt_one HW1.out HW2.out) ?_
          refine hK _ _ (hS.row (.inr q6) _) (fun hS => ?_)
          clear hK K
          replace a6 := a6.row (W1 ++ W2)
          replace a5 := a5.rowOther (g := p6) (W1 ++ W2).toArray (by omega)
          replace hb := below_row hb (g := p6) (by omega) (W1 ++ W2).toArray
          try simp only [Act.put, List.setIfInBounds_toArray, List.set_cons_zero, List.set_cons_succ]
          refine rg_done (by kernel_rfl) ?_
          go_wp2_with fail
          go_meet
          case rel => exact ⟨p5, p6, rfl, rfl, hb, a5, a6, b6.keep hS (by simp)⟩
      · refine wp_alB (zs := p0) rfl (by kernel_rfl) (fun p6 q6 a6 => ?_)
        try (have hne : p5 ≠ p6 := by have := a5.lt; omega)
        replace q6 := Nat.le_trans hS.1 q6
        refine hK _ _ (hS.alloc _) (fun hS => ?_)
        clear hK K
        try replace a5 := a5.old (.cells p0.toArray 133)
        replace hb := hb.alloc hb.size (.cells p0.toArray 133)
        try simp only [Act.put, List.setIfInBounds_toArray, List.set_cons_zero, List.set_cons_succ]
        refine rg_eff 2 rfl (by kernel_rfl) (by rfl) (fun K hK => ?_)
        go_simp
        refine (HG1.out _).mono ?_
        rintro e w1 ⟨rfl, h1⟩
        refine hK _ _ (hS.call h1) (fun hS => ?_)
        clear hK K
        try replace a5 := a5.call h1
        try replace a6 := a6.call h1
        replace hb := bthen hb h1
        clear h1
        try simp only [Act.put, List.setIfInBounds_toArray, List.set_cons_zero, List.set_cons_succ]
        refine rg_eff 5 rfl (by kernel_rfl) (by rfl) (fun K hK => ?_)
        go_simp
        refine (HG2.out _).mono ?_
        rintro e w1 ⟨rfl, h1⟩
        refine hK _ _ (hS.call h1) (fun hS => ?_)
        clear hK K
        try replace a5 := a5.call h1
        try replace a6 := a6.call h1
        replace hb := bthen hb h1
        clear h1
        try simp only [Act.put, List.setIfInBounds_toArray, List.set_cons_zero, List.set_cons_succ]
        refine rg_eff 8 rfl (by kernel_rfl) (by rfl) (fun K hK => ?_)
        refine wp_st (vs := V1 ++ V2) rfl rfl rfl a5 (by rw [p0_len, pt_len HV1.out HV2.out]) (wholeV HV1.out HV2.out) (pt_one HV1.out HV2.out) ?_
        refine hK _ _ (hS.row (.inr q5) _) (fun hS => ?_)
        clear hK K
        replace a5 := a5.row (V1 ++ V2)
        replace a6 := a6.rowOther (g := p5) (V1 ++ V2).toArray (by omega)
        replace hb := below_row hb (g := p5) (by omega) (V1 ++ V2).toArray
        try simp only [Act.put, List.setIfInBounds_toArray, List.set_cons_zero, List.set_cons_succ]
        refine rg_eff 9 rfl (by kernel_rfl) (by rfl) (fun K hK => ?_)
        refine wp_st (vs := W1 ++ W2) rfl rfl rfl a6 (by rw [p0_len, pt_len HW1.out HW2.out]) (wholeV HW1.out HW2.out) (pt_one HW1.out HW2.out) ?_
        refine hK _ _ (hS.row (.inr q6) _) (fun hS => ?_)
        clear hK K
        replace a6 := a6.row (W1 ++ W2)
        replace a5 := a5.rowOther (g := p6) (W1 ++ W2).toArray (by omega)
        replace hb := below_row hb (g := p6) (by omega) (W1 ++ W2).toArray
        try simp only [Act.put, List.setIfInBounds_toArray, List.set_cons_zero, List.set_cons_succ]
        refine rg_done (by kernel_rfl) ?_
        go_wp2_with fail
        go_meet
        case rel => exact ⟨p5, p6, rfl, rfl, hb, a5, a6, b6.keep hS (by simp)⟩
    · refine wp_alB (zs := p0) rfl (by kernel_rfl) (fun p6 q6 a6 => ?_)
      try (have hne : p5 ≠ p6 := by have := a5.lt; omega)
      replace q6 := Nat.le_trans hS.1 q6
      refine hK _ _ (hS.alloc _) (fun hS => ?_)
      clear hK K
      try replace a5 := a5.old (.cells p0.toArray 133)
      replace hb := hb.alloc hb.size (.cells p0.toArray 133)
      try simp only [Act.put, List.setIfInBounds_toArray, List.set_cons_zero, List.set_cons_succ]
      refine rg_two 2 6 rfl rfl (by kernel_rfl) (by rfl) (by rfl) (fun K hK => ?_) (fun K hK => ?_)
      · go_simp
        refine (HG1.out _).mono ?_
        rintro e w1 ⟨rfl, h1⟩
        refine hK _ _ (hS.call h1) (fun hS => ?_)
        clear hK K
        try replace a5 := a5.call h1
        try replace a6 := a6.call h1
        replace hb := bthen hb h1
        clear h1
        try simp only [Act.put, List.setIfInBounds_toArray, List.set_cons_zero, List.set_cons_succ]
        refine rg_two 5 6 rfl rfl (by kernel_rfl) (by rfl) (by rfl) (fun K hK => ?_) (fun K hK => ?_)
        · go_simp
          refine (HG2.out _).mono ?_
          rintro e w1 ⟨rfl, h1⟩
          refine hK _ _ (hS.call h1) (fun hS => ?_)
          clear hK K
          try replace a5 := a5.call h1
          try replace a6 := a6.call h1
          replace hb := bthen hb h1
          clear h1
          try simp only [Act.put, List.setIfInBounds_toArray, List.set_cons_zero, List.set_cons_succ]
          refine rg_eff 6 rfl (by kernel_rfl) (by rfl) (fun K hK => ?_)
          refine wp_alB (zs := p0) rfl (by kernel_rfl) (fun p5 q5 a5 => ?_)
          try (have hne : p5 ≠ p6 := by have := a6.lt; omega)
          replace q5 := Nat.le_trans hS.1 q5
          refine hK _ _ (hS.alloc _) (fun hS => ?_)
          clear hK K
          try replace a6 := a6.old (.cells p0.toArray 133)
          replace hb := hb.alloc hb.size (.cells p0.toArray 133)
          try simp only [Act.put, List.setIfInBounds_toArray, List.set_cons_zero, List.set_cons_succ]
          refine rg_eff 8 rfl (by kernel_rfl) (by rfl) (fun K hK => ?_)
          refine wp_st (vs := V1 ++ V2) rfl rfl rfl a5 (by rw [p0_len, pt_len HV1.out HV2.out]) (wholeV HV1.out HV2.out) (pt_one HV1.out HV2.out) ?_
          refine hK _ _ (hS.row (.inr q5) _) (fun hS => ?_)
          clear hK K
          replace a5 := a5.row (V1 ++ V2)
          replace a6 := a6.rowOther (g := p5) (V1 ++ V2).toArray (by omega)
          replace hb := below_row hb (g := p5) (by omega) (V1 ++ V2).toArray
          try simp only [Act.put, List.setIfInBounds_toArray, List.set_cons_zero, List.set_cons_succ]
          refine rg_eff 9 rfl (by kernel_rfl) (by rfl) (fun K hK => ?_)
          refine wp_st (vs := W1 ++ W2) rfl rfl rfl a6 (by rw [p0_len, pt_len HW1.out HW2.out]) (wholeV HW1.out HW2.out) (pt_one HW1.out HW2.out) ?_
          refine hK _ _ (hS.row (.inr q6) _) (fun hS => ?_)
          clear hK K
          replace a6 := a6.row (W1 ++ W2)
          replace a5 := a5.rowOther (g := p6) (W1 ++ W2).toArray (by omega)
          replace hb := below_row hb (g := p6) (by omega) (W1 ++ W2).toArray
          try simp only [Act.put, List.setIfInBounds_toArray, List.set_cons_zero, List.set_cons_succ]
          refine rg_done (by kernel_rfl) ?_
          go_wp2_with fail
          go_meet
          case rel => exact ⟨p5, p6, rfl, rfl, hb, a5, a6, b6.keep hS (by simp)⟩
        · refine wp_alB (zs := p0) rfl (by kernel_rfl) (fun p5 q5 a5 => ?_)
          try (have hne : p5 ≠ p6 := by have := a6.lt; omega)
          replace q5 := Nat.le_trans hS.1 q5
          refine hK _ _ (hS.alloc _) (fun hS => ?_)
          clear hK K
          try replace a6 := a6.old (.cells p0.toArray 133)
          replace hb := hb.alloc hb.size (.cells p0.toArray 133)
          try simp only [Act.put, List.setIfInBounds_toArray, List.set_cons_zero, List.set_cons_succ]
          refine rg_eff 5 rfl (by kernel_rfl) (by rfl) (fun K hK => ?_)
          go_simp
          refine (HG2.out _).mono ?_
          rintro e w1 ⟨rfl, h1⟩
          refine hK _ _ (hS.call h1) (fun hS => ?_)
          clear hK K
          try replace a5 := a5.call h1
          try replace a6 := a6.call h1
          replace hb := bthen hb h1
          clear h1
          try simp only [Act.put, List.setIfInBounds_toArray, List.set_cons_zero, List.set_cons_succ]
          refine rg_eff 8 rfl (by kernel_rfl) (by rfl) (fun K hK => ?_)
          refine wp_st (vs := V1 ++ V2) rfl rfl rfl a5 (by rw [p0_len, pt_len HV1.out HV2.out]) (wholeV HV1.out HV2.out) (pt_one HV1.out HV2.out) ?_
          refine hK _ _ (hS.row (.inr q5) _) (fun hS => ?_)
          clear hK K
          replace a5 := a5.row (V1 ++ V2)
          replace a6 := a6.rowOther (g := p5) (V1 ++ V2).toArray (by omega)
          replace hb := below_row hb (g := p5) (by omega) (V1 ++ V2).toArray
          try simp only [Act.put, List.setIfInBounds_toArray, List.set_cons_zero, List.set_cons_succ]
          refine rg_eff 9 rfl (by kernel_rfl) (by rfl) (fun K hK => ?_)
          refine wp_st (vs := W1 ++ W2) rfl rfl rfl a6 (by rw [p0_len, pt_len HW1.out HW2.out]) (wholeV HW1.out HW2.out) (pt_one HW1.out HW2.out) ?_
          refine hK _ _ (hS.row (.inr q6) _) (fun hS => ?_)
          clear hK K
          replace a6 := a6.row (W1 ++ W2)
          replace a5 := a5.rowOther (g := p6) (W1 ++ W2).toArray (by omega)
          replace hb := below_row hb (g := p6) (by omega) (W1 ++ W2).toArray
          try simp only [Act.put, List.setIfInBounds_toArray, List.set_cons_zero, List.set_cons_succ]
          refine rg_done (by kernel_rfl) ?_
          go_wp2_with fail
          go_meet
          case rel => exact ⟨p5, p6, rfl, rfl, hb, a5, a6, b6.keep hS (by simp)⟩
      · refine wp_alB (zs := p0) rfl (by kernel_rfl) (fun p5 q5 a5 => ?_)
        try (have hne : p5 ≠ p6 := by have := a6.lt; omega)
        replace q5 := Nat.le_trans hS.1 q5
        refine hK _ _ (hS.alloc _) (fun hS => ?_)
        clear hK K
        try replace a6 := a6.old (.cells p0.toArray 133)
        replace hb := hb.alloc hb.size (.cells p0.toArray 133)
        try simp only [Act.put, List.setIfInBounds_toArray, List.set_cons_zero, List.set_cons_succ]
        refine rg_eff 2 rfl (by kernel_rfl) (by rfl) (fun K hK => ?_)
        go_simp
        refine (HG1.out _).mono ?_
        rintro e w1 ⟨rfl, h1⟩
        refine hK _ _ (hS.call h1) (fun hS => ?_)
        clear hK K
        try replace a5 := a5.call h1
        try replace a6 := a6.call h1
        replace hb := bthen hb h1
        clear h1
        try simp only [Act.put, List.setIfInBounds_toArray, List.set_cons_zero, List.set_cons_succ]
        refine rg_eff 5 rfl (by kernel_rfl) (by rfl) (fun K hK => ?_)
        go_simp
        refine (HG2.out _).mono ?_
        rintro e w1 ⟨rfl, h1⟩
        refine hK _ _ (hS.call h1) (fun hS => ?_)
        clear hK K
        try replace a5 := a5.call h1
        try replace a6 := a6.call h1
        replace hb := bthen hb h1
        clear h1
        try simp only [Act.put, List.setIfInBounds_toArray, List.set_cons_zero, List.set_cons_succ]
        refine rg_eff 8 rfl (by kernel_rfl) (by rfl) (fun K hK => ?_)
        refine wp_st (vs := V1 ++ V2) rfl rfl rfl a5 (by rw [p0_len, pt_len HV1.out HV2.out]) (wholeV HV1.out HV2.out) (pt_one HV1.out HV2.out) ?_
        refine hK _ _ (hS.row (.inr q5) _) (fun hS => ?_)
        clear hK K
        replace a5 := a5.row (V1 ++ V2)
        replace a6 := a6.rowOther (g := p5) (V1 ++ V2).toArray (by omega)
        replace hb := below_row hb (g := p5) (by omega) (V1 ++ V2).toArray
        try simp only [Act.put, List.setIfInBounds_toArray, List.set_cons_zero, List.set_cons_succ]
        refine rg_eff 9 rfl (by kernel_rfl) (by rfl) (fun K hK => ?_)
        refine wp_st (vs := W1 ++ W2) rfl rfl rfl a6 (by rw [p0_len, pt_len HW1.out HW2.out]) (wholeV HW1.out HW2.out) (pt_one HW1.out HW2.out) ?_
        refine hK _ _ (hS.row (.inr q6) _) (fun hS => ?_)
        clear hK K
        replace a6 := a6.row (W1 ++ W2)
        replace a5 := a5.rowOther (g := p6) (W1 ++ W2).toArray (by omega)
        replace hb := below_row hb (g := p6) (by omega) (W1 ++ W2).toArray
        try simp only [Act.put, List.setIfInBounds_toArray, List.set_cons_zero, List.set_cons_succ]
        refine rg_done (by kernel_rfl) ?_
        go_wp2_with fail
        go_meet
        case rel => exact ⟨p5, p6, rfl, rfl, hb, a5, a6, b6.keep hS (by simp)⟩
  case rest =>
    clear hb b3 b4 b5 b6 hsz
    obtain ⟨q, q', rfl, rfl, hb, b8, b9, b6⟩ := hcut
    go_wp2_with fail
    have n8 := b8.ne b6 (lv_ne HV1.out HV2.out _ _ _ _)
    have n9 := b9.ne b6 (lv_ne HW1.out HW2.out _ _ _ _)
    refine rg_start [w.heap.size + 1 + 1 + 1] (by kernel_rfl) (fun hS => ?_)
    replace hb := hb.drew
    replace b6 := b6.drew
    refine rg_take 0 rfl (by kernel_rfl) (by kernel_rfl) (by kernel_rfl) (by rfl) hS (v := ?_) ?_ ?_
    rotate_left
    · (intro w' hS'; go_simp <;> try with_reducible rfl)
    try simp only [Act.put, List.setIfInBounds_toArray, List.set_cons_zero, List.set_cons_succ]
    refine rg_ldP 1 rfl (by kernel_rfl) (by kernel_rfl) (by kernel_rfl) (by rfl) hS rfl rfl b8 (by simp <;> omega) partX HV1.out.whole ?_
    try simp only [Act.put, List.setIfInBounds_toArray, List.set_cons_zero, List.set_cons_succ]
    refine rg_take 2 rfl (by kernel_rfl) (by kernel_rfl) (by kernel_rfl) (by rfl) hS (v := ?_) ?_ ?_
    rotate_left
    · (intro w' hS'; go_simp <;> try with_reducible rfl)
    try simp only [Act.put, List.setIfInBounds_toArray, List.set_cons_zero, List.set_cons_succ]
    refine rg_ldP 3 rfl (by kernel_rfl) (by kernel_rfl) (by kernel_rfl) (by rfl) hS rfl rfl b9 (by simp <;> omega) (partY HW1.out) HW2.out.whole ?_
    try simp only [Act.put, List.setIfInBounds_toArray, List.set_cons_zero, List.set_cons_succ]
    refine rg_take 5 rfl (by kernel_rfl) (by kernel_rfl) (by kernel_rfl) (by rfl) hS (v := ?_) ?_ ?_
    rotate_left
    · (intro w' hS'; go_simp <;> try with_reducible rfl)
    try simp only [Act.put, List.setIfInBounds_toArray, List.set_cons_zero, List.set_cons_succ]
    refine rg_ldP 6 rfl (by kernel_rfl) (by kernel_rfl) (by kernel_rfl) (by rfl) hS rfl rfl b8 (by simp <;> omega) (partY HV1.out) HV2.out.whole ?_
    try simp only [Act.put, List.setIfInBounds_toArray, List.set_cons_zero, List.set_cons_succ]
    refine rg_take 7 rfl (by kernel_rfl) (by kernel_rfl) (by kernel_rfl) (by rfl) hS (v := ?_) ?_ ?_
    rotate_left
    · (intro w' hS'; go_simp <;> try with_reducible rfl)
    try simp only [Act.put, List.setIfInBounds_toArray, List.set_cons_zero, List.set_cons_succ]
    refine rg_ldP 8 rfl (by kernel_rfl) (by kernel_rfl) (by kernel_rfl) (by rfl) hS rfl rfl b9 (by simp <;> omega) partX HW1.out.whole ?_
    try simp only [Act.put, List.setIfInBounds_toArray, List.set_cons_zero, List.set_cons_succ]
    refine rg_eff 4 rfl (by kernel_rfl) (by rfl) (fun K hK => ?_)
    go_simp
    refine (HM1.out _).mono ?_
    rintro e w1 ⟨rfl, h1⟩
    refine hK _ _ (hS.call h1) (fun hS => ?_)
    clear hK K
    replace b6 := b6.call h1
    replace hb := bthen hb h1
    clear h1
    try simp only [Act.put, List.setIfInBounds_toArray, List.set_cons_zero, List.set_cons_succ]
    refine rg_eff 9 rfl (by kernel_rfl) (by rfl) (fun K hK => ?_)
    go_simp
    refine (HM2.out _).mono ?_
    rintro e w1 ⟨rfl, h1⟩
    refine hK _ _ (hS.call h1) (fun hS => ?_)
    clear hK K
    replace b6 := b6.call h1
    replace hb := bthen hb h1
    clear h1
    try simp only [Act.put, List.setIfInBounds_toArray, List.set_cons_zero, List.set_cons_succ]
    refine rg_eff 10 rfl (by kernel_rfl) (by rfl) (fun K hK => ?_)
    go_simp
    refine (HS.out _).mono ?_
    rintro e w1 ⟨rfl, h1⟩
    refine hK _ _ (hS.call h1) (fun hS => ?_)
    clear hK K
    replace b6 := b6.call h1
    replace hb := bthen hb h1
    clear h1
    try simp only [Act.put, List.setIfInBounds_toArray, List.set_cons_zero, List.set_cons_succ]
    refine rg_take 11 rfl (by kernel_rfl) (by kernel_rfl) (by kernel_rfl) (by rfl) hS (v := ?_) ?_ ?_
    rotate_left
    · (intro w' hS'; go_simp <;> try with_reducible rfl)
    try simp only [Act.put, List.setIfInBounds_toArray, List.set_cons_zero, List.set_cons_succ]
    refine rg_take 12 rfl (by kernel_rfl) (by kernel_rfl) (by kernel_rfl) (by rfl) hS (v := ?_) ?_ ?_
    rotate_left
    · (intro w' hS'; go_simp <;> try with_reducible rfl)
    try simp only [Act.put, List.setIfInBounds_toArray, List.set_cons_zero, List.set_cons_succ]
    refine rg_eff 13 rfl (by kernel_rfl) (by rfl) (fun K hK => ?_)
    refine wp_st (vs := N) rfl rfl rfl b6 (by rw [rr_length, HN.out.len]) HN.out.whole HN.out.one ?_
    refine hK _ _ (hS.row (.inl (by simp)) _) (fun hS => ?_)
    clear hK K
    try simp only [Act.put, List.setIfInBounds_toArray, List.set_cons_zero, List.set_cons_succ]
    refine rg_take 14 rfl (by kernel_rfl) (by kernel_rfl) (by kernel_rfl) (by rfl) hS (v := ?_) ?_ ?_
    rotate_left
    · (intro w' hS'; go_simp <;> try with_reducible rfl)
    try simp only [Act.put, List.setIfInBounds_toArray, List.set_cons_zero, List.set_cons_succ]
    refine rg_done (by kernel_rfl) ?_
    go_wp2
    exact ret_ct (cs := N) (v := .bool true) rfl rfl rfl rfl HN.out.whole (b6.row _) ⟨rfl, below_row hb (by omega) _⟩
end Go.Proofs.YtoegjibeomhekaaGreat
