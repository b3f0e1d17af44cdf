/- Package line over the rational numbers: YAt, XAt. -/
import Derived.Test.YtkknaigpdnokkaaGreatLnd
import Derived.Deep.DeepCutAuto
namespace Go.Proofs.YtkknaigpdnokkaaGreat
set_option linter.unusedSimpArgs false
set_option linter.unusedVariables false
open Go.RowKit
set_option maxRecDepth 100000
set_option maxHeartbeats 2000000 in
theorem at_walk {a b c d x s1 s2 s3 s4 s5 s6 : Rat} (hS : Tl 106 #[vl (fq a ++ fq c)] (.bool false)) (hH : Tl 107 #[vl (fq a ++ fq c), vl (fq x)] (.bool true))
    (h1 : Tl 109 #[vl (fq x), vl (fq a)] (vl (fq s1))) (h2 : Tl 110 #[vl (fq a ++ fq c)] (vl (fq s2))) (h3 : Tl 108 #[vl (fq s1), vl (fq s2)] (vl (fq s3))) (h4 : Tl 110 #[vl (fq b ++ fq d)] (vl (fq s4))) (h5 : Tl 111 #[vl (fq s3), vl (fq s4)] (vl (fq s5))) (h6 : Tl 33 #[vl (fq b), vl (fq s5)] (.tuple #[vl (fq s6), .bool true])) :
    Tl 57 #[vc a c b d, vl (fq x)] (.tuple #[vl (fq s6), .bool true]) := by
  intro w
  have H1 := Lib.hid h1
  have H2 := Lib.hid h2
  have H3 := Lib.hid h3
  have H4 := Lib.hid h4
  have H5 := Lib.hid h5
  have H6 := Lib.hid h6
  have HS := Lib.hid hS
  have HH := Lib.hid hH
  clear hS hH h1 h2 h3 h4 h5 h6
  unfold vc vl at *
  unfold Tl at HS HH H1 H2 H3 H4 H5 H6
  have b2 := (((Blk.new w (bx (fq a) (fq b) (fq c) (fq d)) 95 rfl).old (.cells (fq x).toArray 27)).old (.cells (rr false 0 false 0).toArray 27))
  have b3 := ((Blk.new (w.alloc (.cells (bx (fq a) (fq b) (fq c) (fq d)).toArray 95)) (fq x) 27 (b := w.heap.size + 1) (by simp)).old (.cells (rr false 0 false 0).toArray 27))
  have b4 := (Blk.new ((w.alloc (.cells (bx (fq a) (fq b) (fq c) (fq d)).toArray 95)).alloc (.cells (fq x).toArray 27)) (rr false 0 false 0) 27 (b := w.heap.size + 1 + 1) (by simp))
  have hb : Below w.heap.size w (((w.alloc (.cells (bx (fq a) (fq b) (fq c) (fq d)).toArray 95)).alloc (.cells (fq x).toArray 27)).alloc (.cells (rr false 0 false 0).toArray 27)) := ((((Below.refl _ _).alloc (Nat.le_refl _) _).alloc (by simp <;> omega) _).alloc (by simp <;> omega) _)
  have hk : (((w.alloc (.cells (bx (fq a) (fq b) (fq c) (fq d)).toArray 95)).alloc (.cells (fq x).toArray 27)).alloc (.cells (rr false 0 false 0).toArray 27)).heap.size = w.heap.size + 1 + 1 + 1 := by simp
  go_enter Tryz.func57, Tryz.ntmps57
  go_wp2_with (first | (with_reducible refine alR rfl rfl ?_) | (with_reducible refine ldP rfl rfl rfl b2 bx_across (wholeS (rc_q _) (rc_q _)) ?_))
  try rw [show ((w.alloc (.cells (bx (fq a) (fq b) (fq c) (fq d)).toArray 95)).alloc (.cells (fq x).toArray 27)).heap.size = w.heap.size + 1 + 1 by simp]
  clear hk
  refine (HS.out _).mono ?_
  rintro e w1 ⟨rfl, h1⟩
  replace b2 := b2.call h1
  replace b3 := b3.call h1
  replace b4 := b4.call h1
  replace hb := bthen hb h1
  clear h1
  go_wp2_with (first | (refine ldPg (by rfl) rfl rfl b2 bx_across (wholeS (rc_q _) (rc_q _)) ?_) | (refine ldPg (by rfl) rfl rfl b3 (part_all _) (rc_q _).whole ?_))
  refine (HH.out _).mono ?_
  rintro e w1 ⟨rfl, h1⟩
  replace b2 := b2.call h1
  replace b3 := b3.call h1
  replace b4 := b4.call h1
  replace hb := bthen hb h1
  clear h1
  go_wp2_with fail
  have hsz := hb.size
  have l4 := b4.lt
  try simp only [Act.put, List.setIfInBounds_toArray, List.set_cons_zero, List.set_cons_succ]
  go_cut [6] (fun p wx => ∃ q, p = .pointer (some ⟨q, 0, none⟩) ∧ Below w.heap.size w wx ∧ Blk wx q (fq s3) 27 ∧ Blk wx w.heap.size (bx (fq a) (fq b) (fq c) (fq d)) 95 ∧ Blk wx (w.heap.size + 1 + 1) (rr false 0 false 0) 27 ∧ q ≠ w.heap.size + 1 + 1)
  case first =>
    refine rg_start [] (by kernel_rfl) (fun hS => ?_)
    replace hb := hb.drew
    refine rg_ldP 0 rfl (by kernel_rfl) (by kernel_rfl) (by kernel_rfl) (by rfl) hS rfl rfl b3 (by simp <;> omega) (part_all _) (rc_q _).whole ?_
    try simp only [Act.put, List.setIfInBounds_toArray, List.set_cons_zero, List.set_cons_succ]
    refine rg_take 1 rfl (by kernel_rfl) (by kernel_rfl) (by kernel_rfl) (by rfl) hS (v := ?_) ?_ ?_
    rotate_left
    · (intro w' hS'; go_simp <;> try with_reducible rfl)
    try simp only [Act.put, List.setIfInBounds_toArray, List.set_cons_zero, List.set_cons_succ]
    refine rg_take 2 rfl (by kernel_rfl) (by kernel_rfl) (by kernel_rfl) (by rfl) hS (v := ?_) ?_ ?_
    rotate_left
    · (intro w' hS'; go_simp <;> try with_reducible rfl)
    try simp only [Act.put, List.setIfInBounds_toArray, List.set_cons_zero, List.set_cons_succ]
    refine rg_ldP 3 rfl (by kernel_rfl) (by kernel_rfl) (by kernel_rfl) (by rfl) hS rfl rfl b2 (by simp <;> omega) bx_a (rc_q _).whole ?_
    try simp only [Act.put, List.setIfInBounds_toArray, List.set_cons_zero, List.set_cons_succ]
    refine rg_take 5 rfl (by kernel_rfl) (by kernel_rfl) (by kernel_rfl) (by rfl) hS (v := ?_) ?_ ?_
    rotate_left
    · (intro w' hS'; go_simp <;> try with_reducible rfl)
    try simp only [Act.put, List.setIfInBounds_toArray, List.set_cons_zero, List.set_cons_succ]
    refine rg_ldP 6 rfl (by kernel_rfl) (by kernel_rfl) (by kernel_rfl) (by rfl) hS rfl rfl b2 (by simp <;> omega) bx_across (wholeS (rc_q _) (rc_q _)) ?_
    try simp only [Act.put, List.setIfInBounds_toArray, List.set_cons_zero, List.set_cons_succ]
    refine rg_two 4 9 rfl rfl (by kernel_rfl) (by rfl) (by rfl) (fun K hK => ?_) (fun K hK => ?_)
    · go_simp
      refine (H1.out _).mono ?_
      rintro e w1 ⟨rfl, h1⟩
      refine hK _ _ (hS.call h1) (fun hS => ?_)
      clear hK K
      try replace a6 := a6.call h1
      replace hb := bthen hb h1
      clear h1
      try simp only [Act.put, List.setIfInBounds_toArray, List.set_cons_zero, List.set_cons_succ]
      refine rg_two 7 9 rfl rfl (by kernel_rfl) (by rfl) (by rfl) (fun K hK => ?_) (fun K hK => ?_)
      · go_simp
        refine (H2.out _).mono ?_
        rintro e w1 ⟨rfl, h1⟩
        refine hK _ _ (hS.call h1) (fun hS => ?_)
        clear hK K
        try replace a6 := a6.call h1
        replace hb := bthen hb h1
        clear h1
        try simp only [Act.put, List.setIfInBounds_toArray, List.set_cons_zero, List.set_cons_succ]
        refine rg_two 8 9 rfl rfl (by kernel_rfl) (by rfl) (by rfl) (fun K hK => ?_) (fun K hK => ?_)
        · go_simp
          refine (H3.out _).mono ?_
          rintro e w1 ⟨rfl, h1⟩
          refine hK _ _ (hS.call h1) (fun hS => ?_)
          clear hK K
          try replace a6 := a6.call h1
          replace hb := bthen hb h1
          clear h1
          try simp only [Act.put, List.setIfInBounds_toArray, List.set_cons_zero, List.set_cons_succ]
          refine rg_eff 9 rfl (by kernel_rfl) (by rfl) (fun K hK => ?_)
          refine wp_alB (zs := rr false 0 false 0) rfl (by kernel_rfl) (fun p6 q6 a6 => ?_)
          replace q6 := Nat.le_trans hS.1 q6
          refine hK _ _ (hS.alloc _) (fun hS => ?_)
          clear hK K
          replace hb := hb.alloc hb.size (.cells (rr false 0 false 0).toArray 27)
          try simp only [Act.put, List.setIfInBounds_toArray, List.set_cons_zero, List.set_cons_succ]
          refine rg_eff 10 rfl (by kernel_rfl) (by rfl) (fun K hK => ?_)
          refine wp_st (vs := fq s3) rfl rfl rfl a6 (by rw [rr_length, (rc_q _).len]) (rc_q _).whole (rc_q _).one ?_
          refine hK _ _ (hS.row (.inr q6) _) (fun hS => ?_)
          clear hK K
          replace a6 := a6.row (fq s3)
          replace hb := below_row hb (g := p6) (by omega) (fq s3).toArray
          try simp only [Act.put, List.setIfInBounds_toArray, List.set_cons_zero, List.set_cons_succ]
          refine rg_done (by kernel_rfl) ?_
          go_wp2_with fail
          go_meet
          case rel => exact ⟨p6, rfl, hb, a6, b2.keep hS (by simp), b4.keep hS (by simp), by omega⟩
        · refine wp_alB (zs := rr false 0 false 0) rfl (by kernel_rfl) (fun p6 q6 a6 => ?_)
          replace q6 := Nat.le_trans hS.1 q6
          refine hK _ _ (hS.alloc _) (fun hS => ?_)
          clear hK K
          replace hb := hb.alloc hb.size (.cells (rr false 0 false 0).toArray 27)
          try simp only [Act.put, List.setIfInBounds_toArray, List.set_cons_zero, List.set_cons_succ]
          refine rg_eff 8 rfl (by kernel_rfl) (by rfl) (fun K hK => ?_)
          go_simp
          refine (H3.out _).mono ?_
          rintro e w1 ⟨rfl, h1⟩
          refine hK _ _ (hS.call h1) (fun hS => ?_)
          clear hK K
          try replace a6 := a6.call h1
          replace hb := bthen hb h1
          clear h1
          try simp only [Act.put, List.setIfInBounds_toArray, List.set_cons_zero, List.set_cons_succ]
          refine rg_eff 10 rfl (by kernel_rfl) (by rfl) (fun K hK => ?_)
          refine wp_st (vs := fq s3) rfl rfl rfl a6 (by rw [rr_length, (rc_q _).len]) (rc_q _).whole (rc_q _).one ?_
          refine hK _ _ (hS.row (.inr q6) _) (fun hS => ?_)
          clear hK K
          replace a6 := a6.row (fq s3)
          replace hb := below_row hb (g := p6) (by omega) (fq s3).toArray
          try simp only [Act.put, List.setIfInBounds_toArray, List.set_cons_zero, List.set_cons_succ]
          refine rg_done (by kernel_rfl) ?_
          go_wp2_with fail
          go_meet
          case rel => exact ⟨p6, rfl, hb, a6, b2.keep hS (by simp), b4.keep hS (by simp), by omega⟩
      · refine wp_alB (zs := rr false 0 false 0) rfl (by kernel_rfl) (fun p6 q6 a6 => ?_)
        replace q6 := Nat.le_trans hS.1 q6
        refine hK _ _ (hS.alloc _) (fun hS => ?_)
        clear hK K
        replace hb := hb.alloc hb.size (.cells (rr false 0 false 0).toArray 27)
        try simp only [Act.put, List.setIfInBounds_toArray, List.set_cons_zero, List.set_cons_succ]
        refine rg_eff 7 rfl (by kernel_rfl) (by rfl) (fun K hK => ?_)
        go_simp
        refine (H2.out _).mono ?_
        rintro e w1 ⟨rfl, h1⟩
        refine hK _ _ (hS.call h1) (fun hS => ?_)
        clear hK K
        try replace a6 := a6.call h1
        replace hb := bthen hb h1
        clear h1
        try simp only [Act.put, List.setIfInBounds_toArray, List.set_cons_zero, List.set_cons_succ]
        refine rg_eff 8 rfl (by kernel_rfl) (by rfl) (fun K hK => ?_)
        go_simp
        refine (H3.out _).mono ?_
        rintro e w1 ⟨rfl, h1⟩
        refine hK _ _ (hS.call h1) (fun hS => ?_)
        clear hK K
        try replace a6 := a6.call h1
        replace hb := bthen hb h1
        clear h1
        try simp only [Act.put, List.setIfInBounds_toArray, List.set_cons_zero, List.set_cons_succ]
        refine rg_eff 10 rfl (by kernel_rfl) (by rfl) (fun K hK => ?_)
        refine wp_st (vs := fq s3) rfl rfl rfl a6 (by rw [rr_length, (rc_q _).len]) (rc_q _).whole (rc_q _).one ?_
        refine hK _ _ (hS.row (.inr q6) _) (fun hS => ?_)
        clear hK K
        replace a6 := a6.row (fq s3)
        replace hb := below_row hb (g := p6) (by omega) (fq s3).toArray
        try simp only [Act.put, List.setIfInBounds_toArray, List.set_cons_zero, List.set_cons_succ]
        refine rg_done (by kernel_rfl) ?_
        go_wp2_with fail
        go_meet
        case rel => exact ⟨p6, rfl, hb, a6, b2.keep hS (by simp), b4.keep hS (by simp), by omega⟩
    · refine wp_alB (zs := rr false 0 false 0) rfl (by kernel_rfl) (fun p6 q6 a6 => ?_)
      replace q6 := Nat.le_trans hS.1 q6
      refine hK _ _ (hS.alloc _) (fun hS => ?_)
      clear hK K
      replace hb := hb.alloc hb.size (.cells (rr false 0 false 0).toArray 27)
      try simp only [Act.put, List.setIfInBounds_toArray, List.set_cons_zero, List.set_cons_succ]
      refine rg_eff 4 rfl (by kernel_rfl) (by rfl) (fun K hK => ?_)
      go_simp
      refine (H1.out _).mono ?_
      rintro e w1 ⟨rfl, h1⟩
      refine hK _ _ (hS.call h1) (fun hS => ?_)
      clear hK K
      try replace a6 := a6.call h1
      replace hb := bthen hb h1
      clear h1
      try simp only [Act.put, List.setIfInBounds_toArray, List.set_cons_zero, List.set_cons_succ]
      refine rg_eff 7 rfl (by kernel_rfl) (by rfl) (fun K hK => ?_)
      go_simp
      refine (H2.out _).mono ?_
      rintro e w1 ⟨rfl, h1⟩
      refine hK _ _ (hS.call h1) (fun hS => ?_)
      clear hK K
      try replace a6 := a6.call h1
      replace hb := bthen hb h1
      clear h1
      try simp only [Act.put, List.setIfInBounds_toArray, List.set_cons_zero, List.set_cons_succ]
      refine rg_eff 8 rfl (by kernel_rfl) (by rfl) (fun K hK => ?_)
      go_simp
      refine (H3.out _).mono ?_
      rintro e w1 ⟨rfl, h1⟩
      refine hK _ _ (hS.call h1) (fun hS => ?_)
      clear hK K
      try replace a6 := a6.call h1
      replace hb := bthen hb h1
      clear h1
      try simp only [Act.put, List.setIfInBounds_toArray, List.set_cons_zero, List.set_cons_succ]
      refine rg_eff 10 rfl (by kernel_rfl) (by rfl) (fun K hK => ?_)
      refine wp_st (vs := fq s3) rfl rfl rfl a6 (by rw [rr_length, (rc_q _).len]) (rc_q _).whole (rc_q _).one ?_
      refine hK _ _ (hS.row (.inr q6) _) (fun hS => ?_)
      clear hK K
      replace a6 := a6.row (fq s3)
      replace hb := below_row hb (g := p6) (by omega) (fq s3).toArray
      try simp only [Act.put, List.setIfInBounds_toArray, List.set_cons_zero, List.set_cons_succ]
      refine rg_done (by kernel_rfl) ?_
      go_wp2_with fail
      go_meet
      case rel => exact ⟨p6, rfl, hb, a6, b2.keep hS (by simp), b4.keep hS (by simp), by omega⟩
  case rest =>
    clear hb b2 b3 b4 hsz l4
    obtain ⟨q, rfl, hb, b6, b2, b4, hne⟩ := hcut
    go_wp2_with fail
    refine rg_start [w.heap.size + 1 + 1] (by kernel_rfl) (fun hS => ?_)
    replace hb := hb.drew
    replace b4 := b4.drew
    refine rg_take 0 rfl (by kernel_rfl) (by kernel_rfl) (by kernel_rfl) (by rfl) hS (v := ?_) ?_ ?_
    rotate_left
    · (intro w' hS'; go_simp <;> try with_reducible rfl)
    try simp only [Act.put, List.setIfInBounds_toArray, List.set_cons_zero, List.set_cons_succ]
    refine rg_take 1 rfl (by kernel_rfl) (by kernel_rfl) (by kernel_rfl) (by rfl) hS (v := ?_) ?_ ?_
    rotate_left
    · (intro w' hS'; go_simp <;> try with_reducible rfl)
    try simp only [Act.put, List.setIfInBounds_toArray, List.set_cons_zero, List.set_cons_succ]
    refine rg_ldP 2 rfl (by kernel_rfl) (by kernel_rfl) (by kernel_rfl) (by rfl) hS rfl rfl b2 (by simp <;> omega) (bx_b (rc_q _) (rc_q _)) (rc_q _).whole ?_
    try simp only [Act.put, List.setIfInBounds_toArray, List.set_cons_zero, List.set_cons_succ]
    refine rg_ldP 3 rfl (by kernel_rfl) (by kernel_rfl) (by kernel_rfl) (by rfl) hS rfl rfl b6 (by simp <;> omega) (part_all _) (rc_q _).whole ?_
    try simp only [Act.put, List.setIfInBounds_toArray, List.set_cons_zero, List.set_cons_succ]
    refine rg_take 4 rfl (by kernel_rfl) (by kernel_rfl) (by kernel_rfl) (by rfl) hS (v := ?_) ?_ ?_
    rotate_left
    · (intro w' hS'; go_simp <;> try with_reducible rfl)
    try simp only [Act.put, List.setIfInBounds_toArray, List.set_cons_zero, List.set_cons_succ]
    refine rg_ldP 5 rfl (by kernel_rfl) (by kernel_rfl) (by kernel_rfl) (by rfl) hS rfl rfl b2 (by simp <;> omega) (bx_up (rc_q _) (rc_q _)) (wholeS (rc_q _) (rc_q _)) ?_
    try simp only [Act.put, List.setIfInBounds_toArray, List.set_cons_zero, List.set_cons_succ]
    refine rg_eff 6 rfl (by kernel_rfl) (by rfl) (fun K hK => ?_)
    go_simp
    refine (H4.out _).mono ?_
    rintro e w1 ⟨rfl, h1⟩
    refine hK _ _ (hS.call h1) (fun hS => ?_)
    clear hK K
    replace b4 := b4.call h1
    replace hb := bthen hb h1
    clear h1
    try simp only [Act.put, List.setIfInBounds_toArray, List.set_cons_zero, List.set_cons_succ]
    refine rg_eff 7 rfl (by kernel_rfl) (by rfl) (fun K hK => ?_)
    go_simp
    refine (H5.out _).mono ?_
    rintro e w1 ⟨rfl, h1⟩
    refine hK _ _ (hS.call h1) (fun hS => ?_)
    clear hK K
    replace b4 := b4.call h1
    replace hb := bthen hb h1
    clear h1
    try simp only [Act.put, List.setIfInBounds_toArray, List.set_cons_zero, List.set_cons_succ]
    refine rg_eff 8 rfl (by kernel_rfl) (by rfl) (fun K hK => ?_)
    go_simp
    refine (H6.out _).mono ?_
    rintro e w1 ⟨rfl, h1⟩
    refine hK _ _ (hS.call h1) (fun hS => ?_)
    clear hK K
    replace b4 := b4.call h1
    replace hb := bthen hb h1
    clear h1
    try simp only [Act.put, List.setIfInBounds_toArray, List.set_cons_zero, List.set_cons_succ]
    refine rg_take 9 rfl (by kernel_rfl) (by kernel_rfl) (by kernel_rfl) (by rfl) hS (v := ?_) ?_ ?_
    rotate_left
    · (intro w' hS'; go_simp <;> try with_reducible rfl)
    try simp only [Act.put, List.setIfInBounds_toArray, List.set_cons_zero, List.set_cons_succ]
    refine rg_take 10 rfl (by kernel_rfl) (by kernel_rfl) (by kernel_rfl) (by rfl) hS (v := ?_) ?_ ?_
    rotate_left
    · (intro w' hS'; go_simp <;> try with_reducible rfl)
    try simp only [Act.put, List.setIfInBounds_toArray, List.set_cons_zero, List.set_cons_succ]
    refine rg_eff 11 rfl (by kernel_rfl) (by rfl) (fun K hK => ?_)
    refine wp_st (vs := fq s6) rfl rfl rfl b4 (by rw [rr_length, (rc_q _).len]) (rc_q _).whole (rc_q _).one ?_
    refine hK _ _ (hS.row (.inl (by simp)) _) (fun hS => ?_)
    clear hK K
    try simp only [Act.put, List.setIfInBounds_toArray, List.set_cons_zero, List.set_cons_succ]
    refine rg_take 12 rfl (by kernel_rfl) (by kernel_rfl) (by kernel_rfl) (by rfl) hS (v := ?_) ?_ ?_
    rotate_left
    · (intro w' hS'; go_simp <;> try with_reducible rfl)
    try simp only [Act.put, List.setIfInBounds_toArray, List.set_cons_zero, List.set_cons_succ]
    refine rg_done (by kernel_rfl) ?_
    go_wp2
    exact ret_ct (cs := fq s6) (v := .bool true) rfl rfl rfl rfl (rc_q _).whole (b4.row _) ⟨rfl, below_row hb (by omega) _⟩
theorem q_sub_ne {a c : Rat} (h : a ≠ c) : c - a ≠ 0 := fun e => h (by grind)
theorem at_in {a b c d x : Rat} (ha : Bq 60 a) (hb : Bq 60 b) (hc : Bq 60 c) (hd : Bq 60 d) (hx : Bq 60 x) (h : a ≠ c) (h' : hq a c x = true) : Tl 57 #[vc a c b d, vl (fq x)] (.tuple #[vl (fq (atq a c b d x)), .bool true]) := by
  have HS := still_q (ha.f2 (by omega)) (hc.f2 (by omega))
  rw [decide_eq_false h] at HS
  have HH := holds_q ha hc hx
  rw [h'] at HH
  have q1 := bq_sub hx ha
  have q2 := bq_sub hc ha
  have q3 := bq_quo q1 q2 (q_sub_ne h)
  have q4 := bq_sub hd hb
  exact at_walk HS HH (lless_q hx (by omega) ha (by omega)) (way_q ha hc) (lby_q q1 (by omega) q2 (by omega) (q_sub_ne h)) (way_q hb hd) (ltimes_q q3 (by omega) q4 (by omega)) (Add_q hb (by omega) (bq_mul q3 q4) (by omega))
set_option maxHeartbeats 2000000 in
theorem YAt_walk {ax ay cx cy x : Rat} {R : List Value} {r : Bool} (ha : Gd ax ay) (hc : Gd cx cy) (hx : Bq 60 x) (hR : Rc R) (T : Tl 57 #[vc ax cx ay cy, vl (fq x)] (.tuple #[vl R, .bool r])) : Tl 18 #[vp ax ay, vp cx cy, vl (fq x)] (.tuple #[vl R, .bool r]) := by
  intro w
  have HI := Lib.hid (Isp_q ha)
  have HI' := Lib.hid (Isp_q hc)
  have HB := Lib.hid (between_l ax ay cx cy)
  have HF := Lib.hid (Safe_q hx (by omega) (Nat.le_refl 60))
  have HR := Lib.hid hR
  have HT := Lib.hid T
  unfold vg vl at HB
  unfold vc vl at HT
  rw [show vq x = .agg (fq x).toArray from rfl] at HF
  clear ha hc hx hR T
  unfold vp vl at *
  unfold Tl at HB HT HF
  have b3 := ((((Blk.new w (fq ax ++ fq ay) 40 rfl).old (.cells (fq cx ++ fq cy).toArray 40)).old (.cells (fq x).toArray 27)).old (.cells (rr false 0 false 0).toArray 27))
  have b4 := (((Blk.new (w.alloc (.cells (fq ax ++ fq ay).toArray 40)) (fq cx ++ fq cy) 40 (b := w.heap.size + 1) (by simp)).old (.cells (fq x).toArray 27)).old (.cells (rr false 0 false 0).toArray 27))
  have b5 := ((Blk.new ((w.alloc (.cells (fq ax ++ fq ay).toArray 40)).alloc (.cells (fq cx ++ fq cy).toArray 40)) (fq x) 27 (b := w.heap.size + 1 + 1) (by simp)).old (.cells (rr false 0 false 0).toArray 27))
  have b6 := (Blk.new (((w.alloc (.cells (fq ax ++ fq ay).toArray 40)).alloc (.cells (fq cx ++ fq cy).toArray 40)).alloc (.cells (fq x).toArray 27)) (rr false 0 false 0) 27 (b := w.heap.size + 1 + 1 + 1) (by simp))
  have hb : Below w.heap.size w ((((w.alloc (.cells (fq ax ++ fq ay).toArray 40)).alloc (.cells (fq cx ++ fq cy).toArray 40)).alloc (.cells (fq x).toArray 27)).alloc (.cells (rr false 0 false 0).toArray 27)) := (((((Below.refl _ _).alloc (Nat.le_refl _) _).alloc (by simp <;> omega) _).alloc (by simp <;> omega) _).alloc (by simp <;> omega) _)
  have hk : ((((w.alloc (.cells (fq ax ++ fq ay).toArray 40)).alloc (.cells (fq cx ++ fq cy).toArray 40)).alloc (.cells (fq x).toArray 27)).alloc (.cells (rr false 0 false 0).toArray 27)).heap.size = w.heap.size + 1 + 1 + 1 + 1 := by simp
  go_enter Tryz.func18, Tryz.ntmps18
  go_wp2_with (first | (with_reducible refine alR rfl rfl ?_) | (with_reducible refine ldPt rfl rfl rfl b3 (rc_q _) (rc_q _) ?_) | (with_reducible refine ldPt rfl rfl rfl b4 (rc_q _) (rc_q _) ?_) | (with_reducible refine bsP2 rfl rfl rfl rfl (rc_q _) (rc_q _) (rc_q _) (rc_q _) ?_))
  have sl := Blk.new ((((w.alloc (.cells (fq ax ++ fq ay).toArray 40)).alloc (.cells (fq cx ++ fq cy).toArray 40)).alloc (.cells (fq x).toArray 27)).alloc (.cells (rr false 0 false 0).toArray 27)) (j2 (fq ax ++ fq ay) (fq cx ++ fq cy)) 40 (b := w.heap.size + 1 + 1 + 1 + 1) hk.symm
  replace hb := hb.alloc hb.size (.cells (j2 (fq ax ++ fq ay) (fq cx ++ fq cy)).toArray 40)
  replace b3 := b3.old (.cells (j2 (fq ax ++ fq ay) (fq cx ++ fq cy)).toArray 40)
  replace b4 := b4.old (.cells (j2 (fq ax ++ fq ay) (fq cx ++ fq cy)).toArray 40)
  replace b5 := b5.old (.cells (j2 (fq ax ++ fq ay) (fq cx ++ fq cy)).toArray 40)
  replace b6 := b6.old (.cells (j2 (fq ax ++ fq ay) (fq cx ++ fq cy)).toArray 40)
  try rw [hk]
  try rw [show (((w.alloc (.cells (fq ax ++ fq ay).toArray 40)).alloc (.cells (fq cx ++ fq cy).toArray 40)).alloc (.cells (fq x).toArray 27)).heap.size = w.heap.size + 1 + 1 + 1 by simp]
  refine (lare_two (rc_q _) (rc_q _) (rc_q _) (rc_q _) HI.out HI'.out sl).mono ?_
  rintro e w1 ⟨rfl, h1⟩
  replace b3 := b3.call h1
  replace b4 := b4.call h1
  replace b5 := b5.call h1
  replace b6 := b6.call h1
  replace hb := bthen hb h1
  clear h1 sl hk
  go_wp2_with (first | (refine ldPg (by rfl) rfl rfl b5 (part_all _) (rc_q _).whole ?_))
  refine (HF.out _).mono ?_
  rintro e w1 ⟨rfl, h1⟩
  replace b3 := b3.call h1
  replace b4 := b4.call h1
  replace b5 := b5.call h1
  replace b6 := b6.call h1
  replace hb := bthen hb h1
  clear h1
  go_wp2_with (first | (with_reducible refine ldPt rfl rfl rfl b3 (rc_q _) (rc_q _) ?_) | (with_reducible refine ldPt rfl rfl rfl b4 (rc_q _) (rc_q _) ?_))
  refine (HB.out _).mono ?_
  rintro e w1 ⟨rfl, h1⟩
  replace b5 := b5.call h1
  replace b6 := b6.call h1
  replace hb := bthen hb h1
  clear h1
  have f := Blk.new w1 (sgm r0 r0 r0 r0) 92 rfl
  have b8 := laid_n w1 (sgm r0 r0 r0 r0) (sgm (fq ax) (fq ay) (fq cx) (fq cy)) 92
  replace b5 := laid_o b5 (sgm r0 r0 r0 r0) (sgm (fq ax) (fq ay) (fq cx) (fq cy)) 92
  replace b6 := laid_o b6 (sgm r0 r0 r0 r0) (sgm (fq ax) (fq ay) (fq cx) (fq cy)) 92
  replace hb := laid_b hb (sgm r0 r0 r0 r0) (sgm (fq ax) (fq ay) (fq cx) (fq cy)) 92
  go_wp2_with (first | (with_reducible refine alG rfl rfl ?_) | (with_reducible refine stG rfl rfl rfl rfl f (sgm_len rc0 rc0 rc0 rc0) (rc_q _) (rc_q _) (rc_q _) (rc_q _) ?_) | (with_reducible refine ldP rfl rfl rfl b8 sgm_across (wholeS (rc_q _) (rc_q _)) ?_) | (with_reducible refine ldP rfl rfl rfl b8 (sgm_up (rc_q _) (rc_q _)) (wholeS (rc_q _) (rc_q _)) ?_) | (with_reducible refine bdC rfl rfl rfl rfl (rc_q _) (rc_q _) (rc_q _) (rc_q _) ?_) | (with_reducible refine ldA' rfl rfl rfl b5 (rc_q _) ?_))
  refine (HT.out _).mono ?_
  rintro e w1 ⟨rfl, h1⟩
  replace b6 := b6.call h1
  replace hb := bthen hb h1
  clear h1
  have l6 := b6.lt
  go_wp2_with (first | (with_reducible refine stQ rfl rfl rfl rfl b6 (rr_length _ _ _ _) HR.out ?_))
  exact ret_ct (cs := R) (v := .bool r) rfl rfl rfl rfl HR.out.whole (b6.row _) ⟨rfl, below_row hb (by omega) _⟩
set_option maxHeartbeats 2000000 in
theorem XAt_walk {ax ay cx cy x : Rat} {R : List Value} {r : Bool} (ha : Gd ax ay) (hc : Gd cx cy) (hx : Bq 60 x) (hR : Rc R) (T : Tl 57 #[vc ay cy ax cx, vl (fq x)] (.tuple #[vl R, .bool r])) : Tl 21 #[vp ax ay, vp cx cy, vl (fq x)] (.tuple #[vl R, .bool r]) := by
  intro w
  have HI := Lib.hid (Isp_q ha)
  have HI' := Lib.hid (Isp_q hc)
  have HB := Lib.hid (between_l ax ay cx cy)
  have HF := Lib.hid (Safe_q hx (by omega) (Nat.le_refl 60))
  have HR := Lib.hid hR
  have HT := Lib.hid T
  unfold vg vl at HB
  unfold vc vl at HT
  rw [show vq x = .agg (fq x).toArray from rfl] at HF
  clear ha hc hx hR T
  unfold vp vl at *
  unfold Tl at HB HT HF
  have b3 := ((((Blk.new w (fq ax ++ fq ay) 40 rfl).old (.cells (fq cx ++ fq cy).toArray 40)).old (.cells (fq x).toArray 27)).old (.cells (rr false 0 false 0).toArray 27))
  have b4 := (((Blk.new (w.alloc (.cells (fq ax ++ fq ay).toArray 40)) (fq cx ++ fq cy) 40 (b := w.heap.size + 1) (by simp)).old (.cells (fq x).toArray 27)).old (.cells (rr false 0 false 0).toArray 27))
  have b5 := ((Blk.new ((w.alloc (.cells (fq ax ++ fq ay).toArray 40)).alloc (.cells (fq cx ++ fq cy).toArray 40)) (fq x) 27 (b := w.heap.size + 1 + 1) (by simp)).old (.cells (rr false 0 false 0).toArray 27))
  have b6 := (Blk.new (((w.alloc (.cells (fq ax ++ fq ay).toArray 40)).alloc (.cells (fq cx ++ fq cy).toArray 40)).alloc (.cells (fq x).toArray 27)) (rr false 0 false 0) 27 (b := w.heap.size + 1 + 1 + 1) (by simp))
  have hb : Below w.heap.size w ((((w.alloc (.cells (fq ax ++ fq ay).toArray 40)).alloc (.cells (fq cx ++ fq cy).toArray 40)).alloc (.cells (fq x).toArray 27)).alloc (.cells (rr false 0 false 0).toArray 27)) := (((((Below.refl _ _).alloc (Nat.le_refl _) _).alloc (by simp <;> omega) _).alloc (by simp <;> omega) _).alloc (by simp <;> omega) _)
  have hk : ((((w.alloc (.cells (fq ax ++ fq ay).toArray 40)).alloc (.cells (fq cx ++ fq cy).toArray 40)).alloc (.cells (fq x).toArray 27)).alloc (.cells (rr false 0 false 0).toArray 27)).heap.size = w.heap.size + 1 + 1 + 1 + 1 := by simp
  go_enter Tryz.func21, Tryz.ntmps21
  go_wp2_with (first | (with_reducible refine alR rfl rfl ?_) | (with_reducible refine ldPt rfl rfl rfl b3 (rc_q _) (rc_q _) ?_) | (with_reducible refine ldPt rfl rfl rfl b4 (rc_q _) (rc_q _) ?_) | (with_reducible refine bsP2 rfl rfl rfl rfl (rc_q _) (rc_q _) (rc_q _) (rc_q _) ?_))
  have sl := Blk.new ((((w.alloc (.cells (fq ax ++ fq ay).toArray 40)).alloc (.cells (fq cx ++ fq cy).toArray 40)).alloc (.cells (fq x).toArray 27)).alloc (.cells (rr false 0 false 0).toArray 27)) (j2 (fq ax ++ fq ay) (fq cx ++ fq cy)) 40 (b := w.heap.size + 1 + 1 + 1 + 1) hk.symm
  replace hb := hb.alloc hb.size (.cells (j2 (fq ax ++ fq ay) (fq cx ++ fq cy)).toArray 40)
  replace b3 := b3.old (.cells (j2 (fq ax ++ fq ay) (fq cx ++ fq cy)).toArray 40)
  replace b4 := b4.old (.cells (j2 (fq ax ++ fq ay) (fq cx ++ fq cy)).toArray 40)
  replace b5 := b5.old (.cells (j2 (fq ax ++ fq ay) (fq cx ++ fq cy)).toArray 40)
  replace b6 := b6.old (.cells (j2 (fq ax ++ fq ay) (fq cx ++ fq cy)).toArray 40)
  try rw [hk]
  try rw [show (((w.alloc (.cells (fq ax ++ fq ay).toArray 40)).alloc (.cells (fq cx ++ fq cy).toArray 40)).alloc (.cells (fq x).toArray 27)).heap.size = w.heap.size + 1 + 1 + 1 by simp]
  refine (lare_two (rc_q _) (rc_q _) (rc_q _) (rc_q _) HI.out HI'.out sl).mono ?_
  rintro e w1 ⟨rfl, h1⟩
  replace b3 := b3.call h1
  replace b4 := b4.call h1
  replace b5 := b5.call h1
  replace b6 := b6.call h1
  replace hb := bthen hb h1
  clear h1 sl hk
  go_wp2_with (first | (refine ldPg (by rfl) rfl rfl b5 (part_all _) (rc_q _).whole ?_))
  refine (HF.out _).mono ?_
  rintro e w1 ⟨rfl, h1⟩
  replace b3 := b3.call h1
  replace b4 := b4.call h1
  replace b5 := b5.call h1
  replace b6 := b6.call h1
  replace hb := bthen hb h1
  clear h1
  go_wp2_with (first | (with_reducible refine ldPt rfl rfl rfl b3 (rc_q _) (rc_q _) ?_) | (with_reducible refine ldPt rfl rfl rfl b4 (rc_q _) (rc_q _) ?_))
  refine (HB.out _).mono ?_
  rintro e w1 ⟨rfl, h1⟩
  replace b5 := b5.call h1
  replace b6 := b6.call h1
  replace hb := bthen hb h1
  clear h1
  have f := Blk.new w1 (sgm r0 r0 r0 r0) 92 rfl
  have b8 := laid_n w1 (sgm r0 r0 r0 r0) (sgm (fq ax) (fq ay) (fq cx) (fq cy)) 92
  replace b5 := laid_o b5 (sgm r0 r0 r0 r0) (sgm (fq ax) (fq ay) (fq cx) (fq cy)) 92
  replace b6 := laid_o b6 (sgm r0 r0 r0 r0) (sgm (fq ax) (fq ay) (fq cx) (fq cy)) 92
  replace hb := laid_b hb (sgm r0 r0 r0 r0) (sgm (fq ax) (fq ay) (fq cx) (fq cy)) 92
  go_wp2_with (first | (with_reducible refine alG rfl rfl ?_) | (with_reducible refine stG rfl rfl rfl rfl f (sgm_len rc0 rc0 rc0 rc0) (rc_q _) (rc_q _) (rc_q _) (rc_q _) ?_) | (with_reducible refine ldP rfl rfl rfl b8 sgm_across (wholeS (rc_q _) (rc_q _)) ?_) | (with_reducible refine ldP rfl rfl rfl b8 (sgm_up (rc_q _) (rc_q _)) (wholeS (rc_q _) (rc_q _)) ?_) | (with_reducible refine bdC rfl rfl rfl rfl (rc_q _) (rc_q _) (rc_q _) (rc_q _) ?_) | (with_reducible refine ldA' rfl rfl rfl b5 (rc_q _) ?_))
  refine (HT.out _).mono ?_
  rintro e w1 ⟨rfl, h1⟩
  replace b6 := b6.call h1
  replace hb := bthen hb h1
  clear h1
  have l6 := b6.lt
  go_wp2_with (first | (with_reducible refine stQ rfl rfl rfl rfl b6 (rr_length _ _ _ _) HR.out ?_))
  exact ret_ct (cs := R) (v := .bool r) rfl rfl rfl rfl HR.out.whole (b6.row _) ⟨rfl, below_row hb (by omega) _⟩
section
variable {ax ay cx cy x : Rat} (ha : Gd ax ay) (hc : Gd cx cy) (hx : Bq 60 x)
include ha hc hx
theorem YAt_in (h : ax ≠ cx) (h' : hq ax cx x = true) : Tl 18 #[vp ax ay, vp cx cy, vl (fq x)] (.tuple #[vl (fq (atq ax cx ay cy x)), .bool true]) := YAt_walk ha hc hx (rc_q _) (at_in ha.1 ha.2 hc.1 hc.2 hx h h')
theorem YAt_out (h : ax = cx ∨ hq ax cx x = false) : Tl 18 #[vp ax ay, vp cx cy, vl (fq x)] (.tuple #[vl (rr false 0 false 0), .bool false]) := by
  by_cases e : ax = cx
  · exact YAt_walk ha hc hx (rc_rr _ _ _ _) (at_still (ha.1.f2 (by omega)) (hc.1.f2 (by omega)) e)
  · exact YAt_walk ha hc hx (rc_rr _ _ _ _) (at_out ha.1 hc.1 hx e (h.resolve_left e))
theorem XAt_in (h : ay ≠ cy) (h' : hq ay cy x = true) : Tl 21 #[vp ax ay, vp cx cy, vl (fq x)] (.tuple #[vl (fq (atq ay cy ax cx x)), .bool true]) := XAt_walk ha hc hx (rc_q _) (at_in ha.2 ha.1 hc.2 hc.1 hx h h')
theorem XAt_out (h : ay = cy ∨ hq ay cy x = false) : Tl 21 #[vp ax ay, vp cx cy, vl (fq x)] (.tuple #[vl (rr false 0 false 0), .bool false]) := by
  by_cases e : ay = cy
  · exact XAt_walk ha hc hx (rc_rr _ _ _ _) (at_still (ha.2.f2 (by omega)) (hc.2.f2 (by omega)) e)
  · exact XAt_walk ha hc hx (rc_rr _ _ _ _) (at_out ha.2 hc.2 hx e (h.resolve_left e))
end
end Go.Proofs.YtkknaigpdnokkaaGreat
