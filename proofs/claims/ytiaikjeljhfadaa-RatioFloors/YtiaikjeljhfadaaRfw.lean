/- RatioFloors answers true of every fraction. -/
import Derived.Test.YtiaikjeljhfadaaRlw
import Derived.Test.YtiaikjeljhfadaaOpn
import Derived.Test.YtiaikjeljhfadaaReq
import Derived.Deep.DeepCutAuto
namespace Go.Proofs.Ytiaikjeljhfadaa
set_option linter.unusedSimpArgs false
set_option linter.unusedVariables false
open Go.RowKit
set_option maxRecDepth 100000
set_option maxHeartbeats 1000000 in
theorem floors_a (s0 : Bool) (N0 : Nat) (t0 : Bool) (M0 : Nat) (S1 : Tl 43 #[.agg (rr s0 N0 t0 M0).toArray, .int .i64 400] (.bool false)) (w : World) :
    Calls Try.prog 6 #[.agg (rr s0 N0 t0 M0).toArray] w fun e w' => e = .returned (.bool true) ∧ Below w.heap.size w w' := by
  have HS1 := Lib.hid S1
  unfold Tl at *
  clear S1
  have b1 := Blk.new w (rr s0 N0 t0 M0) 45 rfl
  have hb : Below w.heap.size w (w.alloc (.cells (rr s0 N0 t0 M0).toArray 45)) := (Below.refl _ _).alloc (Nat.le_refl _) _
  go_enter Try.func6, Try.ntmps6
  go_wp2_with fail
  refine (known2_any _).mono ?_
  rintro e w1 ⟨rfl, h1⟩
  replace b1 := b1.call h1
  replace hb := bthen hb h1
  clear h1
  go_wp2_with (first | (with_reducible refine ldRr rfl rfl rfl b1 ?_))
  refine (HS1.out _).mono ?_
  rintro e w1 ⟨rfl, h1⟩
  replace hb := bthen hb h1
  clear h1
  go_wp2
  go_ret
  exact ⟨rfl, hb⟩
set_option maxHeartbeats 2000000 in
theorem floors_b {n d g oN oD wN wD nN nD c1 c2 : Int} (S1 : Tl 43 #[vf n d, .int .i64 400] (.bool true)) (A1 : Tl 50 #[vf n d] (.tuple #[vw g, .bool true])) (A2 : Tl 42 #[.int .i64 1] (vf oN oD)) (A3 : Tl 26 #[.int .i64 1] (vw 1)) (A4 : Tl 51 #[vw g, vw 1] (.tuple #[vf wN wD, .bool true]))
    (A5 : Tl 44 #[vf wN wD, vf oN oD] (.tuple #[vf nN nD, .bool true])) (A6 : Tl 47 #[vf wN wD, vf n d] (.tuple #[.int .i64 c1, .bool true])) (A7 : Tl 47 #[vf n d, vf nN nD] (.tuple #[.int .i64 c2, .bool true])) (h1 : c1 ≤ 0) (h2 : c2 < 0) (w : World) :
    Calls Try.prog 6 #[vf n d] w fun e w' => e = .returned (.bool true) ∧ Below w.heap.size w w' := by
  unfold vf vw at *
  have HS1 := Lib.hid S1
  have HA1 := Lib.hid A1
  have HA2 := Lib.hid A2
  have HA3 := Lib.hid A3
  have HA4 := Lib.hid A4
  have HA5 := Lib.hid A5
  have HA6 := Lib.hid A6
  have HA7 := Lib.hid A7
  have C1 := Lib.hid h1
  have C2 := Lib.hid h2
  unfold Tl at *
  clear S1 A1 A2 A3 A4 A5 A6 A7 h1 h2
  have b1 := Blk.new w (fr n d) 45 rfl
  have hb : Below w.heap.size w (w.alloc (.cells (fr n d).toArray 45)) := (Below.refl _ _).alloc (Nat.le_refl _) _
  go_enter Try.func6, Try.ntmps6
  go_wp2_with fail
  refine (known2_any _).mono ?_
  rintro e w1 ⟨rfl, h1⟩
  replace b1 := b1.call h1
  replace hb := bthen hb h1
  clear h1
  go_wp2_with (first | (with_reducible refine ldFr rfl rfl rfl b1 ?_))
  refine (HS1.out _).mono ?_
  rintro e w1 ⟨rfl, h1⟩
  replace b1 := b1.call h1
  replace hb := bthen hb h1
  clear h1
  go_wp2_with (first | (with_reducible refine ldFr rfl rfl rfl b1 ?_))
  refine (HA1.out _).mono ?_
  rintro e w1 ⟨rfl, h1⟩
  replace b1 := b1.call h1
  replace hb := bthen hb h1
  clear h1
  have f := Blk.new w1 (wd false 0) 25 rfl
  have b3 := laid_new w1 (g)
  replace b1 := laid_old b1 (g)
  replace hb := laid_below hb (g)
  go_wp2_with (first | (with_reducible refine alW rfl rfl ?_) | (with_reducible refine stM rfl rfl rfl rfl f (wd_length _ _) ?_))
  clear f
  generalize (w1.alloc (.cells (wd false 0).toArray 25)).setRow w1.heap.size (mk (g)).toArray = W at *
  generalize w1.heap.size = pl_b3 at *
  refine (HA2.out _).mono ?_
  rintro e w1 ⟨rfl, h1⟩
  replace b1 := b1.call h1
  replace b3 := b3.call h1
  replace hb := bthen hb h1
  clear h1
  have f := Blk.new w1 (rr false 0 false 0) 45 rfl
  have b5 := laidR_new w1 (oN) (oD)
  replace b1 := laidR_old b1 (oN) (oD)
  replace b3 := laidR_old b3 (oN) (oD)
  replace hb := laidR_below hb (oN) (oD)
  go_wp2_with (first | (with_reducible refine alR rfl rfl ?_) | (with_reducible refine stR rfl rfl rfl rfl f (rr_length _ _ _ _) ?_))
  clear f
  generalize (w1.alloc (.cells (rr false 0 false 0).toArray 45)).setRow w1.heap.size (fr (oN) (oD)).toArray = W at *
  generalize w1.heap.size = pl_b5 at *
  have hsz := hb.size
  try simp only [Act.put, List.setIfInBounds_toArray, List.set_cons_zero, List.set_cons_succ]
  go_cut [6, 7] (fun p v wx => ∃ q, p = .pointer (some ⟨q, 0, none⟩) ∧ v = .bool true ∧ Below w.heap.size w wx ∧ Blk wx q (fr wN wD) 45 ∧ Blk wx w.heap.size (fr n d) 45 ∧ Blk wx pl_b5 (fr oN oD) 45)
  case first =>
    refine rg_start [] (by kernel_rfl) (fun hS => ?_)
    replace hb := hb.drew
    refine rg_ld 0 rfl (by kernel_rfl) (by kernel_rfl) (by kernel_rfl) (by rfl) hS rfl rfl b3 (by simp <;> omega) (wholeM _) ?_
    try simp only [Act.put, List.setIfInBounds_toArray, List.set_cons_zero, List.set_cons_succ]
    refine rg_two 1 6 rfl rfl (by kernel_rfl) (by rfl) (by rfl) (fun K hK => ?_) (fun K hK => ?_)
    · go_simp
      refine (HA3.out _).mono ?_
      rintro e w1 ⟨rfl, h1⟩
      refine hK _ _ (hS.call h1) (fun hS => ?_)
      clear hK K
      try replace a6 := a6.call h1
      replace hb := bthen hb h1
      clear h1
      try simp only [Act.put, List.setIfInBounds_toArray, List.set_cons_zero, List.set_cons_succ]
      refine rg_two 2 6 rfl rfl (by kernel_rfl) (by rfl) (by rfl) (fun K hK => ?_) (fun K hK => ?_)
      · go_simp
        refine (HA4.out _).mono ?_
        rintro e w1 ⟨rfl, h1⟩
        refine hK _ _ (hS.call h1) (fun hS => ?_)
        clear hK K
        try replace a6 := a6.call h1
        replace hb := bthen hb h1
        clear h1
        try simp only [Act.put, List.setIfInBounds_toArray, List.set_cons_zero, List.set_cons_succ]
        refine rg_take 3 rfl (by kernel_rfl) (by kernel_rfl) (by kernel_rfl) (by rfl) hS (v := ?_) ?_ ?_
        rotate_left
        · (intro w' hS'; go_simp <;> try with_reducible rfl)
        try simp only [Act.put, List.setIfInBounds_toArray, List.set_cons_zero, List.set_cons_succ]
        refine rg_take 4 rfl (by kernel_rfl) (by kernel_rfl) (by kernel_rfl) (by rfl) hS (v := ?_) ?_ ?_
        rotate_left
        · (intro w' hS'; go_simp <;> try with_reducible rfl)
        try simp only [Act.put, List.setIfInBounds_toArray, List.set_cons_zero, List.set_cons_succ]
        refine rg_take 5 rfl (by kernel_rfl) (by kernel_rfl) (by kernel_rfl) (by rfl) hS (v := ?_) ?_ ?_
        rotate_left
        · (intro w' hS'; go_simp <;> try with_reducible rfl)
        try simp only [Act.put, List.setIfInBounds_toArray, List.set_cons_zero, List.set_cons_succ]
        refine rg_eff 6 rfl (by kernel_rfl) (by rfl) (fun K hK => ?_)
        refine wp_alB (zs := rr false 0 false 0) rfl (by kernel_rfl) (fun p6 q6 a6 => ?_)
        replace q6 := Nat.le_trans hS.1 q6
        refine hK _ _ (hS.alloc _) (fun hS => ?_)
        clear hK K
        replace hb := hb.alloc hb.size (.cells (rr false 0 false 0).toArray 45)
        try simp only [Act.put, List.setIfInBounds_toArray, List.set_cons_zero, List.set_cons_succ]
        refine rg_eff 7 rfl (by kernel_rfl) (by rfl) (fun K hK => ?_)
        refine wp_st (vs := fr wN wD) rfl rfl rfl a6 (by rw [rr_length, fr_length]) (wholeF _ _) (fr_one _ _) ?_
        refine hK _ _ (hS.row (.inr q6) _) (fun hS => ?_)
        clear hK K
        replace a6 := a6.row (fr wN wD)
        replace hb := below_row hb (g := p6) (by omega) (fr wN wD).toArray
        try simp only [Act.put, List.setIfInBounds_toArray, List.set_cons_zero, List.set_cons_succ]
        refine rg_take 8 rfl (by kernel_rfl) (by kernel_rfl) (by kernel_rfl) (by rfl) hS (v := ?_) ?_ ?_
        rotate_left
        · (intro w' hS'; go_simp <;> try with_reducible rfl)
        try simp only [Act.put, List.setIfInBounds_toArray, List.set_cons_zero, List.set_cons_succ]
        refine rg_done (by kernel_rfl) ?_
        go_wp2_with fail
        go_meet
        case rel => exact ⟨p6, rfl, rfl, hb, a6, b1.keep hS (by simp), b5.keep hS (by simp)⟩
      · refine wp_alB (zs := rr false 0 false 0) rfl (by kernel_rfl) (fun p6 q6 a6 => ?_)
        replace q6 := Nat.le_trans hS.1 q6
        refine hK _ _ (hS.alloc _) (fun hS => ?_)
        clear hK K
        replace hb := hb.alloc hb.size (.cells (rr false 0 false 0).toArray 45)
        try simp only [Act.put, List.setIfInBounds_toArray, List.set_cons_zero, List.set_cons_succ]
        refine rg_eff 2 rfl (by kernel_rfl) (by rfl) (fun K hK => ?_)
        go_simp
        refine (HA4.out _).mono ?_
        rintro e w1 ⟨rfl, h1⟩
        refine hK _ _ (hS.call h1) (fun hS => ?_)
        clear hK K
        try replace a6 := a6.call h1
        replace hb := bthen hb h1
        clear h1
        try simp only [Act.put, List.setIfInBounds_toArray, List.set_cons_zero, List.set_cons_succ]
        refine rg_take 3 rfl (by kernel_rfl) (by kernel_rfl) (by kernel_rfl) (by rfl) hS (v := ?_) ?_ ?_
        rotate_left
        · (intro w' hS'; go_simp <;> try with_reducible rfl)
        try simp only [Act.put, List.setIfInBounds_toArray, List.set_cons_zero, List.set_cons_succ]
        refine rg_take 4 rfl (by kernel_rfl) (by kernel_rfl) (by kernel_rfl) (by rfl) hS (v := ?_) ?_ ?_
        rotate_left
        · (intro w' hS'; go_simp <;> try with_reducible rfl)
        try simp only [Act.put, List.setIfInBounds_toArray, List.set_cons_zero, List.set_cons_succ]
        refine rg_take 5 rfl (by kernel_rfl) (by kernel_rfl) (by kernel_rfl) (by rfl) hS (v := ?_) ?_ ?_
        rotate_left
        · (intro w' hS'; go_simp <;> try with_reducible rfl)
        try simp only [Act.put, List.setIfInBounds_toArray, List.set_cons_zero, List.set_cons_succ]
        refine rg_eff 7 rfl (by kernel_rfl) (by rfl) (fun K hK => ?_)
        refine wp_st (vs := fr wN wD) rfl rfl rfl a6 (by rw [rr_length, fr_length]) (wholeF _ _) (fr_one _ _) ?_
        refine hK _ _ (hS.row (.inr q6) _) (fun hS => ?_)
        clear hK K
        replace a6 := a6.row (fr wN wD)
        replace hb := below_row hb (g := p6) (by omega) (fr wN wD).toArray
        try simp only [Act.put, List.setIfInBounds_toArray, List.set_cons_zero, List.set_cons_succ]
        refine rg_take 8 rfl (by kernel_rfl) (by kernel_rfl) (by kernel_rfl) (by rfl) hS (v := ?_) ?_ ?_
        rotate_left
        · (intro w' hS'; go_simp <;> try with_reducible rfl)
        try simp only [Act.put, List.setIfInBounds_toArray, List.set_cons_zero, List.set_cons_succ]
        refine rg_done (by kernel_rfl) ?_
        go_wp2_with fail
        go_meet
        case rel => exact ⟨p6, rfl, rfl, hb, a6, b1.keep hS (by simp), b5.keep hS (by simp)⟩
    · refine wp_alB (zs := rr false 0 false 0) rfl (by kernel_rfl) (fun p6 q6 a6 => ?_)
      replace q6 := Nat.le_trans hS.1 q6
      refine hK _ _ (hS.alloc _) (fun hS => ?_)
      clear hK K
      replace hb := hb.alloc hb.size (.cells (rr false 0 false 0).toArray 45)
      try simp only [Act.put, List.setIfInBounds_toArray, List.set_cons_zero, List.set_cons_succ]
      refine rg_eff 1 rfl (by kernel_rfl) (by rfl) (fun K hK => ?_)
      go_simp
      refine (HA3.out _).mono ?_
      rintro e w1 ⟨rfl, h1⟩
      refine hK _ _ (hS.call h1) (fun hS => ?_)
      clear hK K
      try replace a6 := a6.call h1
      replace hb := bthen hb h1
      clear h1
      try simp only [Act.put, List.setIfInBounds_toArray, List.set_cons_zero, List.set_cons_succ]
      refine rg_eff 2 rfl (by kernel_rfl) (by rfl) (fun K hK => ?_)
      go_simp
      refine (HA4.out _).mono ?_
      rintro e w1 ⟨rfl, h1⟩
      refine hK _ _ (hS.call h1) (fun hS => ?_)
      clear hK K
      try replace a6 := a6.call h1
      replace hb := bthen hb h1
      clear h1
      try simp only [Act.put, List.setIfInBounds_toArray, List.set_cons_zero, List.set_cons_succ]
      refine rg_take 3 rfl (by kernel_rfl) (by kernel_rfl) (by kernel_rfl) (by rfl) hS (v := ?_) ?_ ?_
      rotate_left
      · (intro w' hS'; go_simp <;> try with_reducible rfl)
      try simp only [Act.put, List.setIfInBounds_toArray, List.set_cons_zero, List.set_cons_succ]
      refine rg_take 4 rfl (by kernel_rfl) (by kernel_rfl) (by kernel_rfl) (by rfl) hS (v := ?_) ?_ ?_
      rotate_left
      · (intro w' hS'; go_simp <;> try with_reducible rfl)
      try simp only [Act.put, List.setIfInBounds_toArray, List.set_cons_zero, List.set_cons_succ]
      refine rg_take 5 rfl (by kernel_rfl) (by kernel_rfl) (by kernel_rfl) (by rfl) hS (v := ?_) ?_ ?_
      rotate_left
      · (intro w' hS'; go_simp <;> try with_reducible rfl)
      try simp only [Act.put, List.setIfInBounds_toArray, List.set_cons_zero, List.set_cons_succ]
      refine rg_eff 7 rfl (by kernel_rfl) (by rfl) (fun K hK => ?_)
      refine wp_st (vs := fr wN wD) rfl rfl rfl a6 (by rw [rr_length, fr_length]) (wholeF _ _) (fr_one _ _) ?_
      refine hK _ _ (hS.row (.inr q6) _) (fun hS => ?_)
      clear hK K
      replace a6 := a6.row (fr wN wD)
      replace hb := below_row hb (g := p6) (by omega) (fr wN wD).toArray
      try simp only [Act.put, List.setIfInBounds_toArray, List.set_cons_zero, List.set_cons_succ]
      refine rg_take 8 rfl (by kernel_rfl) (by kernel_rfl) (by kernel_rfl) (by rfl) hS (v := ?_) ?_ ?_
      rotate_left
      · (intro w' hS'; go_simp <;> try with_reducible rfl)
      try simp only [Act.put, List.setIfInBounds_toArray, List.set_cons_zero, List.set_cons_succ]
      refine rg_done (by kernel_rfl) ?_
      go_wp2_with fail
      go_meet
      case rel => exact ⟨p6, rfl, rfl, hb, a6, b1.keep hS (by simp), b5.keep hS (by simp)⟩
  case rest =>
    clear hb b1 b3 b5 hsz
    obtain ⟨q, rfl, rfl, hb, b6, b1, b5⟩ := hcut
    go_wp2_with (first | (with_reducible refine ldFr rfl rfl rfl b6 ?_) | (with_reducible refine ldFr rfl rfl rfl b5 ?_))
    refine (HA5.out _).mono ?_
    rintro e w1 ⟨rfl, h1⟩
    replace b1 := b1.call h1
    replace b6 := b6.call h1
    replace hb := bthen hb h1
    clear h1
    have f := Blk.new w1 (rr false 0 false 0) 45 rfl
    have b8 := laidR_new w1 (nN) (nD)
    replace b1 := laidR_old b1 (nN) (nD)
    replace b6 := laidR_old b6 (nN) (nD)
    replace hb := laidR_below hb (nN) (nD)
    go_wp2_with (first | (with_reducible refine alR rfl rfl ?_) | (with_reducible refine stR rfl rfl rfl rfl f (rr_length _ _ _ _) ?_) | (with_reducible refine ldFr rfl rfl rfl b6 ?_) | (with_reducible refine ldFr rfl rfl rfl b1 ?_))
    clear f
    generalize (w1.alloc (.cells (rr false 0 false 0).toArray 45)).setRow w1.heap.size (fr (nN) (nD)).toArray = W at *
    generalize w1.heap.size = pl_b8 at *
    refine (HA6.out _).mono ?_
    rintro e w1 ⟨rfl, h1⟩
    replace b1 := b1.call h1
    replace b8 := b8.call h1
    replace hb := bthen hb h1
    clear h1
    go_wp2_with (first | (with_reducible refine ldFr rfl rfl rfl b1 ?_) | (with_reducible refine ldFr rfl rfl rfl b8 ?_))
    refine (HA7.out _).mono ?_
    rintro e w1 ⟨rfl, h1⟩
    replace hb := bthen hb h1
    clear h1
    have c1' := C1.out
    have c2' := C2.out
    go_wp2
    go_ret
    exact ⟨rfl, hb⟩
theorem abs_floor (n : Int) {d : Int} (hd : 0 < d) : (n / d).natAbs ≤ n.natAbs := by
  by_cases h : 0 ≤ n
  · have h1 := Int.ediv_le_self d h
    have h2 := Int.ediv_nonneg h (Int.le_of_lt hd)
    omega
  · have h1 : n / d < 0 := Int.ediv_neg_of_neg_of_pos (by omega) hd
    have h2 : n ≤ n / d := by
      rw [Int.le_ediv_iff_mul_le hd]
      have := Int.mul_le_mul_of_nonpos_left (show n ≤ 0 by omega) (show (1 : Int) ≤ d by omega)
      omega
    omega
theorem floors_walk (s0 : Bool) (N0 : Nat) (t0 : Bool) (M0 : Nat) (hN0 : N0 < bb ^ 32) (hM0 : M0 < bb ^ 32) (w : World) :
    Calls Try.prog 6 #[.agg (rr s0 N0 t0 M0).toArray] w fun e w' => e = .returned (.bool true) ∧ Below w.heap.size w w' := by
  rcases safe_q s0 t0 hN0 hM0 400 with h | ⟨a, ea, ha, fa, ga, Sa⟩
  · exact floors_a s0 N0 t0 M0 h w
  rw [ea]
  have sf : Sz 400 a.floor := by
    rw [Rat.floor_def]
    exact sz_le ha.1 (abs_floor _ (q_pos a))
  have F := Floor_q ha (by omega)
  have h1 := Rat.floor_le a
  have h2 := Rat.lt_floor_add_one a
  generalize a.floor = f at *
  have s1 : Sz 1 1 := by unfold Sz; decide
  have A4 := New_q (sz_mono sf (by omega)) (sz_mono s1 (by omega)) (by decide)
  rw [divInt_one] at A4
  have bf : Bq 400 (f : Rat) := bq_int sf (by omega)
  have b1 : Bq 1 ((1 : Int) : Rat) := bq_int s1 (by omega)
  refine floors_b Sa F (Whole_q (n := 1) (by decide)) (From_ref (n := 1) (by decide)) A4 (Add_q bf (by omega) b1 (by omega)) (Cmp_q bf (by omega) ha (by omega)) (Cmp_q ha (by omega) (bq_add bf b1) (by omega)) ?_ ?_ w
  · unfold cq
    split
    · decide
    · split
      · grind
      · decide
  · have e : ((f + 1 : Int) : Rat) = (f : Rat) + ((1 : Int) : Rat) := Rat.intCast_add _ _
    rw [e] at h2
    unfold cq
    rw [if_pos h2]; decide
end Go.Proofs.Ytiaikjeljhfadaa
namespace Go.Proofs.Ytiaikjeljhfadaa.ratioFloors
open Go.ChangeShapes Go.WideShapes Go.ChangeAt Go.RowKit
set_option linter.unusedVariables false
theorem own : ownKnob Try.prog.godebug = none := by kernel_rfl
set_option maxRecDepth 100000 in
theorem lifted (os : Os) (started : os.Started) (H : Type) (enc : TypeId × Value → H) :
    ReturnsInHanded {} Try.checked os 6 .any (Rows.ratioFloorsSpec.pre6 enc Try.prog Try.f6 Rows.ratioFloorsRow.domain false) (Rows.ratioFloorsSpec.post enc Try.prog Try.f6 false true false false) := by
  refine returnsInHanded_of_change (C := Try.checked) own started (by kernel_rfl) Try.func6
    (ChangeSpec.witness6 (enc := enc) (C := Try.checked) false ⟨#[], #[.agg (rr false 0 false 0).toArray], []⟩ 6 (by kernel_rfl) (by kernel_rfl) (by kernel_rfl) (by kernel_rfl)) ?_
  intro W base args ds gs before hval0 hW hcnd _
  have hval : ∀ (j : Nat) t v, Try.f6.params[j]? = some t → args[j]? = some v → Value.okWide Try.prog W .any base t v := hval0
  have hW' := hW
  obtain ⟨p, q, hA0, hV, rfl, hfz, hnd⟩ := hW
  have hA : DataW.TrodAll enc Try.prog W 0 (fun _ => true) true Try.f6.params.toList args.toList ds p := hA0
  rw [Try.params6] at hA hval
  obtain ⟨v0, vs0, d0, ds0, p0, q0, hargs, rfl, rfl, h0, r0⟩ := trodAll_cons hA
  obtain ⟨rfl, rfl, rfl⟩ := trodAll_nil r0
  obtain rfl : args = #[v0] := by cases args; simp_all
  obtain ⟨rfl, rfl⟩ := trodVars_none hV
  obtain ⟨s0, N0, t0, M0, rfl, hN0, hM0, rfl, hsh0⟩ := open_rat (hval 0 45 v0 rfl rfl) h0
  clear hA0 hval0
  simp only [List.append_nil] at hW'
  refine (floors_walk s0 N0 t0 M0 hN0 hM0 W).mono fun e W' ⟨he, hg⟩ => ?_
  subst he
  exact ⟨_, rfl, post_of_below (pa := []) (pv := []) hW' (fun _ _ _ => (trodAll_cons_mk (shut_bool Try.underlying4 _) trodAll_mk0)) (fun sp _ => (trodAll_cons_mk (hsh0 _ _ _ _) trodAll_mk0)) (fun _ _ => rfl) rfl
    hg (ok_one (by kernel_rfl) rfl (okWide_bool_mk Try.underlying4 _))⟩
theorem over : Rows.ratioFloorsRow.holds Try.pinned (OpenSpec.ofChange Rows.ratioFloorsSpec) :=
  OpenClaim.holds_of_wide 6 Try.f6 rfl rfl rfl rfl rfl rfl rfl ⟨rfl, rfl, rfl, rfl, rfl⟩ rfl rfl rfl rfl rfl (by kernel_rfl) Try.func6 (by kernel_rfl)
    (of_decide_eq_true (by kernel_rfl)) (by unfold Func.isWrapper; first | (rw [if_pos (by decide +kernel)]; kernel_rfl) | (rw [if_neg (by decide +kernel)]; exact ⟨rfl, rfl⟩))
    (fun os started H enc _ => lifted os started H enc)
end Go.Proofs.Ytiaikjeljhfadaa.ratioFloors
namespace Go.Proofs.Ytiaikjeljhfadaa
theorem ratioFloors_holds : Rows.RatioFloorsSaid := ratioFloors.over
#print axioms ratioFloors_holds
end Go.Proofs.Ytiaikjeljhfadaa
