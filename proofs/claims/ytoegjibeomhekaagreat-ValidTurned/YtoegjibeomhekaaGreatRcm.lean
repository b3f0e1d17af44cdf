/- Joined of: Rpl Rpr Rar Rcm. -/
import Derived.Test.YtoegjibeomhekaaGreatRss
import Derived.Deep.DeepCutAuto
/- Package ratio: plus. -/
namespace Go.Proofs.YtoegjibeomhekaaGreat
set_option linter.unusedSimpArgs false
set_option linter.unusedVariables false
open Go.RowKit
set_option maxRecDepth 100000
theorem Blk.ne {w : World} {b b' : Nat} {cs cs' : List Value} {t t' : TypeId} (h : Blk w b cs t) (h' : Blk w b' cs' t') (hl : cs.length ≠ cs'.length) : b ≠ b' := by
  rintro rfl
  unfold Blk at h h'
  rw [h] at h'
  simp at h'
  rw [h'.1] at hl
  exact hl rfl
theorem wr_ne (z : Int) (s : Bool) (N : Nat) (t : Bool) (M : Nat) : (mk z).length ≠ (rr s N t M).length := by rw [mk_length, rr_length]; decide
theorem part_ex {x g : Int} (hx : fits x) (hg : fits g) (h0 : g ≠ 0) (hd : g ∣ x) {q : Int} (hq : x / g = q) (w : World) : Calls Tryz.prog 79 #[.agg (mk x).toArray, .agg (mk g).toArray] w fun e w' => e = .returned (.agg (mk q).toArray) ∧ Below w.heap.size w w' := by
  have := part_any hx hg h0 w
  rwa [Int.tdiv_eq_ediv_of_dvd hd, hq] at this
theorem sz_ediv {k : Nat} {x g : Int} (hx : Sz k x) (hd : g ∣ x) : Sz k (x / g) := by
  rw [← Int.tdiv_eq_ediv_of_dvd hd]; exact sz_tdiv g hx
set_option maxHeartbeats 2000000 in
theorem plus_walk {n d m e g b c n' h N D x1 x2 y : Int} (G : ∀ w, Calls Tryz.prog 69 #[.agg (mk d).toArray, .agg (mk e).toArray] w fun e w' => e = .returned (.agg (mk g).toArray) ∧ Below w.heap.size w w')
    (P1 : ∀ w, Calls Tryz.prog 79 #[.agg (mk d).toArray, .agg (mk g).toArray] w fun e w' => e = .returned (.agg (mk b).toArray) ∧ Below w.heap.size w w')
    (P2 : ∀ w, Calls Tryz.prog 79 #[.agg (mk e).toArray, .agg (mk g).toArray] w fun e w' => e = .returned (.agg (mk c).toArray) ∧ Below w.heap.size w w')
    (T1 : ∀ w, Calls Tryz.prog 75 #[.agg (mk n).toArray, .agg (mk c).toArray] w fun e w' => e = .returned (.agg (mk x1).toArray) ∧ Below w.heap.size w w')
    (T2 : ∀ w, Calls Tryz.prog 75 #[.agg (mk m).toArray, .agg (mk b).toArray] w fun e w' => e = .returned (.agg (mk x2).toArray) ∧ Below w.heap.size w w')
    (A : ∀ w, Calls Tryz.prog 113 #[.agg (mk x1).toArray, .agg (mk x2).toArray] w fun e w' => e = .returned (.tuple #[.agg (mk n').toArray, .bool true]) ∧ Below w.heap.size w w')
    (G2 : ∀ w, Calls Tryz.prog 69 #[.agg (mk n').toArray, .agg (mk g).toArray] w fun e w' => e = .returned (.agg (mk h).toArray) ∧ Below w.heap.size w w')
    (P3 : ∀ w, Calls Tryz.prog 79 #[.agg (mk n').toArray, .agg (mk h).toArray] w fun e w' => e = .returned (.agg (mk N).toArray) ∧ Below w.heap.size w w')
    (P4 : ∀ w, Calls Tryz.prog 79 #[.agg (mk e).toArray, .agg (mk h).toArray] w fun e w' => e = .returned (.agg (mk y).toArray) ∧ Below w.heap.size w w')
    (T3 : ∀ w, Calls Tryz.prog 75 #[.agg (mk b).toArray, .agg (mk y).toArray] w fun e w' => e = .returned (.agg (mk D).toArray) ∧ Below w.heap.size w w') (w : World) :
    Calls Tryz.prog 105 #[.agg (fr n d).toArray, .agg (fr m e).toArray] w fun e w' => e = .returned (.agg (fr N D).toArray) ∧ Below w.heap.size w w' := by
  have HG := Lib.hid G
  have HP1 := Lib.hid P1
  have HP2 := Lib.hid P2
  have HT1 := Lib.hid T1
  have HT2 := Lib.hid T2
  have HA := Lib.hid A
  have HG2 := Lib.hid G2
  have HP3 := Lib.hid P3
  have HP4 := Lib.hid P4
  have HT3 := Lib.hid T3
  clear G P1 P2 T1 T2 A G2 P3 P4 T3
  have b2 := ((Blk.new w (fr n d) 45 rfl).old (.cells (fr m e).toArray 45)).old (.cells (rr false 0 false 0).toArray 45)
  have b3 := (Blk.new (w.alloc (.cells (fr n d).toArray 45)) (fr m e) 45 (b := w.heap.size + 1) (by simp)).old (.cells (rr false 0 false 0).toArray 45)
  have b4 := Blk.new ((w.alloc (.cells (fr n d).toArray 45)).alloc (.cells (fr m e).toArray 45)) (rr false 0 false 0) 45 (b := w.heap.size + 1 + 1) (by simp)
  have hb : Below w.heap.size w (((w.alloc (.cells (fr n d).toArray 45)).alloc (.cells (fr m e).toArray 45)).alloc (.cells (rr false 0 false 0).toArray 45)) := (((Below.refl _ _).alloc (Nat.le_refl _) _).alloc (by simp) _).alloc (by simp; omega) _
  go_enter Tryz.func105, Tryz.ntmps105
  go_wp2_with (first | (with_reducible refine alR rfl rfl ?_) | (with_reducible refine ldP rfl rfl rfl b2 (partF_d _ _) (wholeM _) ?_) | (with_reducible refine ldP rfl rfl rfl b3 (partF_d _ _) (wholeM _) ?_))
  refine (HG.out _).mono ?_
  rintro e w1 ⟨rfl, h1⟩
  replace b2 := b2.call h1
  replace b3 := b3.call h1
  replace b4 := b4.call h1
  replace hb := bthen hb h1
  clear h1
  have f := Blk.new w1 (wd false 0) 43 rfl
  have b5 := laid_new w1 (g)
  replace b2 := laid_old b2 (g)
  replace b3 := laid_old b3 (g)
  replace b4 := laid_old b4 (g)
  replace hb := laid_below hb (g)
  go_wp2_with (first | (with_reducible refine alW rfl rfl ?_) | (with_reducible refine stM rfl rfl rfl rfl f (wd_length _ _) ?_) | (with_reducible refine ldP rfl rfl rfl b2 (partF_d _ _) (wholeM _) ?_) | (with_reducible refine ldM rfl rfl rfl b5 ?_))
  clear f
  generalize (w1.alloc (.cells (wd false 0).toArray 43)).setRow w1.heap.size (mk (g)).toArray = W at *
  generalize w1.heap.size = pl_b5 at *
  refine (HP1.out _).mono ?_
  rintro e w1 ⟨rfl, h1⟩
  replace b2 := b2.call h1
  replace b3 := b3.call h1
  replace b4 := b4.call h1
  replace b5 := b5.call h1
  replace hb := bthen hb h1
  clear h1
  have f := Blk.new w1 (wd false 0) 43 rfl
  have b6 := laid_new w1 (b)
  replace b2 := laid_old b2 (b)
  replace b3 := laid_old b3 (b)
  replace b4 := laid_old b4 (b)
  replace b5 := laid_old b5 (b)
  replace hb := laid_below hb (b)
  go_wp2_with (first | (with_reducible refine alW rfl rfl ?_) | (with_reducible refine stM rfl rfl rfl rfl f (wd_length _ _) ?_))
  clear f
  generalize (w1.alloc (.cells (wd false 0).toArray 43)).setRow w1.heap.size (mk (b)).toArray = W at *
  generalize w1.heap.size = pl_b6 at *
  have hsz := hb.size
  have l4 := b4.lt
  try simp only [Act.put, List.setIfInBounds_toArray, List.set_cons_zero, List.set_cons_succ]
  go_cut [7] (fun p wx => ∃ q, p = .pointer (some ⟨q, 0, none⟩) ∧ Below w.heap.size w wx ∧ Blk wx q (mk n') 43 ∧ Blk wx (w.heap.size + 1) (fr m e) 45 ∧ Blk wx (w.heap.size + 1 + 1) (rr false 0 false 0) 45 ∧ Blk wx pl_b5 (mk g) 43 ∧ Blk wx pl_b6 (mk b) 43)
  case first =>
    refine rg_start [] (by kernel_rfl) (fun hS => ?_)
    replace hb := hb.drew
    refine rg_take 0 rfl (by kernel_rfl) (by kernel_rfl) (by kernel_rfl) (by rfl) hS (v := ?_) ?_ ?_
    rotate_left
    · (intro w' hS'; go_simp <;> try with_reducible rfl)
    try simp only [Act.put, List.setIfInBounds_toArray, List.set_cons_zero, List.set_cons_succ]
    refine rg_ldP 1 rfl (by kernel_rfl) (by kernel_rfl) (by kernel_rfl) (by rfl) hS rfl rfl b2 (by simp <;> omega) (partF_n _ _) (wholeM _) ?_
    try simp only [Act.put, List.setIfInBounds_toArray, List.set_cons_zero, List.set_cons_succ]
    refine rg_take 2 rfl (by kernel_rfl) (by kernel_rfl) (by kernel_rfl) (by rfl) hS (v := ?_) ?_ ?_
    rotate_left
    · (intro w' hS'; go_simp <;> try with_reducible rfl)
    try simp only [Act.put, List.setIfInBounds_toArray, List.set_cons_zero, List.set_cons_succ]
    refine rg_ldP 3 rfl (by kernel_rfl) (by kernel_rfl) (by kernel_rfl) (by rfl) hS rfl rfl b3 (by simp <;> omega) (partF_d _ _) (wholeM _) ?_
    try simp only [Act.put, List.setIfInBounds_toArray, List.set_cons_zero, List.set_cons_succ]
    refine rg_ld 4 rfl (by kernel_rfl) (by kernel_rfl) (by kernel_rfl) (by rfl) hS rfl rfl b5 (by simp <;> omega) (wholeM _) ?_
    try simp only [Act.put, List.setIfInBounds_toArray, List.set_cons_zero, List.set_cons_succ]
    refine rg_take 7 rfl (by kernel_rfl) (by kernel_rfl) (by kernel_rfl) (by rfl) hS (v := ?_) ?_ ?_
    rotate_left
    · (intro w' hS'; go_simp <;> try with_reducible rfl)
    try simp only [Act.put, List.setIfInBounds_toArray, List.set_cons_zero, List.set_cons_succ]
    refine rg_ldP 8 rfl (by kernel_rfl) (by kernel_rfl) (by kernel_rfl) (by rfl) hS rfl rfl b3 (by simp <;> omega) (partF_n _ _) (wholeM _) ?_
    try simp only [Act.put, List.setIfInBounds_toArray, List.set_cons_zero, List.set_cons_succ]
    refine rg_ld 9 rfl (by kernel_rfl) (by kernel_rfl) (by kernel_rfl) (by rfl) hS rfl rfl b6 (by simp <;> omega) (wholeM _) ?_
    try simp only [Act.put, List.setIfInBounds_toArray, List.set_cons_zero, List.set_cons_succ]
    refine rg_two 5 15 rfl rfl (by kernel_rfl) (by rfl) (by rfl) (fun K hK => ?_) (fun K hK => ?_)
    · go_simp
      refine (HP2.out _).mono ?_
      rintro e w1 ⟨rfl, h1⟩
      refine hK _ _ (hS.call h1) (fun hS => ?_)
      clear hK K
      try replace a7 := a7.call h1
      replace hb := bthen hb h1
      clear h1
      try simp only [Act.put, List.setIfInBounds_toArray, List.set_cons_zero, List.set_cons_succ]
      refine rg_two 6 15 rfl rfl (by kernel_rfl) (by rfl) (by rfl) (fun K hK => ?_) (fun K hK => ?_)
      · go_simp
        refine (HT1.out _).mono ?_
        rintro e w1 ⟨rfl, h1⟩
        refine hK _ _ (hS.call h1) (fun hS => ?_)
        clear hK K
        try replace a7 := a7.call h1
        replace hb := bthen hb h1
        clear h1
        try simp only [Act.put, List.setIfInBounds_toArray, List.set_cons_zero, List.set_cons_succ]
        refine rg_two 10 15 rfl rfl (by kernel_rfl) (by rfl) (by rfl) (fun K hK => ?_) (fun K hK => ?_)
        · go_simp
          refine (HT2.out _).mono ?_
          rintro e w1 ⟨rfl, h1⟩
          refine hK _ _ (hS.call h1) (fun hS => ?_)
          clear hK K
          try replace a7 := a7.call h1
          replace hb := bthen hb h1
          clear h1
          try simp only [Act.put, List.setIfInBounds_toArray, List.set_cons_zero, List.set_cons_succ]
          refine rg_two 11 15 rfl rfl (by kernel_rfl) (by rfl) (by rfl) (fun K hK => ?_) (fun K hK => ?_)
          · go_simp
            refine (HA.out _).mono ?_
            rintro e w1 ⟨rfl, h1⟩
            refine hK _ _ (hS.call h1) (fun hS => ?_)
            clear hK K
            try replace a7 := a7.call h1
            replace hb := bthen hb h1
            clear h1
            try simp only [Act.put, List.setIfInBounds_toArray, List.set_cons_zero, List.set_cons_succ]
            refine rg_take 12 rfl (by kernel_rfl) (by kernel_rfl) (by kernel_rfl) (by rfl) hS (v := ?_) ?_ ?_
            rotate_left
            · (intro w' hS'; go_simp <;> try with_reducible rfl)
            try simp only [Act.put, List.setIfInBounds_toArray, List.set_cons_zero, List.set_cons_succ]
            refine rg_take 13 rfl (by kernel_rfl) (by kernel_rfl) (by kernel_rfl) (by rfl) hS (v := ?_) ?_ ?_
            rotate_left
            · (intro w' hS'; go_simp <;> try with_reducible rfl)
            try simp only [Act.put, List.setIfInBounds_toArray, List.set_cons_zero, List.set_cons_succ]
            refine rg_take 14 rfl (by kernel_rfl) (by kernel_rfl) (by kernel_rfl) (by rfl) hS (v := ?_) ?_ ?_
            rotate_left
            · (intro w' hS'; go_simp <;> try with_reducible rfl)
            try simp only [Act.put, List.setIfInBounds_toArray, List.set_cons_zero, List.set_cons_succ]
            refine rg_eff 15 rfl (by kernel_rfl) (by rfl) (fun K hK => ?_)
            refine wp_alB (zs := wd false 0) rfl (by kernel_rfl) (fun p7 q7 a7 => ?_)
            replace q7 := Nat.le_trans hS.1 q7
            refine hK _ _ (hS.alloc _) (fun hS => ?_)
            clear hK K
            replace hb := hb.alloc hb.size (.cells (wd false 0).toArray 43)
            try simp only [Act.put, List.setIfInBounds_toArray, List.set_cons_zero, List.set_cons_succ]
            refine rg_eff 16 rfl (by kernel_rfl) (by rfl) (fun K hK => ?_)
            refine wp_st (vs := mk n') rfl rfl rfl a7 (by rw [wd_length, mk_length]) (wholeM _) (mk_one _) ?_
            refine hK _ _ (hS.row (.inr q7) _) (fun hS => ?_)
            clear hK K
            replace a7 := a7.row (mk n')
            replace hb := below_row hb (g := p7) (by omega) (mk n').toArray
            try simp only [Act.put, List.setIfInBounds_toArray, List.set_cons_zero, List.set_cons_succ]
            refine rg_take 17 rfl (by kernel_rfl) (by kernel_rfl) (by kernel_rfl) (by rfl) hS (v := ?_) ?_ ?_
            rotate_left
            · (intro w' hS'; go_simp <;> try with_reducible rfl)
            try simp only [Act.put, List.setIfInBounds_toArray, List.set_cons_zero, List.set_cons_succ]
            refine rg_done (by kernel_rfl) ?_
            go_wp2_with fail
            go_meet
            case rel => exact ⟨p7, rfl, hb, a7, b3.keep hS (by simp), b4.keep hS (by simp), b5.keep hS (by simp), b6.keep hS (by simp)⟩
          · refine wp_alB (zs := wd false 0) rfl (by kernel_rfl) (fun p7 q7 a7 => ?_)
            replace q7 := Nat.le_trans hS.1 q7
            refine hK _ _ (hS.alloc _) (fun hS => ?_)
            clear hK K
            replace hb := hb.alloc hb.size (.cells (wd false 0).toArray 43)
            try simp only [Act.put, List.setIfInBounds_toArray, List.set_cons_zero, List.set_cons_succ]
            refine rg_eff 11 rfl (by kernel_rfl) (by rfl) (fun K hK => ?_)
            go_simp
            refine (HA.out _).mono ?_
            rintro e w1 ⟨rfl, h1⟩
            refine hK _ _ (hS.call h1) (fun hS => ?_)
            clear hK K
            try replace a7 := a7.call h1
            replace hb := bthen hb h1
            clear h1
            try simp only [Act.put, List.setIfInBounds_toArray, List.set_cons_zero, List.set_cons_succ]
            refine rg_take 12 rfl (by kernel_rfl) (by kernel_rfl) (by kernel_rfl) (by rfl) hS (v := ?_) ?_ ?_
            rotate_left
            · (intro w' hS'; go_simp <;> try with_reducible rfl)
            try simp only [Act.put, List.setIfInBounds_toArray, List.set_cons_zero, List.set_cons_succ]
            refine rg_take 13 rfl (by kernel_rfl) (by kernel_rfl) (by kernel_rfl) (by rfl) hS (v := ?_) ?_ ?_
            rotate_left
            · (intro w' hS'; go_simp <;> try with_reducible rfl)
            try simp only [Act.put, List.setIfInBounds_toArray, List.set_cons_zero, List.set_cons_succ]
            refine rg_take 14 rfl (by kernel_rfl) (by kernel_rfl) (by kernel_rfl) (by rfl) hS (v := ?_) ?_ ?_
            rotate_left
            · (intro w' hS'; go_simp <;> try with_reducible rfl)
            try simp only [Act.put, List.setIfInBounds_toArray, List.set_cons_zero, List.set_cons_succ]
            refine rg_eff 16 rfl (by kernel_rfl) (by rfl) (fun K hK => ?_)
            refine wp_st (vs := mk n') rfl rfl rfl a7 (by rw [wd_length, mk_length]) (wholeM _) (mk_one _) ?_
            refine hK _ _ (hS.row (.inr q7) _) (fun hS => ?_)
            clear hK K
            replace a7 := a7.row (mk n')
            replace hb := below_row hb (g := p7) (by omega) (mk n').toArray
            try simp only [Act.put, List.setIfInBounds_toArray, List.set_cons_zero, List.set_cons_succ]
            refine rg_take 17 rfl (by kernel_rfl) (by kernel_rfl) (by kernel_rfl) (by rfl) hS (v := ?_) ?_ ?_
            rotate_left
            · (intro w' hS'; go_simp <;> try with_reducible rfl)
            try simp only [Act.put, List.setIfInBounds_toArray, List.set_cons_zero, List.set_cons_succ]
            refine rg_done (by kernel_rfl) ?_
            go_wp2_with fail
            go_meet
            case rel => exact ⟨p7, rfl, hb, a7, b3.keep hS (by simp), b4.keep hS (by simp), b5.keep hS (by simp), b6.keep hS (by simp)⟩
        · refine wp_alB (zs := wd false 0) rfl (by kernel_rfl) (fun p7 q7 a7 => ?_)
          replace q7 := Nat.le_trans hS.1 q7
          refine hK _ _ (hS.alloc _) (fun hS => ?_)
          clear hK K
          replace hb := hb.alloc hb.size (.cells (wd false 0).toArray 43)
          try simp only [Act.put, List.setIfInBounds_toArray, List.set_cons_zero, List.set_cons_succ]
          refine rg_eff 10 rfl (by kernel_rfl) (by rfl) (fun K hK => ?_)
          go_simp
          refine (HT2.out _).mono ?_
          rintro e w1 ⟨rfl, h1⟩
          refine hK _ _ (hS.call h1) (fun hS => ?_)
          clear hK K
          try replace a7 := a7.call h1
          replace hb := bthen hb h1
          clear h1
          try simp only [Act.put, List.setIfInBounds_toArray, List.set_cons_zero, List.set_cons_succ]
          refine rg_eff 11 rfl (by kernel_rfl) (by rfl) (fun K hK => ?_)
          go_simp
          refine (HA.out _).mono ?_
          rintro e w1 ⟨rfl, h1⟩
          refine hK _ _ (hS.call h1) (fun hS => ?_)
          clear hK K
          try replace a7 := a7.call h1
          replace hb := bthen hb h1
          clear h1
          try simp only [Act.put, List.setIfInBounds_toArray, List.set_cons_zero, List.set_cons_succ]
          refine rg_take 12 rfl (by kernel_rfl) (by kernel_rfl) (by kernel_rfl) (by rfl) hS (v := ?_) ?_ ?_
          rotate_left
          · (intro w' hS'; go_simp <;> try with_reducible rfl)
          try simp only [Act.put, List.setIfInBounds_toArray, List.set_cons_zero, List.set_cons_succ]
          refine rg_take 13 rfl (by kernel_rfl) (by kernel_rfl) (by kernel_rfl) (by rfl) hS (v := ?_) ?_ ?_
          rotate_left
          · (intro w' hS'; go_simp <;> try with_reducible rfl)
          try simp only [Act.put, List.setIfInBounds_toArray, List.set_cons_zero, List.set_cons_succ]
          refine rg_take 14 rfl (by kernel_rfl) (by kernel_rfl) (by kernel_rfl) (by rfl) hS (v := ?_) ?_ ?_
          rotate_left
          · (intro w' hS'; go_simp <;> try with_reducible rfl)
          try simp only [Act.put, List.setIfInBounds_toArray, List.set_cons_zero, List.set_cons_succ]
          refine rg_eff 16 rfl (by kernel_rfl) (by rfl) (fun K hK => ?_)
          refine wp_st (vs := mk n') rfl rfl rfl a7 (by rw [wd_length, mk_length]) (wholeM _) (mk_one _) ?_
          refine hK _ _ (hS.row (.inr q7) _) (fun hS => ?_)
          clear hK K
          replace a7 := a7.row (mk n')
          replace hb := below_row hb (g := p7) (by omega) (mk n').toArray
          try simp only [Act.put, List.setIfInBounds_toArray, List.set_cons_zero, List.set_cons_succ]
          refine rg_take 17 rfl (by kernel_rfl) (by kernel_rfl) (by kernel_rfl) (by rfl) hS (v := ?_) ?_ ?_
          rotate_left
          · (intro w' hS'; go_simp <;> try with_reducible rfl)
          try simp only [Act.put, List.setIfInBounds_toArray, List.set_cons_zero, List.set_cons_succ]
          refine rg_done (by kernel_rfl) ?_
          go_wp2_with fail
          go_meet
          case rel => exact ⟨p7, rfl, hb, a7, b3.keep hS (by simp), b4.keep hS (by simp), b5.keep hS (by simp), b6.keep hS (by simp)⟩
      · refine wp_alB (zs := wd false 0) rfl (by kernel_rfl) (fun p7 q7 a7 => ?_)
        replace q7 := Nat.le_trans hS.1 q7
        refine hK _ _ (hS.alloc _) (fun hS => ?_)
        clear hK K
        replace hb := hb.alloc hb.size (.cells (wd false 0).toArray 43)
        try simp only [Act.put, List.setIfInBounds_toArray, List.set_cons_zero, List.set_cons_succ]
        refine rg_eff 6 rfl (by kernel_rfl) (by rfl) (fun K hK => ?_)
        go_simp
        refine (HT1.out _).mono ?_
        rintro e w1 ⟨rfl, h1⟩
        refine hK _ _ (hS.call h1) (fun hS => ?_)
        clear hK K
        try replace a7 := a7.call h1
        replace hb := bthen hb h1
        clear h1
        try simp only [Act.put, List.setIfInBounds_toArray, List.set_cons_zero, List.set_cons_succ]
        refine rg_eff 10 rfl (by kernel_rfl) (by rfl) (fun K hK => ?_)
        go_simp
        refine (HT2.out _).mono ?_
        rintro e w1 ⟨rfl, h1⟩
        refine hK _ _ (hS.call h1) (fun hS => ?_)
        clear hK K
        try replace a7 := a7.call h1
        replace hb := bthen hb h1
        clear h1
        try simp only [Act.put, List.setIfInBounds_toArray, List.set_cons_zero, List.set_cons_succ]
        refine rg_eff 11 rfl (by kernel_rfl) (by rfl) (fun K hK => ?_)
        go_simp
        refine (HA.out _).mono ?_
        rintro e w1 ⟨rfl, h1⟩
        refine hK _ _ (hS.call h1) (fun hS => ?_)
        clear hK K
        try replace a7 := a7.call h1
        replace hb := bthen hb h1
        clear h1
        try simp only [Act.put, List.setIfInBounds_toArray, List.set_cons_zero, List.set_cons_succ]
        refine rg_take 12 rfl (by kernel_rfl) (by kernel_rfl) (by kernel_rfl) (by rfl) hS (v := ?_) ?_ ?_
        rotate_left
        · (intro w' hS'; go_simp <;> try with_reducible rfl)
        try simp only [Act.put, List.setIfInBounds_toArray, List.set_cons_zero, List.set_cons_succ]
        refine rg_take 13 rfl (by kernel_rfl) (by kernel_rfl) (by kernel_rfl) (by rfl) hS (v := ?_) ?_ ?_
        rotate_left
        · (intro w' hS'; go_simp <;> try with_reducible rfl)
        try simp only [Act.put, List.setIfInBounds_toArray, List.set_cons_zero, List.set_cons_succ]
        refine rg_take 14 rfl (by kernel_rfl) (by kernel_rfl) (by kernel_rfl) (by rfl) hS (v := ?_) ?_ ?_
        rotate_left
        · (intro w' hS'; go_simp <;> try with_reducible rfl)
        try simp only [Act.put, List.setIfInBounds_toArray, List.set_cons_zero, List.set_cons_succ]
        refine rg_eff 16 rfl (by kernel_rfl) (by rfl) (fun K hK => ?_)
        refine wp_st (vs := mk n') rfl rfl rfl a7 (by rw [wd_length, mk_length]) (wholeM _) (mk_one _) ?_
        refine hK _ _ (hS.row (.inr q7) _) (fun hS => ?_)
        clear hK K
        replace a7 := a7.row (mk n')
        replace hb := below_row hb (g := p7) (by omega) (mk n').toArray
        try simp only [Act.put, List.setIfInBounds_toArray, List.set_cons_zero, List.set_cons_succ]
        refine rg_take 17 rfl (by kernel_rfl) (by kernel_rfl) (by kernel_rfl) (by rfl) hS (v := ?_) ?_ ?_
        rotate_left
        · (intro w' hS'; go_simp <;> try with_reducible rfl)
        try simp only [Act.put, List.setIfInBounds_toArray, List.set_cons_zero, List.set_cons_succ]
        refine rg_done (by kernel_rfl) ?_
        go_wp2_with fail
        go_meet
        case rel => exact ⟨p7, rfl, hb, a7, b3.keep hS (by simp), b4.keep hS (by simp), b5.keep hS (by simp), b6.keep hS (by simp)⟩
    · refine wp_alB (zs := wd false 0) rfl (by kernel_rfl) (fun p7 q7 a7 => ?_)
      replace q7 := Nat.le_trans hS.1 q7
      refine hK _ _ (hS.alloc _) (fun hS => ?_)
      clear hK K
      replace hb := hb.alloc hb.size (.cells (wd false 0).toArray 43)
      try simp only [Act.put, List.setIfInBounds_toArray, List.set_cons_zero, List.set_cons_succ]
      refine rg_eff 5 rfl (by kernel_rfl) (by rfl) (fun K hK => ?_)
      go_simp
      refine (HP2.out _).mono ?_
      rintro e w1 ⟨rfl, h1⟩
      refine hK _ _ (hS.call h1) (fun hS => ?_)
      clear hK K
      try replace a7 := a7.call h1
      replace hb := bthen hb h1
      clear h1
      try simp only [Act.put, List.setIfInBounds_toArray, List.set_cons_zero, List.set_cons_succ]
      refine rg_eff 6 rfl (by kernel_rfl) (by rfl) (fun K hK => ?_)
      go_simp
      refine (HT1.out _).mono ?_
      rintro e w1 ⟨rfl, h1⟩
      refine hK _ _ (hS.call h1) (fun hS => ?_)
      clear hK K
      try replace a7 := a7.call h1
      replace hb := bthen hb h1
      clear h1
      try simp only [Act.put, List.setIfInBounds_toArray, List.set_cons_zero, List.set_cons_succ]
      refine rg_eff 10 rfl (by kernel_rfl) (by rfl) (fun K hK => ?_)
      go_simp
      refine (HT2.out _).mono ?_
      rintro e w1 ⟨rfl, h1⟩
      refine hK _ _ (hS.call h1) (fun hS => ?_)
      clear hK K
      try replace a7 := a7.call h1
      replace hb := bthen hb h1
      clear h1
      try simp only [Act.put, List.setIfInBounds_toArray, List.set_cons_zero, List.set_cons_succ]
      refine rg_eff 11 rfl (by kernel_rfl) (by rfl) (fun K hK => ?_)
      go_simp
      refine (HA.out _).mono ?_
      rintro e w1 ⟨rfl, h1⟩
      refine hK _ _ (hS.call h1) (fun hS => ?_)
      clear hK K
      try replace a7 := a7.call h1
      replace hb := bthen hb h1
      clear h1
      try simp only [Act.put, List.setIfInBounds_toArray, List.set_cons_zero, List.set_cons_succ]
      refine rg_take 12 rfl (by kernel_rfl) (by kernel_rfl) (by kernel_rfl) (by rfl) hS (v := ?_) ?_ ?_
      rotate_left
      · (intro w' hS'; go_simp <;> try with_reducible rfl)
      try simp only [Act.put, List.setIfInBounds_toArray, List.set_cons_zero, List.set_cons_succ]
      refine rg_take 13 rfl (by kernel_rfl) (by kernel_rfl) (by kernel_rfl) (by rfl) hS (v := ?_) ?_ ?_
      rotate_left
      · (intro w' hS'; go_simp <;> try with_reducible rfl)
      try simp only [Act.put, List.setIfInBounds_toArray, List.set_cons_zero, List.set_cons_succ]
      refine rg_take 14 rfl (by kernel_rfl) (by kernel_rfl) (by kernel_rfl) (by rfl) hS (v := ?_) ?_ ?_
      rotate_left
      · (intro w' hS'; go_simp <;> try with_reducible rfl)
      try simp only [Act.put, List.setIfInBounds_toArray, List.set_cons_zero, List.set_cons_succ]
      refine rg_eff 16 rfl (by kernel_rfl) (by rfl) (fun K hK => ?_)
      refine wp_st (vs := mk n') rfl rfl rfl a7 (by rw [wd_length, mk_length]) (wholeM _) (mk_one _) ?_
      refine hK _ _ (hS.row (.inr q7) _) (fun hS => ?_)
      clear hK K
      replace a7 := a7.row (mk n')
      replace hb := below_row hb (g := p7) (by omega) (mk n').toArray
      try simp only [Act.put, List.setIfInBounds_toArray, List.set_cons_zero, List.set_cons_succ]
      refine rg_take 17 rfl (by kernel_rfl) (by kernel_rfl) (by kernel_rfl) (by rfl) hS (v := ?_) ?_ ?_
      rotate_left
      · (intro w' hS'; go_simp <;> try with_reducible rfl)
      try simp only [Act.put, List.setIfInBounds_toArray, List.set_cons_zero, List.set_cons_succ]
      refine rg_done (by kernel_rfl) ?_
      go_wp2_with fail
      go_meet
      case rel => exact ⟨p7, rfl, hb, a7, b3.keep hS (by simp), b4.keep hS (by simp), b5.keep hS (by simp), b6.keep hS (by simp)⟩
  case rest =>
    clear hb b2 b3 b4 b5 b6 hsz l4
    obtain ⟨q, rfl, hb, b7, b3, b4, b5, b6⟩ := hcut
    go_wp2_with (first | (with_reducible refine ldM rfl rfl rfl b7 ?_) | (with_reducible refine ldM rfl rfl rfl b5 ?_))
    refine (HG2.out _).mono ?_
    rintro e w1 ⟨rfl, h1⟩
    replace b3 := b3.call h1
    replace b4 := b4.call h1
    replace b6 := b6.call h1
    replace b7 := b7.call h1
    replace hb := bthen hb h1
    clear h1
    have f := Blk.new w1 (wd false 0) 43 rfl
    have b9 := laid_new w1 (h)
    replace b3 := laid_old b3 (h)
    replace b4 := laid_old b4 (h)
    replace b6 := laid_old b6 (h)
    replace b7 := laid_old b7 (h)
    replace hb := laid_below hb (h)
    go_wp2_with (first | (with_reducible refine alW rfl rfl ?_) | (with_reducible refine stM rfl rfl rfl rfl f (wd_length _ _) ?_))
    clear f
    generalize (w1.alloc (.cells (wd false 0).toArray 43)).setRow w1.heap.size (mk (h)).toArray = W at *
    generalize w1.heap.size = pl_b9 at *
    have n6 := b6.ne b4 (wr_ne _ _ _ _ _)
    have n7 := b7.ne b4 (wr_ne _ _ _ _ _)
    have n9 := b9.ne b4 (wr_ne _ _ _ _ _)
    refine rg_start [w.heap.size + 1 + 1] (by kernel_rfl) (fun hS => ?_)
    replace hb := hb.drew
    replace b4 := b4.drew
    refine rg_ld 0 rfl (by kernel_rfl) (by kernel_rfl) (by kernel_rfl) (by rfl) hS rfl rfl b7 (by simp <;> omega) (wholeM _) ?_
    try simp only [Act.put, List.setIfInBounds_toArray, List.set_cons_zero, List.set_cons_succ]
    refine rg_ld 1 rfl (by kernel_rfl) (by kernel_rfl) (by kernel_rfl) (by rfl) hS rfl rfl b9 (by simp <;> omega) (wholeM _) ?_
    try simp only [Act.put, List.setIfInBounds_toArray, List.set_cons_zero, List.set_cons_succ]
    refine rg_ld 3 rfl (by kernel_rfl) (by kernel_rfl) (by kernel_rfl) (by rfl) hS rfl rfl b6 (by simp <;> omega) (wholeM _) ?_
    try simp only [Act.put, List.setIfInBounds_toArray, List.set_cons_zero, List.set_cons_succ]
    refine rg_take 4 rfl (by kernel_rfl) (by kernel_rfl) (by kernel_rfl) (by rfl) hS (v := ?_) ?_ ?_
    rotate_left
    · (intro w' hS'; go_simp <;> try with_reducible rfl)
    try simp only [Act.put, List.setIfInBounds_toArray, List.set_cons_zero, List.set_cons_succ]
    refine rg_ldP 5 rfl (by kernel_rfl) (by kernel_rfl) (by kernel_rfl) (by rfl) hS rfl rfl b3 (by simp <;> omega) (partF_d _ _) (wholeM _) ?_
    try simp only [Act.put, List.setIfInBounds_toArray, List.set_cons_zero, List.set_cons_succ]
    refine rg_ld 6 rfl (by kernel_rfl) (by kernel_rfl) (by kernel_rfl) (by rfl) hS rfl rfl b9 (by simp <;> omega) (wholeM _) ?_
    try simp only [Act.put, List.setIfInBounds_toArray, List.set_cons_zero, List.set_cons_succ]
    refine rg_eff 2 rfl (by kernel_rfl) (by rfl) (fun K hK => ?_)
    go_simp
    refine (HP3.out _).mono ?_
    rintro e w1 ⟨rfl, h1⟩
    refine hK _ _ (hS.call h1) (fun hS => ?_)
    clear hK K
    replace b4 := b4.call h1
    replace hb := bthen hb h1
    clear h1
    try simp only [Act.put, List.setIfInBounds_toArray, List.set_cons_zero, List.set_cons_succ]
    refine rg_eff 7 rfl (by kernel_rfl) (by rfl) (fun K hK => ?_)
    go_simp
    refine (HP4.out _).mono ?_
    rintro e w1 ⟨rfl, h1⟩
    refine hK _ _ (hS.call h1) (fun hS => ?_)
    clear hK K
    replace b4 := b4.call h1
    replace hb := bthen hb h1
    clear h1
    try simp only [Act.put, List.setIfInBounds_toArray, List.set_cons_zero, List.set_cons_succ]
    refine rg_eff 8 rfl (by kernel_rfl) (by rfl) (fun K hK => ?_)
    go_simp
    refine (HT3.out _).mono ?_
    rintro e w1 ⟨rfl, h1⟩
    refine hK _ _ (hS.call h1) (fun hS => ?_)
    clear hK K
    replace b4 := b4.call h1
    replace hb := bthen hb h1
    clear h1
    try simp only [Act.put, List.setIfInBounds_toArray, List.set_cons_zero, List.set_cons_succ]
    refine rg_build 9 rfl (by kernel_rfl) (by kernel_rfl) (by kernel_rfl) (by rfl) hS rfl (pl := [(0, .agg (mk N).toArray), (1, .agg (mk D).toArray)]) (builtF _ _) (by simp [Act.eval]) ?_
    try simp only [Act.put, List.setIfInBounds_toArray, List.set_cons_zero, List.set_cons_succ]
    refine rg_eff 10 rfl (by kernel_rfl) (by rfl) (fun K hK => ?_)
    refine wp_st (vs := fr N D) rfl rfl rfl b4 (by rw [rr_length, fr_length]) (wholeF _ _) (fr_one _ _) ?_
    refine hK _ _ (hS.row (.inl (by simp)) _) (fun hS => ?_)
    clear hK K
    try simp only [Act.put, List.setIfInBounds_toArray, List.set_cons_zero, List.set_cons_succ]
    refine rg_done (by kernel_rfl) ?_
    go_wp2
    exact ret_c (cs := fr N D) rfl rfl rfl (wholeF _ _) (b4.row _) ⟨rfl, below_row hb (by omega) _⟩
/-- The sum of two safe fractions: in lowest terms. -/
theorem rplus_any {n d m e : Int} (hn : Sf n d) (hm : Sf m e) : ∃ N D, Rt N D ∧ N * (d * e) = (n * e + m * d) * D ∧ fits N ∧ fits D ∧ ∀ w, Calls Tryz.prog 105 #[.agg (fr n d).toArray, .agg (fr m e).toArray] w fun e w' => e = .returned (.agg (fr N D).toArray) ∧ Below w.heap.size w w' := by
  obtain ⟨R1, R2, g0, h0, d1, d2, d3, d4⟩ := plus_rt hn.1 hm.1 rfl rfl rfl rfl rfl
  have sg := sz_gcd hn.2.2 hm.2.2
  have fg := fits_gcd' hn.fd hm.fd
  have sb := sz_ediv hn.2.2 d3
  have sc := sz_ediv hm.2.2 d4
  have s1 := sz_mul hn.2.1 sc
  have s2 := sz_mul hm.2.1 sb
  have s3 := sz_add s1 s2
  have G := fun w => Gcd_z (wd_of hn.fd) (wd_of hm.fd) w
  have P1 := fun w => part_ex hn.fd fg g0 d3 rfl w
  have P2 := fun w => part_ex hm.fd fg g0 d4 rfl w
  have T1 := fun w => rtimes_any hn.fn (sz_fits sc (by omega)) (sz_fits s1 (by omega)) w
  have T2 := fun w => rtimes_any hm.fn (sz_fits sb (by omega)) (sz_fits s2 (by omega)) w
  have f3 := sz_fits s3 (by omega)
  have A := fun w => Add_w (wd_of (sz_fits s1 (by omega))) (wd_of (sz_fits s2 (by omega))) w f3
  have G2 := fun w => Gcd_z (wd_of f3) (wd_of fg) w
  have fh := fits_gcd' f3 fg
  have P3 := fun w => part_ex f3 fh h0 d1 rfl w
  have P4 := fun w => part_ex hm.fd fh h0 d2 rfl w
  have sy := sz_ediv hm.2.2 d2
  have sD := sz_mul sb sy
  have T3 := fun w => rtimes_any (sz_fits sb (by omega)) (sz_fits sy (by omega)) (sz_fits sD (by omega)) w
  exact ⟨_, _, R1, R2, sz_fits (sz_ediv s3 d1) (by omega), sz_fits sD (by omega), fun w => plus_walk G P1 P2 T1 T2 A G2 P3 P4 T3 w⟩
end Go.Proofs.YtoegjibeomhekaaGreat

/- Package ratio: product, upended. -/
namespace Go.Proofs.YtoegjibeomhekaaGreat
set_option linter.unusedSimpArgs false
set_option linter.unusedVariables false
open Go.RowKit
set_option maxRecDepth 100000
/-- Whatever the world: the call answers v, and nothing that was there has turned. -/
def Tl (f : Nat) (args : Array Value) (v : Value) : Prop := ∀ w, Calls Tryz.prog f args w fun e w' => e = .returned v ∧ Below w.heap.size w w'
/-- The value of a number, of a fraction. -/
def vw (x : Int) : Value := .agg (mk x).toArray
def vf (n d : Int) : Value := .agg (fr n d).toArray
set_option maxHeartbeats 2000000 in
theorem product_walk {n d m e g h p1 p2 p3 p4 N D : Int} (G1 : Tl 69 #[vw n, vw e] (vw g)) (G2 : Tl 69 #[vw m, vw d] (vw h))
    (P1 : Tl 79 #[vw n, vw g] (vw p1)) (P2 : Tl 79 #[vw m, vw h] (vw p2)) (T1 : Tl 75 #[vw p1, vw p2] (vw N))
    (P3 : Tl 79 #[vw d, vw h] (vw p3)) (P4 : Tl 79 #[vw e, vw g] (vw p4)) (T2 : Tl 75 #[vw p3, vw p4] (vw D)) : Tl 114 #[vf n d, vf m e] (vf N D) := by
  intro w
  unfold Tl at G1 G2 P1 P2 T1 P3 P4 T2
  unfold vw at G1 G2 P1 P2 T1 P3 P4 T2
  unfold vf
  have HG1 := Lib.hid G1
  have HG2 := Lib.hid G2
  have HP1 := Lib.hid P1
  have HP2 := Lib.hid P2
  have HP3 := Lib.hid P3
  have HP4 := Lib.hid P4
  have HT1 := Lib.hid T1
  have HT2 := Lib.hid T2
  clear G1 G2 P1 P2 T1 P3 P4 T2
  have b2 := ((Blk.new w (fr n d) 45 rfl).old (.cells (fr m e).toArray 45)).old (.cells (rr false 0 false 0).toArray 45)
  have b3 := (Blk.new (w.alloc (.cells (fr n d).toArray 45)) (fr m e) 45 (b := w.heap.size + 1) (by simp)).old (.cells (rr false 0 false 0).toArray 45)
  have b4 := Blk.new ((w.alloc (.cells (fr n d).toArray 45)).alloc (.cells (fr m e).toArray 45)) (rr false 0 false 0) 45 (b := w.heap.size + 1 + 1) (by simp)
  have hb : Below w.heap.size w (((w.alloc (.cells (fr n d).toArray 45)).alloc (.cells (fr m e).toArray 45)).alloc (.cells (rr false 0 false 0).toArray 45)) := (((Below.refl _ _).alloc (Nat.le_refl _) _).alloc (by simp) _).alloc (by simp; omega) _
  go_enter Tryz.func114, Tryz.ntmps114
  go_wp2_with (first | (with_reducible refine alR rfl rfl ?_))
  have hsz := hb.size
  try simp only [Act.put, List.setIfInBounds_toArray, List.set_cons_zero, List.set_cons_succ]
  try rw [show ((w.alloc (.cells (fr n d).toArray 45)).alloc (.cells (fr m e).toArray 45)).heap.size = w.heap.size + 1 + 1 by simp]
  generalize (((w.alloc (.cells (fr n d).toArray 45)).alloc (.cells (fr m e).toArray 45)).alloc (.cells (rr false 0 false 0).toArray 45)) = W at *
  go_cut [5, 6] (fun p p' wx => ∃ q q', p = .pointer (some ⟨q, 0, none⟩) ∧ p' = .pointer (some ⟨q', 0, none⟩) ∧ Below w.heap.size w wx ∧ Blk wx q (mk g) 43 ∧ Blk wx q' (mk h) 43 ∧ Blk wx w.heap.size (fr n d) 45 ∧ Blk wx (w.heap.size + 1) (fr m e) 45 ∧ Blk wx (w.heap.size + 1 + 1) (rr false 0 false 0) 45)
  case first =>
    refine rg_start [] (by kernel_rfl) (fun hS => ?_)
    replace hb := hb.drew
    refine rg_take 0 rfl (by kernel_rfl) (by kernel_rfl) (by kernel_rfl) (by rfl) hS (v := ?_) ?_ ?_
    rotate_left
    · (intro w' hS'; go_simp <;> try with_reducible rfl)
    try simp only [Act.put, List.setIfInBounds_toArray, List.set_cons_zero, List.set_cons_succ]
    refine rg_ldP 1 rfl (by kernel_rfl) (by kernel_rfl) (by kernel_rfl) (by rfl) hS rfl rfl b2 (by simp <;> omega) (partF_n _ _) (wholeM _) ?_
    try simp only [Act.put, List.setIfInBounds_toArray, List.set_cons_zero, List.set_cons_succ]
    refine rg_take 2 rfl (by kernel_rfl) (by kernel_rfl) (by kernel_rfl) (by rfl) hS (v := ?_) ?_ ?_
    rotate_left
    · (intro w' hS'; go_simp <;> try with_reducible rfl)
    try simp only [Act.put, List.setIfInBounds_toArray, List.set_cons_zero, List.set_cons_succ]
    refine rg_ldP 3 rfl (by kernel_rfl) (by kernel_rfl) (by kernel_rfl) (by rfl) hS rfl rfl b3 (by simp <;> omega) (partF_d _ _) (wholeM _) ?_
    try simp only [Act.put, List.setIfInBounds_toArray, List.set_cons_zero, List.set_cons_succ]
    refine rg_take 5 rfl (by kernel_rfl) (by kernel_rfl) (by kernel_rfl) (by rfl) hS (v := ?_) ?_ ?_
    rotate_left
    · (intro w' hS'; go_simp <;> try with_reducible rfl)
    try simp only [Act.put, List.setIfInBounds_toArray, List.set_cons_zero, List.set_cons_succ]
    refine rg_ldP 6 rfl (by kernel_rfl) (by kernel_rfl) (by kernel_rfl) (by rfl) hS rfl rfl b3 (by simp <;> omega) (partF_n _ _) (wholeM _) ?_
    try simp only [Act.put, List.setIfInBounds_toArray, List.set_cons_zero, List.set_cons_succ]
    refine rg_take 7 rfl (by kernel_rfl) (by kernel_rfl) (by kernel_rfl) (by rfl) hS (v := ?_) ?_ ?_
    rotate_left
    · (intro w' hS'; go_simp <;> try with_reducible rfl)
    try simp only [Act.put, List.setIfInBounds_toArray, List.set_cons_zero, List.set_cons_succ]
    refine rg_ldP 8 rfl (by kernel_rfl) (by kernel_rfl) (by kernel_rfl) (by rfl) hS rfl rfl b2 (by simp <;> omega) (partF_d _ _) (wholeM _) ?_
    try simp only [Act.put, List.setIfInBounds_toArray, List.set_cons_zero, List.set_cons_succ]
    refine rg_three 4 10 11 rfl rfl rfl (by kernel_rfl) (by rfl) (by rfl) (by rfl) (fun K hK => ?_) (fun K hK => ?_) (fun K hK => ?_)
    · go_simp
      refine (HG1.out _).mono ?_
      rintro e w1 ⟨rfl, h1⟩
      refine hK _ _ (hS.call h1) (fun hS => ?_)
      clear hK K
      try replace a5 := a5.call h1
      try replace a6 := a6.call h1
      replace hb := bthen hb h1
      clear h1
      try simp only [Act.put, List.setIfInBounds_toArray, List.set_cons_zero, List.set_cons_succ]
      refine rg_three 9 10 11 rfl rfl rfl (by kernel_rfl) (by rfl) (by rfl) (by rfl) (fun K hK => ?_) (fun K hK => ?_) (fun K hK => ?_)
      · go_simp
        refine (HG2.out _).mono ?_
        rintro e w1 ⟨rfl, h1⟩
        refine hK _ _ (hS.call h1) (fun hS => ?_)
        clear hK K
        try replace a5 := a5.call h1
        try replace a6 := a6.call h1
        replace hb := bthen hb h1
        clear h1
        try simp only [Act.put, List.setIfInBounds_toArray, List.set_cons_zero, List.set_cons_succ]
        refine rg_two 10 11 rfl rfl (by kernel_rfl) (by rfl) (by rfl) (fun K hK => ?_) (fun K hK => ?_)
        · refine wp_alB (zs := wd false 0) rfl (by kernel_rfl) (fun p5 q5 a5 => ?_)
          try (have hne : p5 ≠ p6 := by have := a6.lt; omega)
          replace q5 := Nat.le_trans hS.1 q5
          refine hK _ _ (hS.alloc _) (fun hS => ?_)
          clear hK K
          try replace a6 := a6.old (.cells (wd false 0).toArray 43)
          replace hb := hb.alloc hb.size (.cells (wd false 0).toArray 43)
          try simp only [Act.put, List.setIfInBounds_toArray, List.set_cons_zero, List.set_cons_succ]
          refine rg_eff 11 rfl (by kernel_rfl) (by rfl) (fun K hK => ?_)
          refine wp_alB (zs := wd false 0) rfl (by kernel_rfl) (fun p6 q6 a6 => ?_)
          try (have hne : p5 ≠ p6 := by have := a5.lt; omega)
          replace q6 := Nat.le_trans hS.1 q6
          refine hK _ _ (hS.alloc _) (fun hS => ?_)
          clear hK K
          try replace a5 := a5.old (.cells (wd false 0).toArray 43)
          replace hb := hb.alloc hb.size (.cells (wd false 0).toArray 43)
          try simp only [Act.put, List.setIfInBounds_toArray, List.set_cons_zero, List.set_cons_succ]
          refine rg_eff 12 rfl (by kernel_rfl) (by rfl) (fun K hK => ?_)
          refine wp_st (vs := mk g) rfl rfl rfl a5 (by rw [wd_length, mk_length]) (wholeM _) (mk_one _) ?_
          refine hK _ _ (hS.row (.inr q5) _) (fun hS => ?_)
          clear hK K
          replace a5 := a5.row (mk g)
          replace a6 := a6.rowOther (g := p5) (mk g).toArray (by omega)
          replace hb := below_row hb (g := p5) (by omega) (mk g).toArray
          try simp only [Act.put, List.setIfInBounds_toArray, List.set_cons_zero, List.set_cons_succ]
          refine rg_eff 13 rfl (by kernel_rfl) (by rfl) (fun K hK => ?_)
          refine wp_st (vs := mk h) rfl rfl rfl a6 (by rw [wd_length, mk_length]) (wholeM _) (mk_one _) ?_
          refine hK _ _ (hS.row (.inr q6) _) (fun hS => ?_)
          clear hK K
          replace a6 := a6.row (mk h)
          replace a5 := a5.rowOther (g := p6) (mk h).toArray (by omega)
          replace hb := below_row hb (g := p6) (by omega) (mk h).toArray
          try simp only [Act.put, List.setIfInBounds_toArray, List.set_cons_zero, List.set_cons_succ]
          refine rg_done (by kernel_rfl) ?_
          go_wp2_with fail
          go_meet
          case rel => exact ⟨p5, p6, rfl, rfl, hb, a5, a6, b2.keep hS (by simp), b3.keep hS (by simp), b4.keep hS (by simp)⟩
        · refine wp_alB (zs := wd false 0) rfl (by kernel_rfl) (fun p6 q6 a6 => ?_)
          try (have hne : p5 ≠ p6 := by have := a5.lt; omega)
          replace q6 := Nat.le_trans hS.1 q6
          refine hK _ _ (hS.alloc _) (fun hS => ?_)
          clear hK K
          try replace a5 := a5.old (.cells (wd false 0).toArray 43)
          replace hb := hb.alloc hb.size (.cells (wd false 0).toArray 43)
          try simp only [Act.put, List.setIfInBounds_toArray, List.set_cons_zero, List.set_cons_succ]
          refine rg_eff 10 rfl (by kernel_rfl) (by rfl) (fun K hK => ?_)
          refine wp_alB (zs := wd false 0) rfl (by kernel_rfl) (fun p5 q5 a5 => ?_)
          try (have hne : p5 ≠ p6 := by have := a6.lt; omega)
          replace q5 := Nat.le_trans hS.1 q5
          refine hK _ _ (hS.alloc _) (fun hS => ?_)
          clear hK K
          try replace a6 := a6.old (.cells (wd false 0).toArray 43)
          replace hb := hb.alloc hb.size (.cells (wd false 0).toArray 43)
          try simp only [Act.put, List.setIfInBounds_toArray, List.set_cons_zero, List.set_cons_succ]
          refine rg_eff 12 rfl (by kernel_rfl) (by rfl) (fun K hK => ?_)
          refine wp_st (vs := mk g) rfl rfl rfl a5 (by rw [wd_length, mk_length]) (wholeM _) (mk_one _) ?_
          refine hK _ _ (hS.row (.inr q5) _) (fun hS => ?_)
          clear hK K
          replace a5 := a5.row (mk g)
          replace a6 := a6.rowOther (g := p5) (mk g).toArray (by omega)
          replace hb := below_row hb (g := p5) (by omega) (mk g).toArray
          try simp only [Act.put, List.setIfInBounds_toArray, List.set_cons_zero, List.set_cons_succ]
          refine rg_eff 13 rfl (by kernel_rfl) (by rfl) (fun K hK => ?_)
          refine wp_st (vs := mk h) rfl rfl rfl a6 (by rw [wd_length, mk_length]) (wholeM _) (mk_one _) ?_
          refine hK _ _ (hS.row (.inr q6) _) (fun hS => ?_)
          clear hK K
          replace a6 := a6.row (mk h)
          replace a5 := a5.rowOther (g := p6) (mk h).toArray (by omega)
          replace hb := below_row hb (g := p6) (by omega) (mk h).toArray
          try simp only [Act.put, List.setIfInBounds_toArray, List.set_cons_zero, List.set_cons_succ]
          refine rg_done (by kernel_rfl) ?_
          go_wp2_with fail
          go_meet
          case rel => exact ⟨p5, p6, rfl, rfl, hb, a5, a6, b2.keep hS (by simp), b3.keep hS (by simp), b4.keep hS (by simp)⟩
      · refine wp_alB (zs := wd false 0) rfl (by kernel_rfl) (fun p5 q5 a5 => ?_)
        try (have hne : p5 ≠ p6 := by have := a6.lt; omega)
        replace q5 := Nat.le_trans hS.1 q5
        refine hK _ _ (hS.alloc _) (fun hS => ?_)
        clear hK K
        try replace a6 := a6.old (.cells (wd false 0).toArray 43)
        replace hb := hb.alloc hb.size (.cells (wd false 0).toArray 43)
        try simp only [Act.put, List.setIfInBounds_toArray, List.set_cons_zero, List.set_cons_succ]
        refine rg_two 9 11 rfl rfl (by kernel_rfl) (by rfl) (by rfl) (fun K hK => ?_) (fun K hK => ?_)
        · go_simp
          refine (HG2.out _).mono ?_
          rintro e w1 ⟨rfl, h1⟩
          refine hK _ _ (hS.call h1) (fun hS => ?_)
          clear hK K
          try replace a5 := a5.call h1
          try replace a6 := a6.call h1
          replace hb := bthen hb h1
          clear h1
          try simp only [Act.put, List.setIfInBounds_toArray, List.set_cons_zero, List.set_cons_succ]
          refine rg_eff 11 rfl (by kernel_rfl) (by rfl) (fun K hK => ?_)
          refine wp_alB (zs := wd false 0) rfl (by kernel_rfl) (fun p6 q6 a6 => ?_)
          try (have hne : p5 ≠ p6 := by have := a5.lt; omega)
          replace q6 := Nat.le_trans hS.1 q6
          refine hK _ _ (hS.alloc _) (fun hS => ?_)
          clear hK K
          try replace a5 := a5.old (.cells (wd false 0).toArray 43)
          replace hb := hb.alloc hb.size (.cells (wd false 0).toArray 43)
          try simp only [Act.put, List.setIfInBounds_toArray, List.set_cons_zero, List.set_cons_succ]
          refine rg_eff 12 rfl (by kernel_rfl) (by rfl) (fun K hK => ?_)
          refine wp_st (vs := mk g) rfl rfl rfl a5 (by rw [wd_length, mk_length]) (wholeM _) (mk_one _) ?_
          refine hK _ _ (hS.row (.inr q5) _) (fun hS => ?_)
          clear hK K
          replace a5 := a5.row (mk g)
          replace a6 := a6.rowOther (g := p5) (mk g).toArray (by omega)
          replace hb := below_row hb (g := p5) (by omega) (mk g).toArray
          try simp only [Act.put, List.setIfInBounds_toArray, List.set_cons_zero, List.set_cons_succ]
          refine rg_eff 13 rfl (by kernel_rfl) (by rfl) (fun K hK => ?_)
          refine wp_st (vs := mk h) rfl rfl rfl a6 (by rw [wd_length, mk_length]) (wholeM _) (mk_one _) ?_
          refine hK _ _ (hS.row (.inr q6) _) (fun hS => ?_)
          clear hK K
          replace a6 := a6.row (mk h)
          replace a5 := a5.rowOther (g := p6) (mk h).toArray (by omega)
          replace hb := below_row hb (g := p6) (by omega) (mk h).toArray
          try simp only [Act.put, List.setIfInBounds_toArray, List.set_cons_zero, List.set_cons_succ]
          refine rg_done (by kernel_rfl) ?_
          go_wp2_with fail
          go_meet
          case rel => exact ⟨p5, p6, rfl, rfl, hb, a5, a6, b2.keep hS (by simp), b3.keep hS (by simp), b4.keep hS (by simp)⟩
        · refine wp_alB (zs := wd false 0) rfl (by kernel_rfl) (fun p6 q6 a6 => ?_)
          try (have hne : p5 ≠ p6 := by have := a5.lt; omega)
          replace q6 := Nat.le_trans hS.1 q6
          refine hK _ _ (hS.alloc _) (fun hS => ?_)
          clear hK K
          try replace a5 := a5.old (.cells (wd false 0).toArray 43)
          replace hb := hb.alloc hb.size (.cells (wd false 0).toArray 43)
          try simp only [Act.put, List.setIfInBounds_toArray, List.set_cons_zero, List.set_cons_succ]
          refine rg_eff 9 rfl (by kernel_rfl) (by rfl) (fun K hK => ?_)
          go_simp
          refine (HG2.out _).mono ?_
          rintro e w1 ⟨rfl, h1⟩
          refine hK _ _ (hS.call h1) (fun hS => ?_)
          clear hK K
          try replace a5 := a5.call h1
          try replace a6 := a6.call h1
          replace hb := bthen hb h1
          clear h1
          try simp only [Act.put, List.setIfInBounds_toArray, List.set_cons_zero, List.set_cons_succ]
          refine rg_eff 12 rfl (by kernel_rfl) (by rfl) (fun K hK => ?_)
          refine wp_st (vs := mk g) rfl rfl rfl a5 (by rw [wd_length, mk_length]) (wholeM _) (mk_one _) ?_
          refine hK _ _ (hS.row (.inr q5) _) (fun hS => ?_)
          clear hK K
          replace a5 := a5.row (mk g)
          replace a6 := a6.rowOther (g := p5) (mk g).toArray (by omega)
          replace hb := below_row hb (g := p5) (by omega) (mk g).toArray
          try simp only [Act.put, List.setIfInBounds_toArray, List.set_cons_zero, List.set_cons_succ]
          refine rg_eff 13 rfl (by kernel_rfl) (by rfl) (fun K hK => ?_)
          refine wp_st (vs := mk h) rfl rfl rfl a6 (by rw [wd_length, mk_length]) (wholeM _) (mk_one _) ?_
          refine hK _ _ (hS.row (.inr q6) _) (fun hS => ?_)
          clear hK K
          replace a6 := a6.row (mk h)
          replace a5 := a5.rowOther (g := p6) (mk h).toArray (by omega)
          replace hb := below_row hb (g := p6) (by omega) (mk h).toArray
          try simp only [Act.put, List.setIfInBounds_toArray, List.set_cons_zero, List.set_cons_succ]
          refine rg_done (by kernel_rfl) ?_
          go_wp2_with fail
          go_meet
          case rel => exact ⟨p5, p6, rfl, rfl, hb, a5, a6, b2.keep hS (by simp), b3.keep hS (by simp), b4.keep hS (by simp)⟩
      · refine wp_alB (zs := wd false 0) rfl (by kernel_rfl) (fun p6 q6 a6 => ?_)
        try (have hne : p5 ≠ p6 := by have := a5.lt; omega)
        replace q6 := Nat.le_trans hS.1 q6
        refine hK _ _ (hS.alloc _) (fun hS => ?_)
        clear hK K
        try replace a5 := a5.old (.cells (wd false 0).toArray 43)
        replace hb := hb.alloc hb.size (.cells (wd false 0).toArray 43)
        try simp only [Act.put, List.setIfInBounds_toArray, List.set_cons_zero, List.set_cons_succ]
        refine rg_two 9 10 rfl rfl (by kernel_rfl) (by rfl) (by rfl) (fun K hK => ?_) (fun K hK => ?_)
        · go_simp
          refine (HG2.out _).mono ?_
          rintro e w1 ⟨rfl, h1⟩
          refine hK _ _ (hS.call h1) (fun hS => ?_)
          clear hK K
          try replace a5 := a5.call h1
          try replace a6 := a6.call h1
          replace hb := bthen hb h1
          clear h1
          try simp only [Act.put, List.setIfInBounds_toArray, List.set_cons_zero, List.set_cons_succ]
          refine rg_eff 10 rfl (by kernel_rfl) (by rfl) (fun K hK => ?_)
          refine wp_alB (zs := wd false 0) rfl (by kernel_rfl) (fun p5 q5 a5 => ?_)
          try (have hne : p5 ≠ p6 := by have := a6.lt; omega)
          replace q5 := Nat.le_trans hS.1 q5
          refine hK _ _ (hS.alloc _) (fun hS => ?_)
          clear hK K
          try replace a6 := a6.old (.cells (wd false 0).toArray 43)
          replace hb := hb.alloc hb.size (.cells (wd false 0).toArray 43)
          try simp only [Act.put, List.setIfInBounds_toArray, List.set_cons_zero, List.set_cons_succ]
          refine rg_eff 12 rfl (by kernel_rfl) (by rfl) (fun K hK => ?_)
          refine wp_st (vs := mk g) rfl rfl rfl a5 (by rw [wd_length, mk_length]) (wholeM _) (mk_one _) ?_
          refine hK _ _ (hS.row (.inr q5) _) (fun hS => ?_)
          clear hK K
          replace a5 := a5.row (mk g)
          replace a6 := a6.rowOther (g := p5) (mk g).toArray (by omega)
          replace hb := below_row hb (g := p5) (by omega) (mk g).toArray
          try simp only [Act.put, List.setIfInBounds_toArray, List.set_cons_zero, List.set_cons_succ]
          refine rg_eff 13 rfl (by kernel_rfl) (by rfl) (fun K hK => ?_)
          refine wp_st (vs := mk h) rfl rfl rfl a6 (by rw [wd_length, mk_length]) (wholeM _) (mk_one _) ?_
          refine hK _ _ (hS.row (.inr q6) _) (fun hS => ?_)
          clear hK K
          replace a6 := a6.row (mk h)
          replace a5 := a5.rowOther (g := p6) (mk h).toArray (by omega)
          replace hb := below_row hb (g := p6) (by omega) (mk h).toArray
          try simp only [Act.put, List.setIfInBounds_toArray, List.set_cons_zero, List.set_cons_succ]
          refine rg_done (by kernel_rfl) ?_
          go_wp2_with fail
          go_meet
          case rel => exact ⟨p5, p6, rfl, rfl, hb, a5, a6, b2.keep hS (by simp), b3.keep hS (by simp), b4.keep hS (by simp)⟩
        · refine wp_alB (zs := wd false 0) rfl (by kernel_rfl) (fun p5 q5 a5 => ?_)
          try (have hne : p5 ≠ p6 := by have := a6.lt; omega)
          replace q5 := Nat.le_trans hS.1 q5
          refine hK _ _ (hS.alloc _) (fun hS => ?_)
          clear hK K
          try replace a6 := a6.old (.cells (wd false 0).toArray 43)
          replace hb := hb.alloc hb.size (.cells (wd false 0).toArray 43)
          try simp only [Act.put, List.setIfInBounds_toArray, List.set_cons_zero, List.set_cons_succ]
          refine rg_eff 9 rfl (by kernel_rfl) (by rfl) (fun K hK => ?_)
          go_simp
          refine (HG2.out _).mono ?_
          rintro e w1 ⟨rfl, h1⟩
          refine hK _ _ (hS.call h1) (fun hS => ?_)
          clear hK K
          try replace a5 := a5.call h1
          try replace a6 := a6.call h1
          replace hb := bthen hb h1
          clear h1
          try simp only [Act.put, List.setIfInBounds_toArray, List.set_cons_zero, List.set_cons_succ]
          refine rg_eff 12 rfl (by kernel_rfl) (by rfl) (fun K hK => ?_)
          refine wp_st (vs := mk g) rfl rfl rfl a5 (by rw [wd_length, mk_length]) (wholeM _) (mk_one _) ?_
          refine hK _ _ (hS.row (.inr q5) _) (fun hS => ?_)
          clear hK K
          replace a5 := a5.row (mk g)
          replace a6 := a6.rowOther (g := p5) (mk g).toArray (by omega)
          replace hb := below_row hb (g := p5) (by omega) (mk g).toArray
          try simp only [Act.put, List.setIfInBounds_toArray, List.set_cons_zero, List.set_cons_succ]
          refine rg_eff 13 rfl (by kernel_rfl) (by rfl) (fun K hK => ?_)
          refine wp_st (vs := mk h) rfl rfl rfl a6 (by rw [wd_length, mk_length]) (wholeM _) (mk_one _) ?_
          refine hK _ _ (hS.row (.inr q6) _) (fun hS => ?_)
          clear hK K
          replace a6 := a6.row (mk h)
          replace a5 := a5.rowOther (g := p6) (mk h).toArray (by omega)
          replace hb := below_row hb (g := p6) (by omega) (mk h).toArray
          try simp only [Act.put, List.setIfInBounds_toArray, List.set_cons_zero, List.set_cons_succ]
          refine rg_done (by kernel_rfl) ?_
          go_wp2_with fail
          go_meet
          case rel => exact ⟨p5, p6, rfl, rfl, hb, a5, a6, b2.keep hS (by simp), b3.keep hS (by simp), b4.keep hS (by simp)⟩
    · refine wp_alB (zs := wd false 0) rfl (by kernel_rfl) (fun p5 q5 a5 => ?_)
      try (have hne : p5 ≠ p6 := by have := a6.lt; omega)
      replace q5 := Nat.le_trans hS.1 q5
      refine hK _ _ (hS.alloc _) (fun hS => ?_)
      clear hK K
      try replace a6 := a6.old (.cells (wd false 0).toArray 43)
      replace hb := hb.alloc hb.size (.cells (wd false 0).toArray 43)
      try simp only [Act.put, List.setIfInBounds_toArray, List.set_cons_zero, List.set_cons_succ]
      refine rg_two 4 11 rfl rfl (by kernel_rfl) (by rfl) (by rfl) (fun K hK => ?_) (fun K hK => ?_)
      · go_simp
        refine (HG1.out _).mono ?_
        rintro e w1 ⟨rfl, h1⟩
        refine hK _ _ (hS.call h1) (fun hS => ?_)
        clear hK K
        try replace a5 := a5.call h1
        try replace a6 := a6.call h1
        replace hb := bthen hb h1
        clear h1
        try simp only [Act.put, List.setIfInBounds_toArray, List.set_cons_zero, List.set_cons_succ]
        refine rg_two 9 11 rfl rfl (by kernel_rfl) (by rfl) (by rfl) (fun K hK => ?_) (fun K hK => ?_)
        · go_simp
          refine (HG2.out _).mono ?_
          rintro e w1 ⟨rfl, h1⟩
          refine hK _ _ (hS.call h1) (fun hS => ?_)
          clear hK K
          try replace a5 := a5.call h1
          try replace a6 := a6.call h1
          replace hb := bthen hb h1
          clear h1
          try simp only [Act.put, List.setIfInBounds_toArray, List.set_cons_zero, List.set_cons_succ]
          refine rg_eff 11 rfl (by kernel_rfl) (by rfl) (fun K hK => ?_)
          refine wp_alB (zs := wd false 0) rfl (by kernel_rfl) (fun p6 q6 a6 => ?_)
          try (have hne : p5 ≠ p6 := by have := a5.lt; omega)
          replace q6 := Nat.le_trans hS.1 q6
          refine hK _ _ (hS.alloc _) (fun hS => ?_)
          clear hK K
          try replace a5 := a5.old (.cells (wd false 0).toArray 43)
          replace hb := hb.alloc hb.size (.cells (wd false 0).toArray 43)
          try simp only [Act.put, List.setIfInBounds_toArray, List.set_cons_zero, List.set_cons_succ]
          refine rg_eff 12 rfl (by kernel_rfl) (by rfl) (fun K hK => ?_)
          refine wp_st (vs := mk g) rfl rfl rfl a5 (by rw [wd_length, mk_length]) (wholeM _) (mk_one _) ?_
          refine hK _ _ (hS.row (.inr q5) _) (fun hS => ?_)
          clear hK K
          replace a5 := a5.row (mk g)
          replace a6 := a6.rowOther (g := p5) (mk g).toArray (by omega)
          replace hb := below_row hb (g := p5) (by omega) (mk g).toArray
          try simp only [Act.put, List.setIfInBounds_toArray, List.set_cons_zero, List.set_cons_succ]
          refine rg_eff 13 rfl (by kernel_rfl) (by rfl) (fun K hK => ?_)
          refine wp_st (vs := mk h) rfl rfl rfl a6 (by rw [wd_length, mk_length]) (wholeM _) (mk_one _) ?_
          refine hK _ _ (hS.row (.inr q6) _) (fun hS => ?_)
          clear hK K
          replace a6 := a6.row (mk h)
          replace a5 := a5.rowOther (g := p6) (mk h).toArray (by omega)
          replace hb := below_row hb (g := p6) (by omega) (mk h).toArray
          try simp only [Act.put, List.setIfInBounds_toArray, List.set_cons_zero, List.set_cons_succ]
          refine rg_done (by kernel_rfl) ?_
          go_wp2_with fail
          go_meet
          case rel => exact ⟨p5, p6, rfl, rfl, hb, a5, a6, b2.keep hS (by simp), b3.keep hS (by simp), b4.keep hS (by simp)⟩
        · refine wp_alB (zs := wd false 0) rfl (by kernel_rfl) (fun p6 q6 a6 => ?_)
          try (have hne : p5 ≠ p6 := by have := a5.lt; omega)
          replace q6 := Nat.le_trans hS.1 q6
          refine hK _ _ (hS.alloc _) (fun hS => ?_)
          clear hK K
          try replace a5 := a5.old (.cells (wd false 0).toArray 43)
          replace hb := hb.alloc hb.size (.cells (wd false 0).toArray 43)
          try simp only [Act.put, List.setIfInBounds_toArray, List.set_cons_zero, List.set_cons_succ]
          refine rg_eff 9 rfl (by kernel_rfl) (by rfl) (fun K hK => ?_)
          go_simp
          refine (HG2.out _).mono ?_
          rintro e w1 ⟨rfl, h1⟩
          refine hK _ _ (hS.call h1) (fun hS => ?_)
          clear hK K
          try replace a5 := a5.call h1
          try replace a6 := a6.call h1
          replace hb := bthen hb h1
          clear h1
          try simp only [Act.put, List.setIfInBounds_toArray, List.set_cons_zero, List.set_cons_succ]
          refine rg_eff 12 rfl (by kernel_rfl) (by rfl) (fun K hK => ?_)
          refine wp_st (vs := mk g) rfl rfl rfl a5 (by rw [wd_length, mk_length]) (wholeM _) (mk_one _) ?_
          refine hK _ _ (hS.row (.inr q5) _) (fun hS => ?_)
          clear hK K
          replace a5 := a5.row (mk g)
          replace a6 := a6.rowOther (g := p5) (mk g).toArray (by omega)
          replace hb := below_row hb (g := p5) (by omega) (mk g).toArray
          try simp only [Act.put, List.setIfInBounds_toArray, List.set_cons_zero, List.set_cons_succ]
          refine rg_eff 13 rfl (by kernel_rfl) (by rfl) (fun K hK => ?_)
          refine wp_st (vs := mk h) rfl rfl rfl a6 (by rw [wd_length, mk_length]) (wholeM _) (mk_one _) ?_
          refine hK _ _ (hS.row (.inr q6) _) (fun hS => ?_)
          clear hK K
          replace a6 := a6.row (mk h)
          replace a5 := a5.rowOther (g := p6) (mk h).toArray (by omega)
          replace hb := below_row hb (g := p6) (by omega) (mk h).toArray
          try simp only [Act.put, List.setIfInBounds_toArray, List.set_cons_zero, List.set_cons_succ]
          refine rg_done (by kernel_rfl) ?_
          go_wp2_with fail
          go_meet
          case rel => exact ⟨p5, p6, rfl, rfl, hb, a5, a6, b2.keep hS (by simp), b3.keep hS (by simp), b4.keep hS (by simp)⟩
      · refine wp_alB (zs := wd false 0) rfl (by kernel_rfl) (fun p6 q6 a6 => ?_)
        try (have hne : p5 ≠ p6 := by have := a5.lt; omega)
        replace q6 := Nat.le_trans hS.1 q6
        refine hK _ _ (hS.alloc _) (fun hS => ?_)
        clear hK K
        try replace a5 := a5.old (.cells (wd false 0).toArray 43)
        replace hb := hb.alloc hb.size (.cells (wd false 0).toArray 43)
        try simp only [Act.put, List.setIfInBounds_toArray, List.set_cons_zero, List.set_cons_succ]
        refine rg_eff 4 rfl (by kernel_rfl) (by rfl) (fun K hK => ?_)
        go_simp
        refine (HG1.out _).mono ?_
        rintro e w1 ⟨rfl, h1⟩
        refine hK _ _ (hS.call h1) (fun hS => ?_)
        clear hK K
        try replace a5 := a5.call h1
        try replace a6 := a6.call h1
        replace hb := bthen hb h1
        clear h1
        try simp only [Act.put, List.setIfInBounds_toArray, List.set_cons_zero, List.set_cons_succ]
        refine rg_eff 9 rfl (by kernel_rfl) (by rfl) (fun K hK => ?_)
        go_simp
        refine (HG2.out _).mono ?_
        rintro e w1 ⟨rfl, h1⟩
        refine hK _ _ (hS.call h1) (fun hS => ?_)
        clear hK K
        try replace a5 := a5.call h1
        try replace a6 := a6.call h1
        replace hb := bthen hb h1
        clear h1
        try simp only [Act.put, List.setIfInBounds_toArray, List.set_cons_zero, List.set_cons_succ]
        refine rg_eff 12 rfl (by kernel_rfl) (by rfl) (fun K hK => ?_)
        refine wp_st (vs := mk g) rfl rfl rfl a5 (by rw [wd_length, mk_length]) (wholeM _) (mk_one _) ?_
        refine hK _ _ (hS.row (.inr q5) _) (fun hS => ?_)
        clear hK K
        replace a5 := a5.row (mk g)
        replace a6 := a6.rowOther (g := p5) (mk g).toArray (by omega)
        replace hb := below_row hb (g := p5) (by omega) (mk g).toArray
        try simp only [Act.put, List.setIfInBounds_toArray, List.set_cons_zero, List.set_cons_succ]
        refine rg_eff 13 rfl (by kernel_rfl) (by rfl) (fun K hK => ?_)
        refine wp_st (vs := mk h) rfl rfl rfl a6 (by rw [wd_length, mk_length]) (wholeM _) (mk_one _) ?_
        refine hK _ _ (hS.row (.inr q6) _) (fun hS => ?_)
        clear hK K
        replace a6 := a6.row (mk h)
        replace a5 := a5.rowOther (g := p6) (mk h).toArray (by omega)
        replace hb := below_row hb (g := p6) (by omega) (mk h).toArray
        try simp only [Act.put, List.setIfInBounds_toArray, List.set_cons_zero, List.set_cons_succ]
        refine rg_done (by kernel_rfl) ?_
        go_wp2_with fail
        go_meet
        case rel => exact ⟨p5, p6, rfl, rfl, hb, a5, a6, b2.keep hS (by simp), b3.keep hS (by simp), b4.keep hS (by simp)⟩
    · refine wp_alB (zs := wd false 0) rfl (by kernel_rfl) (fun p6 q6 a6 => ?_)
      try (have hne : p5 ≠ p6 := by have := a5.lt; omega)
      replace q6 := Nat.le_trans hS.1 q6
      refine hK _ _ (hS.alloc _) (fun hS => ?_)
      clear hK K
      try replace a5 := a5.old (.cells (wd false 0).toArray 43)
      replace hb := hb.alloc hb.size (.cells (wd false 0).toArray 43)
      try simp only [Act.put, List.setIfInBounds_toArray, List.set_cons_zero, List.set_cons_succ]
      refine rg_two 4 10 rfl rfl (by kernel_rfl) (by rfl) (by rfl) (fun K hK => ?_) (fun K hK => ?_)
      · go_simp
        refine (HG1.out _).mono ?_
        rintro e w1 ⟨rfl, h1⟩
        refine hK _ _ (hS.call h1) (fun hS => ?_)
        clear hK K
        try replace a5 := a5.call h1
        try replace a6 := a6.call h1
        replace hb := bthen hb h1
        clear h1
        try simp only [Act.put, List.setIfInBounds_toArray, List.set_cons_zero, List.set_cons_succ]
        refine rg_two 9 10 rfl rfl (by kernel_rfl) (by rfl) (by rfl) (fun K hK => ?_) (fun K hK => ?_)
        · go_simp
          refine (HG2.out _).mono ?_
          rintro e w1 ⟨rfl, h1⟩
          refine hK _ _ (hS.call h1) (fun hS => ?_)
          clear hK K
          try replace a5 := a5.call h1
          try replace a6 := a6.call h1
          replace hb := bthen hb h1
          clear h1
          try simp only [Act.put, List.setIfInBounds_toArray, List.set_cons_zero, List.set_cons_succ]
          refine rg_eff 10 rfl (by kernel_rfl) (by rfl) (fun K hK => ?_)
          refine wp_alB (zs := wd false 0) rfl (by kernel_rfl) (fun p5 q5 a5 => ?_)
          try (have hne : p5 ≠ p6 := by have := a6.lt; omega)
          replace q5 := Nat.le_trans hS.1 q5
          refine hK _ _ (hS.alloc _) (fun hS => ?_)
          clear hK K
          try replace a6 := a6.old (.cells (wd false 0).toArray 43)
          replace hb := hb.alloc hb.size (.cells (wd false 0).toArray 43)
          try simp only [Act.put, List.setIfInBounds_toArray, List.set_cons_zero, List.set_cons_succ]
          refine rg_eff 12 rfl (by kernel_rfl) (by rfl) (fun K hK => ?_)
          refine wp_st (vs := mk g) rfl rfl rfl a5 (by rw [wd_length, mk_length]) (wholeM _) (mk_one _) ?_
          refine hK _ _ (hS.row (.inr q5) _) (fun hS => ?_)
          clear hK K
          replace a5 := a5.row (mk g)
          replace a6 := a6.rowOther (g := p5) (mk g).toArray (by omega)
          replace hb := below_row hb (g := p5) (by omega) (mk g).toArray
          try simp only [Act.put, List.setIfInBounds_toArray, List.set_cons_zero, List.set_cons_succ]
          refine rg_eff 13 rfl (by kernel_rfl) (by rfl) (fun K hK => ?_)
          refine wp_st (vs := mk h) rfl rfl rfl a6 (by rw [wd_length, mk_length]) (wholeM _) (mk_one _) ?_
          refine hK _ _ (hS.row (.inr q6) _) (fun hS => ?_)
          clear hK K
          replace a6 := a6.row (mk h)
          replace a5 := a5.rowOther (g := p6) (mk h).toArray (by omega)
          replace hb := below_row hb (g := p6) (by omega) (mk h).toArray
          try simp only [Act.put, List.setIfInBounds_toArray, List.set_cons_zero, List.set_cons_succ]
          refine rg_done (by kernel_rfl) ?_
          go_wp2_with fail
          go_meet
          case rel => exact ⟨p5, p6, rfl, rfl, hb, a5, a6, b2.keep hS (by simp), b3.keep hS (by simp), b4.keep hS (by simp)⟩
        · refine wp_alB (zs := wd false 0) rfl (by kernel_rfl) (fun p5 q5 a5 => ?_)
          try (have hne : p5 ≠ p6 := by have := a6.lt; omega)
          replace q5 := Nat.le_trans hS.1 q5
          refine hK _ _ (hS.alloc _) (fun hS => ?_)
          clear hK K
          try replace a6 := a6.old (.cells (wd false 0).toArray 43)
          replace hb := hb.alloc hb.size (.cells (wd false 0).toArray 43)
          try simp only [Act.put, List.setIfInBounds_toArray, List.set_cons_zero, List.set_cons_succ]
          refine rg_eff 9 rfl (by kernel_rfl) (by rfl) (fun K hK => ?_)
          go_simp
          refine (HG2.out _).mono ?_
          rintro e w1 ⟨rfl, h1⟩
          refine hK _ _ (hS.call h1) (fun hS => ?_)
          clear hK K
          try replace a5 := a5.call h1
          try replace a6 := a6.call h1
          replace hb := bthen hb h1
          clear h1
          try simp only [Act.put, List.setIfInBounds_toArray, List.set_cons_zero, List.set_cons_succ]
          refine rg_eff 12 rfl (by kernel_rfl) (by rfl) (fun K hK => ?_)
          refine wp_st (vs := mk g) rfl rfl rfl a5 (by rw [wd_length, mk_length]) (wholeM _) (mk_one _) ?_
          refine hK _ _ (hS.row (.inr q5) _) (fun hS => ?_)
          clear hK K
          replace a5 := a5.row (mk g)
          replace a6 := a6.rowOther (g := p5) (mk g).toArray (by omega)
          replace hb := below_row hb (g := p5) (by omega) (mk g).toArray
          try simp only [Act.put, List.setIfInBounds_toArray, List.set_cons_zero, List.set_cons_succ]
          refine rg_eff 13 rfl (by kernel_rfl) (by rfl) (fun K hK => ?_)
          refine wp_st (vs := mk h) rfl rfl rfl a6 (by rw [wd_length, mk_length]) (wholeM _) (mk_one _) ?_
          refine hK _ _ (hS.row (.inr q6) _) (fun hS => ?_)
          clear hK K
          replace a6 := a6.row (mk h)
          replace a5 := a5.rowOther (g := p6) (mk h).toArray (by omega)
          replace hb := below_row hb (g := p6) (by omega) (mk h).toArray
          try simp only [Act.put, List.setIfInBounds_toArray, List.set_cons_zero, List.set_cons_succ]
          refine rg_done (by kernel_rfl) ?_
          go_wp2_with fail
          go_meet
          case rel => exact ⟨p5, p6, rfl, rfl, hb, a5, a6, b2.keep hS (by simp), b3.keep hS (by simp), b4.keep hS (by simp)⟩
      · refine wp_alB (zs := wd false 0) rfl (by kernel_rfl) (fun p5 q5 a5 => ?_)
        try (have hne : p5 ≠ p6 := by have := a6.lt; omega)
        replace q5 := Nat.le_trans hS.1 q5
        refine hK _ _ (hS.alloc _) (fun hS => ?_)
        clear hK K
        try replace a6 := a6.old (.cells (wd false 0).toArray 43)
        replace hb := hb.alloc hb.size (.cells (wd false 0).toArray 43)
        try simp only [Act.put, List.setIfInBounds_toArray, List.set_cons_zero, List.set_cons_succ]
        refine rg_eff 4 rfl (by kernel_rfl) (by rfl) (fun K hK => ?_)
        go_simp
        refine (HG1.out _).mono ?_
        rintro e w1 ⟨rfl, h1⟩
        refine hK _ _ (hS.call h1) (fun hS => ?_)
        clear hK K
        try replace a5 := a5.call h1
        try replace a6 := a6.call h1
        replace hb := bthen hb h1
        clear h1
        try simp only [Act.put, List.setIfInBounds_toArray, List.set_cons_zero, List.set_cons_succ]
        refine rg_eff 9 rfl (by kernel_rfl) (by rfl) (fun K hK => ?_)
        go_simp
        refine (HG2.out _).mono ?_
        rintro e w1 ⟨rfl, h1⟩
        refine hK _ _ (hS.call h1) (fun hS => ?_)
        clear hK K
        try replace a5 := a5.call h1
        try replace a6 := a6.call h1
        replace hb := bthen hb h1
        clear h1
        try simp only [Act.put, List.setIfInBounds_toArray, List.set_cons_zero, List.set_cons_succ]
        refine rg_eff 12 rfl (by kernel_rfl) (by rfl) (fun K hK => ?_)
        refine wp_st (vs := mk g) rfl rfl rfl a5 (by rw [wd_length, mk_length]) (wholeM _) (mk_one _) ?_
        refine hK _ _ (hS.row (.inr q5) _) (fun hS => ?_)
        clear hK K
        replace a5 := a5.row (mk g)
        replace a6 := a6.rowOther (g := p5) (mk g).toArray (by omega)
        replace hb := below_row hb (g := p5) (by omega) (mk g).toArray
        try simp only [Act.put, List.setIfInBounds_toArray, List.set_cons_zero, List.set_cons_succ]
        refine rg_eff 13 rfl (by kernel_rfl) (by rfl) (fun K hK => ?_)
        refine wp_st (vs := mk h) rfl rfl rfl a6 (by rw [wd_length, mk_length]) (wholeM _) (mk_one _) ?_
        refine hK _ _ (hS.row (.inr q6) _) (fun hS => ?_)
        clear hK K
        replace a6 := a6.row (mk h)
        replace a5 := a5.rowOther (g := p6) (mk h).toArray (by omega)
        replace hb := below_row hb (g := p6) (by omega) (mk h).toArray
        try simp only [Act.put, List.setIfInBounds_toArray, List.set_cons_zero, List.set_cons_succ]
        refine rg_done (by kernel_rfl) ?_
        go_wp2_with fail
        go_meet
        case rel => exact ⟨p5, p6, rfl, rfl, hb, a5, a6, b2.keep hS (by simp), b3.keep hS (by simp), b4.keep hS (by simp)⟩
  case rest =>
    clear hb b2 b3 b4 hsz
    obtain ⟨q, q', rfl, rfl, hb, b5, b6, b2, b3, b4⟩ := hcut
    go_wp2_with fail
    have n5 := b5.ne b4 (wr_ne _ _ _ _ _)
    have n6 := b6.ne b4 (wr_ne _ _ _ _ _)
    refine rg_start [w.heap.size + 1 + 1] (by kernel_rfl) (fun hS => ?_)
    replace hb := hb.drew
    replace b4 := b4.drew
    refine rg_take 0 rfl (by kernel_rfl) (by kernel_rfl) (by kernel_rfl) (by rfl) hS (v := ?_) ?_ ?_
    rotate_left
    · (intro w' hS'; go_simp <;> try with_reducible rfl)
    try simp only [Act.put, List.setIfInBounds_toArray, List.set_cons_zero, List.set_cons_succ]
    refine rg_ldP 1 rfl (by kernel_rfl) (by kernel_rfl) (by kernel_rfl) (by rfl) hS rfl rfl b2 (by simp <;> omega) (partF_n _ _) (wholeM _) ?_
    try simp only [Act.put, List.setIfInBounds_toArray, List.set_cons_zero, List.set_cons_succ]
    refine rg_ld 2 rfl (by kernel_rfl) (by kernel_rfl) (by kernel_rfl) (by rfl) hS rfl rfl b5 (by simp <;> omega) (wholeM _) ?_
    try simp only [Act.put, List.setIfInBounds_toArray, List.set_cons_zero, List.set_cons_succ]
    refine rg_take 4 rfl (by kernel_rfl) (by kernel_rfl) (by kernel_rfl) (by rfl) hS (v := ?_) ?_ ?_
    rotate_left
    · (intro w' hS'; go_simp <;> try with_reducible rfl)
    try simp only [Act.put, List.setIfInBounds_toArray, List.set_cons_zero, List.set_cons_succ]
    refine rg_ldP 5 rfl (by kernel_rfl) (by kernel_rfl) (by kernel_rfl) (by rfl) hS rfl rfl b3 (by simp <;> omega) (partF_n _ _) (wholeM _) ?_
    try simp only [Act.put, List.setIfInBounds_toArray, List.set_cons_zero, List.set_cons_succ]
    refine rg_ld 6 rfl (by kernel_rfl) (by kernel_rfl) (by kernel_rfl) (by rfl) hS rfl rfl b6 (by simp <;> omega) (wholeM _) ?_
    try simp only [Act.put, List.setIfInBounds_toArray, List.set_cons_zero, List.set_cons_succ]
    refine rg_take 9 rfl (by kernel_rfl) (by kernel_rfl) (by kernel_rfl) (by rfl) hS (v := ?_) ?_ ?_
    rotate_left
    · (intro w' hS'; go_simp <;> try with_reducible rfl)
    try simp only [Act.put, List.setIfInBounds_toArray, List.set_cons_zero, List.set_cons_succ]
    refine rg_ldP 10 rfl (by kernel_rfl) (by kernel_rfl) (by kernel_rfl) (by rfl) hS rfl rfl b2 (by simp <;> omega) (partF_d _ _) (wholeM _) ?_
    try simp only [Act.put, List.setIfInBounds_toArray, List.set_cons_zero, List.set_cons_succ]
    refine rg_ld 11 rfl (by kernel_rfl) (by kernel_rfl) (by kernel_rfl) (by rfl) hS rfl rfl b6 (by simp <;> omega) (wholeM _) ?_
    try simp only [Act.put, List.setIfInBounds_toArray, List.set_cons_zero, List.set_cons_succ]
    refine rg_take 13 rfl (by kernel_rfl) (by kernel_rfl) (by kernel_rfl) (by rfl) hS (v := ?_) ?_ ?_
    rotate_left
    · (intro w' hS'; go_simp <;> try with_reducible rfl)
    try simp only [Act.put, List.setIfInBounds_toArray, List.set_cons_zero, List.set_cons_succ]
    refine rg_ldP 14 rfl (by kernel_rfl) (by kernel_rfl) (by kernel_rfl) (by rfl) hS rfl rfl b3 (by simp <;> omega) (partF_d _ _) (wholeM _) ?_
    try simp only [Act.put, List.setIfInBounds_toArray, List.set_cons_zero, List.set_cons_succ]
    refine rg_ld 15 rfl (by kernel_rfl) (by kernel_rfl) (by kernel_rfl) (by rfl) hS rfl rfl b5 (by simp <;> omega) (wholeM _) ?_
    try simp only [Act.put, List.setIfInBounds_toArray, List.set_cons_zero, List.set_cons_succ]
    refine rg_eff 3 rfl (by kernel_rfl) (by rfl) (fun K hK => ?_)
    go_simp
    refine (HP1.out _).mono ?_
    rintro e w1 ⟨rfl, h1⟩
    refine hK _ _ (hS.call h1) (fun hS => ?_)
    clear hK K
    replace b4 := b4.call h1
    replace hb := bthen hb h1
    clear h1
    try simp only [Act.put, List.setIfInBounds_toArray, List.set_cons_zero, List.set_cons_succ]
    refine rg_eff 7 rfl (by kernel_rfl) (by rfl) (fun K hK => ?_)
    go_simp
    refine (HP2.out _).mono ?_
    rintro e w1 ⟨rfl, h1⟩
    refine hK _ _ (hS.call h1) (fun hS => ?_)
    clear hK K
    replace b4 := b4.call h1
    replace hb := bthen hb h1
    clear h1
    try simp only [Act.put, List.setIfInBounds_toArray, List.set_cons_zero, List.set_cons_succ]
    refine rg_eff 8 rfl (by kernel_rfl) (by rfl) (fun K hK => ?_)
    go_simp
    refine (HT1.out _).mono ?_
    rintro e w1 ⟨rfl, h1⟩
    refine hK _ _ (hS.call h1) (fun hS => ?_)
    clear hK K
    replace b4 := b4.call h1
    replace hb := bthen hb h1
    clear h1
    try simp only [Act.put, List.setIfInBounds_toArray, List.set_cons_zero, List.set_cons_succ]
    refine rg_eff 12 rfl (by kernel_rfl) (by rfl) (fun K hK => ?_)
    go_simp
    refine (HP3.out _).mono ?_
    rintro e w1 ⟨rfl, h1⟩
    refine hK _ _ (hS.call h1) (fun hS => ?_)
    clear hK K
    replace b4 := b4.call h1
    replace hb := bthen hb h1
    clear h1
    try simp only [Act.put, List.setIfInBounds_toArray, List.set_cons_zero, List.set_cons_succ]
    refine rg_eff 16 rfl (by kernel_rfl) (by rfl) (fun K hK => ?_)
    go_simp
    refine (HP4.out _).mono ?_
    rintro e w1 ⟨rfl, h1⟩
    refine hK _ _ (hS.call h1) (fun hS => ?_)
    clear hK K
    replace b4 := b4.call h1
    replace hb := bthen hb h1
    clear h1
    try simp only [Act.put, List.setIfInBounds_toArray, List.set_cons_zero, List.set_cons_succ]
    refine rg_eff 17 rfl (by kernel_rfl) (by rfl) (fun K hK => ?_)
    go_simp
    refine (HT2.out _).mono ?_
    rintro e w1 ⟨rfl, h1⟩
    refine hK _ _ (hS.call h1) (fun hS => ?_)
    clear hK K
    replace b4 := b4.call h1
    replace hb := bthen hb h1
    clear h1
    try simp only [Act.put, List.setIfInBounds_toArray, List.set_cons_zero, List.set_cons_succ]
    refine rg_build 18 rfl (by kernel_rfl) (by kernel_rfl) (by kernel_rfl) (by rfl) hS rfl (pl := [(0, .agg (mk N).toArray), (1, .agg (mk D).toArray)]) (builtF _ _) (by simp [Act.eval]) ?_
    try simp only [Act.put, List.setIfInBounds_toArray, List.set_cons_zero, List.set_cons_succ]
    refine rg_eff 19 rfl (by kernel_rfl) (by rfl) (fun K hK => ?_)
    refine wp_st (vs := fr N D) rfl rfl rfl b4 (by rw [rr_length, fr_length]) (wholeF _ _) (fr_one _ _) ?_
    refine hK _ _ (hS.row (.inl (by simp)) _) (fun hS => ?_)
    clear hK K
    try simp only [Act.put, List.setIfInBounds_toArray, List.set_cons_zero, List.set_cons_succ]
    refine rg_done (by kernel_rfl) ?_
    go_wp2
    exact ret_c (cs := fr N D) rfl rfl rfl (wholeF _ _) (b4.row _) ⟨rfl, below_row hb (by omega) _⟩
/-- The product of two safe fractions: in lowest terms. -/
theorem product_any {n d m e : Int} (hn : Sf n d) (hm : Sf m e) : ∃ N D, Rt N D ∧ N * (d * e) = n * m * D ∧ fits N ∧ fits D ∧ Tl 114 #[vf n d, vf m e] (vf N D) := by
  obtain ⟨R1, R2, g0, h0, d1, d2, d3, d4⟩ := mul_rt hn.1 hm.1 rfl rfl
  have G1 := fun w => Gcd_z (wd_of hn.fn) (wd_of hm.fd) w
  have G2 := fun w => Gcd_z (wd_of hm.fn) (wd_of hn.fd) w
  have fg := fits_gcd' hn.fn hm.fd
  have fh := fits_gcd' hm.fn hn.fd
  have s1 := sz_ediv hn.2.1 d1
  have s2 := sz_ediv hm.2.1 d3
  have s3 := sz_ediv hn.2.2 d4
  have s4 := sz_ediv hm.2.2 d2
  have sN := sz_mul s1 s2
  have sD := sz_mul s3 s4
  exact ⟨_, _, R1, R2, sz_fits sN (by omega), sz_fits sD (by omega), product_walk G1 G2 (fun w => part_ex hn.fn fg g0 d1 rfl w) (fun w => part_ex hm.fn fh h0 d3 rfl w)
    (fun w => rtimes_any (sz_fits s1 (by omega)) (sz_fits s2 (by omega)) (sz_fits sN (by omega)) w) (fun w => part_ex hn.fd fh h0 d4 rfl w) (fun w => part_ex hm.fd fg g0 d2 rfl w)
    (fun w => rtimes_any (sz_fits s3 (by omega)) (sz_fits s4 (by omega)) (sz_fits sD (by omega)) w)⟩
end Go.Proofs.YtoegjibeomhekaaGreat

/- Package ratio: Cmp, Add, Sub, Mul, Div, of safe fractions. -/
namespace Go.Proofs.YtoegjibeomhekaaGreat
set_option linter.unusedSimpArgs false
set_option linter.unusedVariables false
open Go.RowKit
set_option maxRecDepth 100000
/-- Which is the greater. -/
def cm (x y : Int) : Int := if x < y then -1 else if y < x then 1 else 0
set_option maxHeartbeats 1000000 in
theorem Mul_rwalk {n d m e N D : Int} (hn : Sf n d) (hm : Sf m e) (T : Tl 114 #[vf n d, vf m e] (vf N D)) : Tl 106 #[vf n d, vf m e] (.tuple #[vf N D, .bool true]) := by
  intro w
  unfold vf at *
  have HB := Lib.hid hn
  have HC := Lib.hid hm
  have HT := Lib.hid T
  clear hn hm T
  have b2 := ((Blk.new w (fr n d) 45 rfl).old (.cells (fr m e).toArray 45)).old (.cells (rr false 0 false 0).toArray 45)
  have b3 := (Blk.new (w.alloc (.cells (fr n d).toArray 45)) (fr m e) 45 (b := w.heap.size + 1) (by simp)).old (.cells (rr false 0 false 0).toArray 45)
  have b4 := Blk.new ((w.alloc (.cells (fr n d).toArray 45)).alloc (.cells (fr m e).toArray 45)) (rr false 0 false 0) 45 (b := w.heap.size + 1 + 1) (by simp)
  have hb : Below w.heap.size w (((w.alloc (.cells (fr n d).toArray 45)).alloc (.cells (fr m e).toArray 45)).alloc (.cells (rr false 0 false 0).toArray 45)) := (((Below.refl _ _).alloc (Nat.le_refl _) _).alloc (by simp) _).alloc (by simp; omega) _
  go_enter Tryz.func106, Tryz.ntmps106
  go_wp2_with (first | (with_reducible refine alR rfl rfl ?_) | (with_reducible refine ldFr rfl rfl rfl b2 ?_) | (with_reducible refine ldFr rfl rfl rfl b3 ?_) | (with_reducible refine bs2 rfl rfl rfl rfl ?_))
  have sl := Blk.new (((w.alloc (.cells (fr n d).toArray 45)).alloc (.cells (fr m e).toArray 45)).alloc (.cells (rr false 0 false 0).toArray 45)) (fr n d ++ fr m e) 45 (b := w.heap.size + 1 + 1 + 1) (by simp)
  replace b2 := b2.old (.cells (fr n d ++ fr m e).toArray 45)
  replace b3 := b3.old (.cells (fr n d ++ fr m e).toArray 45)
  replace b4 := b4.old (.cells (fr n d ++ fr m e).toArray 45)
  replace hb := hb.alloc hb.size (.cells (fr n d ++ fr m e).toArray 45)
  generalize (((w.alloc (.cells (fr n d).toArray 45)).alloc (.cells (fr m e).toArray 45)).alloc (.cells (rr false 0 false 0).toArray 45)).alloc (.cells (fr n d ++ fr m e).toArray 45) = W at *
  refine (safe_two sl HB.out HC.out).mono ?_
  rintro e w1 ⟨rfl, h1⟩
  replace b2 := b2.call h1
  replace b3 := b3.call h1
  replace b4 := b4.call h1
  replace hb := bthen hb h1
  clear h1
  clear sl
  go_wp2_with (first | (with_reducible refine ldFr rfl rfl rfl b2 ?_) | (with_reducible refine ldFr rfl rfl rfl b3 ?_))
  refine (HT.out _).mono ?_
  rintro e w1 ⟨rfl, h1⟩
  replace b4 := b4.call h1
  replace hb := bthen hb h1
  clear h1
  go_wp2_with (first | (with_reducible refine stR rfl rfl rfl rfl b4 (rr_length _ _ _ _) ?_))
  exact ret_ct (cs := fr N D) (v := .bool true) rfl rfl rfl rfl (wholeF _ _) (b4.row _) ⟨rfl, below_row hb (by omega) _⟩
set_option maxHeartbeats 1000000 in
theorem Sub_rwalk {n d m e N D : Int} (hn : Sf n d) (hm : Sf m e) (T : Tl 105 #[vf n d, vf (-m) e] (vf N D)) : Tl 99 #[vf n d, vf m e] (.tuple #[vf N D, .bool true]) := by
  have HN := Lib.hid (fun w => Neg_w (wd_of hm.fn) w)
  intro w
  unfold vf at *
  have HB := Lib.hid hn
  have HC := Lib.hid hm
  have HT := Lib.hid T
  clear hn hm T
  have b2 := ((Blk.new w (fr n d) 45 rfl).old (.cells (fr m e).toArray 45)).old (.cells (rr false 0 false 0).toArray 45)
  have b3 := (Blk.new (w.alloc (.cells (fr n d).toArray 45)) (fr m e) 45 (b := w.heap.size + 1) (by simp)).old (.cells (rr false 0 false 0).toArray 45)
  have b4 := Blk.new ((w.alloc (.cells (fr n d).toArray 45)).alloc (.cells (fr m e).toArray 45)) (rr false 0 false 0) 45 (b := w.heap.size + 1 + 1) (by simp)
  have hb : Below w.heap.size w (((w.alloc (.cells (fr n d).toArray 45)).alloc (.cells (fr m e).toArray 45)).alloc (.cells (rr false 0 false 0).toArray 45)) := (((Below.refl _ _).alloc (Nat.le_refl _) _).alloc (by simp) _).alloc (by simp; omega) _
  go_enter Tryz.func99, Tryz.ntmps99
  go_wp2_with (first | (with_reducible refine alR rfl rfl ?_) | (with_reducible refine ldFr rfl rfl rfl b2 ?_) | (with_reducible refine ldFr rfl rfl rfl b3 ?_) | (with_reducible refine bs2 rfl rfl rfl rfl ?_))
  have sl := Blk.new (((w.alloc (.cells (fr n d).toArray 45)).alloc (.cells (fr m e).toArray 45)).alloc (.cells (rr false 0 false 0).toArray 45)) (fr n d ++ fr m e) 45 (b := w.heap.size + 1 + 1 + 1) (by simp)
  replace b2 := b2.old (.cells (fr n d ++ fr m e).toArray 45)
  replace b3 := b3.old (.cells (fr n d ++ fr m e).toArray 45)
  replace b4 := b4.old (.cells (fr n d ++ fr m e).toArray 45)
  replace hb := hb.alloc hb.size (.cells (fr n d ++ fr m e).toArray 45)
  generalize (((w.alloc (.cells (fr n d).toArray 45)).alloc (.cells (fr m e).toArray 45)).alloc (.cells (rr false 0 false 0).toArray 45)).alloc (.cells (fr n d ++ fr m e).toArray 45) = W at *
  refine (safe_two sl HB.out HC.out).mono ?_
  rintro e w1 ⟨rfl, h1⟩
  replace b2 := b2.call h1
  replace b3 := b3.call h1
  replace b4 := b4.call h1
  replace hb := bthen hb h1
  clear h1
  clear sl
  go_wp2_with fail
  refine rg_start [w.heap.size + 1 + 1] (by kernel_rfl) (fun hS => ?_)
  replace hb := hb.drew
  replace b4 := b4.drew
  refine rg_ldP 0 rfl (by kernel_rfl) (by kernel_rfl) (by kernel_rfl) (by rfl) hS rfl rfl b2 (by simp <;> omega) (part_all _) (wholeF _ _) ?_
  try simp only [Act.put, List.setIfInBounds_toArray, List.set_cons_zero, List.set_cons_succ]
  refine rg_take 1 rfl (by kernel_rfl) (by kernel_rfl) (by kernel_rfl) (by rfl) hS (v := ?_) ?_ ?_
  rotate_left
  · (intro w' hS'; go_simp <;> try with_reducible rfl)
  try simp only [Act.put, List.setIfInBounds_toArray, List.set_cons_zero, List.set_cons_succ]
  refine rg_ldP 2 rfl (by kernel_rfl) (by kernel_rfl) (by kernel_rfl) (by rfl) hS rfl rfl b3 (by simp <;> omega) (partF_n _ _) (wholeM _) ?_
  try simp only [Act.put, List.setIfInBounds_toArray, List.set_cons_zero, List.set_cons_succ]
  refine rg_take 4 rfl (by kernel_rfl) (by kernel_rfl) (by kernel_rfl) (by rfl) hS (v := ?_) ?_ ?_
  rotate_left
  · (intro w' hS'; go_simp <;> try with_reducible rfl)
  try simp only [Act.put, List.setIfInBounds_toArray, List.set_cons_zero, List.set_cons_succ]
  refine rg_ldP 5 rfl (by kernel_rfl) (by kernel_rfl) (by kernel_rfl) (by rfl) hS rfl rfl b3 (by simp <;> omega) (partF_d _ _) (wholeM _) ?_
  try simp only [Act.put, List.setIfInBounds_toArray, List.set_cons_zero, List.set_cons_succ]
  refine rg_eff 3 rfl (by kernel_rfl) (by rfl) (fun K hK => ?_)
  go_simp
  refine (HN.out _).mono ?_
  rintro e w1 ⟨rfl, h1⟩
  refine hK _ _ (hS.call h1) (fun hS => ?_)
  clear hK K
  replace b4 := b4.call h1
  replace hb := bthen hb h1
  clear h1
  try simp only [Act.put, List.setIfInBounds_toArray, List.set_cons_zero, List.set_cons_succ]
  refine rg_build 6 rfl (by kernel_rfl) (by kernel_rfl) (by kernel_rfl) (by rfl) hS rfl (pl := [(0, .agg (mk (-m)).toArray), (1, .agg (mk e).toArray)]) (builtF _ _) (by simp [Act.eval]) ?_
  try simp only [Act.put, List.setIfInBounds_toArray, List.set_cons_zero, List.set_cons_succ]
  refine rg_eff 7 rfl (by kernel_rfl) (by rfl) (fun K hK => ?_)
  go_simp
  refine (HT.out _).mono ?_
  rintro e w1 ⟨rfl, h1⟩
  refine hK _ _ (hS.call h1) (fun hS => ?_)
  clear hK K
  replace b4 := b4.call h1
  replace hb := bthen hb h1
  clear h1
  try simp only [Act.put, List.setIfInBounds_toArray, List.set_cons_zero, List.set_cons_succ]
  refine rg_eff 8 rfl (by kernel_rfl) (by rfl) (fun K hK => ?_)
  refine wp_st (vs := fr N D) rfl rfl rfl b4 (by rw [rr_length, fr_length]) (wholeF _ _) (fr_one _ _) ?_
  refine hK _ _ (hS.row (.inl (by simp)) _) (fun hS => ?_)
  clear hK K
  try simp only [Act.put, List.setIfInBounds_toArray, List.set_cons_zero, List.set_cons_succ]
  refine rg_take 9 rfl (by kernel_rfl) (by kernel_rfl) (by kernel_rfl) (by rfl) hS (v := ?_) ?_ ?_
  rotate_left
  · (intro w' hS'; go_simp <;> try with_reducible rfl)
  try simp only [Act.put, List.setIfInBounds_toArray, List.set_cons_zero, List.set_cons_succ]
  refine rg_done (by kernel_rfl) ?_
  go_wp2
  exact ret_ct (cs := fr N D) (v := .bool true) rfl rfl rfl rfl (wholeF _ _) (b4.row _) ⟨rfl, below_row hb (by omega) _⟩
end Go.Proofs.YtoegjibeomhekaaGreat

/- Package ratio: Cmp, Floor, lowest, New, Of. -/
namespace Go.Proofs.YtoegjibeomhekaaGreat
set_option linter.unusedSimpArgs false
set_option linter.unusedVariables false
open Go.RowKit
set_option maxRecDepth 100000
set_option maxHeartbeats 1000000 in
theorem Cmp_rwalk {n d m e x y : Int} (hn : Sf n d) (hm : Sf m e) (T1 : Tl 75 #[vw n, vw e] (vw x)) (T2 : Tl 75 #[vw m, vw d] (vw y)) (C : Tl 74 #[vw x, vw y] (.int .i64 (cm x y))) : Tl 58 #[vf n d, vf m e] (.tuple #[.int .i64 (cm x y), .bool true]) := by
  intro w
  unfold vf
  unfold vw at *
  have HB := Lib.hid hn
  have HC := Lib.hid hm
  have HT1 := Lib.hid T1
  have HT2 := Lib.hid T2
  have HCm := Lib.hid C
  clear hn hm T1 T2 C
  generalize cm x y = c at *
  have b2 := (Blk.new w (fr n d) 45 rfl).old (.cells (fr m e).toArray 45)
  have b3 := Blk.new (w.alloc (.cells (fr n d).toArray 45)) (fr m e) 45 (b := w.heap.size + 1) (by simp)
  have hb : Below w.heap.size w ((w.alloc (.cells (fr n d).toArray 45)).alloc (.cells (fr m e).toArray 45)) := ((Below.refl _ _).alloc (Nat.le_refl _) _).alloc (by simp) _
  go_enter Tryz.func58, Tryz.ntmps58
  go_wp2_with (first | (with_reducible refine ldFr rfl rfl rfl b2 ?_) | (with_reducible refine ldFr rfl rfl rfl b3 ?_) | (with_reducible refine bs2 rfl rfl rfl rfl ?_))
  have sl := Blk.new ((w.alloc (.cells (fr n d).toArray 45)).alloc (.cells (fr m e).toArray 45)) (fr n d ++ fr m e) 45 (b := w.heap.size + 1 + 1) (by simp)
  replace b2 := b2.old (.cells (fr n d ++ fr m e).toArray 45)
  replace b3 := b3.old (.cells (fr n d ++ fr m e).toArray 45)
  replace hb := hb.alloc hb.size (.cells (fr n d ++ fr m e).toArray 45)
  generalize ((w.alloc (.cells (fr n d).toArray 45)).alloc (.cells (fr m e).toArray 45)).alloc (.cells (fr n d ++ fr m e).toArray 45) = W at *
  refine (safe_two sl HB.out HC.out).mono ?_
  rintro e w1 ⟨rfl, h1⟩
  replace b2 := b2.call h1
  replace b3 := b3.call h1
  replace hb := bthen hb h1
  clear h1
  clear sl
  go_wp2_with fail
  refine rg_start [] (by kernel_rfl) (fun hS => ?_)
  replace hb := hb.drew
  refine rg_take 0 rfl (by kernel_rfl) (by kernel_rfl) (by kernel_rfl) (by rfl) hS (v := ?_) ?_ ?_
  rotate_left
  · (intro w' hS'; go_simp <;> try with_reducible rfl)
  try simp only [Act.put, List.setIfInBounds_toArray, List.set_cons_zero, List.set_cons_succ]
  refine rg_ldP 1 rfl (by kernel_rfl) (by kernel_rfl) (by kernel_rfl) (by rfl) hS rfl rfl b2 (by simp <;> omega) (partF_n _ _) (wholeM _) ?_
  try simp only [Act.put, List.setIfInBounds_toArray, List.set_cons_zero, List.set_cons_succ]
  refine rg_take 2 rfl (by kernel_rfl) (by kernel_rfl) (by kernel_rfl) (by rfl) hS (v := ?_) ?_ ?_
  rotate_left
  · (intro w' hS'; go_simp <;> try with_reducible rfl)
  try simp only [Act.put, List.setIfInBounds_toArray, List.set_cons_zero, List.set_cons_succ]
  refine rg_ldP 3 rfl (by kernel_rfl) (by kernel_rfl) (by kernel_rfl) (by rfl) hS rfl rfl b3 (by simp <;> omega) (partF_d _ _) (wholeM _) ?_
  try simp only [Act.put, List.setIfInBounds_toArray, List.set_cons_zero, List.set_cons_succ]
  refine rg_take 5 rfl (by kernel_rfl) (by kernel_rfl) (by kernel_rfl) (by rfl) hS (v := ?_) ?_ ?_
  rotate_left
  · (intro w' hS'; go_simp <;> try with_reducible rfl)
  try simp only [Act.put, List.setIfInBounds_toArray, List.set_cons_zero, List.set_cons_succ]
  refine rg_ldP 6 rfl (by kernel_rfl) (by kernel_rfl) (by kernel_rfl) (by rfl) hS rfl rfl b3 (by simp <;> omega) (partF_n _ _) (wholeM _) ?_
  try simp only [Act.put, List.setIfInBounds_toArray, List.set_cons_zero, List.set_cons_succ]
  refine rg_take 7 rfl (by kernel_rfl) (by kernel_rfl) (by kernel_rfl) (by rfl) hS (v := ?_) ?_ ?_
  rotate_left
  · (intro w' hS'; go_simp <;> try with_reducible rfl)
  try simp only [Act.put, List.setIfInBounds_toArray, List.set_cons_zero, List.set_cons_succ]
  refine rg_ldP 8 rfl (by kernel_rfl) (by kernel_rfl) (by kernel_rfl) (by rfl) hS rfl rfl b2 (by simp <;> omega) (partF_d _ _) (wholeM _) ?_
  try simp only [Act.put, List.setIfInBounds_toArray, List.set_cons_zero, List.set_cons_succ]
  refine rg_eff 4 rfl (by kernel_rfl) (by rfl) (fun K hK => ?_)
  go_simp
  refine (HT1.out _).mono ?_
  rintro e w1 ⟨rfl, h1⟩
  refine hK _ _ (hS.call h1) (fun hS => ?_)
  clear hK K
  replace hb := bthen hb h1
  clear h1
  try simp only [Act.put, List.setIfInBounds_toArray, List.set_cons_zero, List.set_cons_succ]
  refine rg_eff 9 rfl (by kernel_rfl) (by rfl) (fun K hK => ?_)
  go_simp
  refine (HT2.out _).mono ?_
  rintro e w1 ⟨rfl, h1⟩
  refine hK _ _ (hS.call h1) (fun hS => ?_)
  clear hK K
  replace hb := bthen hb h1
  clear h1
  try simp only [Act.put, List.setIfInBounds_toArray, List.set_cons_zero, List.set_cons_succ]
  refine rg_eff 10 rfl (by kernel_rfl) (by rfl) (fun K hK => ?_)
  go_simp
  refine (HCm.out _).mono ?_
  rintro e w1 ⟨rfl, h1⟩
  refine hK _ _ (hS.call h1) (fun hS => ?_)
  clear hK K
  replace hb := bthen hb h1
  clear h1
  try simp only [Act.put, List.setIfInBounds_toArray, List.set_cons_zero, List.set_cons_succ]
  refine rg_take 11 rfl (by kernel_rfl) (by kernel_rfl) (by kernel_rfl) (by rfl) hS (v := ?_) ?_ ?_
  rotate_left
  · (intro w' hS'; go_simp <;> try with_reducible rfl)
  try simp only [Act.put, List.setIfInBounds_toArray, List.set_cons_zero, List.set_cons_succ]
  refine rg_take 12 rfl (by kernel_rfl) (by kernel_rfl) (by kernel_rfl) (by rfl) hS (v := ?_) ?_ ?_
  rotate_left
  · (intro w' hS'; go_simp <;> try with_reducible rfl)
  try simp only [Act.put, List.setIfInBounds_toArray, List.set_cons_zero, List.set_cons_succ]
  refine rg_done (by kernel_rfl) ?_
  go_wp2
  go_ret2
  exact ⟨rfl, hb⟩
theorem Cmp_rany {n d m e : Int} (hn : Sf n d) (hm : Sf m e) : Tl 58 #[vf n d, vf m e] (.tuple #[.int .i64 (cm (n * e) (m * d)), .bool true]) := by
  have s1 := sz_mul hn.2.1 hm.2.2
  have s2 := sz_mul hm.2.1 hn.2.2
  exact Cmp_rwalk hn hm (fun w => rtimes_any hn.fn hm.fd (sz_fits s1 (by omega)) w) (fun w => rtimes_any hm.fn hn.fd (sz_fits s2 (by omega)) w) (fun w => Cmp_w (wd_of (sz_fits s1 (by omega))) (wd_of (sz_fits s2 (by omega))) w)
theorem sf_neg {n d : Int} (h : Sf n d) : Sf (-n) d := ⟨⟨h.1.1, by have := h.1.2; unfold Cop at *; rw [Int.neg_gcd]; exact this⟩, sz_neg h.2.1, h.2.2⟩
theorem Sub_rany {n d m e : Int} (hn : Sf n d) (hm : Sf m e) : ∃ N D, Rt N D ∧ N * (d * e) = (n * e - m * d) * D ∧ fits N ∧ fits D ∧ Tl 99 #[vf n d, vf m e] (.tuple #[vf N D, .bool true]) := by
  obtain ⟨N, D, h1, h2, h3, h4, h5⟩ := rplus_any hn (sf_neg hm)
  exact ⟨N, D, h1, by rw [h2, Int.neg_mul, Int.sub_eq_add_neg], h3, h4, Sub_rwalk hn hm h5⟩
theorem Mul_rany {n d m e : Int} (hn : Sf n d) (hm : Sf m e) : ∃ N D, Rt N D ∧ N * (d * e) = n * m * D ∧ fits N ∧ fits D ∧ Tl 106 #[vf n d, vf m e] (.tuple #[vf N D, .bool true]) := by
  obtain ⟨N, D, h1, h2, h3, h4, h5⟩ := product_any hn hm
  exact ⟨N, D, h1, h2, h3, h4, Mul_rwalk hn hm h5⟩
end Go.Proofs.YtoegjibeomhekaaGreat
