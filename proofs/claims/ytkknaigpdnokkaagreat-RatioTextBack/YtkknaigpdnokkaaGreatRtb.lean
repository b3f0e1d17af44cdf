/- RatioTextBack: what it answers. -/
import Derived.Test.YtkknaigpdnokkaaGreatRpt
import Derived.Test.YtkknaigpdnokkaaGreatRkn
import Derived.Test.YtkknaigpdnokkaaGreatMgw
import Derived.Test.YtkknaigpdnokkaaGreatMrs
import Derived.Test.YtkknaigpdnokkaaGreatPnt
namespace Go.Proofs.YtkknaigpdnokkaaGreat
set_option linter.unusedSimpArgs false
set_option linter.unusedVariables false
open Go.RowKit
set_option maxRecDepth 100000
section
variable {ops : Array Oper} {rest : List Oper} {o : Oper} {a : Act} {w : World} {Q : Exit → Act → World → Prop}
theorem eqqt {p q : Operand} {n d : Int} {ty : TypeId} (hw : Region.wanted o (yielded ops a.tmps) = true) (ho : o.op = .binOp .eql 27 p q ty) (hp : a.eval p = .agg (fr n d).toArray) (hq : a.eval q = .agg (fr n d).toArray) (h1 : fits n) (h2 : fits d)
    (hr : wpList Tryz.prog ops Q rest (a.put o.dst (.bool true)) w) : wpList Tryz.prog ops Q (o :: rest) a w :=
  BigFrame.wpList_want hw fun _ hK => by
    have := hK _ _ hr
    unfold Oper.wp
    have e := op_eqR h1 h2 h1 h2 ho hp hq w
    rw [decide_eq_true ⟨rfl, rfl⟩] at e
    rw [e]
    exact this
end
set_option maxHeartbeats 1000000 in
theorem rtb_unsafe (s : Bool) {N : Nat} (t : Bool) {M : Nat} (k : Int) (S : Tl 9 #[.agg (rr s N t M).toArray, .int .i64 400] (.bool false)) (w : World) :
    Calls Tryz.prog 3 #[.agg (rr s N t M).toArray, .int .u8 k] w fun e w' => e = .returned (.bool true) ∧ Below w.heap.size w w' := by
  have HS := Lib.hid S
  unfold Tl at HS
  clear S
  have b2 := Blk.new w (rr s N t M) 27 rfl
  have hb : Below w.heap.size w (w.alloc (.cells (rr s N t M).toArray 27)) := (Below.refl _ _).alloc (Nat.le_refl _) _
  go_enter Tryz.func3, Tryz.ntmps3
  go_wp2_with fail
  refine (known2_any _).mono ?_
  rintro e w1 ⟨rfl, h1⟩
  replace b2 := b2.call h1
  replace hb := bthen hb h1
  clear h1
  go_wp2_with (first | (with_reducible refine ldP rfl rfl rfl b2 (part_all _) (wholeR _ _ _ _) ?_))
  refine (HS.out _).mono ?_
  rintro e w1 ⟨rfl, h1⟩
  replace hb := bthen hb h1
  clear h1
  go_wp2
  go_ret
  exact ⟨rfl, hb⟩
set_option maxHeartbeats 16000000 in
theorem rtb_walk {n d k m a b : Int} {s x y : ByteArray} (h1 : fits n) (h2 : fits d) (hk : 0 ≤ k ∧ k ≤ 255) (hm : k + 2 = m) (hs : s.size ≤ 1000) (hx : x.size ≤ 400) (hy : y.size ≤ 400)
    (S : Tl 9 #[vf n d, .int .i64 400] (.bool true)) (T : Tl 10 #[vf n d] (.string s)) (P : Tl 11 #[.string s] (.tuple #[vf n d, .bool true])) (F : Tl 13 #[.int .i64 m] (vw m))
    (M1 : Tl 12 #[vw n, vw m] (.tuple #[vw a, .bool true])) (M2 : Tl 12 #[vw d, vw m] (.tuple #[vw b, .bool true])) (T1 : Tl 14 #[vw a] (.string x)) (T2 : Tl 14 #[vw b] (.string y))
    (P2 : Tl 11 #[.string (x ++ ⟨#[47]⟩ ++ y)] (.tuple #[.agg (rr false 0 false 0).toArray, .bool false])) (P3 : Tl 11 #[.string (s ++ ⟨#[47, 49]⟩)] (.tuple #[.agg (rr false 0 false 0).toArray, .bool false])) (w : World) :
    Calls Tryz.prog 3 #[vf n d, .int .u8 k] w fun e w' => e = .returned (.bool true) ∧ Below w.heap.size w w' := by
  unfold vf at *
  unfold vw at *
  have HS := Lib.hid S
  have HT := Lib.hid T
  have HP := Lib.hid P
  have HF := Lib.hid F
  have HM1 := Lib.hid M1
  have HM2 := Lib.hid M2
  have HT1 := Lib.hid T1
  have HT2 := Lib.hid T2
  have HP2 := Lib.hid P2
  have HP3 := Lib.hid P3
  have Hh1 := Lib.hid h1
  have Hh2 := Lib.hid h2
  clear S T P F M1 M2 T1 T2 P2 P3 h1 h2
  unfold Tl at HS HT HP HF HM1 HM2 HT1 HT2 HP2 HP3
  have hxs : (x ++ (⟨#[47]⟩ : ByteArray)).size ≤ 401 := by rw [ByteArray.size_append]; show x.size + 1 ≤ 401; omega
  have z1 : ¬ (9223372036854775807 : Nat) < s.size + 2 := by omega
  have b2 := Blk.new w (fr n d) 27 rfl
  have hb : Below w.heap.size w (w.alloc (.cells (fr n d).toArray 27)) := (Below.refl _ _).alloc (Nat.le_refl _) _
  go_enter Tryz.func3, Tryz.ntmps3
  go_wp2_with fail
  refine (known2_any _).mono ?_
  rintro e w1 ⟨rfl, h1⟩
  replace b2 := b2.call h1
  replace hb := bthen hb h1
  clear h1
  go_wp2_with (first | (with_reducible refine ldFr rfl rfl rfl b2 ?_))
  refine (HS.out _).mono ?_
  rintro e w1 ⟨rfl, h1⟩
  replace b2 := b2.call h1
  replace hb := bthen hb h1
  clear h1
  go_wp2_with (first | (with_reducible refine ldFr rfl rfl rfl b2 ?_))
  refine (HT.out _).mono ?_
  rintro e w1 ⟨rfl, h1⟩
  replace b2 := b2.call h1
  replace hb := bthen hb h1
  clear h1
  go_wp2_with fail
  refine (HP.out _).mono ?_
  rintro e w1 ⟨rfl, h1⟩
  replace b2 := b2.call h1
  replace hb := bthen hb h1
  clear h1
  have f := Blk.new w1 (rr false 0 false 0) 27 rfl
  have b6 := laidR_new w1 (n) (d)
  replace b2 := laidR_old b2 (n) (d)
  replace hb := laidR_below hb (n) (d)
  go_wp2_with (first | (with_reducible refine alR rfl rfl ?_) | (with_reducible refine stR rfl rfl rfl rfl f (rr_length _ _ _ _) ?_))
  clear f
  generalize (w1.alloc (.cells (rr false 0 false 0).toArray 27)).setRow w1.heap.size (fr (n) (d)).toArray = W at *
  generalize w1.heap.size = pl_b6 at *
  have hsz := hb.size
  try simp only [Act.put, List.setIfInBounds_toArray, List.set_cons_zero, List.set_cons_succ]
  go_cut [9, 10] (fun p v wx => ∃ q, p = .pointer (some ⟨q, 0, none⟩) ∧ v = .bool true ∧ Below w.heap.size w wx ∧ Blk wx q (mk a) 25 ∧ Blk wx w.heap.size (fr n d) 27 ∧ Blk wx pl_b6 (fr n d) 27)
  case first =>
    refine rg_start [] (by kernel_rfl) (fun hS => ?_)
    replace hb := hb.drew
    refine rg_take 0 rfl (by kernel_rfl) (by kernel_rfl) (by kernel_rfl) (by rfl) hS (v := ?_) ?_ ?_
    rotate_left
    · (intro w' hS'; go_simp <;> try with_reducible rfl)
    try simp only [Act.put, List.setIfInBounds_toArray, List.set_cons_zero, List.set_cons_succ]
    refine rg_ldP 1 rfl (by kernel_rfl) (by kernel_rfl) (by kernel_rfl) (by rfl) hS rfl rfl b2 (by simp <;> omega) (partF_n _ _) (wholeM _) ?_
    try simp only [Act.put, List.setIfInBounds_toArray, List.set_cons_zero, List.set_cons_succ]
    refine rg_take 2 rfl (by kernel_rfl) (by kernel_rfl) (by kernel_rfl) (by rfl) hS (v := ?_) ?_ ?_
    rotate_left
    · (intro w' hS'; go_simp <;> try with_reducible rfl)
    try simp only [Act.put, List.setIfInBounds_toArray, List.set_cons_zero, List.set_cons_succ]
    refine rg_two 3 8 rfl rfl (by kernel_rfl) (by rfl) (by rfl) (fun K hK => ?_) (fun K hK => ?_)
    · go_simp
      refine (HF.out _).mono ?_
      rintro e w1 ⟨rfl, h1⟩
      refine hK _ _ (hS.call h1) (fun hS => ?_)
      clear hK K
      try replace an := an.call h1
      replace hb := bthen hb h1
      clear h1
      try simp only [Act.put, List.setIfInBounds_toArray, List.set_cons_zero, List.set_cons_succ]
      refine rg_two 4 8 rfl rfl (by kernel_rfl) (by rfl) (by rfl) (fun K hK => ?_) (fun K hK => ?_)
      · go_simp
        refine (HM1.out _).mono ?_
        rintro e w1 ⟨rfl, h1⟩
        refine hK _ _ (hS.call h1) (fun hS => ?_)
        clear hK K
        try replace an := an.call h1
        replace hb := bthen hb h1
        clear h1
        try simp only [Act.put, List.setIfInBounds_toArray, List.set_cons_zero, List.set_cons_succ]
        refine rg_take 5 rfl (by kernel_rfl) (by kernel_rfl) (by kernel_rfl) (by rfl) hS (v := ?_) ?_ ?_
        rotate_left
        · (intro w' hS'; go_simp <;> try with_reducible rfl)
        try simp only [Act.put, List.setIfInBounds_toArray, List.set_cons_zero, List.set_cons_succ]
        refine rg_take 6 rfl (by kernel_rfl) (by kernel_rfl) (by kernel_rfl) (by rfl) hS (v := ?_) ?_ ?_
        rotate_left
        · (intro w' hS'; go_simp <;> try with_reducible rfl)
        try simp only [Act.put, List.setIfInBounds_toArray, List.set_cons_zero, List.set_cons_succ]
        refine rg_take 7 rfl (by kernel_rfl) (by kernel_rfl) (by kernel_rfl) (by rfl) hS (v := ?_) ?_ ?_
        rotate_left
        · (intro w' hS'; go_simp <;> try with_reducible rfl)
        try simp only [Act.put, List.setIfInBounds_toArray, List.set_cons_zero, List.set_cons_succ]
        refine rg_eff 8 rfl (by kernel_rfl) (by rfl) (fun K hK => ?_)
        refine wp_alB (zs := wd false 0) rfl (by kernel_rfl) (fun pn qn an => ?_)
        replace qn := Nat.le_trans hS.1 qn
        refine hK _ _ (hS.alloc _) (fun hS => ?_)
        clear hK K
        replace hb := hb.alloc hb.size (.cells (wd false 0).toArray 25)
        try simp only [Act.put, List.setIfInBounds_toArray, List.set_cons_zero, List.set_cons_succ]
        refine rg_eff 9 rfl (by kernel_rfl) (by rfl) (fun K hK => ?_)
        refine wp_st (vs := mk a) rfl rfl rfl an (by rw [wd_length, mk_length]) (wholeM _) (mk_one _) ?_
        refine hK _ _ (hS.row (.inr qn) _) (fun hS => ?_)
        clear hK K
        replace an := an.row (mk a)
        replace hb := below_row hb (g := pn) (by omega) (mk a).toArray
        try simp only [Act.put, List.setIfInBounds_toArray, List.set_cons_zero, List.set_cons_succ]
        refine rg_take 10 rfl (by kernel_rfl) (by kernel_rfl) (by kernel_rfl) (by rfl) hS (v := ?_) ?_ ?_
        rotate_left
        · (intro w' hS'; go_simp <;> try with_reducible rfl)
        try simp only [Act.put, List.setIfInBounds_toArray, List.set_cons_zero, List.set_cons_succ]
        refine rg_done (by kernel_rfl) ?_
        go_wp2_with fail
        go_meet
        case rel => exact ⟨pn, rfl, rfl, hb, an, b2.keep hS (by simp), b6.keep hS (by simp)⟩
      · refine wp_alB (zs := wd false 0) rfl (by kernel_rfl) (fun pn qn an => ?_)
        replace qn := Nat.le_trans hS.1 qn
        refine hK _ _ (hS.alloc _) (fun hS => ?_)
        clear hK K
        replace hb := hb.alloc hb.size (.cells (wd false 0).toArray 25)
        try simp only [Act.put, List.setIfInBounds_toArray, List.set_cons_zero, List.set_cons_succ]
        refine rg_eff 4 rfl (by kernel_rfl) (by rfl) (fun K hK => ?_)
        go_simp
        refine (HM1.out _).mono ?_
        rintro e w1 ⟨rfl, h1⟩
        refine hK _ _ (hS.call h1) (fun hS => ?_)
        clear hK K
        try replace an := an.call h1
        replace hb := bthen hb h1
        clear h1
        try simp only [Act.put, List.setIfInBounds_toArray, List.set_cons_zero, List.set_cons_succ]
        refine rg_take 5 rfl (by kernel_rfl) (by kernel_rfl) (by kernel_rfl) (by rfl) hS (v := ?_) ?_ ?_
        rotate_left
        · (intro w' hS'; go_simp <;> try with_reducible rfl)
        try simp only [Act.put, List.setIfInBounds_toArray, List.set_cons_zero, List.set_cons_succ]
        refine rg_take 6 rfl (by kernel_rfl) (by kernel_rfl) (by kernel_rfl) (by rfl) hS (v := ?_) ?_ ?_
        rotate_left
        · (intro w' hS'; go_simp <;> try with_reducible rfl)
        try simp only [Act.put, List.setIfInBounds_toArray, List.set_cons_zero, List.set_cons_succ]
        refine rg_take 7 rfl (by kernel_rfl) (by kernel_rfl) (by kernel_rfl) (by rfl) hS (v := ?_) ?_ ?_
        rotate_left
        · (intro w' hS'; go_simp <;> try with_reducible rfl)
        try simp only [Act.put, List.setIfInBounds_toArray, List.set_cons_zero, List.set_cons_succ]
        refine rg_eff 9 rfl (by kernel_rfl) (by rfl) (fun K hK => ?_)
        refine wp_st (vs := mk a) rfl rfl rfl an (by rw [wd_length, mk_length]) (wholeM _) (mk_one _) ?_
        refine hK _ _ (hS.row (.inr qn) _) (fun hS => ?_)
        clear hK K
        replace an := an.row (mk a)
        replace hb := below_row hb (g := pn) (by omega) (mk a).toArray
        try simp only [Act.put, List.setIfInBounds_toArray, List.set_cons_zero, List.set_cons_succ]
        refine rg_take 10 rfl (by kernel_rfl) (by kernel_rfl) (by kernel_rfl) (by rfl) hS (v := ?_) ?_ ?_
        rotate_left
        · (intro w' hS'; go_simp <;> try with_reducible rfl)
        try simp only [Act.put, List.setIfInBounds_toArray, List.set_cons_zero, List.set_cons_succ]
        refine rg_done (by kernel_rfl) ?_
        go_wp2_with fail
        go_meet
        case rel => exact ⟨pn, rfl, rfl, hb, an, b2.keep hS (by simp), b6.keep hS (by simp)⟩
    · refine wp_alB (zs := wd false 0) rfl (by kernel_rfl) (fun pn qn an => ?_)
      replace qn := Nat.le_trans hS.1 qn
      refine hK _ _ (hS.alloc _) (fun hS => ?_)
      clear hK K
      replace hb := hb.alloc hb.size (.cells (wd false 0).toArray 25)
      try simp only [Act.put, List.setIfInBounds_toArray, List.set_cons_zero, List.set_cons_succ]
      refine rg_eff 3 rfl (by kernel_rfl) (by rfl) (fun K hK => ?_)
      go_simp
      refine (HF.out _).mono ?_
      rintro e w1 ⟨rfl, h1⟩
      refine hK _ _ (hS.call h1) (fun hS => ?_)
      clear hK K
      try replace an := an.call h1
      replace hb := bthen hb h1
      clear h1
      try simp only [Act.put, List.setIfInBounds_toArray, List.set_cons_zero, List.set_cons_succ]
      refine rg_eff 4 rfl (by kernel_rfl) (by rfl) (fun K hK => ?_)
      go_simp
      refine (HM1.out _).mono ?_
      rintro e w1 ⟨rfl, h1⟩
      refine hK _ _ (hS.call h1) (fun hS => ?_)
      clear hK K
      try replace an := an.call h1
      replace hb := bthen hb h1
      clear h1
      try simp only [Act.put, List.setIfInBounds_toArray, List.set_cons_zero, List.set_cons_succ]
      refine rg_take 5 rfl (by kernel_rfl) (by kernel_rfl) (by kernel_rfl) (by rfl) hS (v := ?_) ?_ ?_
      rotate_left
      · (intro w' hS'; go_simp <;> try with_reducible rfl)
      try simp only [Act.put, List.setIfInBounds_toArray, List.set_cons_zero, List.set_cons_succ]
      refine rg_take 6 rfl (by kernel_rfl) (by kernel_rfl) (by kernel_rfl) (by rfl) hS (v := ?_) ?_ ?_
      rotate_left
      · (intro w' hS'; go_simp <;> try with_reducible rfl)
      try simp only [Act.put, List.setIfInBounds_toArray, List.set_cons_zero, List.set_cons_succ]
      refine rg_take 7 rfl (by kernel_rfl) (by kernel_rfl) (by kernel_rfl) (by rfl) hS (v := ?_) ?_ ?_
      rotate_left
      · (intro w' hS'; go_simp <;> try with_reducible rfl)
      try simp only [Act.put, List.setIfInBounds_toArray, List.set_cons_zero, List.set_cons_succ]
      refine rg_eff 9 rfl (by kernel_rfl) (by rfl) (fun K hK => ?_)
      refine wp_st (vs := mk a) rfl rfl rfl an (by rw [wd_length, mk_length]) (wholeM _) (mk_one _) ?_
      refine hK _ _ (hS.row (.inr qn) _) (fun hS => ?_)
      clear hK K
      replace an := an.row (mk a)
      replace hb := below_row hb (g := pn) (by omega) (mk a).toArray
      try simp only [Act.put, List.setIfInBounds_toArray, List.set_cons_zero, List.set_cons_succ]
      refine rg_take 10 rfl (by kernel_rfl) (by kernel_rfl) (by kernel_rfl) (by rfl) hS (v := ?_) ?_ ?_
      rotate_left
      · (intro w' hS'; go_simp <;> try with_reducible rfl)
      try simp only [Act.put, List.setIfInBounds_toArray, List.set_cons_zero, List.set_cons_succ]
      refine rg_done (by kernel_rfl) ?_
      go_wp2_with fail
      go_meet
      case rel => exact ⟨pn, rfl, rfl, hb, an, b2.keep hS (by simp), b6.keep hS (by simp)⟩
  case rest =>
    clear hb hsz b2 b6
    obtain ⟨pl_b9, rfl, rfl, hb, b9, b2, b6⟩ := hcut
    go_wp2_with fail
    have hsz := hb.size
    try simp only [Act.put, List.setIfInBounds_toArray, List.set_cons_zero, List.set_cons_succ]
    go_cut [11, 12] (fun p v wx => ∃ q, p = .pointer (some ⟨q, 0, none⟩) ∧ v = .bool true ∧ Below w.heap.size w wx ∧ Blk wx q (mk b) 25 ∧ Blk wx w.heap.size (fr n d) 27 ∧ Blk wx pl_b6 (fr n d) 27 ∧ Blk wx pl_b9 (mk a) 25)
    case first =>
      refine rg_start [] (by kernel_rfl) (fun hS => ?_)
      replace hb := hb.drew
      refine rg_take 0 rfl (by kernel_rfl) (by kernel_rfl) (by kernel_rfl) (by rfl) hS (v := ?_) ?_ ?_
      rotate_left
      · (intro w' hS'; go_simp <;> try with_reducible rfl)
      try simp only [Act.put, List.setIfInBounds_toArray, List.set_cons_zero, List.set_cons_succ]
      refine rg_ldP 1 rfl (by kernel_rfl) (by kernel_rfl) (by kernel_rfl) (by rfl) hS rfl rfl b2 (by simp <;> omega) (partF_d _ _) (wholeM _) ?_
      try simp only [Act.put, List.setIfInBounds_toArray, List.set_cons_zero, List.set_cons_succ]
      refine rg_take 2 rfl (by kernel_rfl) (by kernel_rfl) (by kernel_rfl) (by rfl) hS (v := ?_) ?_ ?_
      rotate_left
      · (intro w' hS'; go_simp <;> try with_reducible rfl)
      try simp only [Act.put, List.setIfInBounds_toArray, List.set_cons_zero, List.set_cons_succ]
      refine rg_two 3 8 rfl rfl (by kernel_rfl) (by rfl) (by rfl) (fun K hK => ?_) (fun K hK => ?_)
      · go_simp
        refine (HF.out _).mono ?_
        rintro e w1 ⟨rfl, h1⟩
        refine hK _ _ (hS.call h1) (fun hS => ?_)
        clear hK K
        try replace an := an.call h1
        replace hb := bthen hb h1
        clear h1
        try simp only [Act.put, List.setIfInBounds_toArray, List.set_cons_zero, List.set_cons_succ]
        refine rg_two 4 8 rfl rfl (by kernel_rfl) (by rfl) (by rfl) (fun K hK => ?_) (fun K hK => ?_)
        · go_simp
          refine (HM2.out _).mono ?_
          rintro e w1 ⟨rfl, h1⟩
          refine hK _ _ (hS.call h1) (fun hS => ?_)
          clear hK K
          try replace an := an.call h1
          replace hb := bthen hb h1
          clear h1
          try simp only [Act.put, List.setIfInBounds_toArray, List.set_cons_zero, List.set_cons_succ]
          refine rg_take 5 rfl (by kernel_rfl) (by kernel_rfl) (by kernel_rfl) (by rfl) hS (v := ?_) ?_ ?_
          rotate_left
          · (intro w' hS'; go_simp <;> try with_reducible rfl)
          try simp only [Act.put, List.setIfInBounds_toArray, List.set_cons_zero, List.set_cons_succ]
          refine rg_take 6 rfl (by kernel_rfl) (by kernel_rfl) (by kernel_rfl) (by rfl) hS (v := ?_) ?_ ?_
          rotate_left
          · (intro w' hS'; go_simp <;> try with_reducible rfl)
          try simp only [Act.put, List.setIfInBounds_toArray, List.set_cons_zero, List.set_cons_succ]
          refine rg_take 7 rfl (by kernel_rfl) (by kernel_rfl) (by kernel_rfl) (by rfl) hS (v := ?_) ?_ ?_
          rotate_left
          · (intro w' hS'; go_simp <;> try with_reducible rfl)
          try simp only [Act.put, List.setIfInBounds_toArray, List.set_cons_zero, List.set_cons_succ]
          refine rg_eff 8 rfl (by kernel_rfl) (by rfl) (fun K hK => ?_)
          refine wp_alB (zs := wd false 0) rfl (by kernel_rfl) (fun pn qn an => ?_)
          replace qn := Nat.le_trans hS.1 qn
          refine hK _ _ (hS.alloc _) (fun hS => ?_)
          clear hK K
          replace hb := hb.alloc hb.size (.cells (wd false 0).toArray 25)
          try simp only [Act.put, List.setIfInBounds_toArray, List.set_cons_zero, List.set_cons_succ]
          refine rg_eff 9 rfl (by kernel_rfl) (by rfl) (fun K hK => ?_)
          refine wp_st (vs := mk b) rfl rfl rfl an (by rw [wd_length, mk_length]) (wholeM _) (mk_one _) ?_
          refine hK _ _ (hS.row (.inr qn) _) (fun hS => ?_)
          clear hK K
          replace an := an.row (mk b)
          replace hb := below_row hb (g := pn) (by omega) (mk b).toArray
          try simp only [Act.put, List.setIfInBounds_toArray, List.set_cons_zero, List.set_cons_succ]
          refine rg_take 10 rfl (by kernel_rfl) (by kernel_rfl) (by kernel_rfl) (by rfl) hS (v := ?_) ?_ ?_
          rotate_left
          · (intro w' hS'; go_simp <;> try with_reducible rfl)
          try simp only [Act.put, List.setIfInBounds_toArray, List.set_cons_zero, List.set_cons_succ]
          refine rg_done (by kernel_rfl) ?_
          go_wp2_with fail
          go_meet
          case rel => exact ⟨pn, rfl, rfl, hb, an, b2.keep hS (by simp), b6.keep hS (by simp), b9.keep hS (by simp)⟩
        · refine wp_alB (zs := wd false 0) rfl (by kernel_rfl) (fun pn qn an => ?_)
          replace qn := Nat.le_trans hS.1 qn
          refine hK _ _ (hS.alloc _) (fun hS => ?_)
          clear hK K
          replace hb := hb.alloc hb.size (.cells (wd false 0).toArray 25)
          try simp only [Act.put, List.setIfInBounds_toArray, List.set_cons_zero, List.set_cons_succ]
          refine rg_eff 4 rfl (by kernel_rfl) (by rfl) (fun K hK => ?_)
          go_simp
          refine (HM2.out _).mono ?_
          rintro e w1 ⟨rfl, h1⟩
          refine hK _ _ (hS.call h1) (fun hS => ?_)
          clear hK K
          try replace an := an.call h1
          replace hb := bthen hb h1
          clear h1
          try simp only [Act.put, List.setIfInBounds_toArray, List.set_cons_zero, List.set_cons_succ]
          refine rg_take 5 rfl (by kernel_rfl) (by kernel_rfl) (by kernel_rfl) (by rfl) hS (v := ?_) ?_ ?_
          rotate_left
          · (intro w' hS'; go_simp <;> try with_reducible rfl)
          try simp only [Act.put, List.setIfInBounds_toArray, List.set_cons_zero, List.set_cons_succ]
          refine rg_take 6 rfl (by kernel_rfl) (by kernel_rfl) (by kernel_rfl) (by rfl) hS (v := ?_) ?_ ?_
          rotate_left
          · (intro w' hS'; go_simp <;> try with_reducible rfl)
          try simp only [Act.put, List.setIfInBounds_toArray, List.set_cons_zero, List.set_cons_succ]
          refine rg_take 7 rfl (by kernel_rfl) (by kernel_rfl) (by kernel_rfl) (by rfl) hS (v := ?_) ?_ ?_
          rotate_left
          · (intro w' hS'; go_simp <;> try with_reducible rfl)
          try simp only [Act.put, List.setIfInBounds_toArray, List.set_cons_zero, List.set_cons_succ]
          refine rg_eff 9 rfl (by kernel_rfl) (by rfl) (fun K hK => ?_)
          refine wp_st (vs := mk b) rfl rfl rfl an (by rw [wd_length, mk_length]) (wholeM _) (mk_one _) ?_
          refine hK _ _ (hS.row (.inr qn) _) (fun hS => ?_)
          clear hK K
          replace an := an.row (mk b)
          replace hb := below_row hb (g := pn) (by omega) (mk b).toArray
          try simp only [Act.put, List.setIfInBounds_toArray, List.set_cons_zero, List.set_cons_succ]
          refine rg_take 10 rfl (by kernel_rfl) (by kernel_rfl) (by kernel_rfl) (by rfl) hS (v := ?_) ?_ ?_
          rotate_left
          · (intro w' hS'; go_simp <;> try with_reducible rfl)
          try simp only [Act.put, List.setIfInBounds_toArray, List.set_cons_zero, List.set_cons_succ]
          refine rg_done (by kernel_rfl) ?_
          go_wp2_with fail
          go_meet
          case rel => exact ⟨pn, rfl, rfl, hb, an, b2.keep hS (by simp), b6.keep hS (by simp), b9.keep hS (by simp)⟩
      · refine wp_alB (zs := wd false 0) rfl (by kernel_rfl) (fun pn qn an => ?_)
        replace qn := Nat.le_trans hS.1 qn
        refine hK _ _ (hS.alloc _) (fun hS => ?_)
        clear hK K
        replace hb := hb.alloc hb.size (.cells (wd false 0).toArray 25)
        try simp only [Act.put, List.setIfInBounds_toArray, List.set_cons_zero, List.set_cons_succ]
        refine rg_eff 3 rfl (by kernel_rfl) (by rfl) (fun K hK => ?_)
        go_simp
        refine (HF.out _).mono ?_
        rintro e w1 ⟨rfl, h1⟩
        refine hK _ _ (hS.call h1) (fun hS => ?_)
        clear hK K
        try replace an := an.call h1
        replace hb := bthen hb h1
        clear h1
        try simp only [Act.put, List.setIfInBounds_toArray, List.set_cons_zero, List.set_cons_succ]
        refine rg_eff 4 rfl (by kernel_rfl) (by rfl) (fun K hK => ?_)
        go_simp
        refine (HM2.out _).mono ?_
        rintro e w1 ⟨rfl, h1⟩
        refine hK _ _ (hS.call h1) (fun hS => ?_)
        clear hK K
        try replace an := an.call h1
        replace hb := bthen hb h1
        clear h1
        try simp only [Act.put, List.setIfInBounds_toArray, List.set_cons_zero, List.set_cons_succ]
        refine rg_take 5 rfl (by kernel_rfl) (by kernel_rfl) (by kernel_rfl) (by rfl) hS (v := ?_) ?_ ?_
        rotate_left
        · (intro w' hS'; go_simp <;> try with_reducible rfl)
        try simp only [Act.put, List.setIfInBounds_toArray, List.set_cons_zero, List.set_cons_succ]
        refine rg_take 6 rfl (by kernel_rfl) (by kernel_rfl) (by kernel_rfl) (by rfl) hS (v := ?_) ?_ ?_
        rotate_left
        · (intro w' hS'; go_simp <;> try with_reducible rfl)
        try simp only [Act.put, List.setIfInBounds_toArray, List.set_cons_zero, List.set_cons_succ]
        refine rg_take 7 rfl (by kernel_rfl) (by kernel_rfl) (by kernel_rfl) (by rfl) hS (v := ?_) ?_ ?_
        rotate_left
        · (intro w' hS'; go_simp <;> try with_reducible rfl)
        try simp only [Act.put, List.setIfInBounds_toArray, List.set_cons_zero, List.set_cons_succ]
        refine rg_eff 9 rfl (by kernel_rfl) (by rfl) (fun K hK => ?_)
        refine wp_st (vs := mk b) rfl rfl rfl an (by rw [wd_length, mk_length]) (wholeM _) (mk_one _) ?_
        refine hK _ _ (hS.row (.inr qn) _) (fun hS => ?_)
        clear hK K
        replace an := an.row (mk b)
        replace hb := below_row hb (g := pn) (by omega) (mk b).toArray
        try simp only [Act.put, List.setIfInBounds_toArray, List.set_cons_zero, List.set_cons_succ]
        refine rg_take 10 rfl (by kernel_rfl) (by kernel_rfl) (by kernel_rfl) (by rfl) hS (v := ?_) ?_ ?_
        rotate_left
        · (intro w' hS'; go_simp <;> try with_reducible rfl)
        try simp only [Act.put, List.setIfInBounds_toArray, List.set_cons_zero, List.set_cons_succ]
        refine rg_done (by kernel_rfl) ?_
        go_wp2_with fail
        go_meet
        case rel => exact ⟨pn, rfl, rfl, hb, an, b2.keep hS (by simp), b6.keep hS (by simp), b9.keep hS (by simp)⟩
    case rest =>
      clear hb hsz b2 b6 b9
      obtain ⟨pl_b11, rfl, rfl, hb, b11, b2, b6, b9⟩ := hcut
      go_wp2_with fail
      have hsz := hb.size
      try simp only [Act.put, List.setIfInBounds_toArray, List.set_cons_zero, List.set_cons_succ]
      go_cut [13, 14] (fun p v wx => ∃ q, p = .pointer (some ⟨q, 0, none⟩) ∧ v = .bool false ∧ Below w.heap.size w wx ∧ Blk wx q (rr false 0 false 0) 27 ∧ Blk wx w.heap.size (fr n d) 27 ∧ Blk wx pl_b6 (fr n d) 27)
      case first =>
        refine rg_start [] (by kernel_rfl) (fun hS => ?_)
        replace hb := hb.drew
        refine rg_ld 0 rfl (by kernel_rfl) (by kernel_rfl) (by kernel_rfl) (by rfl) hS rfl rfl b9 (by simp <;> omega) (wholeM _) ?_
        try simp only [Act.put, List.setIfInBounds_toArray, List.set_cons_zero, List.set_cons_succ]
        refine rg_ld 3 rfl (by kernel_rfl) (by kernel_rfl) (by kernel_rfl) (by rfl) hS rfl rfl b11 (by simp <;> omega) (wholeM _) ?_
        try simp only [Act.put, List.setIfInBounds_toArray, List.set_cons_zero, List.set_cons_succ]
        refine rg_two 1 10 rfl rfl (by kernel_rfl) (by rfl) (by rfl) (fun K hK => ?_) (fun K hK => ?_)
        · go_simp
          refine (HT1.out _).mono ?_
          rintro e w1 ⟨rfl, h1⟩
          refine hK _ _ (hS.call h1) (fun hS => ?_)
          clear hK K
          try replace an := an.call h1
          replace hb := bthen hb h1
          clear h1
          try simp only [Act.put, List.setIfInBounds_toArray, List.set_cons_zero, List.set_cons_succ]
          refine rg_take 2 rfl (by kernel_rfl) (by kernel_rfl) (by kernel_rfl) (by rfl) hS (v := .string (x ++ ⟨#[47]⟩)) (fun w' _ => op_cat (by show x.size + 1 ≤ _; omega) rfl rfl rfl w') ?_
          try simp only [Act.put, List.setIfInBounds_toArray, List.set_cons_zero, List.set_cons_succ]
          refine rg_two 4 10 rfl rfl (by kernel_rfl) (by rfl) (by rfl) (fun K hK => ?_) (fun K hK => ?_)
          · go_simp
            refine (HT2.out _).mono ?_
            rintro e w1 ⟨rfl, h1⟩
            refine hK _ _ (hS.call h1) (fun hS => ?_)
            clear hK K
            try replace an := an.call h1
            replace hb := bthen hb h1
            clear h1
            try simp only [Act.put, List.setIfInBounds_toArray, List.set_cons_zero, List.set_cons_succ]
            refine rg_take 5 rfl (by kernel_rfl) (by kernel_rfl) (by kernel_rfl) (by rfl) hS (v := .string (x ++ ⟨#[47]⟩ ++ y)) (fun w' _ => op_cat (by omega) rfl rfl rfl w') ?_
            try simp only [Act.put, List.setIfInBounds_toArray, List.set_cons_zero, List.set_cons_succ]
            refine rg_two 6 10 rfl rfl (by kernel_rfl) (by rfl) (by rfl) (fun K hK => ?_) (fun K hK => ?_)
            · go_simp
              refine (HP2.out _).mono ?_
              rintro e w1 ⟨rfl, h1⟩
              refine hK _ _ (hS.call h1) (fun hS => ?_)
              clear hK K
              try replace an := an.call h1
              replace hb := bthen hb h1
              clear h1
              try simp only [Act.put, List.setIfInBounds_toArray, List.set_cons_zero, List.set_cons_succ]
              refine rg_take 7 rfl (by kernel_rfl) (by kernel_rfl) (by kernel_rfl) (by rfl) hS (v := ?_) ?_ ?_
              rotate_left
              · (intro w' hS'; go_simp <;> try with_reducible rfl)
              try simp only [Act.put, List.setIfInBounds_toArray, List.set_cons_zero, List.set_cons_succ]
              refine rg_take 8 rfl (by kernel_rfl) (by kernel_rfl) (by kernel_rfl) (by rfl) hS (v := ?_) ?_ ?_
              rotate_left
              · (intro w' hS'; go_simp <;> try with_reducible rfl)
              try simp only [Act.put, List.setIfInBounds_toArray, List.set_cons_zero, List.set_cons_succ]
              refine rg_take 9 rfl (by kernel_rfl) (by kernel_rfl) (by kernel_rfl) (by rfl) hS (v := ?_) ?_ ?_
              rotate_left
              · (intro w' hS'; go_simp <;> try with_reducible rfl)
              try simp only [Act.put, List.setIfInBounds_toArray, List.set_cons_zero, List.set_cons_succ]
              refine rg_eff 10 rfl (by kernel_rfl) (by rfl) (fun K hK => ?_)
              refine wp_alB (zs := rr false 0 false 0) rfl (by kernel_rfl) (fun pn qn an => ?_)
              replace qn := Nat.le_trans hS.1 qn
              refine hK _ _ (hS.alloc _) (fun hS => ?_)
              clear hK K
              replace hb := hb.alloc hb.size (.cells (rr false 0 false 0).toArray 27)
              try simp only [Act.put, List.setIfInBounds_toArray, List.set_cons_zero, List.set_cons_succ]
              refine rg_eff 11 rfl (by kernel_rfl) (by rfl) (fun K hK => ?_)
              refine wp_st (vs := rr false 0 false 0) rfl rfl rfl an ((rr_length _ _ _ _).trans (rc_rr false 0 false 0).len.symm) (rc_rr false 0 false 0).whole (rc_rr false 0 false 0).one ?_
              refine hK _ _ (hS.row (.inr qn) _) (fun hS => ?_)
              clear hK K
              replace an := an.row (rr false 0 false 0)
              replace hb := below_row hb (g := pn) (by omega) (rr false 0 false 0).toArray
              try simp only [Act.put, List.setIfInBounds_toArray, List.set_cons_zero, List.set_cons_succ]
              refine rg_take 12 rfl (by kernel_rfl) (by kernel_rfl) (by kernel_rfl) (by rfl) hS (v := ?_) ?_ ?_
              rotate_left
              · (intro w' hS'; go_simp <;> try with_reducible rfl)
              try simp only [Act.put, List.setIfInBounds_toArray, List.set_cons_zero, List.set_cons_succ]
              refine rg_done (by kernel_rfl) ?_
              go_wp2_with fail
              go_meet
              case rel => exact ⟨pn, rfl, rfl, hb, an, b2.keep hS (by simp), b6.keep hS (by simp)⟩
            · refine wp_alB (zs := rr false 0 false 0) rfl (by kernel_rfl) (fun pn qn an => ?_)
              replace qn := Nat.le_trans hS.1 qn
              refine hK _ _ (hS.alloc _) (fun hS => ?_)
              clear hK K
              replace hb := hb.alloc hb.size (.cells (rr false 0 false 0).toArray 27)
              try simp only [Act.put, List.setIfInBounds_toArray, List.set_cons_zero, List.set_cons_succ]
              refine rg_eff 6 rfl (by kernel_rfl) (by rfl) (fun K hK => ?_)
              go_simp
              refine (HP2.out _).mono ?_
              rintro e w1 ⟨rfl, h1⟩
              refine hK _ _ (hS.call h1) (fun hS => ?_)
              clear hK K
              try replace an := an.call h1
              replace hb := bthen hb h1
              clear h1
              try simp only [Act.put, List.setIfInBounds_toArray, List.set_cons_zero, List.set_cons_succ]
              refine rg_take 7 rfl (by kernel_rfl) (by kernel_rfl) (by kernel_rfl) (by rfl) hS (v := ?_) ?_ ?_
              rotate_left
              · (intro w' hS'; go_simp <;> try with_reducible rfl)
              try simp only [Act.put, List.setIfInBounds_toArray, List.set_cons_zero, List.set_cons_succ]
              refine rg_take 8 rfl (by kernel_rfl) (by kernel_rfl) (by kernel_rfl) (by rfl) hS (v := ?_) ?_ ?_
              rotate_left
              · (intro w' hS'; go_simp <;> try with_reducible rfl)
              try simp only [Act.put, List.setIfInBounds_toArray, List.set_cons_zero, List.set_cons_succ]
              refine rg_take 9 rfl (by kernel_rfl) (by kernel_rfl) (by kernel_rfl) (by rfl) hS (v := ?_) ?_ ?_
              rotate_left
              · (intro w' hS'; go_simp <;> try with_reducible rfl)
              try simp only [Act.put, List.setIfInBounds_toArray, List.set_cons_zero, List.set_cons_succ]
              refine rg_eff 11 rfl (by kernel_rfl) (by rfl) (fun K hK => ?_)
              refine wp_st (vs := rr false 0 false 0) rfl rfl rfl an ((rr_length _ _ _ _).trans (rc_rr false 0 false 0).len.symm) (rc_rr false 0 false 0).whole (rc_rr false 0 false 0).one ?_
              refine hK _ _ (hS.row (.inr qn) _) (fun hS => ?_)
              clear hK K
              replace an := an.row (rr false 0 false 0)
              replace hb := below_row hb (g := pn) (by omega) (rr false 0 false 0).toArray
              try simp only [Act.put, List.setIfInBounds_toArray, List.set_cons_zero, List.set_cons_succ]
              refine rg_take 12 rfl (by kernel_rfl) (by kernel_rfl) (by kernel_rfl) (by rfl) hS (v := ?_) ?_ ?_
              rotate_left
              · (intro w' hS'; go_simp <;> try with_reducible rfl)
              try simp only [Act.put, List.setIfInBounds_toArray, List.set_cons_zero, List.set_cons_succ]
              refine rg_done (by kernel_rfl) ?_
              go_wp2_with fail
              go_meet
              case rel => exact ⟨pn, rfl, rfl, hb, an, b2.keep hS (by simp), b6.keep hS (by simp)⟩
          · refine wp_alB (zs := rr false 0 false 0) rfl (by kernel_rfl) (fun pn qn an => ?_)
            replace qn := Nat.le_trans hS.1 qn
            refine hK _ _ (hS.alloc _) (fun hS => ?_)
            clear hK K
            replace hb := hb.alloc hb.size (.cells (rr false 0 false 0).toArray 27)
            try simp only [Act.put, List.setIfInBounds_toArray, List.set_cons_zero, List.set_cons_succ]
            refine rg_eff 4 rfl (by kernel_rfl) (by rfl) (fun K hK => ?_)
            go_simp
            refine (HT2.out _).mono ?_
            rintro e w1 ⟨rfl, h1⟩
            refine hK _ _ (hS.call h1) (fun hS => ?_)
            clear hK K
            try replace an := an.call h1
            replace hb := bthen hb h1
            clear h1
            try simp only [Act.put, List.setIfInBounds_toArray, List.set_cons_zero, List.set_cons_succ]
            refine rg_take 5 rfl (by kernel_rfl) (by kernel_rfl) (by kernel_rfl) (by rfl) hS (v := .string (x ++ ⟨#[47]⟩ ++ y)) (fun w' _ => op_cat (by omega) rfl rfl rfl w') ?_
            try simp only [Act.put, List.setIfInBounds_toArray, List.set_cons_zero, List.set_cons_succ]
            refine rg_eff 6 rfl (by kernel_rfl) (by rfl) (fun K hK => ?_)
            go_simp
            refine (HP2.out _).mono ?_
            rintro e w1 ⟨rfl, h1⟩
            refine hK _ _ (hS.call h1) (fun hS => ?_)
            clear hK K
            try replace an := an.call h1
            replace hb := bthen hb h1
            clear h1
            try simp only [Act.put, List.setIfInBounds_toArray, List.set_cons_zero, List.set_cons_succ]
            refine rg_take 7 rfl (by kernel_rfl) (by kernel_rfl) (by kernel_rfl) (by rfl) hS (v := ?_) ?_ ?_
            rotate_left
            · (intro w' hS'; go_simp <;> try with_reducible rfl)
            try simp only [Act.put, List.setIfInBounds_toArray, List.set_cons_zero, List.set_cons_succ]
            refine rg_take 8 rfl (by kernel_rfl) (by kernel_rfl) (by kernel_rfl) (by rfl) hS (v := ?_) ?_ ?_
            rotate_left
            · (intro w' hS'; go_simp <;> try with_reducible rfl)
            try simp only [Act.put, List.setIfInBounds_toArray, List.set_cons_zero, List.set_cons_succ]
            refine rg_take 9 rfl (by kernel_rfl) (by kernel_rfl) (by kernel_rfl) (by rfl) hS (v := ?_) ?_ ?_
            rotate_left
            · (intro w' hS'; go_simp <;> try with_reducible rfl)
            try simp only [Act.put, List.setIfInBounds_toArray, List.set_cons_zero, List.set_cons_succ]
            refine rg_eff 11 rfl (by kernel_rfl) (by rfl) (fun K hK => ?_)
            refine wp_st (vs := rr false 0 false 0) rfl rfl rfl an ((rr_length _ _ _ _).trans (rc_rr false 0 false 0).len.symm) (rc_rr false 0 false 0).whole (rc_rr false 0 false 0).one ?_
            refine hK _ _ (hS.row (.inr qn) _) (fun hS => ?_)
            clear hK K
            replace an := an.row (rr false 0 false 0)
            replace hb := below_row hb (g := pn) (by omega) (rr false 0 false 0).toArray
            try simp only [Act.put, List.setIfInBounds_toArray, List.set_cons_zero, List.set_cons_succ]
            refine rg_take 12 rfl (by kernel_rfl) (by kernel_rfl) (by kernel_rfl) (by rfl) hS (v := ?_) ?_ ?_
            rotate_left
            · (intro w' hS'; go_simp <;> try with_reducible rfl)
            try simp only [Act.put, List.setIfInBounds_toArray, List.set_cons_zero, List.set_cons_succ]
            refine rg_done (by kernel_rfl) ?_
            go_wp2_with fail
            go_meet
            case rel => exact ⟨pn, rfl, rfl, hb, an, b2.keep hS (by simp), b6.keep hS (by simp)⟩
        · refine wp_alB (zs := rr false 0 false 0) rfl (by kernel_rfl) (fun pn qn an => ?_)
          replace qn := Nat.le_trans hS.1 qn
          refine hK _ _ (hS.alloc _) (fun hS => ?_)
          clear hK K
          replace hb := hb.alloc hb.size (.cells (rr false 0 false 0).toArray 27)
          try simp only [Act.put, List.setIfInBounds_toArray, List.set_cons_zero, List.set_cons_succ]
          refine rg_eff 1 rfl (by kernel_rfl) (by rfl) (fun K hK => ?_)
          go_simp
          refine (HT1.out _).mono ?_
          rintro e w1 ⟨rfl, h1⟩
          refine hK _ _ (hS.call h1) (fun hS => ?_)
          clear hK K
          try replace an := an.call h1
          replace hb := bthen hb h1
          clear h1
          try simp only [Act.put, List.setIfInBounds_toArray, List.set_cons_zero, List.set_cons_succ]
          refine rg_take 2 rfl (by kernel_rfl) (by kernel_rfl) (by kernel_rfl) (by rfl) hS (v := .string (x ++ ⟨#[47]⟩)) (fun w' _ => op_cat (by show x.size + 1 ≤ _; omega) rfl rfl rfl w') ?_
          try simp only [Act.put, List.setIfInBounds_toArray, List.set_cons_zero, List.set_cons_succ]
          refine rg_eff 4 rfl (by kernel_rfl) (by rfl) (fun K hK => ?_)
          go_simp
          refine (HT2.out _).mono ?_
          rintro e w1 ⟨rfl, h1⟩
          refine hK _ _ (hS.call h1) (fun hS => ?_)
          clear hK K
          try replace an := an.call h1
          replace hb := bthen hb h1
          clear h1
          try simp only [Act.put, List.setIfInBounds_toArray, List.set_cons_zero, List.set_cons_succ]
          refine rg_take 5 rfl (by kernel_rfl) (by kernel_rfl) (by kernel_rfl) (by rfl) hS (v := .string (x ++ ⟨#[47]⟩ ++ y)) (fun w' _ => op_cat (by omega) rfl rfl rfl w') ?_
          try simp only [Act.put, List.setIfInBounds_toArray, List.set_cons_zero, List.set_cons_succ]
          refine rg_eff 6 rfl (by kernel_rfl) (by rfl) (fun K hK => ?_)
          go_simp
          refine (HP2.out _).mono ?_
          rintro e w1 ⟨rfl, h1⟩
          refine hK _ _ (hS.call h1) (fun hS => ?_)
          clear hK K
          try replace an := an.call h1
          replace hb := bthen hb h1
          clear h1
          try simp only [Act.put, List.setIfInBounds_toArray, List.set_cons_zero, List.set_cons_succ]
          refine rg_take 7 rfl (by kernel_rfl) (by kernel_rfl) (by kernel_rfl) (by rfl) hS (v := ?_) ?_ ?_
          rotate_left
          · (intro w' hS'; go_simp <;> try with_reducible rfl)
          try simp only [Act.put, List.setIfInBounds_toArray, List.set_cons_zero, List.set_cons_succ]
          refine rg_take 8 rfl (by kernel_rfl) (by kernel_rfl) (by kernel_rfl) (by rfl) hS (v := ?_) ?_ ?_
          rotate_left
          · (intro w' hS'; go_simp <;> try with_reducible rfl)
          try simp only [Act.put, List.setIfInBounds_toArray, List.set_cons_zero, List.set_cons_succ]
          refine rg_take 9 rfl (by kernel_rfl) (by kernel_rfl) (by kernel_rfl) (by rfl) hS (v := ?_) ?_ ?_
          rotate_left
          · (intro w' hS'; go_simp <;> try with_reducible rfl)
          try simp only [Act.put, List.setIfInBounds_toArray, List.set_cons_zero, List.set_cons_succ]
          refine rg_eff 11 rfl (by kernel_rfl) (by rfl) (fun K hK => ?_)
          refine wp_st (vs := rr false 0 false 0) rfl rfl rfl an ((rr_length _ _ _ _).trans (rc_rr false 0 false 0).len.symm) (rc_rr false 0 false 0).whole (rc_rr false 0 false 0).one ?_
          refine hK _ _ (hS.row (.inr qn) _) (fun hS => ?_)
          clear hK K
          replace an := an.row (rr false 0 false 0)
          replace hb := below_row hb (g := pn) (by omega) (rr false 0 false 0).toArray
          try simp only [Act.put, List.setIfInBounds_toArray, List.set_cons_zero, List.set_cons_succ]
          refine rg_take 12 rfl (by kernel_rfl) (by kernel_rfl) (by kernel_rfl) (by rfl) hS (v := ?_) ?_ ?_
          rotate_left
          · (intro w' hS'; go_simp <;> try with_reducible rfl)
          try simp only [Act.put, List.setIfInBounds_toArray, List.set_cons_zero, List.set_cons_succ]
          refine rg_done (by kernel_rfl) ?_
          go_wp2_with fail
          go_meet
          case rel => exact ⟨pn, rfl, rfl, hb, an, b2.keep hS (by simp), b6.keep hS (by simp)⟩
      case rest =>
        clear hb hsz b2 b6
        obtain ⟨pl_b13, rfl, rfl, hb, b13, b2, b6⟩ := hcut
        clear b13 b9 b11
        go_wp2_with fail
        refine (HP3.out _).mono ?_
        rintro e w1 ⟨rfl, h1⟩
        replace b2 := b2.call h1
        replace b6 := b6.call h1
        replace hb := bthen hb h1
        clear h1
        have f := Blk.new w1 (rr false 0 false 0) 27 rfl
        have l2 := b2.lt
        have l6 := b6.lt
        replace b2 := (b2.old (.cells (rr false 0 false 0).toArray 27)).rowOther (g := w1.heap.size) (rr false 0 false 0).toArray (by omega)
        replace b6 := (b6.old (.cells (rr false 0 false 0).toArray 27)).rowOther (g := w1.heap.size) (rr false 0 false 0).toArray (by omega)
        replace hb := below_row (hb.alloc hb.size (.cells (rr false 0 false 0).toArray 27)) (g := w1.heap.size) hb.size (rr false 0 false 0).toArray
        go_wp2_with (first | (with_reducible refine alR rfl rfl ?_) | (with_reducible refine stRr rfl rfl rfl rfl f (rr_length _ _ _ _) ?_) | (refine ldPg (by rfl) rfl rfl b2 (part_all _) (wholeF _ _) ?_) | (refine ldPg (by rfl) rfl rfl b6 (part_all _) (wholeF _ _) ?_) | (refine eqqt (by rfl) rfl rfl rfl Hh1.out Hh2.out ?_))
        go_ret
        exact ⟨rfl, hb⟩
theorem rtb_any (s : Bool) (N : Nat) (t : Bool) (M : Nat) (hN : N < bb ^ 32) (hM : M < bb ^ 32) (k : Int) (hk : (Lit.int .u8 k).wf = true) (w : World) :
    Calls Tryz.prog 3 #[.agg (rr s N t M).toArray, .int .u8 k] w fun e w' => e = .returned (.bool true) ∧ Below w.heap.size w w' := by
  have hk2 : 0 ≤ k ∧ k ≤ 255 := by
    simp only [Lit.wf, Bool.and_eq_true, decide_eq_true_eq] at hk
    exact hk
  rcases safe_q s t hN hM 400 with h | ⟨q, e, hq, f1', f2', S⟩
  · exact rtb_unsafe s t k h w
  · rw [e]
    have hp := q_pos q
    have hm : Sz 9 (k + 2) := by show (k + 2).natAbs < 2 ^ 9; omega
    have z1 := sz_mul hq.1 hm
    have z2 := sz_mul hq.2 hm
    have g1 : fits (q.num * (k + 2)) := sz_fits z1 (by omega)
    have g2 : fits ((q.den : Int) * (k + 2)) := sz_fits z2 (by omega)
    have hpos : 0 < (q.den : Int) * (k + 2) := Int.mul_pos hp (by omega)
    have hg : ¬ Int.gcd (q.num * (k + 2)) ((q.den : Int) * (k + 2)) = 1 := by
      rw [Int.gcd_mul_right]
      intro h
      have h3 : (k + 2).natAbs ∣ 1 := by rw [← h]; exact Nat.dvd_mul_left _ _
      have := Nat.le_of_dvd (by decide) h3
      omega
    have P2 := Parse_multiple g1 g2 hpos hg
    have M1 := Mulref_any (decide (q.num < 0)) (N := q.num.natAbs) (decide (k + 2 < 0)) (M := (k + 2).natAbs) f1' (sz_fits hm (by omega)) (z := q.num * (k + 2)) (o := true) (by rw [zn_self, zn_self]; exact ⟨g1, .inl ⟨g1, rfl, rfl⟩⟩)
    have M2 := Mulref_any (decide ((q.den : Int) < 0)) (N := (q.den : Int).natAbs) (decide (k + 2 < 0)) (M := (k + 2).natAbs) f2' (sz_fits hm (by omega)) (z := (q.den : Int) * (k + 2)) (o := true) (by rw [zn_self, zn_self]; exact ⟨g2, .inl ⟨g2, rfl, rfl⟩⟩)
    have T1 : Tl 14 #[vw (q.num * (k + 2))] (.string (tz (q.num * (k + 2)))) := Textref_any (decide (q.num * (k + 2) < 0)) (N := (q.num * (k + 2)).natAbs) g1
    have T2 : Tl 14 #[vw ((q.den : Int) * (k + 2))] (.string (tz ((q.den : Int) * (k + 2)))) := Textref_any (decide ((q.den : Int) * (k + 2) < 0)) (N := ((q.den : Int) * (k + 2)).natAbs) g2
    have F := From_ref (n := k + 2) (by omega)
    have x1 := tz_size g1
    have x2 := tz_size g2
    have s1 := tz_size f1'
    have s2 := tz_size f2'
    by_cases hd : (q.den : Int) = 1
    · have T := Text_whole f1'
      have P := Parse_whole f1'
      have P3 := Parse_by_one f1'
      rw [← hd] at T P
      exact rtb_walk f1' f2' hk2 rfl (by omega) (by omega) (by omega) S T P F M1 M2 T1 T2 P2 P3 w
    · have T := Text_rat f1' f2' (rt_q q) hd
      have P := Parse_rat f1' f2' (rt_q q) hd
      have P3 := Parse_two f1' f2' hp
      exact rtb_walk f1' f2' hk2 rfl (by rw [ByteArray.size_append, ByteArray.size_append]; have : (⟨#[47]⟩ : ByteArray).size = 1 := rfl; omega) (by omega) (by omega) S T P F M1 M2 T1 T2 P2 P3 w
end Go.Proofs.YtkknaigpdnokkaaGreat
