/- Package line: order, less, times, by; spans and boxes. -/
import Derived.Test.YtoegjibeomhekaaGreatLna
namespace Go.Proofs.YtoegjibeomhekaaGreat
set_option linter.unusedSimpArgs false
set_option linter.unusedVariables false
open Go.RowKit
set_option maxRecDepth 100000
theorem op_mul {o : Oper} {a : Act} {x y : Operand} {ty : TypeId} {m k q : Int} (h : m * k = q) (hq : -9223372036854775808 ≤ q ∧ q ≤ 9223372036854775807) (ho : o.op = .binOp .mul 3 x y ty) (hx : a.eval x = .int .i64 m) (hy : a.eval y = .int .i64 k) (w : World) :
    (execOp a.eval o).run Tryz.prog w = .ok (.value (.int .i64 q)) w := by
  subst h
  have hw : IntKind.i64.wrap (m * k) = m * k := IntWalk.i64_in _ hq
  unfold execOp
  simp only [ho, hx, hy]
  go_simp <;> simp_all
theorem op_gez {o : Oper} {a : Act} {x : Operand} {ty : TypeId} {m : Int} {b : Bool} (h : decide (0 ≤ m) = b) (ho : o.op = .binOp .geq 3 x (.const (.int .i64 0)) ty) (hx : a.eval x = .int .i64 m) (w : World) :
    (execOp a.eval o).run Tryz.prog w = .ok (.value (.bool b)) w := by
  subst h
  unfold execOp
  simp only [ho, hx, BigFrame.eval_const]
  go_simp <;> rfl
theorem op_ltz {o : Oper} {a : Act} {x : Operand} {ty : TypeId} {m : Int} {b : Bool} (h : decide (m < 0) = b) (ho : o.op = .binOp .lss 3 x (.const (.int .i64 0)) ty) (hx : a.eval x = .int .i64 m) (w : World) :
    (execOp a.eval o).run Tryz.prog w = .ok (.value (.bool b)) w := by
  subst h
  unfold execOp
  simp only [ho, hx, BigFrame.eval_const]
  go_simp <;> rfl
set_option maxHeartbeats 1000000 in
theorem order_walk {A B : List Value} {c : Int} (hA : Rc A) (hB : Rc B) (T : Tl 58 #[vl A, vl B] (.tuple #[.int .i64 c, .bool true])) : Tl 87 #[vl A, vl B] (.int .i64 c) := by
  intro w
  unfold vl at *
  have HT := Lib.hid T
  have HA := Lib.hid hA
  have HB := Lib.hid hB
  unfold Tl at HT
  clear T hA hB
  have b2 := ((Blk.new w (A) 45 rfl).old (.cells (B).toArray 45))
  have b3 := (Blk.new (w.alloc (.cells (A).toArray 45)) (B) 45 (b := w.heap.size + 1) (by simp))
  have hb : Below w.heap.size w ((w.alloc (.cells (A).toArray 45)).alloc (.cells (B).toArray 45)) := (((Below.refl _ _).alloc (Nat.le_refl _) _).alloc (by simp <;> omega) _)
  have hk : ((w.alloc (.cells (A).toArray 45)).alloc (.cells (B).toArray 45)).heap.size = w.heap.size + 1 + 1 := by simp
  go_enter Tryz.func87, Tryz.ntmps87
  go_wp2_with (first | (with_reducible refine ldA' rfl rfl rfl b2 HA.out ?_) | (with_reducible refine ldA' rfl rfl rfl b3 HB.out ?_))
  refine (HT.out _).mono ?_
  rintro e w1 ⟨rfl, h1⟩
  replace hb := bthen hb h1
  clear h1
  go_wp2
  go_ret
  exact ⟨rfl, hb⟩
set_option maxHeartbeats 1000000 in
theorem holds_walk {A B X : List Value} {c d q : Int} {b : Bool} (hA : Rc A) (hB : Rc B) (hX : Rc X) (T1 : Tl 87 #[vl A, vl X] (.int .i64 c)) (T2 : Tl 87 #[vl X, vl B] (.int .i64 d)) (hm : c * d = q) (hq : -9223372036854775808 ≤ q ∧ q ≤ 9223372036854775807) (he : decide (0 ≤ q) = b) : Tl 76 #[vl (A ++ B), vl X] (.bool b) := by
  intro w
  unfold vl at *
  have HT1 := Lib.hid T1
  have HT2 := Lib.hid T2
  have HA := Lib.hid hA
  have HB := Lib.hid hB
  have HX := Lib.hid hX
  have HM := Lib.hid hm
  have HQ := Lib.hid hq
  have HE := Lib.hid he
  unfold Tl at HT1 HT2
  clear T1 T2 hA hB hX hm hq he
  have b2 := ((Blk.new w (A ++ B) 89 rfl).old (.cells (X).toArray 45))
  have b3 := (Blk.new (w.alloc (.cells (A ++ B).toArray 89)) (X) 45 (b := w.heap.size + 1) (by simp))
  have hb : Below w.heap.size w ((w.alloc (.cells (A ++ B).toArray 89)).alloc (.cells (X).toArray 45)) := (((Below.refl _ _).alloc (Nat.le_refl _) _).alloc (by simp <;> omega) _)
  have hk : ((w.alloc (.cells (A ++ B).toArray 89)).alloc (.cells (X).toArray 45)).heap.size = w.heap.size + 1 + 1 := by simp
  go_enter Tryz.func76, Tryz.ntmps76
  go_wp2_with fail
  refine rg_start [] (by kernel_rfl) (fun hS => ?_)
  replace hb := hb.drew
  replace b2 := b2.drew
  replace b3 := b3.drew
  refine rg_take 0 rfl (by kernel_rfl) (by kernel_rfl) (by kernel_rfl) (by rfl) hS (v := ?_) ?_ ?_
  rotate_left
  · (intro w' hS'; go_simp <;> try with_reducible rfl)
  try simp only [Act.put, List.setIfInBounds_toArray, List.set_cons_zero, List.set_cons_succ]
  refine rg_ldP 1 rfl (by kernel_rfl) (by kernel_rfl) (by kernel_rfl) (by rfl) hS rfl rfl b2 (by simp <;> omega) partX HA.out.whole ?_
  try simp only [Act.put, List.setIfInBounds_toArray, List.set_cons_zero, List.set_cons_succ]
  refine rg_ldP 2 rfl (by kernel_rfl) (by kernel_rfl) (by kernel_rfl) (by rfl) hS rfl rfl b3 (by simp <;> omega) (part_all _) HX.out.whole ?_
  try simp only [Act.put, List.setIfInBounds_toArray, List.set_cons_zero, List.set_cons_succ]
  refine rg_ldP 4 rfl (by kernel_rfl) (by kernel_rfl) (by kernel_rfl) (by rfl) hS rfl rfl b3 (by simp <;> omega) (part_all _) HX.out.whole ?_
  try simp only [Act.put, List.setIfInBounds_toArray, List.set_cons_zero, List.set_cons_succ]
  refine rg_take 5 rfl (by kernel_rfl) (by kernel_rfl) (by kernel_rfl) (by rfl) hS (v := ?_) ?_ ?_
  rotate_left
  · (intro w' hS'; go_simp <;> try with_reducible rfl)
  try simp only [Act.put, List.setIfInBounds_toArray, List.set_cons_zero, List.set_cons_succ]
  refine rg_ldP 6 rfl (by kernel_rfl) (by kernel_rfl) (by kernel_rfl) (by rfl) hS rfl rfl b2 (by simp <;> omega) (partY HA.out) HB.out.whole ?_
  try simp only [Act.put, List.setIfInBounds_toArray, List.set_cons_zero, List.set_cons_succ]
  refine rg_eff 3 rfl (by kernel_rfl) (by rfl) (fun K hK => ?_)
  go_simp
  refine (HT1.out _).mono ?_
  rintro e w1 ⟨rfl, h1⟩
  refine hK _ _ (hS.call h1) (fun hS => ?_)
  clear hK K
  replace hb := bthen hb h1
  clear h1
  try simp only [Act.put, List.setIfInBounds_toArray, List.set_cons_zero, List.set_cons_succ]
  refine rg_eff 7 rfl (by kernel_rfl) (by rfl) (fun K hK => ?_)
  go_simp
  refine (HT2.out _).mono ?_
  rintro e w1 ⟨rfl, h1⟩
  refine hK _ _ (hS.call h1) (fun hS => ?_)
  clear hK K
  replace hb := bthen hb h1
  clear h1
  try simp only [Act.put, List.setIfInBounds_toArray, List.set_cons_zero, List.set_cons_succ]
  refine rg_take 8 rfl (by kernel_rfl) (by kernel_rfl) (by kernel_rfl) (by rfl) hS (v := .int .i64 q) (fun w' _ => op_mul HM.out HQ.out rfl rfl rfl w') ?_
  try simp only [Act.put, List.setIfInBounds_toArray, List.set_cons_zero, List.set_cons_succ]
  refine rg_take 9 rfl (by kernel_rfl) (by kernel_rfl) (by kernel_rfl) (by rfl) hS (v := .bool b) (fun w' _ => op_gez HE.out rfl rfl w') ?_
  try simp only [Act.put, List.setIfInBounds_toArray, List.set_cons_zero, List.set_cons_succ]
  refine rg_take 10 rfl (by kernel_rfl) (by kernel_rfl) (by kernel_rfl) (by rfl) hS (v := ?_) ?_ ?_
  rotate_left
  · (intro w' hS'; go_simp <;> try with_reducible rfl)
  try simp only [Act.put, List.setIfInBounds_toArray, List.set_cons_zero, List.set_cons_succ]
  refine rg_done (by kernel_rfl) ?_
  go_wp2
  go_ret
  exact ⟨rfl, hb⟩
/-- x isn't on one side of both. -/
def hq (a b x : Rat) : Bool := decide (0 ≤ cq a x * cq x b)
theorem cq2 (a b x y : Rat) : -9223372036854775808 ≤ cq a b * cq x y ∧ cq a b * cq x y ≤ 9223372036854775807 := by
  rcases cq_rng a b with h | h | h <;> rcases cq_rng x y with h' | h' | h' <;> rw [h, h'] <;> decide
theorem order_q {x y : Rat} (hx : Bq 60 x) (hy : Bq 60 y) : Tl 87 #[vl (fq x), vl (fq y)] (.int .i64 (cq x y)) := order_walk (rc_q _) (rc_q _) (Cmp_q hx (by omega) hy (by omega))
theorem holds_q {a b x : Rat} (ha : Bq 60 a) (hb : Bq 60 b) (hx : Bq 60 x) : Tl 76 #[vl (fq a ++ fq b), vl (fq x)] (.bool (hq a b x)) :=
  holds_walk (rc_q _) (rc_q _) (rc_q _) (order_q ha hx) (order_q hx hb) rfl (cq2 _ _ _ _) rfl
set_option maxHeartbeats 1000000 in
theorem overlaps_a {A B C D : List Value} {s t : Bool} (hA : Rc A) (hB : Rc B) (hC : Rc C) (hD : Rc D) (T1 : Tl 76 #[vl (A ++ B), vl C] (.bool true)) (T2 : Tl 76 #[vl (A ++ B), vl D] (.bool s)) (T3 : Tl 76 #[vl (C ++ D), vl A] (.bool t)) : Tl 103 #[vl (A ++ B), vl (C ++ D)] (.bool true) := by
  intro w
  unfold vl at *
  have HT1 := Lib.hid T1
  have HT2 := Lib.hid T2
  have HT3 := Lib.hid T3
  have HA := Lib.hid hA
  have HB := Lib.hid hB
  have HC := Lib.hid hC
  have HD := Lib.hid hD
  unfold Tl at HT1 HT2 HT3
  clear T1 T2 T3 hA hB hC hD
  have b2 := ((Blk.new w (A ++ B) 89 rfl).old (.cells (C ++ D).toArray 89))
  have b3 := (Blk.new (w.alloc (.cells (A ++ B).toArray 89)) (C ++ D) 89 (b := w.heap.size + 1) (by simp))
  have hb : Below w.heap.size w ((w.alloc (.cells (A ++ B).toArray 89)).alloc (.cells (C ++ D).toArray 89)) := (((Below.refl _ _).alloc (Nat.le_refl _) _).alloc (by simp <;> omega) _)
  have hk : ((w.alloc (.cells (A ++ B).toArray 89)).alloc (.cells (C ++ D).toArray 89)).heap.size = w.heap.size + 1 + 1 := by simp
  go_enter Tryz.func103, Tryz.ntmps103
  go_wp2_with (first | (with_reducible refine ldP rfl rfl rfl b2 (part_all _) (wholeS HA.out HB.out) ?_) | (with_reducible refine ldP rfl rfl rfl b3 partX HC.out.whole ?_))
  refine (HT1.out _).mono ?_
  rintro e w1 ⟨rfl, h1⟩
  replace b2 := b2.call h1
  replace b3 := b3.call h1
  replace hb := bthen hb h1
  clear h1
  go_wp2
  go_ret
  exact ⟨rfl, hb⟩
set_option maxHeartbeats 1000000 in
theorem overlaps_b {A B C D : List Value} {t : Bool} (hA : Rc A) (hB : Rc B) (hC : Rc C) (hD : Rc D) (T1 : Tl 76 #[vl (A ++ B), vl C] (.bool false)) (T2 : Tl 76 #[vl (A ++ B), vl D] (.bool true)) (T3 : Tl 76 #[vl (C ++ D), vl A] (.bool t)) : Tl 103 #[vl (A ++ B), vl (C ++ D)] (.bool true) := by
  intro w
  unfold vl at *
  have HT1 := Lib.hid T1
  have HT2 := Lib.hid T2
  have HT3 := Lib.hid T3
  have HA := Lib.hid hA
  have HB := Lib.hid hB
  have HC := Lib.hid hC
  have HD := Lib.hid hD
  unfold Tl at HT1 HT2 HT3
  clear T1 T2 T3 hA hB hC hD
  have b2 := ((Blk.new w (A ++ B) 89 rfl).old (.cells (C ++ D).toArray 89))
  have b3 := (Blk.new (w.alloc (.cells (A ++ B).toArray 89)) (C ++ D) 89 (b := w.heap.size + 1) (by simp))
  have hb : Below w.heap.size w ((w.alloc (.cells (A ++ B).toArray 89)).alloc (.cells (C ++ D).toArray 89)) := (((Below.refl _ _).alloc (Nat.le_refl _) _).alloc (by simp <;> omega) _)
  have hk : ((w.alloc (.cells (A ++ B).toArray 89)).alloc (.cells (C ++ D).toArray 89)).heap.size = w.heap.size + 1 + 1 := by simp
  go_enter Tryz.func103, Tryz.ntmps103
  go_wp2_with (first | (with_reducible refine ldP rfl rfl rfl b2 (part_all _) (wholeS HA.out HB.out) ?_) | (with_reducible refine ldP rfl rfl rfl b3 partX HC.out.whole ?_))
  refine (HT1.out _).mono ?_
  rintro e w1 ⟨rfl, h1⟩
  replace b2 := b2.call h1
  replace b3 := b3.call h1
  replace hb := bthen hb h1
  clear h1
  go_wp2_with (first | (refine ldPg (by rfl) rfl rfl b2 (part_all _) (wholeS HA.out HB.out) ?_) | (refine ldPg (by rfl) rfl rfl b3 (partY HC.out) HD.out.whole ?_))
  refine (HT2.out _).mono ?_
  rintro e w1 ⟨rfl, h1⟩
  replace b2 := b2.call h1
  replace b3 := b3.call h1
  replace hb := bthen hb h1
  clear h1
  go_wp2
  go_ret
  exact ⟨rfl, hb⟩
set_option maxHeartbeats 1000000 in
theorem overlaps_c {A B C D : List Value} (hA : Rc A) (hB : Rc B) (hC : Rc C) (hD : Rc D) (T1 : Tl 76 #[vl (A ++ B), vl C] (.bool false)) (T2 : Tl 76 #[vl (A ++ B), vl D] (.bool false)) (T3 : Tl 76 #[vl (C ++ D), vl A] (.bool true)) : Tl 103 #[vl (A ++ B), vl (C ++ D)] (.bool true) := by
  intro w
  unfold vl at *
  have HT1 := Lib.hid T1
  have HT2 := Lib.hid T2
  have HT3 := Lib.hid T3
  have HA := Lib.hid hA
  have HB := Lib.hid hB
  have HC := Lib.hid hC
  have HD := Lib.hid hD
  unfold Tl at HT1 HT2 HT3
  clear T1 T2 T3 hA hB hC hD
  have b2 := ((Blk.new w (A ++ B) 89 rfl).old (.cells (C ++ D).toArray 89))
  have b3 := (Blk.new (w.alloc (.cells (A ++ B).toArray 89)) (C ++ D) 89 (b := w.heap.size + 1) (by simp))
  have hb : Below w.heap.size w ((w.alloc (.cells (A ++ B).toArray 89)).alloc (.cells (C ++ D).toArray 89)) := (((Below.refl _ _).alloc (Nat.le_refl _) _).alloc (by simp <;> omega) _)
  have hk : ((w.alloc (.cells (A ++ B).toArray 89)).alloc (.cells (C ++ D).toArray 89)).heap.size = w.heap.size + 1 + 1 := by simp
  go_enter Tryz.func103, Tryz.ntmps103
  go_wp2_with (first | (with_reducible refine ldP rfl rfl rfl b2 (part_all _) (wholeS HA.out HB.out) ?_) | (with_reducible refine ldP rfl rfl rfl b3 partX HC.out.whole ?_))
  refine (HT1.out _).mono ?_
  rintro e w1 ⟨rfl, h1⟩
  replace b2 := b2.call h1
  replace b3 := b3.call h1
  replace hb := bthen hb h1
  clear h1
  go_wp2_with (first | (refine ldPg (by rfl) rfl rfl b2 (part_all _) (wholeS HA.out HB.out) ?_) | (refine ldPg (by rfl) rfl rfl b3 (partY HC.out) HD.out.whole ?_))
  refine (HT2.out _).mono ?_
  rintro e w1 ⟨rfl, h1⟩
  replace b2 := b2.call h1
  replace b3 := b3.call h1
  replace hb := bthen hb h1
  clear h1
  go_wp2_with (first | (refine ldPg (by rfl) rfl rfl b3 (part_all _) (wholeS HC.out HD.out) ?_) | (refine ldPg (by rfl) rfl rfl b2 partX HA.out.whole ?_))
  refine (HT3.out _).mono ?_
  rintro e w1 ⟨rfl, h1⟩
  replace hb := bthen hb h1
  clear h1
  go_wp2
  go_ret
  exact ⟨rfl, hb⟩
set_option maxHeartbeats 1000000 in
theorem overlaps_d {A B C D : List Value} (hA : Rc A) (hB : Rc B) (hC : Rc C) (hD : Rc D) (T1 : Tl 76 #[vl (A ++ B), vl C] (.bool false)) (T2 : Tl 76 #[vl (A ++ B), vl D] (.bool false)) (T3 : Tl 76 #[vl (C ++ D), vl A] (.bool false)) : Tl 103 #[vl (A ++ B), vl (C ++ D)] (.bool false) := by
  intro w
  unfold vl at *
  have HT1 := Lib.hid T1
  have HT2 := Lib.hid T2
  have HT3 := Lib.hid T3
  have HA := Lib.hid hA
  have HB := Lib.hid hB
  have HC := Lib.hid hC
  have HD := Lib.hid hD
  unfold Tl at HT1 HT2 HT3
  clear T1 T2 T3 hA hB hC hD
  have b2 := ((Blk.new w (A ++ B) 89 rfl).old (.cells (C ++ D).toArray 89))
  have b3 := (Blk.new (w.alloc (.cells (A ++ B).toArray 89)) (C ++ D) 89 (b := w.heap.size + 1) (by simp))
  have hb : Below w.heap.size w ((w.alloc (.cells (A ++ B).toArray 89)).alloc (.cells (C ++ D).toArray 89)) := (((Below.refl _ _).alloc (Nat.le_refl _) _).alloc (by simp <;> omega) _)
  have hk : ((w.alloc (.cells (A ++ B).toArray 89)).alloc (.cells (C ++ D).toArray 89)).heap.size = w.heap.size + 1 + 1 := by simp
  go_enter Tryz.func103, Tryz.ntmps103
  go_wp2_with (first | (with_reducible refine ldP rfl rfl rfl b2 (part_all _) (wholeS HA.out HB.out) ?_) | (with_reducible refine ldP rfl rfl rfl b3 partX HC.out.whole ?_))
  refine (HT1.out _).mono ?_
  rintro e w1 ⟨rfl, h1⟩
  replace b2 := b2.call h1
  replace b3 := b3.call h1
  replace hb := bthen hb h1
  clear h1
  go_wp2_with (first | (refine ldPg (by rfl) rfl rfl b2 (part_all _) (wholeS HA.out HB.out) ?_) | (refine ldPg (by rfl) rfl rfl b3 (partY HC.out) HD.out.whole ?_))
  refine (HT2.out _).mono ?_
  rintro e w1 ⟨rfl, h1⟩
  replace b2 := b2.call h1
  replace b3 := b3.call h1
  replace hb := bthen hb h1
  clear h1
  go_wp2_with (first | (refine ldPg (by rfl) rfl rfl b3 (part_all _) (wholeS HC.out HD.out) ?_) | (refine ldPg (by rfl) rfl rfl b2 partX HA.out.whole ?_))
  refine (HT3.out _).mono ?_
  rintro e w1 ⟨rfl, h1⟩
  replace hb := bthen hb h1
  clear h1
  go_wp2
  go_ret
  exact ⟨rfl, hb⟩
theorem overlaps_walk {A B C D : List Value} {r s t : Bool} (hA : Rc A) (hB : Rc B) (hC : Rc C) (hD : Rc D) (T1 : Tl 76 #[vl (A ++ B), vl C] (.bool r)) (T2 : Tl 76 #[vl (A ++ B), vl D] (.bool s)) (T3 : Tl 76 #[vl (C ++ D), vl A] (.bool t)) : Tl 103 #[vl (A ++ B), vl (C ++ D)] (.bool (r || (s || t))) := by
  cases r
  · cases s
    · cases t
      · exact overlaps_d hA hB hC hD T1 T2 T3
      · exact overlaps_c hA hB hC hD T1 T2 T3
    · exact overlaps_b hA hB hC hD T1 T2 T3
  · exact overlaps_a hA hB hC hD T1 T2 T3
/-- Two spans have a number in common. -/
def oq (a b c d : Rat) : Bool := hq a b c || (hq a b d || hq c d a)
theorem overlaps_q {a b c d : Rat} (ha : Bq 60 a) (hb : Bq 60 b) (hc : Bq 60 c) (hd : Bq 60 d) : Tl 103 #[vl (fq a ++ fq b), vl (fq c ++ fq d)] (.bool (oq a b c d)) :=
  overlaps_walk (rc_q _) (rc_q _) (rc_q _) (rc_q _) (holds_q ha hb hc) (holds_q ha hb hd) (holds_q hc hd ha)
end Go.Proofs.YtoegjibeomhekaaGreat
