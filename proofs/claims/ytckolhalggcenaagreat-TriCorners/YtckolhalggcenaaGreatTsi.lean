/- Joined of: Tre Trf Trg Tsi. -/
import Derived.Test.YtckolhalggcenaaGreatTrc
import Derived.BigQuiet
import Derived.Deep.QuietTactic
/- Triangles: place. -/
namespace Go.Proofs.YtckolhalggcenaaGreat
set_option linter.unusedSimpArgs false
set_option linter.unusedVariables false
open Go.RowKit
set_option maxRecDepth 100000
theorem op_min2 {o : Oper} {a : Act} {x y : Operand} {n c m : Int} (hm : min n c = m) (ho : o.op = .call { callee := .builtin .min, args := #[x, y], argTypes := #[3, 3] }) (hx : a.eval x = .int .i64 n) (hy : a.eval y = .int .i64 c) (w : World) :
    (execOp a.eval o).run Tryz.prog w = .ok (.value (.int .i64 m)) w := by
  subst hm
  obtain ⟨dst, op, ty, pos, af, gd⟩ := o
  subst ho
  rw [BigFrame.execOp_builtin, BigFrame.builtin_min, show (#[x, y] : Array Operand).map a.eval = #[.int .i64 n, .int .i64 c] by simp [hx, hy]]
  simp only [Sem.run_bind, run_min]
  rfl
section
variable {ops : Array Oper} {rest : List Oper} {o : Oper} {a : Act} {w : World} {Q' : Exit → Act → World → Prop}
theorem minB {x y : Operand} {n c m : Int} (hgd : o.guard = none) (ho : o.op = .call { callee := .builtin .min, args := #[x, y], argTypes := #[3, 3] }) (hx : a.eval x = .int .i64 n) (hy : a.eval y = .int .i64 c) (hm : min n c = m)
    (hr : wpList Tryz.prog ops Q' rest (a.put o.dst (.int .i64 m)) w) : wpList Tryz.prog ops Q' (o :: rest) a w :=
  wpList_plain hgd fun K hK => by
    have := hK _ _ hr
    unfold Oper.wp
    rw [op_min2 hm ho hx hy]
    exact this
theorem ixC {t : TypeId} {x y : Operand} {cs X : List Value} {k : Int} (hgd : o.guard = none) (ho : o.op = .index t x y) (hx : a.eval x = .agg cs.toArray) (hy : a.eval y = .int .i64 k) (h : ∀ w, (Instr.index t (.agg cs.toArray) (.int .i64 k)).run Tryz.prog w = .ok (.agg X.toArray) w)
    (hr : wpList Tryz.prog ops Q' rest (a.put o.dst (.agg X.toArray)) w) : wpList Tryz.prog ops Q' (o :: rest) a w :=
  wpList_plain hgd fun K hK => by
    have := hK _ _ hr
    unfold Oper.wp execOp
    simp only [ho, Sem.run_bind]
    rw [hx, hy, h w]
    exact this
end
section
variable {P Q R S : List Value} (hP : Pc P) (hQ : Pc Q) (hR : Pc R) (hS : Pc S)
include hP hQ hR hS
set_option maxHeartbeats 4000000 in
theorem place_w {c0 c1 c2 d0 d1 d2 : Int} (e0 : min 1 c0 = d0) (e1 : min d0 c1 = d1) (e2 : min d1 c2 = d2) (T0 : Tl 46 #[vl (sdc P Q), vl S] (.int .i64 c0)) (T1 : Tl 46 #[vl (sdc Q R), vl S] (.int .i64 c1)) (T2 : Tl 46 #[vl (sdc R P), vl S] (.int .i64 c2)) : Tl 26 #[vl (cnc P Q R), vl S] (.int .i64 d2) := fun w => by
  have TC := corners_w hP hQ hR
  unfold vl at *
  have HT0 := Lib.hid T0
  have HT1 := Lib.hid T1
  have HT2 := Lib.hid T2
  have HC := Lib.hid TC
  have E0 := Lib.hid e0
  have E1 := Lib.hid e1
  have E2 := Lib.hid e2
  clear T0 T1 T2 TC e0 e1 e2
  unfold Tl at HT0 HT1 HT2 HC
  have HP := Lib.hid hP
  have HQ := Lib.hid hQ
  have HR := Lib.hid hR
  have HS := Lib.hid hS
  clear hP hQ hR hS
  have b1 := ((Blk.new w (cnc P Q R) 55 rfl).old (.cells (S).toArray 29))
  have b2 := (Blk.new (w.alloc (.cells (cnc P Q R).toArray 55)) (S) 29 (b := w.heap.size + 1) (by simp))
  have hb : Below w.heap.size w ((w.alloc (.cells (cnc P Q R).toArray 55)).alloc (.cells (S).toArray 29)) := (((Below.refl _ _).alloc (Nat.le_refl _) _).alloc (by simp <;> omega) _)
  have hk : ((w.alloc (.cells (cnc P Q R).toArray 55)).alloc (.cells (S).toArray 29)).heap.size = w.heap.size + 1 + 1 := by simp
  go_enter Tryz.func26, Tryz.ntmps26
  go_wp2_with (first | (with_reducible refine ldP rfl rfl rfl b1 (part_all _) (wholeTr HP.out HQ.out HR.out) ?_))
  try rw [show (w.alloc (.cells (cnc P Q R).toArray 55)).heap.size = w.heap.size + 1 by simp]
  refine (HC.out _).mono ?_
  rintro e w1 ⟨rfl, h1⟩
  replace b1 := b1.call h1
  replace b2 := b2.call h1
  replace hb := bthen hb h1
  clear h1
  go_wp2
  go_loopw [5, 10] (fun x i wr => Blk wr w.heap.size (cnc P Q R) 55 ∧ Blk wr (w.heap.size + 1) S 29 ∧ Below w.heap.size w wr ∧ ((x = .int .i64 1 ∧ i = .int .i64 0) ∨ (x = .int .i64 d0 ∧ i = .int .i64 1) ∨ (x = .int .i64 d1 ∧ i = .int .i64 2) ∨ (x = .int .i64 d2 ∧ i = .int .i64 3))) (fun _ i _ => 3 - (intOf i).toNat)
  case atStart => exact ⟨b1, b2, hb, by simp⟩
  case round =>
    clear b1 b2 hb
    obtain ⟨b1, b2, hb, hc⟩ := hrel
    rcases hc with ⟨rfl, rfl⟩ | ⟨rfl, rfl⟩ | ⟨rfl, rfl⟩ | ⟨rfl, rfl⟩
    · skip
      have f := Blk.new wr (cnc p0 p0 p0) 53 rfl
      have b7 := f.row (cnc P Q R)
      have l1 := b1.lt
      have l2 := b2.lt
      replace b1 := (b1.old (.cells (cnc p0 p0 p0).toArray 53)).rowOther (g := wr.heap.size) (cnc P Q R).toArray (by omega)
      replace b2 := (b2.old (.cells (cnc p0 p0 p0).toArray 53)).rowOther (g := wr.heap.size) (cnc P Q R).toArray (by omega)
      replace hb := below_row (hb.alloc hb.size (.cells (cnc p0 p0 p0).toArray 53)) (g := wr.heap.size) hb.size (cnc P Q R).toArray
      go_wp2_with (first | (with_reducible refine ixC rfl rfl rfl rfl (ix0 HP.out HQ.out HR.out) ?_) | (with_reducible refine alCn rfl rfl ?_) | (with_reducible refine stCn rfl rfl rfl rfl f cn0_len HP.out HQ.out HR.out ?_) | (with_reducible refine ldP rfl rfl rfl b7 cn_s (wholeSd HP.out HQ.out) ?_) | (with_reducible refine ldP rfl rfl rfl b2 (part_all _) HS.out.whole ?_))
      refine (HT0.out _).mono ?_
      rintro e w1 ⟨rfl, h1⟩
      replace b1 := b1.call h1
      replace b2 := b2.call h1
      replace hb := bthen hb h1
      clear h1
      go_wp2_with (first | (with_reducible refine minB rfl rfl rfl rfl E0.out ?_))
      go_roundw
      case rel => exact ⟨b1, b2, hb, by simp⟩
      case measure => simp [intOf]
    · skip
      have f := Blk.new wr (cnc p0 p0 p0) 53 rfl
      have b7 := f.row (cnc Q R P)
      have l1 := b1.lt
      have l2 := b2.lt
      replace b1 := (b1.old (.cells (cnc p0 p0 p0).toArray 53)).rowOther (g := wr.heap.size) (cnc Q R P).toArray (by omega)
      replace b2 := (b2.old (.cells (cnc p0 p0 p0).toArray 53)).rowOther (g := wr.heap.size) (cnc Q R P).toArray (by omega)
      replace hb := below_row (hb.alloc hb.size (.cells (cnc p0 p0 p0).toArray 53)) (g := wr.heap.size) hb.size (cnc Q R P).toArray
      go_wp2_with (first | (with_reducible refine ixC rfl rfl rfl rfl (ix1 HP.out HQ.out HR.out) ?_) | (with_reducible refine alCn rfl rfl ?_) | (with_reducible refine stCn rfl rfl rfl rfl f cn0_len HQ.out HR.out HP.out ?_) | (with_reducible refine ldP rfl rfl rfl b7 cn_s (wholeSd HQ.out HR.out) ?_) | (with_reducible refine ldP rfl rfl rfl b2 (part_all _) HS.out.whole ?_))
      refine (HT1.out _).mono ?_
      rintro e w1 ⟨rfl, h1⟩
      replace b1 := b1.call h1
      replace b2 := b2.call h1
      replace hb := bthen hb h1
      clear h1
      go_wp2_with (first | (with_reducible refine minB rfl rfl rfl rfl E1.out ?_))
      go_roundw
      case rel => exact ⟨b1, b2, hb, by simp⟩
      case measure => simp [intOf]
    · skip
      have f := Blk.new wr (cnc p0 p0 p0) 53 rfl
      have b7 := f.row (cnc R P Q)
      have l1 := b1.lt
      have l2 := b2.lt
      replace b1 := (b1.old (.cells (cnc p0 p0 p0).toArray 53)).rowOther (g := wr.heap.size) (cnc R P Q).toArray (by omega)
      replace b2 := (b2.old (.cells (cnc p0 p0 p0).toArray 53)).rowOther (g := wr.heap.size) (cnc R P Q).toArray (by omega)
      replace hb := below_row (hb.alloc hb.size (.cells (cnc p0 p0 p0).toArray 53)) (g := wr.heap.size) hb.size (cnc R P Q).toArray
      go_wp2_with (first | (with_reducible refine ixC rfl rfl rfl rfl (ix2 HP.out HQ.out HR.out) ?_) | (with_reducible refine alCn rfl rfl ?_) | (with_reducible refine stCn rfl rfl rfl rfl f cn0_len HR.out HP.out HQ.out ?_) | (with_reducible refine ldP rfl rfl rfl b7 cn_s (wholeSd HR.out HP.out) ?_) | (with_reducible refine ldP rfl rfl rfl b2 (part_all _) HS.out.whole ?_))
      refine (HT2.out _).mono ?_
      rintro e w1 ⟨rfl, h1⟩
      replace b1 := b1.call h1
      replace b2 := b2.call h1
      replace hb := bthen hb h1
      clear h1
      go_wp2_with (first | (with_reducible refine minB rfl rfl rfl rfl E2.out ?_))
      go_roundw
      case rel => exact ⟨b1, b2, hb, by simp⟩
      case measure => simp [intOf]
    · go_wp2
      go_ret
      exact ⟨rfl, hb⟩
end
end Go.Proofs.YtckolhalggcenaaGreat

/- Triangles: tangent, good. -/
namespace Go.Proofs.YtckolhalggcenaaGreat
set_option linter.unusedSimpArgs false
set_option linter.unusedVariables false
open Go.RowKit
set_option maxRecDepth 100000
theorem op_lez {o : Oper} {a : Act} {x : Operand} {ty : TypeId} {m : Int} {b : Bool} (h : decide (m ≤ 0) = b) (ho : o.op = .binOp .leq 3 x (.const (.int .i64 0)) ty) (hx : a.eval x = .int .i64 m) (w : World) :
    (execOp a.eval o).run Tryz.prog w = .ok (.value (.bool b)) w := by
  subst h
  unfold execOp
  simp only [ho, hx, BigFrame.eval_const]
  go_simp <;> rfl
section
variable {ops : Array Oper} {rest : List Oper} {o : Oper} {a : Act} {w : World} {Q' : Exit → Act → World → Prop}
theorem lezB {x : Operand} {ty : TypeId} {m : Int} {b : Bool} (hgd : o.guard = none) (ho : o.op = .binOp .leq 3 x (.const (.int .i64 0)) ty) (hx : a.eval x = .int .i64 m) (h : decide (m ≤ 0) = b)
    (hr : wpList Tryz.prog ops Q' rest (a.put o.dst (.bool b)) w) : wpList Tryz.prog ops Q' (o :: rest) a w :=
  wpList_plain hgd fun K hK => by
    have := hK _ _ hr
    unfold Oper.wp
    rw [op_lez h ho hx]
    exact this
end
section
variable {P Q R : List Value} (hP : Pc P) (hQ : Pc Q) (hR : Pc R)
include hP hQ hR
set_option maxHeartbeats 2000000 in
theorem tangent_no {D : List Value} {c : Int} (hD : Rc D) (he : decide (c ≤ 0) = true) (TD : Tl 34 #[vl (cnc P Q R)] (vl D)) (TS : Tl 35 #[vl D] (.int .i64 c)) : Tl 18 #[vl (cnc P Q R)] (.tuple #[vl (fr 0 1), .bool false]) := by
  have TZ := tzero_w
  unfold vl at *
  have HTZ := Lib.hid TZ
  clear TZ
  unfold Tl at HTZ
  intro w
  try unfold vl at *
  have HTD := Lib.hid TD
  have HTS := Lib.hid TS
  have HD := Lib.hid hD
  have HE := Lib.hid he
  clear TD TS hD he
  unfold Tl at HTD HTS
  have HP := Lib.hid hP
  have HQ := Lib.hid hQ
  have HR := Lib.hid hR
  clear hP hQ hR
  have b1 := ((Blk.new w (cnc P Q R) 53 rfl).old (.cells (rr false 0 false 0).toArray 27))
  have b2 := (Blk.new (w.alloc (.cells (cnc P Q R).toArray 53)) (rr false 0 false 0) 27 (b := w.heap.size + 1) (by simp))
  have hb : Below w.heap.size w ((w.alloc (.cells (cnc P Q R).toArray 53)).alloc (.cells (rr false 0 false 0).toArray 27)) := (((Below.refl _ _).alloc (Nat.le_refl _) _).alloc (by simp <;> omega) _)
  have hk : ((w.alloc (.cells (cnc P Q R).toArray 53)).alloc (.cells (rr false 0 false 0).toArray 27)).heap.size = w.heap.size + 1 + 1 := by simp
  go_enter Tryz.func18, Tryz.ntmps18
  go_wp2_with (first | (with_reducible refine alR rfl rfl ?_) | (with_reducible refine ldP rfl rfl rfl b1 (part_all _) (wholeCn HP.out HQ.out HR.out) ?_))
  try rw [show (w.alloc (.cells (cnc P Q R).toArray 53)).heap.size = w.heap.size + 1 by simp]
  refine (HTD.out _).mono ?_
  rintro e w1 ⟨rfl, h1⟩
  replace b1 := b1.call h1
  replace b2 := b2.call h1
  replace hb := bthen hb h1
  clear h1
  have n4 := b2.lt
  have f := Blk.new w1 (rr false 0 false 0) 27 rfl
  have b4 := laid_n w1 (rr false 0 false 0) (D) 27
  replace b1 := laid_o b1 (rr false 0 false 0) (D) 27
  replace b2 := laid_o b2 (rr false 0 false 0) (D) 27
  replace hb := laid_b hb (rr false 0 false 0) (D) 27
  go_wp2_with (first | (with_reducible refine alR rfl rfl ?_) | (with_reducible refine stQ rfl rfl rfl rfl f (rr_length _ _ _ _) HD.out ?_) | (with_reducible refine ldA' rfl rfl rfl b4 HD.out ?_))
  clear f
  generalize (w1.alloc (.cells (rr false 0 false 0).toArray 27)).setRow w1.heap.size (D).toArray = W at *
  generalize w1.heap.size = pl_b4 at *
  refine (HTS.out _).mono ?_
  rintro e w1 ⟨rfl, h1⟩
  replace b1 := b1.call h1
  replace b2 := b2.call h1
  replace b4 := b4.call h1
  replace hb := bthen hb h1
  clear h1
  go_wp2_with (first | (with_reducible refine lezB rfl rfl rfl HE.out ?_))
  refine (HTZ.out _).mono ?_
  rintro e w1 ⟨rfl, h1⟩
  replace b2 := b2.call h1
  replace hb := bthen hb h1
  clear h1
  go_wp2_with (first | (with_reducible refine stR rfl rfl rfl rfl b2 (rr_length _ _ _ _) ?_))
  exact ret_ct (cs := fr 0 1) rfl rfl rfl rfl (wholeF _ _) (b2.row _) ⟨rfl, below_row hb (by omega) _⟩
set_option maxHeartbeats 2000000 in
theorem tangent_yes {D A T : List Value} {c : Int} {ok : Bool} (hD : Rc D) (hA : Rc A) (hT : Rc T) (he : decide (c ≤ 0) = false) (TD : Tl 34 #[vl (cnc P Q R)] (vl D)) (TS : Tl 35 #[vl D] (.int .i64 c)) (TA : Tl 28 #[vl (cnc P Q R)] (vl A)) (TV : Tl 37 #[vl A, vl D] (.tuple #[vl T, .bool ok])) : Tl 18 #[vl (cnc P Q R)] (.tuple #[vl T, .bool ok]) := by
  unfold vl at *
  have HTA := Lib.hid TA
  have HTV := Lib.hid TV
  have HA := Lib.hid hA
  have HT := Lib.hid hT
  clear TA TV hA hT
  unfold Tl at HTA HTV
  intro w
  try unfold vl at *
  have HTD := Lib.hid TD
  have HTS := Lib.hid TS
  have HD := Lib.hid hD
  have HE := Lib.hid he
  clear TD TS hD he
  unfold Tl at HTD HTS
  have HP := Lib.hid hP
  have HQ := Lib.hid hQ
  have HR := Lib.hid hR
  clear hP hQ hR
  have b1 := ((Blk.new w (cnc P Q R) 53 rfl).old (.cells (rr false 0 false 0).toArray 27))
  have b2 := (Blk.new (w.alloc (.cells (cnc P Q R).toArray 53)) (rr false 0 false 0) 27 (b := w.heap.size + 1) (by simp))
  have hb : Below w.heap.size w ((w.alloc (.cells (cnc P Q R).toArray 53)).alloc (.cells (rr false 0 false 0).toArray 27)) := (((Below.refl _ _).alloc (Nat.le_refl _) _).alloc (by simp <;> omega) _)
  have hk : ((w.alloc (.cells (cnc P Q R).toArray 53)).alloc (.cells (rr false 0 false 0).toArray 27)).heap.size = w.heap.size + 1 + 1 := by simp
  go_enter Tryz.func18, Tryz.ntmps18
  go_wp2_with (first | (with_reducible refine alR rfl rfl ?_) | (with_reducible refine ldP rfl rfl rfl b1 (part_all _) (wholeCn HP.out HQ.out HR.out) ?_))
  try rw [show (w.alloc (.cells (cnc P Q R).toArray 53)).heap.size = w.heap.size + 1 by simp]
  refine (HTD.out _).mono ?_
  rintro e w1 ⟨rfl, h1⟩
  replace b1 := b1.call h1
  replace b2 := b2.call h1
  replace hb := bthen hb h1
  clear h1
  have n4 := b2.lt
  have f := Blk.new w1 (rr false 0 false 0) 27 rfl
  have b4 := laid_n w1 (rr false 0 false 0) (D) 27
  replace b1 := laid_o b1 (rr false 0 false 0) (D) 27
  replace b2 := laid_o b2 (rr false 0 false 0) (D) 27
  replace hb := laid_b hb (rr false 0 false 0) (D) 27
  go_wp2_with (first | (with_reducible refine alR rfl rfl ?_) | (with_reducible refine stQ rfl rfl rfl rfl f (rr_length _ _ _ _) HD.out ?_) | (with_reducible refine ldA' rfl rfl rfl b4 HD.out ?_))
  clear f
  generalize (w1.alloc (.cells (rr false 0 false 0).toArray 27)).setRow w1.heap.size (D).toArray = W at *
  generalize w1.heap.size = pl_b4 at *
  refine (HTS.out _).mono ?_
  rintro e w1 ⟨rfl, h1⟩
  replace b1 := b1.call h1
  replace b2 := b2.call h1
  replace b4 := b4.call h1
  replace hb := bthen hb h1
  clear h1
  go_wp2_with (first | (with_reducible refine lezB rfl rfl rfl HE.out ?_))
  generalize w1 = W at *
  refine rg_start [w.heap.size + 1] (by kernel_rfl) (fun hS => ?_)
  replace hb := hb.drew
  replace b2 := b2.drew
  refine rg_ldP 0 rfl (by kernel_rfl) (by kernel_rfl) (by kernel_rfl) (by rfl) hS rfl rfl b1 (by simp <;> omega) (part_all _) (wholeCn HP.out HQ.out HR.out) ?_
  try simp only [Act.put, List.setIfInBounds_toArray, List.set_cons_zero, List.set_cons_succ]
  refine rg_ldP 2 rfl (by kernel_rfl) (by kernel_rfl) (by kernel_rfl) (by rfl) hS rfl rfl b4 (by simp <;> omega) (part_all _) HD.out.whole ?_
  try simp only [Act.put, List.setIfInBounds_toArray, List.set_cons_zero, List.set_cons_succ]
  refine rg_eff 1 rfl (by kernel_rfl) (by rfl) (fun K hK => ?_)
  go_simp
  refine (HTA.out _).mono ?_
  rintro e w1 ⟨rfl, h1⟩
  refine hK _ _ (hS.call h1) (fun hS => ?_)
  clear hK K
  replace b2 := b2.call h1
  replace hb := bthen hb h1
  clear h1
  try simp only [Act.put, List.setIfInBounds_toArray, List.set_cons_zero, List.set_cons_succ]
  refine rg_eff 3 rfl (by kernel_rfl) (by rfl) (fun K hK => ?_)
  go_simp
  refine (HTV.out _).mono ?_
  rintro e w1 ⟨rfl, h1⟩
  refine hK _ _ (hS.call h1) (fun hS => ?_)
  clear hK K
  replace b2 := b2.call h1
  replace hb := bthen hb h1
  clear h1
  try simp only [Act.put, List.setIfInBounds_toArray, List.set_cons_zero, List.set_cons_succ]
  refine rg_take 4 rfl (by kernel_rfl) (by kernel_rfl) (by kernel_rfl) (by rfl) hS (v := ?_) ?_ ?_
  rotate_left
  · (intro w' hS'; go_simp <;> try with_reducible rfl)
  try simp only [Act.put, List.setIfInBounds_toArray, List.set_cons_zero, List.set_cons_succ]
  refine rg_take 5 rfl (by kernel_rfl) (by kernel_rfl) (by kernel_rfl) (by rfl) hS (v := ?_) ?_ ?_
  rotate_left
  · (intro w' hS'; go_simp <;> try with_reducible rfl)
  try simp only [Act.put, List.setIfInBounds_toArray, List.set_cons_zero, List.set_cons_succ]
  refine rg_eff 6 rfl (by kernel_rfl) (by rfl) (fun K hK => ?_)
  refine wp_st (vs := T) rfl rfl rfl b2 ((rr_length _ _ _ _).trans HT.out.len.symm) HT.out.whole HT.out.one ?_
  refine hK _ _ (hS.row (.inl (by simp)) _) (fun hS => ?_)
  clear hK K
  try simp only [Act.put, List.setIfInBounds_toArray, List.set_cons_zero, List.set_cons_succ]
  refine rg_take 7 rfl (by kernel_rfl) (by kernel_rfl) (by kernel_rfl) (by rfl) hS (v := ?_) ?_ ?_
  rotate_left
  · (intro w' hS'; go_simp <;> try with_reducible rfl)
  try simp only [Act.put, List.setIfInBounds_toArray, List.set_cons_zero, List.set_cons_succ]
  refine rg_done (by kernel_rfl) ?_
  go_wp2
  exact ret_ct (cs := T) rfl rfl rfl rfl HT.out.whole (b2.row _) ⟨rfl, below_row hb (by omega) _⟩
end
end Go.Proofs.YtckolhalggcenaaGreat

/- Triangles: good. -/
namespace Go.Proofs.YtckolhalggcenaaGreat
set_option linter.unusedSimpArgs false
set_option linter.unusedVariables false
open Go.RowKit
set_option maxRecDepth 100000
section
variable {P Q R : List Value} (hP : Pc P) (hQ : Pc Q) (hR : Pc R)
include hP hQ hR
set_option maxHeartbeats 2000000 in
theorem good_no {A : List Value} {c : Int} (hA : Rc A) (hc : c = 0 ∨ c = -1) (TA : Tl 28 #[vl (cnc P Q R)] (vl A)) (TS : Tl 35 #[vl A] (.int .i64 c)) : Tl 24 #[vl (cnc P Q R)] (.bool false) := by
  rcases hc with rfl | rfl
  · skip
    intro w
    try unfold vl at *
    have HTA := Lib.hid TA
    have HTS := Lib.hid TS
    have HA := Lib.hid hA
    clear TA TS hA
    unfold Tl at HTA HTS
    have HP := Lib.hid hP
    have HQ := Lib.hid hQ
    have HR := Lib.hid hR
    clear hP hQ hR
    have b1 := (Blk.new w (cnc P Q R) 55 rfl)
    have hb : Below w.heap.size w (w.alloc (.cells (cnc P Q R).toArray 55)) := ((Below.refl _ _).alloc (Nat.le_refl _) _)
    have hk : (w.alloc (.cells (cnc P Q R).toArray 55)).heap.size = w.heap.size + 1 := by simp
    go_enter Tryz.func24, Tryz.ntmps24
    go_wp2_with (first | (with_reducible refine ldP rfl rfl rfl b1 (part_all _) (wholeCn HP.out HQ.out HR.out) ?_))
    refine (HTA.out _).mono ?_
    rintro e w1 ⟨rfl, h1⟩
    replace b1 := b1.call h1
    replace hb := bthen hb h1
    clear h1
    have f := Blk.new w1 (rr false 0 false 0) 27 rfl
    have b3 := laid_n w1 (rr false 0 false 0) (A) 27
    replace b1 := laid_o b1 (rr false 0 false 0) (A) 27
    replace hb := laid_b hb (rr false 0 false 0) (A) 27
    go_wp2_with (first | (with_reducible refine alR rfl rfl ?_) | (with_reducible refine stQ rfl rfl rfl rfl f (rr_length _ _ _ _) HA.out ?_) | (with_reducible refine ldA' rfl rfl rfl b3 HA.out ?_))
    clear f
    generalize (w1.alloc (.cells (rr false 0 false 0).toArray 27)).setRow w1.heap.size (A).toArray = W at *
    generalize w1.heap.size = pl_b3 at *
    refine (HTS.out _).mono ?_
    rintro e w1 ⟨rfl, h1⟩
    replace b1 := b1.call h1
    replace b3 := b3.call h1
    replace hb := bthen hb h1
    clear h1
    go_wp2
    go_ret
    exact ⟨rfl, hb⟩
  · skip
    intro w
    try unfold vl at *
    have HTA := Lib.hid TA
    have HTS := Lib.hid TS
    have HA := Lib.hid hA
    clear TA TS hA
    unfold Tl at HTA HTS
    have HP := Lib.hid hP
    have HQ := Lib.hid hQ
    have HR := Lib.hid hR
    clear hP hQ hR
    have b1 := (Blk.new w (cnc P Q R) 55 rfl)
    have hb : Below w.heap.size w (w.alloc (.cells (cnc P Q R).toArray 55)) := ((Below.refl _ _).alloc (Nat.le_refl _) _)
    have hk : (w.alloc (.cells (cnc P Q R).toArray 55)).heap.size = w.heap.size + 1 := by simp
    go_enter Tryz.func24, Tryz.ntmps24
    go_wp2_with (first | (with_reducible refine ldP rfl rfl rfl b1 (part_all _) (wholeCn HP.out HQ.out HR.out) ?_))
    refine (HTA.out _).mono ?_
    rintro e w1 ⟨rfl, h1⟩
    replace b1 := b1.call h1
    replace hb := bthen hb h1
    clear h1
    have f := Blk.new w1 (rr false 0 false 0) 27 rfl
    have b3 := laid_n w1 (rr false 0 false 0) (A) 27
    replace b1 := laid_o b1 (rr false 0 false 0) (A) 27
    replace hb := laid_b hb (rr false 0 false 0) (A) 27
    go_wp2_with (first | (with_reducible refine alR rfl rfl ?_) | (with_reducible refine stQ rfl rfl rfl rfl f (rr_length _ _ _ _) HA.out ?_) | (with_reducible refine ldA' rfl rfl rfl b3 HA.out ?_))
    clear f
    generalize (w1.alloc (.cells (rr false 0 false 0).toArray 27)).setRow w1.heap.size (A).toArray = W at *
    generalize w1.heap.size = pl_b3 at *
    refine (HTS.out _).mono ?_
    rintro e w1 ⟨rfl, h1⟩
    replace b1 := b1.call h1
    replace b3 := b3.call h1
    replace hb := bthen hb h1
    clear h1
    go_wp2
    go_ret
    exact ⟨rfl, hb⟩
set_option maxHeartbeats 8000000 in
theorem good_yes {A D0 D1 D2 : List Value} {g0 g1 g2 : Bool} (hA : Rc A) (h0 : Rc D0) (h1 : Rc D1) (h2 : Rc D2) (TA : Tl 28 #[vl (cnc P Q R)] (vl A)) (TS : Tl 35 #[vl A] (.int .i64 1))
    (TD0 : Tl 34 #[vl (cnc P Q R)] (vl D0)) (TD1 : Tl 34 #[vl (cnc Q R P)] (vl D1)) (TD2 : Tl 34 #[vl (cnc R P Q)] (vl D2))
    (TG0 : Tl 45 #[vl D0, vl A] (.bool g0)) (TG1 : Tl 45 #[vl D1, vl A] (.bool g1)) (TG2 : Tl 45 #[vl D2, vl A] (.bool g2)) : Tl 24 #[vl (cnc P Q R)] (.bool (!(g0 || (g1 || g2)))) := by
  have TC := corners_w hP hQ hR
  unfold vl at *
  have HC := Lib.hid TC
  have HD0 := Lib.hid TD0
  have HD1 := Lib.hid TD1
  have HD2 := Lib.hid TD2
  have HG0 := Lib.hid TG0
  have HG1 := Lib.hid TG1
  have HG2 := Lib.hid TG2
  clear TC TD0 TD1 TD2 TG0 TG1 TG2
  unfold Tl at HC HD0 HD1 HD2 HG0 HG1 HG2
  intro w
  try unfold vl at *
  have HTA := Lib.hid TA
  have HTS := Lib.hid TS
  have HA := Lib.hid hA
  clear TA TS hA
  unfold Tl at HTA HTS
  have HP := Lib.hid hP
  have HQ := Lib.hid hQ
  have HR := Lib.hid hR
  clear hP hQ hR
  have b1 := (Blk.new w (cnc P Q R) 55 rfl)
  have hb : Below w.heap.size w (w.alloc (.cells (cnc P Q R).toArray 55)) := ((Below.refl _ _).alloc (Nat.le_refl _) _)
  have hk : (w.alloc (.cells (cnc P Q R).toArray 55)).heap.size = w.heap.size + 1 := by simp
  go_enter Tryz.func24, Tryz.ntmps24
  go_wp2_with (first | (with_reducible refine ldP rfl rfl rfl b1 (part_all _) (wholeCn HP.out HQ.out HR.out) ?_))
  refine (HTA.out _).mono ?_
  rintro e w1 ⟨rfl, h1⟩
  replace b1 := b1.call h1
  replace hb := bthen hb h1
  clear h1
  have f := Blk.new w1 (rr false 0 false 0) 27 rfl
  have b3 := laid_n w1 (rr false 0 false 0) (A) 27
  replace b1 := laid_o b1 (rr false 0 false 0) (A) 27
  replace hb := laid_b hb (rr false 0 false 0) (A) 27
  go_wp2_with (first | (with_reducible refine alR rfl rfl ?_) | (with_reducible refine stQ rfl rfl rfl rfl f (rr_length _ _ _ _) HA.out ?_) | (with_reducible refine ldA' rfl rfl rfl b3 HA.out ?_))
  clear f
  generalize (w1.alloc (.cells (rr false 0 false 0).toArray 27)).setRow w1.heap.size (A).toArray = W at *
  generalize w1.heap.size = pl_b3 at *
  refine (HTS.out _).mono ?_
  rintro e w1 ⟨rfl, h1⟩
  replace b1 := b1.call h1
  replace b3 := b3.call h1
  replace hb := bthen hb h1
  clear h1
  go_wp2_with (first | (with_reducible refine ldP rfl rfl rfl b1 (part_all _) (wholeTr HP.out HQ.out HR.out) ?_))
  refine (HC.out _).mono ?_
  rintro e w1 ⟨rfl, h1⟩
  replace b1 := b1.call h1
  replace b3 := b3.call h1
  replace hb := bthen hb h1
  clear h1
  go_wp2
  go_loopw [14] (fun i wr => Blk wr w.heap.size (cnc P Q R) 55 ∧ Blk wr pl_b3 A 27 ∧ Below w.heap.size w wr ∧ ((i = .int .i64 0) ∨ (i = .int .i64 1 ∧ g0 = false) ∨ (i = .int .i64 2 ∧ g0 = false ∧ g1 = false) ∨ (i = .int .i64 3 ∧ g0 = false ∧ g1 = false ∧ g2 = false))) (fun i _ => 3 - (intOf i).toNat)
  case atStart => exact ⟨b1, b3, hb, by simp⟩
  case round =>
    clear b1 b3 hb
    obtain ⟨b1, b3, hb, hc⟩ := hrel
    rcases hc with rfl | ⟨rfl, rfl⟩ | ⟨rfl, rfl, rfl⟩ | ⟨rfl, rfl, rfl, rfl⟩
    · skip
      have f := Blk.new wr (cnc p0 p0 p0) 53 rfl
      have b5 := f.row (cnc P Q R)
      have l1 := b1.lt
      have l3 := b3.lt
      replace b1 := (b1.old (.cells (cnc p0 p0 p0).toArray 53)).rowOther (g := wr.heap.size) (cnc P Q R).toArray (by omega)
      replace b3 := (b3.old (.cells (cnc p0 p0 p0).toArray 53)).rowOther (g := wr.heap.size) (cnc P Q R).toArray (by omega)
      replace hb := below_row (hb.alloc hb.size (.cells (cnc p0 p0 p0).toArray 53)) (g := wr.heap.size) hb.size (cnc P Q R).toArray
      go_wp2_with (first | (with_reducible refine ixC rfl rfl rfl rfl (ix0 HP.out HQ.out HR.out) ?_) | (with_reducible refine alCn rfl rfl ?_) | (with_reducible refine stCn rfl rfl rfl rfl f cn0_len HP.out HQ.out HR.out ?_))
      clear f
      generalize (wr.alloc (.cells (cnc p0 p0 p0).toArray 53)).setRow wr.heap.size (cnc P Q R).toArray = W at *
      generalize wr.heap.size = pl_b5 at *
      refine rg_start [] (by kernel_rfl) (fun hS => ?_)
      replace hb := hb.drew
      replace b1 := b1.drew
      replace b3 := b3.drew
      refine rg_ldP 0 rfl (by kernel_rfl) (by kernel_rfl) (by kernel_rfl) (by rfl) hS rfl rfl b5 (by simp <;> omega) (part_all _) (wholeCn HP.out HQ.out HR.out) ?_
      try simp only [Act.put, List.setIfInBounds_toArray, List.set_cons_zero, List.set_cons_succ]
      refine rg_ldP 2 rfl (by kernel_rfl) (by kernel_rfl) (by kernel_rfl) (by rfl) hS rfl rfl b3 (by simp <;> omega) (part_all _) HA.out.whole ?_
      try simp only [Act.put, List.setIfInBounds_toArray, List.set_cons_zero, List.set_cons_succ]
      refine rg_eff 1 rfl (by kernel_rfl) (by rfl) (fun K hK => ?_)
      go_simp
      refine (HD0.out _).mono ?_
      rintro e w1 ⟨rfl, h1⟩
      refine hK _ _ (hS.call h1) (fun hS => ?_)
      clear hK K
      replace b1 := b1.call h1
      replace b3 := b3.call h1
      replace hb := bthen hb h1
      clear h1
      try simp only [Act.put, List.setIfInBounds_toArray, List.set_cons_zero, List.set_cons_succ]
      refine rg_eff 3 rfl (by kernel_rfl) (by rfl) (fun K hK => ?_)
      go_simp
      refine (HG0.out _).mono ?_
      rintro e w1 ⟨rfl, h1⟩
      refine hK _ _ (hS.call h1) (fun hS => ?_)
      clear hK K
      replace b1 := b1.call h1
      replace b3 := b3.call h1
      replace hb := bthen hb h1
      clear h1
      try simp only [Act.put, List.setIfInBounds_toArray, List.set_cons_zero, List.set_cons_succ]
      refine rg_done (by kernel_rfl) ?_
      cases g0 with
      | true =>
        go_wp2
        go_ret
        exact ⟨by simp, hb⟩
      | false =>
        go_wp2
        go_roundw
        case rel => exact ⟨b1, b3, hb, by simp⟩
        case measure => simp [intOf]
    · skip
      have f := Blk.new wr (cnc p0 p0 p0) 53 rfl
      have b5 := f.row (cnc Q R P)
      have l1 := b1.lt
      have l3 := b3.lt
      replace b1 := (b1.old (.cells (cnc p0 p0 p0).toArray 53)).rowOther (g := wr.heap.size) (cnc Q R P).toArray (by omega)
      replace b3 := (b3.old (.cells (cnc p0 p0 p0).toArray 53)).rowOther (g := wr.heap.size) (cnc Q R P).toArray (by omega)
      replace hb := below_row (hb.alloc hb.size (.cells (cnc p0 p0 p0).toArray 53)) (g := wr.heap.size) hb.size (cnc Q R P).toArray
      go_wp2_with (first | (with_reducible refine ixC rfl rfl rfl rfl (ix1 HP.out HQ.out HR.out) ?_) | (with_reducible refine alCn rfl rfl ?_) | (with_reducible refine stCn rfl rfl rfl rfl f cn0_len HQ.out HR.out HP.out ?_))
      clear f
      generalize (wr.alloc (.cells (cnc p0 p0 p0).toArray 53)).setRow wr.heap.size (cnc Q R P).toArray = W at *
      generalize wr.heap.size = pl_b5 at *
      refine rg_start [] (by kernel_rfl) (fun hS => ?_)
      replace hb := hb.drew
      replace b1 := b1.drew
      replace b3 := b3.drew
      refine rg_ldP 0 rfl (by kernel_rfl) (by kernel_rfl) (by kernel_rfl) (by rfl) hS rfl rfl b5 (by simp <;> omega) (part_all _) (wholeCn HQ.out HR.out HP.out) ?_
      try simp only [Act.put, List.setIfInBounds_toArray, List.set_cons_zero, List.set_cons_succ]
      refine rg_ldP 2 rfl (by kernel_rfl) (by kernel_rfl) (by kernel_rfl) (by rfl) hS rfl rfl b3 (by simp <;> omega) (part_all _) HA.out.whole ?_
      try simp only [Act.put, List.setIfInBounds_toArray, List.set_cons_zero, List.set_cons_succ]
      refine rg_eff 1 rfl (by kernel_rfl) (by rfl) (fun K hK => ?_)
      go_simp
      refine (HD1.out _).mono ?_
      rintro e w1 ⟨rfl, h1⟩
      refine hK _ _ (hS.call h1) (fun hS => ?_)
      clear hK K
      replace b1 := b1.call h1
      replace b3 := b3.call h1
      replace hb := bthen hb h1
      clear h1
      try simp only [Act.put, List.setIfInBounds_toArray, List.set_cons_zero, List.set_cons_succ]
      refine rg_eff 3 rfl (by kernel_rfl) (by rfl) (fun K hK => ?_)
      go_simp
      refine (HG1.out _).mono ?_
      rintro e w1 ⟨rfl, h1⟩
      refine hK _ _ (hS.call h1) (fun hS => ?_)
      clear hK K
      replace b1 := b1.call h1
      replace b3 := b3.call h1
      replace hb := bthen hb h1
      clear h1
      try simp only [Act.put, List.setIfInBounds_toArray, List.set_cons_zero, List.set_cons_succ]
      refine rg_done (by kernel_rfl) ?_
      cases g1 with
      | true =>
        go_wp2
        go_ret
        exact ⟨by simp, hb⟩
      | false =>
        go_wp2
        go_roundw
        case rel => exact ⟨b1, b3, hb, by simp⟩
        case measure => simp [intOf]
    · skip
      have f := Blk.new wr (cnc p0 p0 p0) 53 rfl
      have b5 := f.row (cnc R P Q)
      have l1 := b1.lt
      have l3 := b3.lt
      replace b1 := (b1.old (.cells (cnc p0 p0 p0).toArray 53)).rowOther (g := wr.heap.size) (cnc R P Q).toArray (by omega)
      replace b3 := (b3.old (.cells (cnc p0 p0 p0).toArray 53)).rowOther (g := wr.heap.size) (cnc R P Q).toArray (by omega)
      replace hb := below_row (hb.alloc hb.size (.cells (cnc p0 p0 p0).toArray 53)) (g := wr.heap.size) hb.size (cnc R P Q).toArray
      go_wp2_with (first | (with_reducible refine ixC rfl rfl rfl rfl (ix2 HP.out HQ.out HR.out) ?_) | (with_reducible refine alCn rfl rfl ?_) | (with_reducible refine stCn rfl rfl rfl rfl f cn0_len HR.out HP.out HQ.out ?_))
      clear f
      generalize (wr.alloc (.cells (cnc p0 p0 p0).toArray 53)).setRow wr.heap.size (cnc R P Q).toArray = W at *
      generalize wr.heap.size = pl_b5 at *
      refine rg_start [] (by kernel_rfl) (fun hS => ?_)
      replace hb := hb.drew
      replace b1 := b1.drew
      replace b3 := b3.drew
      refine rg_ldP 0 rfl (by kernel_rfl) (by kernel_rfl) (by kernel_rfl) (by rfl) hS rfl rfl b5 (by simp <;> omega) (part_all _) (wholeCn HR.out HP.out HQ.out) ?_
      try simp only [Act.put, List.setIfInBounds_toArray, List.set_cons_zero, List.set_cons_succ]
      refine rg_ldP 2 rfl (by kernel_rfl) (by kernel_rfl) (by kernel_rfl) (by rfl) hS rfl rfl b3 (by simp <;> omega) (part_all _) HA.out.whole ?_
      try simp only [Act.put, List.setIfInBounds_toArray, List.set_cons_zero, List.set_cons_succ]
      refine rg_eff 1 rfl (by kernel_rfl) (by rfl) (fun K hK => ?_)
      go_simp
      refine (HD2.out _).mono ?_
      rintro e w1 ⟨rfl, h1⟩
      refine hK _ _ (hS.call h1) (fun hS => ?_)
      clear hK K
      replace b1 := b1.call h1
      replace b3 := b3.call h1
      replace hb := bthen hb h1
      clear h1
      try simp only [Act.put, List.setIfInBounds_toArray, List.set_cons_zero, List.set_cons_succ]
      refine rg_eff 3 rfl (by kernel_rfl) (by rfl) (fun K hK => ?_)
      go_simp
      refine (HG2.out _).mono ?_
      rintro e w1 ⟨rfl, h1⟩
      refine hK _ _ (hS.call h1) (fun hS => ?_)
      clear hK K
      replace b1 := b1.call h1
      replace b3 := b3.call h1
      replace hb := bthen hb h1
      clear h1
      try simp only [Act.put, List.setIfInBounds_toArray, List.set_cons_zero, List.set_cons_succ]
      refine rg_done (by kernel_rfl) ?_
      cases g2 with
      | true =>
        go_wp2
        go_ret
        exact ⟨by simp, hb⟩
      | false =>
        go_wp2
        go_roundw
        case rel => exact ⟨b1, b3, hb, by simp⟩
        case measure => simp [intOf]
    · go_wp2
      go_ret
      exact ⟨by simp, hb⟩
end
end Go.Proofs.YtckolhalggcenaaGreat

/- Triangles: sides. -/
namespace Go.Proofs.YtckolhalggcenaaGreat
set_option linter.unusedSimpArgs false
set_option linter.unusedVariables false
open Go.RowKit
set_option maxRecDepth 100000
section
variable {ops : Array Oper} {rest : List Oper} {o : Oper} {a : Act} {w : World} {Q' : Exit → Act → World → Prop}
theorem Blk.thereAt {w : World} {b f n : Nat} {cs : List Value} {t : TypeId} (h : Blk w b cs t) (hl : f + n ≤ cs.length) : w.there b f n := fun j hj => by
  have := h.there (f + j) (by omega)
  rwa [Nat.zero_add] at this
theorem st_part {ty t : TypeId} {x y : Operand} {b f : Nat} {cs vs : List Value} (hgd : o.guard = none) (ho : o.op = .store ty x y) (hx : a.eval x = .pointer (some ⟨b, f, none⟩)) (hy : a.eval y = .agg vs.toArray) (h : Blk w b cs t) (hn : cs.length = 198) (hl : f + vs.length ≤ 198) (hi : (Tryz.prog.info? ty).map (·.size) = some vs.length) (h1 : ∀ v ∈ vs, v.oneCell' = true)
    (hr : wpList Tryz.prog ops Q' rest (a.put o.dst undef) (w.setCells b f vs)) : wpList Tryz.prog ops Q' (o :: rest) a w :=
  wpList_store_mid hgd ty x y ho b f vs.toArray hx hy (h.thereAt (by rw [hn]; simpa using hl)) (by simpa using hi) (all_oneCell_toArray h1) (by simpa using hr)
/-- Three fractions in a row. -/
abbrev zR : List Value := rr false 0 false 0
theorem sizeR3 : (Tryz.prog.info? 43).map (·.size) = some 198 := by kernel_rfl
theorem zeroR3 : (Tryz.prog.info? 43).map (·.zero) = some (some (.agg (c3c zR zR zR).toArray)) := by kernel_rfl
theorem r3_len {A B C : List Value} (hA : Rc A) (hB : Rc B) (hC : Rc C) : (c3c A B C).length = 198 := by rw [c3_eq, List.length_append, List.length_append, hA.len, hB.len, hC.len]
theorem wholeR3 {A B C : List Value} (hA : Rc A) (hB : Rc B) (hC : Rc C) : Whole Tryz.prog 43 (c3c A B C).length := by rw [r3_len hA hB hC]; exact ⟨_, Tryz.underlying43, rfl, sizeR3⟩
theorem r3_one {A B C : List Value} (hA : Rc A) (hB : Rc B) (hC : Rc C) : ∀ v ∈ c3c A B C, v.oneCell' = true := fun v hv => by
  rw [c3_eq] at hv
  simp only [List.mem_append] at hv
  rcases hv with h | h | h
  · exact hA.one v h
  · exact hB.one v h
  · exact hC.one v h
theorem alR3 (hgd : o.guard = none) (ho : o.op = .alloc 43)
    (hr : wpList Tryz.prog ops Q' rest (a.put o.dst (.pointer (some ⟨w.heap.size, 0, none⟩))) (w.alloc (.cells (c3c zR zR zR).toArray 43))) : wpList Tryz.prog ops Q' (o :: rest) a w := al_blk hgd ho zeroR3 hr
theorem stR3 {t : TypeId} {x y : Operand} {b : Nat} {cs A B C : List Value} (hgd : o.guard = none) (ho : o.op = .store 43 x y) (hx : a.eval x = .pointer (some ⟨b, 0, none⟩)) (hy : a.eval y = .agg (c3c A B C).toArray) (h : Blk w b cs t) (hl : cs.length = 198) (hA : Rc A) (hB : Rc B) (hC : Rc C)
    (hr : wpList Tryz.prog ops Q' rest (a.put o.dst undef) (w.setRow b (c3c A B C).toArray)) : wpList Tryz.prog ops Q' (o :: rest) a w :=
  st_blk hgd ho hx hy h (by rw [hl, r3_len hA hB hC]) (by rw [r3_len hA hB hC]; exact sizeR3) (r3_one hA hB hC) hr
theorem put0 {w : World} {b : Nat} {t : TypeId} {A B C X : List Value} (h : Blk w b (c3c A B C) t) (hA : Rc A) (hB : Rc B) (hC : Rc C) (hX : Rc X) : Blk (w.setCells b 0 X) b (c3c X B C) t := by
  have := Blk.cellsFrom X w 0 _ h (by rw [r3_len hA hB hC, hX.len]; decide)
  rw [c3_eq, List.take_zero, List.nil_append, Nat.zero_add, List.drop_left' (by rw [hA.len, hX.len])] at this
  rw [c3_eq]; exact this
theorem put1 {w : World} {b : Nat} {t : TypeId} {A B C X : List Value} (h : Blk w b (c3c A B C) t) (hA : Rc A) (hB : Rc B) (hC : Rc C) (hX : Rc X) : Blk (w.setCells b 66 X) b (c3c A X C) t := by
  have := Blk.cellsFrom X w 66 _ h (by rw [r3_len hA hB hC, hX.len]; decide)
  rw [c3_eq, List.take_left' hA.len, ← List.append_assoc, List.drop_left' (by rw [List.length_append, hA.len, hB.len, hX.len]), List.append_assoc] at this
  rw [c3_eq]; exact this
theorem put2 {w : World} {b : Nat} {t : TypeId} {A B C X : List Value} (h : Blk w b (c3c A B C) t) (hA : Rc A) (hB : Rc B) (hC : Rc C) (hX : Rc X) : Blk (w.setCells b 132 X) b (c3c A B X) t := by
  have := Blk.cellsFrom X w 132 _ h (by rw [r3_len hA hB hC, hX.len]; decide)
  rw [c3_eq, ← List.append_assoc, List.take_left' (by rw [List.length_append, hA.len, hB.len]), List.drop_of_length_le (by rw [List.length_append, List.length_append, hA.len, hB.len, hC.len, hX.len]; decide), List.append_nil, List.append_assoc] at this
  rw [c3_eq]; exact this
end
section
variable {P Q R : List Value} (hP : Pc P) (hQ : Pc Q) (hR : Pc R)
include hP hQ hR
set_option maxHeartbeats 8000000 in
theorem sides_w {X0 X1 X2 : List Value} (h0 : Rc X0) (h1 : Rc X1) (h2 : Rc X2) (T0 : Tl 47 #[vl (sdc P Q)] (vl X0)) (T1 : Tl 47 #[vl (sdc Q R)] (vl X1)) (T2 : Tl 47 #[vl (sdc R P)] (vl X2)) : Tl 27 #[vl (cnc P Q R)] (vl (c3c X0 X1 X2)) := fun w => by
  have TC := corners_w hP hQ hR
  unfold vl at *
  have HC := Lib.hid TC
  have HF0 := Lib.hid T0
  have HF1 := Lib.hid T1
  have HF2 := Lib.hid T2
  have HX0 := Lib.hid h0
  have HX1 := Lib.hid h1
  have HX2 := Lib.hid h2
  clear TC T0 T1 T2 h0 h1 h2
  unfold Tl at HC HF0 HF1 HF2
  have HP := Lib.hid hP
  have HQ := Lib.hid hQ
  have HR := Lib.hid hR
  clear hP hQ hR
  have rz : Rc zR := rc_rr _ _ _ _
  have b1 := (((Blk.new w (cnc P Q R) 55 rfl).old (.cells (c3c zR zR zR).toArray 43)).old (.cells (c3c zR zR zR).toArray 43))
  have b2 := ((Blk.new (w.alloc (.cells (cnc P Q R).toArray 55)) (c3c zR zR zR) 43 (b := w.heap.size + 1) (by simp)).old (.cells (c3c zR zR zR).toArray 43))
  have b3 := (Blk.new ((w.alloc (.cells (cnc P Q R).toArray 55)).alloc (.cells (c3c zR zR zR).toArray 43)) (c3c zR zR zR) 43 (b := w.heap.size + 1 + 1) (by simp))
  have hb : Below w.heap.size w (((w.alloc (.cells (cnc P Q R).toArray 55)).alloc (.cells (c3c zR zR zR).toArray 43)).alloc (.cells (c3c zR zR zR).toArray 43)) := ((((Below.refl _ _).alloc (Nat.le_refl _) _).alloc (by simp <;> omega) _).alloc (by simp <;> omega) _)
  have hk : (((w.alloc (.cells (cnc P Q R).toArray 55)).alloc (.cells (c3c zR zR zR).toArray 43)).alloc (.cells (c3c zR zR zR).toArray 43)).heap.size = w.heap.size + 1 + 1 + 1 := by simp
  go_enter Tryz.func27, Tryz.ntmps27
  go_wp2_with (first | (with_reducible refine alR3 rfl rfl ?_) | (with_reducible refine ldP rfl rfl rfl b1 (part_all _) (wholeTr HP.out HQ.out HR.out) ?_))
  try rw [show ((w.alloc (.cells (cnc P Q R).toArray 55)).alloc (.cells (c3c zR zR zR).toArray 43)).heap.size = w.heap.size + 1 + 1 by simp]
  try rw [show (w.alloc (.cells (cnc P Q R).toArray 55)).heap.size = w.heap.size + 1 by simp]
  refine (HC.out _).mono ?_
  rintro e w1 ⟨rfl, h1⟩
  replace b1 := b1.call h1
  replace b2 := b2.call h1
  replace b3 := b3.call h1
  replace hb := bthen hb h1
  clear h1
  go_wp2
  go_loopw [8] (fun i wr => Blk wr w.heap.size (cnc P Q R) 55 ∧ Blk wr (w.heap.size + 1) (c3c zR zR zR) 43 ∧ Below w.heap.size w wr ∧ ((i = .int .i64 0 ∧ Blk wr (w.heap.size + 1 + 1) (c3c zR zR zR) 43) ∨ (i = .int .i64 1 ∧ Blk wr (w.heap.size + 1 + 1) (c3c X0 zR zR) 43) ∨ (i = .int .i64 2 ∧ Blk wr (w.heap.size + 1 + 1) (c3c X0 X1 zR) 43) ∨ (i = .int .i64 3 ∧ Blk wr (w.heap.size + 1 + 1) (c3c X0 X1 X2) 43))) (fun i _ => 3 - (intOf i).toNat)
  case atStart => exact ⟨b1, b2, hb, .inl ⟨rfl, b3⟩⟩
  case round =>
    clear b1 b2 b3 hb
    obtain ⟨b1, b2, hb, hc⟩ := hrel
    rcases hc with ⟨rfl, b3⟩ | ⟨rfl, b3⟩ | ⟨rfl, b3⟩ | ⟨rfl, b3⟩
    · skip
      have f := Blk.new wr (cnc p0 p0 p0) 53 rfl
      have b5 := f.row (cnc P Q R)
      have l1 := b1.lt
      have l2 := b2.lt
      have l3 := b3.lt
      replace b1 := (b1.old (.cells (cnc p0 p0 p0).toArray 53)).rowOther (g := wr.heap.size) (cnc P Q R).toArray (by omega)
      replace b2 := (b2.old (.cells (cnc p0 p0 p0).toArray 53)).rowOther (g := wr.heap.size) (cnc P Q R).toArray (by omega)
      replace b3 := (b3.old (.cells (cnc p0 p0 p0).toArray 53)).rowOther (g := wr.heap.size) (cnc P Q R).toArray (by omega)
      replace hb := below_row (hb.alloc hb.size (.cells (cnc p0 p0 p0).toArray 53)) (g := wr.heap.size) hb.size (cnc P Q R).toArray
      go_wp2_with (first | (with_reducible refine ixC rfl rfl rfl rfl (ix0 HP.out HQ.out HR.out) ?_) | (with_reducible refine alCn rfl rfl ?_) | (with_reducible refine stCn rfl rfl rfl rfl f cn0_len HP.out HQ.out HR.out ?_) | (with_reducible refine ldP rfl rfl rfl b5 cn_s (wholeSd HP.out HQ.out) ?_))
      refine (HF0.out _).mono ?_
      rintro e w1 ⟨rfl, h1⟩
      replace b1 := b1.call h1
      replace b2 := b2.call h1
      replace b3 := b3.call h1
      replace hb := bthen hb h1
      clear h1
      have q1 : 0 + X0.length ≤ 198 := by rw [HX0.out.len]; decide
      have q2 : (Tryz.prog.info? 27).map (·.size) = some X0.length := by rw [HX0.out.len]; exact sizeR
      have q3 := HX0.out.one
      go_wp2_with (first | (with_reducible refine st_part rfl rfl rfl rfl b3 (r3_len rz rz rz) q1 q2 q3 ?_))
      go_roundw
      case rel => exact ⟨b1.cellsOther (by omega) _ _, b2.cellsOther (by omega) _ _, below_cells (by omega) _ _ hb, by first | exact .inr (.inl ⟨rfl, put0 b3 rz rz rz HX0.out⟩) | exact .inr (.inr (.inl ⟨rfl, put1 b3 HX0.out rz rz HX1.out⟩)) | exact .inr (.inr (.inr ⟨rfl, put2 b3 HX0.out HX1.out rz HX2.out⟩))⟩
      case measure => simp [intOf]
    · skip
      have f := Blk.new wr (cnc p0 p0 p0) 53 rfl
      have b5 := f.row (cnc Q R P)
      have l1 := b1.lt
      have l2 := b2.lt
      have l3 := b3.lt
      replace b1 := (b1.old (.cells (cnc p0 p0 p0).toArray 53)).rowOther (g := wr.heap.size) (cnc Q R P).toArray (by omega)
      replace b2 := (b2.old (.cells (cnc p0 p0 p0).toArray 53)).rowOther (g := wr.heap.size) (cnc Q R P).toArray (by omega)
      replace b3 := (b3.old (.cells (cnc p0 p0 p0).toArray 53)).rowOther (g := wr.heap.size) (cnc Q R P).toArray (by omega)
      replace hb := below_row (hb.alloc hb.size (.cells (cnc p0 p0 p0).toArray 53)) (g := wr.heap.size) hb.size (cnc Q R P).toArray
      go_wp2_with (first | (with_reducible refine ixC rfl rfl rfl rfl (ix1 HP.out HQ.out HR.out) ?_) | (with_reducible refine alCn rfl rfl ?_) | (with_reducible refine stCn rfl rfl rfl rfl f cn0_len HQ.out HR.out HP.out ?_) | (with_reducible refine ldP rfl rfl rfl b5 cn_s (wholeSd HQ.out HR.out) ?_))
      refine (HF1.out _).mono ?_
      rintro e w1 ⟨rfl, h1⟩
      replace b1 := b1.call h1
      replace b2 := b2.call h1
      replace b3 := b3.call h1
      replace hb := bthen hb h1
      clear h1
      have q1 : 66 + X1.length ≤ 198 := by rw [HX1.out.len]; decide
      have q2 : (Tryz.prog.info? 27).map (·.size) = some X1.length := by rw [HX1.out.len]; exact sizeR
      have q3 := HX1.out.one
      go_wp2_with (first | (with_reducible refine st_part rfl rfl rfl rfl b3 (r3_len HX0.out rz rz) q1 q2 q3 ?_))
      go_roundw
      case rel => exact ⟨b1.cellsOther (by omega) _ _, b2.cellsOther (by omega) _ _, below_cells (by omega) _ _ hb, by first | exact .inr (.inl ⟨rfl, put0 b3 rz rz rz HX0.out⟩) | exact .inr (.inr (.inl ⟨rfl, put1 b3 HX0.out rz rz HX1.out⟩)) | exact .inr (.inr (.inr ⟨rfl, put2 b3 HX0.out HX1.out rz HX2.out⟩))⟩
      case measure => simp [intOf]
    · skip
      have f := Blk.new wr (cnc p0 p0 p0) 53 rfl
      have b5 := f.row (cnc R P Q)
      have l1 := b1.lt
      have l2 := b2.lt
      have l3 := b3.lt
      replace b1 := (b1.old (.cells (cnc p0 p0 p0).toArray 53)).rowOther (g := wr.heap.size) (cnc R P Q).toArray (by omega)
      replace b2 := (b2.old (.cells (cnc p0 p0 p0).toArray 53)).rowOther (g := wr.heap.size) (cnc R P Q).toArray (by omega)
      replace b3 := (b3.old (.cells (cnc p0 p0 p0).toArray 53)).rowOther (g := wr.heap.size) (cnc R P Q).toArray (by omega)
      replace hb := below_row (hb.alloc hb.size (.cells (cnc p0 p0 p0).toArray 53)) (g := wr.heap.size) hb.size (cnc R P Q).toArray
      go_wp2_with (first | (with_reducible refine ixC rfl rfl rfl rfl (ix2 HP.out HQ.out HR.out) ?_) | (with_reducible refine alCn rfl rfl ?_) | (with_reducible refine stCn rfl rfl rfl rfl f cn0_len HR.out HP.out HQ.out ?_) | (with_reducible refine ldP rfl rfl rfl b5 cn_s (wholeSd HR.out HP.out) ?_))
      refine (HF2.out _).mono ?_
      rintro e w1 ⟨rfl, h1⟩
      replace b1 := b1.call h1
      replace b2 := b2.call h1
      replace b3 := b3.call h1
      replace hb := bthen hb h1
      clear h1
      have q1 : 132 + X2.length ≤ 198 := by rw [HX2.out.len]; decide
      have q2 : (Tryz.prog.info? 27).map (·.size) = some X2.length := by rw [HX2.out.len]; exact sizeR
      have q3 := HX2.out.one
      go_wp2_with (first | (with_reducible refine st_part rfl rfl rfl rfl b3 (r3_len HX0.out HX1.out rz) q1 q2 q3 ?_))
      go_roundw
      case rel => exact ⟨b1.cellsOther (by omega) _ _, b2.cellsOther (by omega) _ _, below_cells (by omega) _ _ hb, by first | exact .inr (.inl ⟨rfl, put0 b3 rz rz rz HX0.out⟩) | exact .inr (.inr (.inl ⟨rfl, put1 b3 HX0.out rz rz HX1.out⟩)) | exact .inr (.inr (.inr ⟨rfl, put2 b3 HX0.out HX1.out rz HX2.out⟩))⟩
      case measure => simp [intOf]
    · go_wp2_with (first | (with_reducible refine ldP rfl rfl rfl b3 (part_all _) (wholeR3 HX0.out HX1.out HX2.out) ?_) | (with_reducible refine stR3 rfl rfl rfl rfl b2 (r3_len rz rz rz) HX0.out HX1.out HX2.out ?_))
      exact ret_c (cs := c3c X0 X1 X2) rfl rfl rfl (wholeR3 HX0.out HX1.out HX2.out) (b2.row _) ⟨rfl, below_row hb (by omega) _⟩
end
end Go.Proofs.YtckolhalggcenaaGreat
