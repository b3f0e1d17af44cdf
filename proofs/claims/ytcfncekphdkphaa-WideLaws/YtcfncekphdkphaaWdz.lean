/- Wides as whole numbers: the calls with the division, comparing, what is loaded behind a guard. -/
import Derived.Test.YtcfncekphdkphaaDvd
import Derived.Test.YtcfncekphdkphaaLay
namespace Go.Proofs.Ytcfncekphdkphaa
set_option linter.unusedSimpArgs false
set_option linter.unusedVariables false
open Go.RowKit
set_option maxRecDepth 100000
theorem Gcd_z {cs ds : List Value} {x y : Int} (hx : Wd cs x) (hy : Wd ds y) (w : World) :
    Calls Try.prog 35 #[.agg cs.toArray, .agg ds.toArray] w fun e w' => e = .returned (.agg (mk (Int.gcd x y : Nat)).toArray) ∧ Below w.heap.size w w' := by
  have h : max x.natAbs y.natAbs < bb ^ 32 := Nat.max_lt.2 ⟨hx.fits, hy.fits⟩
  exact Gcd_w hx hy _ h (Nat.le_max_left _ _) (Nat.le_max_right _ _) (divOk h) w
theorem DivMod_z {cs ds : List Value} {x y : Int} (hx : Wd cs x) (hy : Wd ds y) (h0 : y ≠ 0) (w : World) :
    Calls Try.prog 19 #[.agg cs.toArray, .agg ds.toArray] w fun e w' => e = .returned (.tuple #[.agg (mk (x.tdiv y)).toArray, .agg (mk (x.tmod y)).toArray, .bool true]) ∧ Below w.heap.size w w' := by
  have h : max x.natAbs y.natAbs < bb ^ 32 := Nat.max_lt.2 ⟨hx.fits, hy.fits⟩
  exact DivMod_w hx hy h0 _ (Nat.le_max_left _ _) (Nat.le_max_right _ _) (divOk h) w
theorem is_mk {z : Int} (h : fits z) (w : World) : Calls Try.prog 31 #[.agg (mk z).toArray] w fun e w' => e = .returned (.bool true) ∧ Below w.heap.size w w' :=
  (Is_any (decide (z < 0)) z.natAbs w h).mono fun _ _ ⟨he, hb⟩ => ⟨he.trans (by
    have : (!decide (z < 0) || decide (z.natAbs ≠ 0)) = true := by
      by_cases hz : z < 0
      · have : z.natAbs ≠ 0 := by omega
        simp [this]
      · simp [hz]
    rw [this]), hb⟩
/-- A Wide is a 0 with a sign, or stands as its number is written. -/
theorem wide_cases (s : Bool) {N : Nat} (hN : N < bb ^ 32) : wd s N = wd true 0 ∨ ∃ z, fits z ∧ wd s N = mk z := by
  by_cases hc : s = true ∧ N = 0
  · obtain ⟨rfl, rfl⟩ := hc; exact .inl rfl
  · have e : (s && decide (N ≠ 0)) = s := by
      cases s
      · rfl
      · have : N ≠ 0 := fun h => hc ⟨rfl, h⟩
        simp [this]
    have hm := wd_mk s N
    rw [e] at hm
    exact .inr ⟨zn s N, by rw [fits, zn_abs]; exact hN, hm⟩
theorem mk_inj_iff {x y : Int} : (decide (x < 0) = decide (y < 0) ∧ x.natAbs = y.natAbs) ↔ x = y := by
  constructor
  · rintro ⟨h1, h2⟩
    have : (x < 0) ↔ (y < 0) := by simpa using h1
    omega
  · rintro rfl; exact ⟨rfl, rfl⟩
theorem op_eqZ {o : Oper} {a : Act} {x y : Operand} {u v : Int} {ty : TypeId} (hu : fits u) (hv : fits v) (ho : o.op = .binOp .eql 25 x y ty) (hx : a.eval x = .agg (mk u).toArray) (hy : a.eval y = .agg (mk v).toArray) (w : World) :
    (execOp a.eval o).run Try.prog w = .ok (.value (.bool (decide (u = v)))) w := by
  rw [op_eq hu hv ho hx hy w, decide_eq_decide.2 mk_inj_iff]
theorem op_neqZ {o : Oper} {a : Act} {x y : Operand} {u v : Int} {ty : TypeId} (hu : fits u) (hv : fits v) (ho : o.op = .binOp .neq 25 x y ty) (hx : a.eval x = .agg (mk u).toArray) (hy : a.eval y = .agg (mk v).toArray) (w : World) :
    (execOp a.eval o).run Try.prog w = .ok (.value (.bool (!decide (u = v)))) w := by
  unfold execOp
  simp only [ho, hx, hy]
  unfold mk
  rw [Sem.run_bind, run_neqW _ _ _ _ hu hv, decide_eq_decide.2 mk_inj_iff]
  rfl
section
variable {ops : Array Oper} {rest : List Oper} {o : Oper} {a : Act} {w : World} {Q : Exit → Act → World → Prop}
theorem ldMg {t : TypeId} {x : Operand} {b : Nat} {z : Int} (hw : Region.wanted o (yielded ops a.tmps) = true) (ho : o.op = .load 25 x) (hx : a.eval x = .pointer (some ⟨b, 0, none⟩)) (h : Blk w b (mk z) t)
    (hr : wpList Try.prog ops Q rest (a.put o.dst (.agg (mk z).toArray)) w) : wpList Try.prog ops Q (o :: rest) a w :=
  BigFrame.wpList_want hw fun _ hK => wp_ldB ho hx h (wholeM _) (hK _ _ hr)
theorem eqZ {x y : Operand} {u v : Int} {ty : TypeId} (hgd : o.guard = none) (ho : o.op = .binOp .eql 25 x y ty) (hx : a.eval x = .agg (mk u).toArray) (hy : a.eval y = .agg (mk v).toArray) (hu : fits u) (hv : fits v)
    (hr : wpList Try.prog ops Q rest (a.put o.dst (.bool (decide (u = v)))) w) : wpList Try.prog ops Q (o :: rest) a w :=
  wpList_plain hgd fun _ hK => by
    have := hK _ _ hr
    unfold Oper.wp
    rw [op_eqZ hu hv ho hx hy w]
    exact this
theorem eqZg {x y : Operand} {u v : Int} {ty : TypeId} (hw : Region.wanted o (yielded ops a.tmps) = true) (ho : o.op = .binOp .eql 25 x y ty) (hx : a.eval x = .agg (mk u).toArray) (hy : a.eval y = .agg (mk v).toArray) (hu : fits u) (hv : fits v)
    (hr : wpList Try.prog ops Q rest (a.put o.dst (.bool (decide (u = v)))) w) : wpList Try.prog ops Q (o :: rest) a w :=
  BigFrame.wpList_want hw fun _ hK => by
    have := hK _ _ hr
    unfold Oper.wp
    rw [op_eqZ hu hv ho hx hy w]
    exact this
theorem neZ {x y : Operand} {u v : Int} {ty : TypeId} (hgd : o.guard = none) (ho : o.op = .binOp .neq 25 x y ty) (hx : a.eval x = .agg (mk u).toArray) (hy : a.eval y = .agg (mk v).toArray) (hu : fits u) (hv : fits v)
    (hr : wpList Try.prog ops Q rest (a.put o.dst (.bool (!decide (u = v)))) w) : wpList Try.prog ops Q (o :: rest) a w :=
  wpList_plain hgd fun _ hK => by
    have := hK _ _ hr
    unfold Oper.wp
    rw [op_neqZ hu hv ho hx hy w]
    exact this
theorem neZg {x y : Operand} {u v : Int} {ty : TypeId} (hw : Region.wanted o (yielded ops a.tmps) = true) (ho : o.op = .binOp .neq 25 x y ty) (hx : a.eval x = .agg (mk u).toArray) (hy : a.eval y = .agg (mk v).toArray) (hu : fits u) (hv : fits v)
    (hr : wpList Try.prog ops Q rest (a.put o.dst (.bool (!decide (u = v)))) w) : wpList Try.prog ops Q (o :: rest) a w :=
  BigFrame.wpList_want hw fun _ hK => by
    have := hK _ _ hr
    unfold Oper.wp
    rw [op_neqZ hu hv ho hx hy w]
    exact this
end
end Go.Proofs.Ytcfncekphdkphaa
