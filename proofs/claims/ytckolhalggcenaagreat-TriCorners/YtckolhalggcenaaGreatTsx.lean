/- Joined of: Mrp Tsx. -/
import Derived.Test.YtckolhalggcenaaGreatMrf
import Derived.Test.YtckolhalggcenaaGreatTru
/- The reference: sums of tiny fractions. -/
namespace Go.Proofs.YtckolhalggcenaaGreat
set_option linter.unusedSimpArgs false
set_option linter.unusedVariables false
open Go.RowKit
set_option maxRecDepth 100000
theorem op_addL {o : Oper} {a : Act} {x y : Operand} {ty : TypeId} {m k q : Int} (h : m + k = q) (hq : -9223372036854775808 ≤ q ∧ q ≤ 9223372036854775807) (ho : o.op = .binOp .add 2 x y ty) (hx : a.eval x = .int .i64 m) (hy : a.eval y = .int .i64 k) (w : World) :
    (execOp a.eval o).run Tryz.prog w = .ok (.value (.int .i64 q)) w := by
  subst h
  have hw : IntKind.i64.wrap (m + k) = m + k := IntWalk.i64_in _ hq
  unfold execOp
  simp only [ho, hx, hy]
  go_simp <;> simp_all
theorem addL {ops : Array Oper} {rest : List Oper} {o : Oper} {a : Act} {w : World} {Q : Exit → Act → World → Prop} {x y : Operand} {ty : TypeId} {m k q : Int} (h : m + k = q) (hq : -9223372036854775808 ≤ q ∧ q ≤ 9223372036854775807) (hgd : o.guard = none) (ho : o.op = .binOp .add 2 x y ty) (hx : a.eval x = .int .i64 m) (hy : a.eval y = .int .i64 k)
    (hr : wpList Tryz.prog ops Q rest (a.put o.dst (.int .i64 q)) w) : wpList Tryz.prog ops Q (o :: rest) a w :=
  wpList_plain hgd fun K hK => by
    have := hK _ _ hr
    unfold Oper.wp
    rw [op_addL h hq ho hx hy w]
    exact this
set_option maxHeartbeats 4000000 in
theorem plus_t {A B C : List Value} {p q r s m k t d : Int} (hA : Rc A) (hB : Rc B) (hC : Rc C) (T : Tl 19 #[vl A, vl B] (.tuple #[.int .i64 p, .int .i64 q, .int .i64 r, .int .i64 s, .bool true])) (hm : p * s = m) (hk : r * q = k) (ht : m + k = t) (hd : q * s = d)
    (rm : -9223372036854775808 ≤ m ∧ m ≤ 9223372036854775807) (rk : -9223372036854775808 ≤ k ∧ k ≤ 9223372036854775807) (rt : -9223372036854775808 ≤ t ∧ t ≤ 9223372036854775807) (rd : -9223372036854775808 ≤ d ∧ d ≤ 9223372036854775807)
    (X : Tl 71 #[.int .i64 t, .int .i64 d] (vl C)) :
    Tl 70 #[vl A, vl B, .bool false] (.tuple #[vl C, .bool true]) := by
  intro w
  unfold vl at *
  have HT := Lib.hid T
  have HX := Lib.hid X
  have HA := Lib.hid hA
  have HB := Lib.hid hB
  have HC := Lib.hid hC
  have HM := Lib.hid hm
  have HK := Lib.hid hk
  have HD := Lib.hid hd
  unfold Tl at HT HX
  clear T X hA hB hC hm hk hd
  have b3 := (((Blk.new w (A) 27 rfl).old (.cells (B).toArray 27)).old (.cells (rr false 0 false 0).toArray 27))
  have b4 := ((Blk.new (w.alloc (.cells (A).toArray 27)) (B) 27 (b := w.heap.size + 1) (by simp)).old (.cells (rr false 0 false 0).toArray 27))
  have b6 := (Blk.new ((w.alloc (.cells (A).toArray 27)).alloc (.cells (B).toArray 27)) (rr false 0 false 0) 27 (b := w.heap.size + 1 + 1) (by simp))
  have hb : Below w.heap.size w (((w.alloc (.cells (A).toArray 27)).alloc (.cells (B).toArray 27)).alloc (.cells (rr false 0 false 0).toArray 27)) := ((((Below.refl _ _).alloc (Nat.le_refl _) _).alloc (by simp <;> omega) _).alloc (by simp <;> omega) _)
  have hk : (((w.alloc (.cells (A).toArray 27)).alloc (.cells (B).toArray 27)).alloc (.cells (rr false 0 false 0).toArray 27)).heap.size = w.heap.size + 1 + 1 + 1 := by simp
  go_enter Tryz.func70, Tryz.ntmps70
  go_wp2_with (first | (with_reducible refine ldA' rfl rfl rfl b3 HA.out ?_) | (with_reducible refine ldA' rfl rfl rfl b4 HB.out ?_) | (with_reducible refine alR rfl rfl ?_))
  try rw [show ((w.alloc (.cells (A).toArray 27)).alloc (.cells (B).toArray 27)).heap.size = w.heap.size + 1 + 1 by simp]
  clear hk
  refine (HT.out _).mono ?_
  rintro e w1 ⟨rfl, h1⟩
  replace b6 := b6.call h1
  replace hb := bthen hb h1
  clear h1
  go_wp2_with (first | (with_reducible refine mulL HM.out rm rfl rfl rfl rfl ?_) | (with_reducible refine mulL HK.out rk rfl rfl rfl rfl ?_) | (with_reducible refine mulL HD.out rd rfl rfl rfl rfl ?_) | (with_reducible refine addL ht rt rfl rfl rfl rfl ?_))
  refine (HX.out _).mono ?_
  rintro e w1 ⟨rfl, h1⟩
  replace b6 := b6.call h1
  replace hb := bthen hb h1
  clear h1
  go_wp2_with (first | (with_reducible refine stQ rfl rfl rfl rfl b6 (rr_length _ _ _ _) HC.out ?_))
  exact ret_ct (cs := C) rfl rfl rfl rfl HC.out.whole (b6.row _) ⟨rfl, below_row hb (by omega) _⟩
end Go.Proofs.YtckolhalggcenaaGreat

/- What TriSides answers. -/
namespace Go.Proofs.YtckolhalggcenaaGreat
set_option linter.unusedSimpArgs false
set_option linter.unusedVariables false
open Go.RowKit
set_option maxRecDepth 100000
end Go.Proofs.YtckolhalggcenaaGreat
