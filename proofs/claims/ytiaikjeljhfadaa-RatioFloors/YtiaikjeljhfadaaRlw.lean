/- What RatioLaws answers. -/
import Derived.Test.YtiaikjeljhfadaaRkn
import Derived.Test.YtiaikjeljhfadaaRqq
namespace Go.Proofs.Ytiaikjeljhfadaa
set_option linter.unusedSimpArgs false
set_option linter.unusedVariables false
open Go.RowKit
set_option maxRecDepth 100000
section
variable {ops : Array Oper} {rest : List Oper} {o : Oper} {a : Act} {w : World} {Q : Exit → Act → World → Prop}
theorem ldRr {t : TypeId} {x : Operand} {b : Nat} {s s' : Bool} {N M : Nat} (hgd : o.guard = none) (ho : o.op = .load 45 x) (hx : a.eval x = .pointer (some ⟨b, 0, none⟩)) (h : Blk w b (rr s N s' M) t)
    (hr : wpList Try.prog ops Q rest (a.put o.dst (.agg (rr s N s' M).toArray)) w) : wpList Try.prog ops Q (o :: rest) a w :=
  ldP hgd ho hx h (part_all _) (wholeR _ _ _ _) hr
theorem ldRg {t : TypeId} {x : Operand} {b : Nat} {s s' : Bool} {N M : Nat} (hw : Region.wanted o (yielded ops a.tmps) = true) (ho : o.op = .load 45 x) (hx : a.eval x = .pointer (some ⟨b, 0, none⟩)) (h : Blk w b (rr s N s' M) t)
    (hr : wpList Try.prog ops Q rest (a.put o.dst (.agg (rr s N s' M).toArray)) w) : wpList Try.prog ops Q (o :: rest) a w :=
  ldPg hw ho hx h (part_all _) (wholeR _ _ _ _) hr
theorem ldFg {t : TypeId} {x : Operand} {b : Nat} {n d : Int} (hw : Region.wanted o (yielded ops a.tmps) = true) (ho : o.op = .load 45 x) (hx : a.eval x = .pointer (some ⟨b, 0, none⟩)) (h : Blk w b (fr n d) t)
    (hr : wpList Try.prog ops Q rest (a.put o.dst (.agg (fr n d).toArray)) w) : wpList Try.prog ops Q (o :: rest) a w :=
  ldPg hw ho hx h (part_all _) (wholeF _ _) hr
theorem neRg {x y : Operand} {n d m e : Int} {ty : TypeId} (hw : Region.wanted o (yielded ops a.tmps) = true) (ho : o.op = .binOp .neq 45 x y ty) (hx : a.eval x = .agg (fr n d).toArray) (hy : a.eval y = .agg (fr m e).toArray) (hn : fits n) (hd : fits d) (hm : fits m) (he : fits e)
    (hr : wpList Try.prog ops Q rest (a.put o.dst (.bool (!decide (n = m ∧ d = e)))) w) : wpList Try.prog ops Q (o :: rest) a w :=
  BigFrame.wpList_want hw fun _ hK => by
    have := hK _ _ hr
    unfold Oper.wp
    rw [op_neqR hn hd hm he ho hx hy w]
    exact this
end
set_option maxHeartbeats 1000000 in
theorem rlaws_a (s0 : Bool) (N0 : Nat) (t0 : Bool) (M0 : Nat) (s1 : Bool) (N1 : Nat) (t1 : Bool) (M1 : Nat) (s2 : Bool) (N2 : Nat) (t2 : Bool) (M2 : Nat) (S1 : Tl 43 #[.agg (rr s0 N0 t0 M0).toArray, .int .i64 100] (.bool false)) (w : World) :
    Calls Try.prog 5 #[.agg (rr s0 N0 t0 M0).toArray, .agg (rr s1 N1 t1 M1).toArray, .agg (rr s2 N2 t2 M2).toArray] w fun e w' => e = .returned (.bool true) ∧ Below w.heap.size w w' := by
  have HS1 := Lib.hid S1
  unfold Tl at *
  clear S1
  generalize hx : rr s1 N1 t1 M1 = X
  generalize hy : rr s2 N2 t2 M2 = Y
  clear hx hy
  have b3 := ((Blk.new w (rr s0 N0 t0 M0) 45 rfl).old (.cells (X).toArray 45)).old (.cells (Y).toArray 45)
  have b4 := (Blk.new (w.alloc (.cells (rr s0 N0 t0 M0).toArray 45)) (X) 45 (b := w.heap.size + 1) (by simp)).old (.cells (Y).toArray 45)
  have b5 := Blk.new ((w.alloc (.cells (rr s0 N0 t0 M0).toArray 45)).alloc (.cells (X).toArray 45)) (Y) 45 (b := w.heap.size + 1 + 1) (by simp)
  have hb : Below w.heap.size w (((w.alloc (.cells (rr s0 N0 t0 M0).toArray 45)).alloc (.cells (X).toArray 45)).alloc (.cells (Y).toArray 45)) := (((Below.refl _ _).alloc (Nat.le_refl _) _).alloc (by simp) _).alloc (by simp; omega) _
  go_enter Try.func5, Try.ntmps5
  go_wp2_with fail
  refine (known2_any _).mono ?_
  rintro e w1 ⟨rfl, h1⟩
  replace b3 := b3.call h1
  replace b4 := b4.call h1
  replace b5 := b5.call h1
  replace hb := bthen hb h1
  clear h1
  go_wp2_with (first | (with_reducible refine ldRr rfl rfl rfl b3 ?_))
  refine (HS1.out _).mono ?_
  rintro e w1 ⟨rfl, h1⟩
  replace hb := bthen hb h1
  clear h1
  go_wp2
  go_ret
  exact ⟨rfl, hb⟩
set_option maxHeartbeats 1000000 in
theorem rlaws_b (n d : Int) (s1 : Bool) (N1 : Nat) (t1 : Bool) (M1 : Nat) (s2 : Bool) (N2 : Nat) (t2 : Bool) (M2 : Nat) (S1 : Tl 43 #[vf n d, .int .i64 100] (.bool true)) (S2 : Tl 43 #[.agg (rr s1 N1 t1 M1).toArray, .int .i64 100] (.bool false)) (w : World) :
    Calls Try.prog 5 #[vf n d, .agg (rr s1 N1 t1 M1).toArray, .agg (rr s2 N2 t2 M2).toArray] w fun e w' => e = .returned (.bool true) ∧ Below w.heap.size w w' := by
  unfold vf at *
  have HS1 := Lib.hid S1
  have HS2 := Lib.hid S2
  unfold Tl at *
  clear S1 S2
  generalize hy : rr s2 N2 t2 M2 = Y
  clear hy
  have b3 := ((Blk.new w (fr n d) 45 rfl).old (.cells (rr s1 N1 t1 M1).toArray 45)).old (.cells (Y).toArray 45)
  have b4 := (Blk.new (w.alloc (.cells (fr n d).toArray 45)) (rr s1 N1 t1 M1) 45 (b := w.heap.size + 1) (by simp)).old (.cells (Y).toArray 45)
  have b5 := Blk.new ((w.alloc (.cells (fr n d).toArray 45)).alloc (.cells (rr s1 N1 t1 M1).toArray 45)) (Y) 45 (b := w.heap.size + 1 + 1) (by simp)
  have hb : Below w.heap.size w (((w.alloc (.cells (fr n d).toArray 45)).alloc (.cells (rr s1 N1 t1 M1).toArray 45)).alloc (.cells (Y).toArray 45)) := (((Below.refl _ _).alloc (Nat.le_refl _) _).alloc (by simp) _).alloc (by simp; omega) _
  go_enter Try.func5, Try.ntmps5
  go_wp2_with fail
  refine (known2_any _).mono ?_
  rintro e w1 ⟨rfl, h1⟩
  replace b3 := b3.call h1
  replace b4 := b4.call h1
  replace b5 := b5.call h1
  replace hb := bthen hb h1
  clear h1
  go_wp2_with (first | (with_reducible refine ldFr rfl rfl rfl b3 ?_))
  refine (HS1.out _).mono ?_
  rintro e w1 ⟨rfl, h1⟩
  replace b4 := b4.call h1
  replace hb := bthen hb h1
  clear h1
  go_wp2_with (first | (refine ldRg (by rfl) rfl rfl b4 ?_))
  refine (HS2.out _).mono ?_
  rintro e w1 ⟨rfl, h1⟩
  replace hb := bthen hb h1
  clear h1
  go_wp2
  go_ret
  exact ⟨rfl, hb⟩
set_option maxHeartbeats 1000000 in
theorem rlaws_c (n d m e : Int) (s2 : Bool) (N2 : Nat) (t2 : Bool) (M2 : Nat) (S1 : Tl 43 #[vf n d, .int .i64 100] (.bool true)) (S2 : Tl 43 #[vf m e, .int .i64 100] (.bool true)) (S3 : Tl 43 #[.agg (rr s2 N2 t2 M2).toArray, .int .i64 100] (.bool false)) (w : World) :
    Calls Try.prog 5 #[vf n d, vf m e, .agg (rr s2 N2 t2 M2).toArray] w fun e w' => e = .returned (.bool true) ∧ Below w.heap.size w w' := by
  unfold vf at *
  have HS1 := Lib.hid S1
  have HS2 := Lib.hid S2
  have HS3 := Lib.hid S3
  unfold Tl at *
  clear S1 S2 S3
  have b3 := ((Blk.new w (fr n d) 45 rfl).old (.cells (fr m e).toArray 45)).old (.cells (rr s2 N2 t2 M2).toArray 45)
  have b4 := (Blk.new (w.alloc (.cells (fr n d).toArray 45)) (fr m e) 45 (b := w.heap.size + 1) (by simp)).old (.cells (rr s2 N2 t2 M2).toArray 45)
  have b5 := Blk.new ((w.alloc (.cells (fr n d).toArray 45)).alloc (.cells (fr m e).toArray 45)) (rr s2 N2 t2 M2) 45 (b := w.heap.size + 1 + 1) (by simp)
  have hb : Below w.heap.size w (((w.alloc (.cells (fr n d).toArray 45)).alloc (.cells (fr m e).toArray 45)).alloc (.cells (rr s2 N2 t2 M2).toArray 45)) := (((Below.refl _ _).alloc (Nat.le_refl _) _).alloc (by simp) _).alloc (by simp; omega) _
  go_enter Try.func5, Try.ntmps5
  go_wp2_with fail
  refine (known2_any _).mono ?_
  rintro e w1 ⟨rfl, h1⟩
  replace b3 := b3.call h1
  replace b4 := b4.call h1
  replace b5 := b5.call h1
  replace hb := bthen hb h1
  clear h1
  go_wp2_with (first | (with_reducible refine ldFr rfl rfl rfl b3 ?_))
  refine (HS1.out _).mono ?_
  rintro e w1 ⟨rfl, h1⟩
  replace b4 := b4.call h1
  replace b5 := b5.call h1
  replace hb := bthen hb h1
  clear h1
  go_wp2_with (first | (refine ldFg (by rfl) rfl rfl b4 ?_))
  refine (HS2.out _).mono ?_
  rintro e w1 ⟨rfl, h1⟩
  replace b5 := b5.call h1
  replace hb := bthen hb h1
  clear h1
  go_wp2_with (first | (refine ldRg (by rfl) rfl rfl b5 ?_))
  refine (HS3.out _).mono ?_
  rintro e w1 ⟨rfl, h1⟩
  replace hb := bthen hb h1
  clear h1
  go_wp2
  go_ret
  exact ⟨rfl, hb⟩
end Go.Proofs.Ytiaikjeljhfadaa
