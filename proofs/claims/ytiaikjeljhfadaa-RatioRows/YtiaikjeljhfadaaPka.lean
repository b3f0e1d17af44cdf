/- What known answers, of points: its examples. -/
import Derived.Test.YtiaikjeljhfadaaPkn
namespace Go.Proofs.Ytiaikjeljhfadaa
set_option linter.unusedSimpArgs false
set_option linter.unusedVariables false
open Go.RowKit
theorem gd_int {n m : Int} (hn : n.natAbs < 2 ^ 60) (hm : m.natAbs < 2 ^ 60) : Gd (n : Rat) (m : Rat) := ⟨bq_int hn (by omega), bq_int hm (by omega)⟩
theorem Mid_two {x y u v : Rat} (h : Gd x y) (h' : Gd u v) {w : World} {b : Nat} {t : TypeId} (hb : Blk w b (j2 (fq x ++ fq y) (fq u ++ fq v)) t) :
    Calls Try.prog 59 #[.slice (some ⟨b, 0, none⟩) 2 2] w fun e w' => e = .returned (.tuple #[vp ((x + u) / 2) ((y + v) / 2), .bool true]) ∧ Below w.heap.size w w' := by
  have := Mid_q (n := 2) (b := b) (f := 0) (c := 2) (x := fun k => if k = 0 then x else u) (y := fun k => if k = 0 then y else v) (w := w) (by omega) (by omega) (fun k hk => by
    rcases (show k = 0 ∨ k = 1 by omega) with rfl | rfl
    · exact h
    · exact h') hb.lt (fun k hk => by
    have hr := pr_two (rc_q x) (rc_q y) (rc_q u) (rc_q v) hb k hk
    rcases (show k = 0 ∨ k = 1 by omega) with rfl | rfl
    · exact hr
    · exact hr)
  have e1 : ∀ a b : Rat, sumq (fun k => if k = 0 then a else b) 2 / ((2 : Nat) : Int) = (a + b) / 2 := fun a b => by
    show (0 + a + b) / ((2 : Int) : Rat) = (a + b) / 2
    rw [Rat.zero_add]; rfl
  rwa [e1, e1] at this
theorem f2_int {n : Int} (h : n.natAbs < 2 ^ 60) : Fq2 (n : Rat) := (bq_int (k := 60) h (by omega)).f2 (by omega)
theorem known3_any (w : World) : Calls Try.prog 55 #[] w fun e w' => e = .returned (.bool true) ∧ Below w.heap.size w w' := by
  have g0 : Gd ((0 : Int) : Rat) ((0 : Int) : Rat) := gd_int (by decide) (by decide)
  have g1 : Gd ((3 : Int) : Rat) ((0 : Int) : Rat) := gd_int (by decide) (by decide)
  have g2 : Gd ((0 : Int) : Rat) ((4 : Int) : Rat) := gd_int (by decide) (by decide)
  have hh : Bq 60 (Rat.divInt 3 2) := ⟨by show (3 : Int).natAbs < 2 ^ 60; decide, by show (2 : Int).natAbs < 2 ^ 60; decide⟩
  have T := Turn_q g0 g1 g2
  have C := Cross_q g0 g1 g2
  have D := Dot_q g0 g1 g2
  have F := Far_q g1 g2
  have R := Cmpp_q g0 g1
  rw [show crs ((0 : Int) : Rat) ((0 : Int) : Rat) ((3 : Int) : Rat) ((0 : Int) : Rat) ((0 : Int) : Rat) ((4 : Int) : Rat) = ((12 : Int) : Rat) by decide +kernel] at T C
  rw [show cq ((12 : Int) : Rat) 0 = 1 by decide +kernel] at T
  rw [show dt ((0 : Int) : Rat) ((0 : Int) : Rat) ((3 : Int) : Rat) ((0 : Int) : Rat) ((0 : Int) : Rat) ((4 : Int) : Rat) = ((0 : Int) : Rat) by decide +kernel] at D
  rw [show dt ((3 : Int) : Rat) ((0 : Int) : Rat) ((0 : Int) : Rat) ((4 : Int) : Rat) ((0 : Int) : Rat) ((4 : Int) : Rat) = ((25 : Int) : Rat) by decide +kernel] at F
  rw [show cp ((0 : Int) : Rat) ((0 : Int) : Rat) ((3 : Int) : Rat) ((0 : Int) : Rat) = -1 by decide +kernel] at R
  refine known3_walk (f2_int (by decide)) (f2_int (by decide)) (f2_int (by decide)) (hh.f2 (by omega)) (f2_int (n := 2) (by decide)) (At_q (n := 0) (m := 0) (by decide) (by decide)) (At_q (n := 3) (m := 0) (by decide) (by decide)) (At_q (n := 0) (m := 4) (by decide) (by decide)) T C D F (fun {w b t} h => ?_) R
    (Whole_q (n := 12) (by decide)) (Whole_q (n := 0) (by decide)) (Whole_q (n := 25) (by decide)) half_q (Whole_q (n := 2) (by decide)) (Isp_q ⟨hh, (gd_int (n := 2) (m := 2) (by decide) (by decide)).1⟩) ?_ w
  · have := Mid_two g1 g2 h
    rwa [show (((3 : Int) : Rat) + ((0 : Int) : Rat)) / 2 = Rat.divInt 3 2 by decide +kernel, show (((0 : Int) : Rat) + ((4 : Int) : Rat)) / 2 = ((2 : Int) : Rat) by decide +kernel] at this
  · have h0 : Tl 43 #[.agg (rr false 0 false 0).toArray, .int .i64 ((60 : Nat) : Int)] (.bool false) := by
      rcases safe_cases false (N := 0) false (M := 0) (bp_pos 32) (bp_pos 32) 60 with h | ⟨n, d, e, hn, hd, hr, _⟩
      · exact h
      · exfalso
        have e1 : wd false 0 = mk n ∧ wd false 0 = mk d := List.append_inj e (by rw [wd_length, mk_length])
        have e2 : wc 0 = wc d.natAbs := (List.cons.inj e1.2).2
        have h3 := hr.1
        have : (0 : Nat) = d.natAbs := by
          rw [← Nat.mod_eq_of_lt hd, ← Nat.mod_eq_of_lt (bp_pos 32)]
          refine mod_eq_of_dig _ _ 32 fun i hi => ?_
          have := congrArg (fun l => l[i]?) e2
          simp only [wc_get _ i hi, Option.some.injEq, Value.int.injEq] at this
          omega
        omega
    exact Isp_walk (s := false) (t := false) (rc_rr _ _ _ _) (rc_rr _ _ _ _) h0 h0
end Go.Proofs.Ytiaikjeljhfadaa
