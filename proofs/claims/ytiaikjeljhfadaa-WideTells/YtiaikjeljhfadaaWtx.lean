/- WideTells answers true of every two Wides and two numbers. No conditions. -/
import Derived.Test.YtiaikjeljhfadaaWtf
import Derived.Test.YtiaikjeljhfadaaWtt
import Derived.Test.YtiaikjeljhfadaaOpn
import Derived.Test.YtiaikjeljhfadaaRows
import Derived.WalkKit
import Derived.ProofKit
import Derived.OpenShut
namespace Go.Proofs.Ytiaikjeljhfadaa
set_option linter.unusedSimpArgs false
set_option linter.unusedVariables false
open Go.RowKit
theorem i64_wf {a : Int} (h : (Lit.int .i64 a).wf = true) : -9223372036854775808 ≤ a ∧ a ≤ 9223372036854775807 := by
  simp only [Lit.wf, Bool.and_eq_true, decide_eq_true_eq] at h
  exact h
section
variable {cs ds : List Value} {x y z : Int} {o : Bool} (hx : Wd cs x) (hy : Wd ds y)
include hx hy
theorem Add_f (hz : Fz (x + y) z o) : Tl 13 #[.agg cs.toArray, .agg ds.toArray] (.tuple #[vw z, .bool o]) := fun w => by
  rcases hz.2 with ⟨h, rfl, rfl⟩ | ⟨h, rfl, rfl⟩
  · exact Add_w hx hy w h
  · exact Add_wn hx hy w h
theorem Sub_f (hz : Fz (x - y) z o) : Tl 15 #[.agg cs.toArray, .agg ds.toArray] (.tuple #[vw z, .bool o]) := fun w => by
  rcases hz.2 with ⟨h, rfl, rfl⟩ | ⟨h, rfl, rfl⟩
  · exact Sub_w hx hy w h
  · exact Sub_wn hx hy w h
theorem Mul_f (hz : Fz (x * y) z o) : Tl 17 #[.agg cs.toArray, .agg ds.toArray] (.tuple #[vw z, .bool o]) := fun w => by
  rcases hz.2 with ⟨h, rfl, rfl⟩ | ⟨h, rfl, rfl⟩
  · exact Mul_w hx hy w h
  · exact Mul_wn hx hy w h
end
theorem Shl_f {cs : List Value} {x z : Int} {o : Bool} (hx : Wd cs x) {k : Int} (hk : -9223372036854775808 ≤ k ∧ k ≤ 9223372036854775807) (hz : Fz (x * 2 ^ held k) z o) : Tl 21 #[.agg cs.toArray, .int .i64 k] (.tuple #[vw z, .bool o]) := fun w => by
  rcases hz.2 with ⟨h, rfl, rfl⟩ | ⟨h, rfl, rfl⟩
  · exact Shl_w hx k w hk.1 hk.2 h
  · exact Shl_wn hx k w hk.1 hk.2 h
theorem div_both (s : Bool) {N : Nat} (t : Bool) {M : Nat} (hN : N < bb ^ 32) (hM : M < bb ^ 32) : ∃ (q r : Int) (o : Bool), fits q ∧ fits r ∧ Tl 19 #[.agg (wd s N).toArray, .agg (wd t M).toArray] (.tuple #[vw q, vw r, .bool o]) ∧ Tl 20 #[.agg (wd s N).toArray, .agg (wd t M).toArray] (.tuple #[vw q, vw r, .bool o]) := by
  have hx : Wd (wd s N) (zn s N) := ⟨s, N, rfl, rfl, hN⟩
  by_cases h0 : M = 0
  · subst h0
    have hy : Wd (wd t 0) 0 := ⟨t, 0, rfl, by cases t <;> rfl, bp_pos 32⟩
    exact ⟨0, 0, false, bp_pos 32, bp_pos 32, fun w => DivMod_wz hx hy w, DivModref_zero s t hN⟩
  · have hy : Wd (wd t M) (zn t M) := ⟨t, M, rfl, rfl, hM⟩
    have hz : zn t M ≠ 0 := fun h => h0 (by have := zn_abs t M; rw [h] at this; exact this.symm)
    have e1 : ((zn s N).tdiv (zn t M)).natAbs ≤ N := by rw [Int.natAbs_tdiv, zn_abs, zn_abs]; exact Nat.div_le_self _ _
    have e2 : ((zn s N).tmod (zn t M)).natAbs ≤ N := by rw [Int.natAbs_tmod, zn_abs, zn_abs]; exact Nat.mod_le _ _
    exact ⟨_, _, true, Nat.lt_of_le_of_lt e1 hN, Nat.lt_of_le_of_lt e2 hN, fun w => DivMod_z hx hy hz w, DivModref_any s t hN hM h0⟩
theorem wtells_all (s : Bool) (N : Nat) (hN : N < bb ^ 32) (t : Bool) (M : Nat) (hM : M < bb ^ 32) (n : Int) (w1 : (Lit.int .i64 n).wf = true) (k : Int) (w2 : (Lit.int .i64 k).wf = true) (w : World) :
    Calls Try.prog 3 #[.agg (wd s N).toArray, .agg (wd t M).toArray, .int .i64 n, .int .i64 k] w fun e w' => e = .returned (.bool true) ∧ Below w.heap.size w w' := by
  have hx : Wd (wd s N) (zn s N) := ⟨s, N, rfl, rfl, hN⟩
  have hy : Wd (wd t M) (zn t M) := ⟨t, M, rfl, rfl, hM⟩
  have hn := i64_wf w1
  have hk := i64_wf w2
  obtain ⟨z1, o1, h1⟩ := fz_ex (zn s N + zn t M)
  obtain ⟨z2, o2, h2⟩ := fz_ex (zn s N - zn t M)
  obtain ⟨z3, o3, h3⟩ := fz_ex (zn s N * zn t M)
  obtain ⟨z5, o5, h5⟩ := fz_ex (zn s N * 2 ^ held k)
  obtain ⟨q, r, od, hq, hr, D1, D2⟩ := div_both s t hN hM
  obtain ⟨j, o, hj, F2⟩ := Intref_any s hN
  have fn : fits n := fits_of (by omega) (by omega)
  have f6 : fits (-(zn s N)) := fits_neg hx.fits
  have f9 : fits ((Int.gcd (zn s N) (zn t M) : Nat) : Int) := by
    show ((Int.gcd (zn s N) (zn t M) : Nat) : Int).natAbs < bb ^ 32
    rw [Int.natAbs_natCast]
    unfold Int.gcd
    rw [zn_abs, zn_abs]
    by_cases h : N = 0
    · subst h; rw [Nat.gcd_zero_left]; exact hM
    · exact Nat.lt_of_le_of_lt (Nat.gcd_le_left M (by omega)) hN
  have K1 : Tl 33 #[.agg (wd s N).toArray] (.int .i64 (bitLen N : Nat)) := fun w => by
    have := Bits_w hx w
    rwa [zn_abs] at this
  rcases hj with ⟨a1, a2, rfl, rfl⟩ | ⟨hn', rfl⟩
  · exact wtells_t (j := 0) s N t M ⟨h1.1, h2.1, h3.1, hq, hr, h5.1, fn, f6, f9⟩ (Add_f hx hy h1) (Addref_any s t hN hM h1) (Sub_f hx hy h2) (Subref_any s t hN hM h2) (Mul_f hx hy h3) (Mulref_any s t hN hM h3) D1 D2 (Shl_f hx hk h5) (Shlref_any s k hN h5)
      (fun w => Int_yes s N w a1 a2) F2 (fun w => From_w n w hn.1 hn.2) (From_ref hn) (fun w => Cmp_w hx hy w) (Cmpref_any s t hN hM) (fun w => Neg_w hx w) (Negref_any s hN) (fun w => Is_any s N w hN) (fun w => Isref_any s hN w) K1 (fun w => Bitsref_any s hN w) (fun w => Gcd_z hx hy w) (Gcdref_any s t hN hM) (fun w => Text_any s N w hN) (Textref_any s hN) w
  · exact wtells_f s N t M ⟨h1.1, h2.1, h3.1, hq, hr, h5.1, fn, f6, f9⟩ (Add_f hx hy h1) (Addref_any s t hN hM h1) (Sub_f hx hy h2) (Subref_any s t hN hM h2) (Mul_f hx hy h3) (Mulref_any s t hN hM h3) D1 D2 (Shl_f hx hk h5) (Shlref_any s k hN h5)
      (Int_no s hN hn') F2 (fun w => From_w n w hn.1 hn.2) (From_ref hn) (fun w => Cmp_w hx hy w) (Cmpref_any s t hN hM) (fun w => Neg_w hx w) (Negref_any s hN) (fun w => Is_any s N w hN) (fun w => Isref_any s hN w) K1 (fun w => Bitsref_any s hN w) (fun w => Gcd_z hx hy w) (Gcdref_any s t hN hM) (fun w => Text_any s N w hN) (Textref_any s hN) w
end Go.Proofs.Ytiaikjeljhfadaa
namespace Go.Proofs.Ytiaikjeljhfadaa.wideTells
open Go.ChangeShapes Go.WideShapes Go.ChangeAt Go.RowKit
set_option linter.unusedVariables false
theorem own : ownKnob Try.prog.godebug = none := by kernel_rfl
set_option maxRecDepth 100000 in
theorem lifted (os : Os) (started : os.Started) (H : Type) (enc : TypeId × Value → H) :
    ReturnsInHanded {} Try.checked os 3 .any (Rows.wideTellsSpec.pre6 enc Try.prog Try.f3 Rows.wideTellsRow.domain false) (Rows.wideTellsSpec.post enc Try.prog Try.f3 false true false false) := by
  refine returnsInHanded_of_change (C := Try.checked) own started (by kernel_rfl) Try.func3
    (ChangeSpec.witness6 (enc := enc) (C := Try.checked) false ⟨#[], #[.agg (wd false 0).toArray, .agg (wd false 0).toArray, .int .i64 0, .int .i64 0], []⟩ 3 (by kernel_rfl) (by kernel_rfl) (by kernel_rfl) (by kernel_rfl)) ?_
  intro W base args ds gs before hval0 hW hcnd _
  have hval : ∀ (j : Nat) t v, Try.f3.params[j]? = some t → args[j]? = some v → Value.okWide Try.prog W .any base t v := hval0
  have hW' := hW
  obtain ⟨p, q, hA0, hV, rfl, hfz, hnd⟩ := hW
  have hA : DataW.TrodAll enc Try.prog W 0 (fun _ => true) true Try.f3.params.toList args.toList ds p := hA0
  rw [Try.params3] at hA hval
  obtain ⟨v0, vs0, d0, ds0, p0, q0, hargs, rfl, rfl, h0, r0⟩ := trodAll_cons hA
  obtain ⟨v1, vs1, d1, ds1, p1, q1, rfl, rfl, rfl, h1, r1⟩ := trodAll_cons r0
  obtain ⟨v2, vs2, d2, ds2, p2, q2, rfl, rfl, rfl, h2, r2⟩ := trodAll_cons r1
  obtain ⟨v3, vs3, d3, ds3, p3, q3, rfl, rfl, rfl, h3, r3⟩ := trodAll_cons r2
  obtain ⟨rfl, rfl, rfl⟩ := trodAll_nil r3
  obtain rfl : args = #[v0, v1, v2, v3] := by cases args; simp_all
  obtain ⟨rfl, rfl⟩ := trodVars_none hV
  obtain ⟨s0, N0, rfl, hN0, rfl, hsh0⟩ := open_wide (hval 0 25 v0 rfl rfl) h0
  obtain ⟨s1, N1, rfl, hN1, rfl, hsh1⟩ := open_wide (hval 1 25 v1 rfl rfl) h1
  obtain ⟨a2, rfl, rfl, rfl, w2⟩ := open_int Try.underlying2 (hval 2 2 v2 rfl rfl) h2
  obtain ⟨a3, rfl, rfl, rfl, w3⟩ := open_int Try.underlying3 (hval 3 3 v3 rfl rfl) h3
  clear hA0 hval0
  simp only [List.append_nil] at hW'
  refine (wtells_all s0 N0 hN0 s1 N1 hN1 a2 w2 a3 w3 W).mono fun e W' ⟨he, hg⟩ => ?_
  subst he
  exact ⟨_, rfl, post_of_below (pa := []) (pv := []) hW' (fun _ _ _ => (trodAll_cons_mk (shut_bool Try.underlying4 _) trodAll_mk0)) (fun sp _ => (trodAll_cons_mk (hsh0 _ _ _ _) (trodAll_cons_mk (hsh1 _ _ _ _) (trodAll_cons_mk (shut_int Try.underlying2 w2) (trodAll_cons_mk (shut_int Try.underlying3 w3) trodAll_mk0))))) (fun _ _ => rfl) rfl
    hg (ok_one (by kernel_rfl) rfl (okWide_bool_mk Try.underlying4 _))⟩
theorem over : Rows.wideTellsRow.holds Try.pinned (OpenSpec.ofChange Rows.wideTellsSpec) :=
  OpenClaim.holds_of_wide 3 Try.f3 rfl rfl rfl rfl rfl rfl rfl ⟨rfl, rfl, rfl, rfl, rfl⟩ rfl rfl rfl rfl rfl (by kernel_rfl) Try.func3 (by kernel_rfl)
    (of_decide_eq_true (by kernel_rfl)) (by unfold Func.isWrapper; first | (rw [if_pos (by decide +kernel)]; kernel_rfl) | (rw [if_neg (by decide +kernel)]; exact ⟨rfl, rfl⟩))
    (fun os started H enc _ => lifted os started H enc)
end Go.Proofs.Ytiaikjeljhfadaa.wideTells
namespace Go.Proofs.Ytiaikjeljhfadaa
theorem wideTells_holds : Rows.WideTellsSaid := wideTells.over
#print axioms wideTells_holds
end Go.Proofs.Ytiaikjeljhfadaa
