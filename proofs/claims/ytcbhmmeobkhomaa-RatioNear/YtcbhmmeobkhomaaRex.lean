/- The examples of package ratio that its laws begin with. -/
import Derived.Test.YtcbhmmeobkhomaaRdl
import Derived.Test.YtcbhmmeobkhomaaRle
import Derived.Test.YtcbhmmeobkhomaaRof
namespace Go.Proofs.Ytcbhmmeobkhomaa
set_option linter.unusedSimpArgs false
set_option linter.unusedVariables false
open Go.RowKit
set_option maxRecDepth 100000
theorem rt_of {n d : Int} (h0 : 0 < d) (h : Int.gcd n d = 1) : Rt n d := ⟨h0, h⟩
theorem sf_of {n d : Int} (h0 : 0 < d) (h : Int.gcd n d = 1) (hn : n.natAbs < 2 ^ 64) (hd : d.natAbs < 2 ^ 64) : Sf n d := ⟨⟨h0, h⟩, sz_mono (j := 64) hn (by omega), sz_mono (j := 64) hd (by omega)⟩
theorem s12 : Sf 1 2 := sf_of (by decide) (by decide) (by decide) (by decide)
theorem s13 : Sf 1 3 := sf_of (by decide) (by decide) (by decide) (by decide)
theorem s56 : Sf 5 6 := sf_of (by decide) (by decide) (by decide) (by decide)
theorem s01 : Sf 0 1 := sf_of (by decide) (by decide) (by decide) (by decide)
theorem r_of12 : Tl 5 #[.int .i64 1, .int .i64 2] (.tuple #[vf 1 2, .bool true]) := by
  obtain ⟨N, D, h1, h2, h3⟩ := Of_any (n := 1) (d := 2) (by decide) (by decide) (by decide)
  obtain ⟨rfl, rfl⟩ := rt_uniq h1 s12.1 h2
  exact h3
theorem r_of26 : Tl 5 #[.int .i64 (-2), .int .i64 (-6)] (.tuple #[vf 1 3, .bool true]) := by
  obtain ⟨N, D, h1, h2, h3⟩ := Of_any (n := -2) (d := -6) (by decide) (by decide) (by decide)
  obtain ⟨rfl, rfl⟩ := rt_uniq h1 s13.1 (by omega)
  exact h3
theorem r_add : Tl 10 #[vf 1 2, vf 1 3] (.tuple #[vf 5 6, .bool true]) := by
  obtain ⟨N, D, h1, h2, _, _, h3⟩ := Add_rany s12 s13
  obtain ⟨rfl, rfl⟩ := rt_uniq h1 s56.1 (by omega)
  exact h3
theorem r_cmp : Tl 9 #[vf 1 2, vf 1 3] (.tuple #[.int .i64 1, .bool true]) := Cmp_rany s12 s13
theorem r_cmp2 : Tl 9 #[vf 1 3, vf 1 2] (.tuple #[.int .i64 (-1), .bool true]) := Cmp_rany s13 s12
theorem r_div : Tl 12 #[vf 1 2, vf 0 1] (.tuple #[.agg (rr false 0 false 0).toArray, .bool false]) := Div_zero s12 s01
theorem r_floor : Tl 16 #[vf (-3) 1] (.tuple #[vw (-3), .bool true]) := Floor_any (n := -3) (d := 1) (small_fits (by decide) (by decide)) f1 (rt_of (by decide) (by decide))
theorem r_is : Tl 19 #[vf 5 6] (.bool true) := fun w => isr_yes s56.fn s56.fd s56.1 w
theorem r_sign : Tl 8 #[vf 5 6] (.int .i64 1) := fun w => Sign_any 6 s56.fn w
theorem r_safe3 : Tl 20 #[vf 5 6, .int .i64 3] (.bool true) := fun w => safe_fr s56.1 (k := 3) (j := 3) (by omega) (by unfold Sz; decide) (by unfold Sz; decide) (by omega) w
theorem r_safe2 : Tl 20 #[vf 5 6, .int .i64 2] (.bool false) := fun w => by
  have := safe_walk (decide ((5 : Int) < 0)) (decide ((6 : Int) < 0)) s56.fn s56.fd 2 true (fun w => isr_yes s56.fn s56.fd s56.1 w) w
  rwa [show (decide ((bitLen (5 : Int).natAbs : Int) ≤ 2) && (decide ((bitLen (6 : Int).natAbs : Int) ≤ 2) && true)) = false by decide] at this
theorem r_isn : Tl 19 #[.agg (rr false 0 false 0).toArray] (.bool false) := fun w => isr_3 (n := 0) (d := 0) f0 f0 (by decide) w
theorem tz5 : tz 5 = ⟨#[53]⟩ := by kernel_rfl
theorem tz6 : tz 6 = ⟨#[54]⟩ := by kernel_rfl
theorem tz83 : tz 83 = ⟨#[56, 51]⟩ := by kernel_rfl
theorem cat56 : (⟨#[53]⟩ : ByteArray) ++ ⟨#[47]⟩ ++ ⟨#[54]⟩ = ⟨#[53, 47, 54]⟩ := by decide
theorem r_text : Tl 17 #[vf 5 6] (.string ⟨#[53, 47, 54]⟩) := by
  have := Text_rat s56.fn s56.fd s56.1 (by decide)
  rwa [tz5, tz6, cat56] at this
theorem r_parse : Tl 11 #[.string ⟨#[53, 47, 54]⟩] (.tuple #[vf 5 6, .bool true]) := by
  have := Parse_rat s56.fn s56.fd s56.1 (by decide)
  rwa [tz5, tz6, cat56] at this
theorem r_dec : Tl 6 #[vf 5 6, .int .i64 2] (.tuple #[.string ⟨#[48, 46, 56, 51]⟩, .bool true]) := by
  have T1 := nearest_any s56 (k := 2) (by omega)
  rw [show (((5 : Int).natAbs : Int) * 10 ^ 2 * 2 + 6) / (6 * 2) = 83 by decide] at T1
  have T2 := pointed_walk (s := ⟨#[56, 51]⟩) (R := ⟨#[48]⟩) (k := 2) (m := 1) (a := 1) (by omega) (by omega) (by decide) (by decide) (by decide) (by decide) (Repeat_one _)
  rw [show (((⟨#[48]⟩ : ByteArray) ++ ⟨#[56, 51]⟩).extract 0 1 ++ ⟨#[46]⟩ ++ ((⟨#[48]⟩ : ByteArray) ++ ⟨#[56, 51]⟩).extract 1 ((⟨#[48]⟩ : ByteArray) ++ ⟨#[56, 51]⟩).size) = ⟨#[48, 46, 56, 51]⟩ by decide, ← tz83] at T2
  exact Decimal_walk s56 (by decide) (by decide) (small_fits (by decide) (by decide)) (by decide) T1 T2 (.inr ⟨.inl (by decide), rfl⟩)
theorem r_sum {b : Nat} {t : TypeId} {w : World} (h : Blk w b (fr 1 2 ++ fr 1 2) t) : Calls Try.prog 15 #[.slice (some ⟨b, 0, none⟩) 2 2] w fun e w' => e = .returned (.tuple #[vf 1 1, .bool true]) ∧ Below w.heap.size w w' := by
  obtain ⟨N, D, h1, h2, _, _, h3⟩ := Add_rany s01 s12
  obtain ⟨rfl, rfl⟩ := rt_uniq h1 s12.1 (by omega)
  obtain ⟨N, D, h4, h5, _, _, h6⟩ := Add_rany s12 s12
  obtain ⟨rfl, rfl⟩ := rt_uniq h4 (rt_of (n := 1) (d := 1) (by decide) (by decide)) (by omega)
  have := Sum_rany 2 b (fun _ => 1) (fun _ => 2) (fun k => if k = 0 then 0 else 1) (fun k => if k = 0 then 1 else if k = 1 then 2 else 1) w (by omega) ⟨rfl, rfl⟩ (fun k hk => by
    rcases (show k = 0 ∨ k = 1 by omega) with rfl | rfl
    · exact h3
    · exact h6) h.lt (range2 h _ _ ⟨rfl, rfl⟩ ⟨rfl, rfl⟩)
  exact this
theorem r_least {b : Nat} {t : TypeId} {w : World} (h : Blk w b (fr 1 2 ++ fr 1 3) t) : Calls Try.prog 14 #[.slice (some ⟨b, 0, none⟩) 2 2] w fun e w' => e = .returned (.tuple #[vf 1 3, .bool true]) ∧ Below w.heap.size w w' := by
  have := Least_many 0 b (fun _ => 1) (fun k => if k = 0 then 2 else 3) (fun _ => 1) (fun k => if k = 0 then 2 else 3) (fun _ => -1) w (by omega) ⟨rfl, rfl⟩ (fun k hk => by
    obtain rfl : k = 0 := by omega
    exact ⟨r_cmp2, fun _ => ⟨rfl, rfl⟩, fun h => absurd (by decide) h⟩) h.lt (range2 h _ _ ⟨rfl, rfl⟩ ⟨rfl, rfl⟩)
  exact this
end Go.Proofs.Ytcbhmmeobkhomaa
