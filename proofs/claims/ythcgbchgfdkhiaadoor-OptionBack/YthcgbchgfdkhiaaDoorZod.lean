/- What Parse makes of words of numbers. -/
import Derived.Test.YthcgbchgfdkhiaaDoorZkn
import Derived.Test.YthcgbchgfdkhiaaDoorXno
namespace Go.Proofs.YthcgbchgfdkhiaaDoor
set_option linter.unusedSimpArgs false
set_option linter.unusedVariables false
open Go.RowKit
set_option maxRecDepth 100000
def sml (a : Int) : Prop := -1000000000 < a ∧ a < 1000000000
theorem numA_int {a : Int} (h : sml a) : intOk (numA a) = true ∧ intV (numA a) = a := by rw [numA_T h]; exact intOk_num h
theorem Ans.shape {w : World} {B : Nat} {e : Ending} {r : Option Opt} (h : Ans w B e r) : ∃ x y a n c, e = .returned (.tuple #[.agg #[.int .i64 x, .int .i64 y, .slice a n c], .bool r.isSome]) := by
  cases r with
  | none => exact ⟨0, 0, none, 0, 0, h⟩
  | some o =>
    obtain ⟨zv, he, hown⟩ := h
    obtain ⟨a, c, rfl⟩ := (RdZ.of_owns hown).shape
    exact ⟨_, _, _, _, _, he⟩
theorem splits_three {a b c : List UInt8} (ha : intOk a = true) (hb : intOk b = true) (hc : intOk c = true) : splits [44] (a ++ 44 :: (b ++ 44 :: c)) = [a, b, c] := by
  rw [splits_at _ _ (by simp) _ (intOk_no ha), splits_at _ _ (by simp) _ (intOk_no hb), splits_all _ _ (intOk_no hc)]
theorem take_word_h (o : Opt) {a : Int} (h : sml a) : takeO o (wtx 104 [a]) = some { o with h := a } := by
  obtain ⟨h1, h2⟩ := numA_int h
  rw [wtx1, takeO_cons, if_pos rfl, h1, h2]; rfl
theorem take_word_c (o : Opt) {a : Int} (h : sml a) : takeO o (wtx 99 [a]) = some { o with c := a } := by
  obtain ⟨h1, h2⟩ := numA_int h
  rw [wtx1, takeO_cons, if_neg (by decide), if_pos rfl, h1, h2]; rfl
theorem take_word_s (o : Opt) {x y z : Int} (hx : sml x) (hy : sml y) (hz : sml z) : takeO o (wtx 115 [x, y, z]) = some { o with z := o.z ++ [(x, y, z)] } := by
  obtain ⟨x1, x2⟩ := numA_int hx
  obtain ⟨y1, y2⟩ := numA_int hy
  obtain ⟨z1, z2⟩ := numA_int hz
  have e := splits_three x1 y1 z1
  have e1 : rdOk 3 [numA x, numA y, numA z] = true := by unfold rdOk; simp [x1, y1, z1]
  have e2 : trip [numA x, numA y, numA z] = (x, y, z) := by unfold trip; simp [x2, y2, z2]
  rw [wtx3, takeO_cons, if_neg (by decide), if_neg (by decide), if_pos rfl, e, e1, e2]; rfl
theorem prs_h {a : Int} (h : sml a) : (prs [wtx 104 [a]]).isSome = sideI a := by
  unfold prs parseL
  rw [take_word_h _ h]
  show (if okO ⟨a, 4096, []⟩ = true then some _ else none : Option Opt).isSome = _
  have e : okO ⟨a, 4096, []⟩ = sideI a := by unfold okO opOk inI; simp
  rw [e]; cases sideI a <;> rfl
theorem prs_c {a : Int} (h : sml a) : (prs [wtx 99 [a]]).isSome = inI 1 4096 a := by
  unfold prs parseL
  rw [take_word_c _ h]
  show (if okO ⟨64, a, []⟩ = true then some _ else none : Option Opt).isSome = _
  have e : okO ⟨64, a, []⟩ = inI 1 4096 a := by unfold okO opOk; rw [show sideI 64 = true from rfl]; simp
  rw [e]; cases inI 1 4096 a <;> rfl
theorem prs_s {x y z : Int} (hx : sml x) (hy : sml y) (hz : sml z) : (prs [wtx 115 [x, y, z]]).isSome = szOk (x, y, z) := by
  unfold prs parseL
  rw [take_word_s _ hx hy hz]
  show (if okO ⟨64, 4096, [(x, y, z)]⟩ = true then some _ else none : Option Opt).isSome = _
  have e : okO ⟨64, 4096, [(x, y, z)]⟩ = szOk (x, y, z) := by unfold okO opOk; rw [show sideI 64 = true from rfl, show inI 1 4096 4096 = true from rfl]; simp
  rw [e]; cases szOk (x, y, z) <;> rfl
end Go.Proofs.YthcgbchgfdkhiaaDoor
