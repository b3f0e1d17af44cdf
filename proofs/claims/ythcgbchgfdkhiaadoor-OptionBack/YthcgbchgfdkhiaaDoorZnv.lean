/- What the program's texts ask of the world (tables); texts of all numbers. -/
import Derived.Test.YthcgbchgfdkhiaaDoorZsl
import Derived.Test.YthcgbchgfdkhiaaDoorXnm
import Derived.Test.YthcgbchgfdkhiaaDoorXwd
import Derived.Test.YthcgbchgfdkhiaaDoorXrd
import Derived.Lib.SmallJoins
import Derived.Lib.AppendIntMem
namespace Go.Proofs.YthcgbchgfdkhiaaDoor
set_option linter.unusedSimpArgs false
set_option linter.unusedVariables false
open Go.RowKit
set_option maxRecDepth 100000
theorem digs_dec : ∀ k n : Nat, n < 10 ^ (k + 1) → digs (k + 1) n = Lib.decDigits n
  | 0, n, h => by
    have h : n < 10 := h
    rw [digs, if_pos h, Lib.decDigits, dif_pos h]; rfl
  | k + 1, n, h => by
    by_cases h0 : n < 10
    · rw [digs, if_pos h0, Lib.decDigits, dif_pos h0]; rfl
    · rw [digs, if_neg h0, Lib.decDigits, dif_neg h0, digs_dec k (n / 10) (by rw [Nat.pow_succ] at h; omega)]; rfl
theorem numT_itoa {a : Int} (h : -1000000000 < a ∧ a < 1000000000) : Lib.itoa a = numT a := by
  unfold Lib.itoa numT
  split
  · rw [digs_dec 9 _ (by omega)]
  · rw [digs_dec 9 _ (by omega)]
/-- The text of any number. -/
def numA (a : Int) : List UInt8 := if a < 0 then 45 :: digs 19 a.natAbs else digs 19 a.toNat
def i64ok (a : Int) : Prop := -9223372036854775808 ≤ a ∧ a ≤ 9223372036854775807
theorem numA_itoa {a : Int} (h : i64ok a) : Lib.itoa a = numA a := by
  unfold i64ok at h
  unfold Lib.itoa numA
  split
  · rw [digs_dec 18 _ (by omega)]
  · rw [digs_dec 18 _ (by omega)]
theorem numA_T {a : Int} (h : -1000000000 < a ∧ a < 1000000000) : numA a = numT a := by
  rw [← numA_itoa ⟨by omega, by omega⟩, numT_itoa h]
theorem numA_len (a : Int) : (numA a).length ≤ 20 := by
  unfold numA
  split
  · have := digs_len 19 a.natAbs
    simp; omega
  · have := digs_len 19 a.toNat
    omega
theorem numA_zero : numA 0 = [48] := by decide
/-- The table of powers lies there. -/
def Tab (w : World) : Prop := Lib.TabIs Tryd.prog w "internal/strconv.uint64pow10" .u64 Lib.pow10Tab
theorem tab_global : ∃ g, Tryd.prog.globalNamed "internal/strconv.uint64pow10" = some g := Option.isSome_iff_exists.1 (by kernel_rfl)
theorem Tab.below {x y : World} (h : Tab x) (hb : Below x.heap.size x y) : Tab y := tab_global.elim fun _ hg => Go.Joins.tab_stays hg h hb (Nat.le_refl _)
/-- internal/bytealg.MaxLen holds some number. -/
def Mxl (w : World) : Prop := ∃ m, w.cell? ⟨0, 0, none⟩ = some (.int .i64 m)
theorem Mxl.below {x y : World} (h : Mxl x) (hb : Below x.heap.size x y) : Mxl y := let ⟨m, e⟩ := h; ⟨m, cell_below hb e⟩
structure Env (w : World) : Prop where
  tab : Tab w
  mxl : Mxl w
theorem Env.below {x y : World} (h : Env x) (hb : Below x.heap.size x y) : Env y := ⟨h.tab.below hb, h.mxl.below hb⟩
theorem Itoa_all (x : Int) (hx : i64ok x) (w : World) (hT : Env w) : Calls Tryd.prog 25 #[.int .i64 x] w fun e w' => e = .returned (.string (tx (numA x))) ∧ Below w.heap.size w w' := by
  refine (Tryd.strconv_Itoa x hx.1 hx.2 w hT.tab).mono ?_
  rintro e w' ⟨rfl, k, os, rfl⟩
  exact ⟨by rw [numA_itoa hx]; rfl, Lib.below_grow _ w (Nat.le_refl _) k os⟩
set_option maxHeartbeats 2000000 in
theorem Num_all (a : Int) (w : World) (h : i64ok a) : Calls Tryd.prog 14 #[.int .i64 a] w fun e w' => e = .returned (.string (tx (numA a))) ∧ Below w.heap.size w w' := by
  unfold i64ok at h
  by_cases h0 : a < 0
  · have HD := Lib.hid fun w => digits_any 19 a.natAbs w (by decide) (by omega) (by decide)
    have e : numA a = 45 :: digs 19 a.natAbs := if_pos h0
    have hl := digs_len 19 a.natAbs
    rw [e]
    obtain ⟨n, hn⟩ : ∃ n, a.natAbs = n := ⟨_, rfl⟩
    obtain rfl : a = -(n : Int) := by omega
    rw [hn] at HD hl ⊢
    have k1 : IntKind.i64.wrap (-(n : Int) + 1) = -(n : Int) + 1 := by rw [IntKind.wrap_i64]; omega
    have k2 : IntKind.i64.wrap (-(-(n : Int) + 1)) = (n : Int) - 1 := by rw [IntKind.wrap_i64]; omega
    have k3 : IntKind.u64.wrap ((n : Int) - 1) = (n : Int) - 1 := by rw [IntKind.wrap_u64]; omega
    have k4 : IntKind.u64.wrap ((n : Int) - 1 + 1) = (n : Int) := by rw [IntKind.wrap_u64]; omega
    have hs1 := tx_size (digs 19 n)
    have hs9 : ¬ (9223372036854775807 : Nat) < 1 + (digs 19 n).length := by omega
    clear e hn
    go_enter Tryd.func14, Tryd.ntmps14
    go_wp2_with fail
    refine (HD.out _).mono ?_
    rintro e w1 ⟨rfl, h1⟩
    go_wp2_with fail
    go_ret
    exact ⟨by rw [show (45 :: digs 19 n) = [45] ++ digs 19 n from rfl, ← tx_app]; rfl, h1⟩
  · have HD := Lib.hid fun w => digits_any 19 a.toNat w (by decide) (by omega) (by decide)
    have e : numA a = digs 19 a.toNat := if_neg h0
    rw [e]
    obtain ⟨n, hn⟩ : ∃ n, a.toNat = n := ⟨_, rfl⟩
    obtain rfl : a = (n : Int) := by omega
    rw [hn] at HD ⊢
    have k1 : IntKind.u64.wrap (n : Int) = (n : Int) := by rw [IntKind.wrap_u64]; omega
    clear e hn
    go_enter Tryd.func14, Tryd.ntmps14
    go_wp2_with fail
    refine (HD.out _).mono ?_
    rintro e w1 ⟨rfl, h1⟩
    go_wp2_with fail
    go_ret
    exact ⟨rfl, h1⟩
end Go.Proofs.YthcgbchgfdkhiaaDoor
