/- wide.plus, wide.minus, wide.compare. -/
import Derived.Test.YtcfncekphdkphaaArr
import Derived.BigQuiet
import Derived.Deep.QuietTactic
import Derived.Deep.RegionHeld3
namespace Go.Proofs.Ytcfncekphdkphaa
open Go.RowKit
set_option maxRecDepth 100000
theorem ret_two {k l : IntKind} {a b c d : Int} (h : a = b) (h' : c = d) : Ending.returned (.tuple #[.int k a, .int l c]) = .returned (.tuple #[.int k b, .int l d]) := by rw [h, h']
theorem int_eq {k : IntKind} {a b : Int} (h : a = b) : Value.int k a = .int k b := by rw [h]
set_option maxHeartbeats 400000 in
theorem add32_any (x y c : Nat) (w : World) (hx : x ≤ 4294967295) (hy : y ≤ 4294967295) (hc : c ≤ 1) :
    Calls Try.prog 99 #[.int .u32 x, .int .u32 y, .int .u32 c] w fun e w' => e = .returned (.tuple #[.int .u32 ((x + y + c) % bb : Nat), .int .u32 ((x + y + c) / bb : Nat)]) ∧ w' = w := by
  go_enter Try.func99, Try.ntmps99
  go_wp2
  go_ret2
  exact ⟨ret_two (by rw [bb_eq]; omega) (by rw [bb_eq]; omega), rfl⟩
theorem top_bit {z : Nat} (h : z < 4294967296) : z / 2147483648 = if z.testBit 31 then 1 else 0 := by
  rw [Nat.testBit_eq_decide_div_mod_eq]
  have : z / 2147483648 < 2 := Nat.div_lt_of_lt_mul h
  simp only [Nat.reducePow, decide_eq_true_eq]
  split <;> omega
/-- Which bit is borrowed, by the words' highest bits. -/
theorem borrow_nat {x y c : Nat} (hx : x < 4294967296) (hy : y < 4294967296) (hc : c ≤ 1) {d : Nat} (hd : d < 4294967296) (he : d + y + c = x ∨ d + y + c = x + 4294967296) :
    (((4294967295 ^^^ x) &&& y) ||| ((4294967295 ^^^ (x ^^^ y)) &&& d)) / 2147483648 = if x < y + c then 1 else 0 := by
  have hm : (4294967295 : Nat) < 2 ^ 32 := by decide
  have hx' : x < 2 ^ 32 := hx
  have hy' : y < 2 ^ 32 := hy
  have hd' : d < 2 ^ 32 := hd
  have b : (((4294967295 ^^^ x) &&& y) ||| ((4294967295 ^^^ (x ^^^ y)) &&& d)) < 2 ^ 32 :=
    Nat.or_lt_two_pow (Nat.and_lt_two_pow _ hy') (Nat.and_lt_two_pow _ hd')
  rw [top_bit b]
  have tx := Nat.testBit_eq_decide_div_mod_eq (x := x) (i := 31)
  have ty := Nat.testBit_eq_decide_div_mod_eq (x := y) (i := 31)
  have td := Nat.testBit_eq_decide_div_mod_eq (x := d) (i := 31)
  simp only [Nat.reducePow] at tx ty td
  simp only [Nat.testBit_or, Nat.testBit_and, Nat.testBit_xor, tx, ty, td, show Nat.testBit 4294967295 31 = true from by decide]
  by_cases h1 : x / 2147483648 % 2 = 1 <;> by_cases h2 : y / 2147483648 % 2 = 1 <;> by_cases h3 : d / 2147483648 % 2 = 1 <;> simp [h1, h2, h3] <;> omega
theorem borrow_int {x y c d : Nat} (hx : x < 4294967296) (hy : y < 4294967296) (hc : c ≤ 1) (hd : d < 4294967296) (he : d + y + c = x ∨ d + y + c = x + 4294967296) :
    bits .or .u32 (bits .and .u32 (bits .xor .u32 IntKind.u32.max (x : Int)) (y : Int)) (bits .and .u32 (bits .xor .u32 IntKind.u32.max (bits .xor .u32 (x : Int) (y : Int))) (d : Int)) / 2147483648 = ((if x < y + c then 1 else 0 : Nat) : Int) := by
  have hm : IntKind.u32.max = ((4294967295 : Nat) : Int) := by decide
  have lim : ∀ a b : Nat, a < 4294967296 → b < 4294967296 → a ^^^ b < 4294967296 := fun a b ha hb => Nat.xor_lt_two_pow (n := 32) ha hb
  have lia : ∀ a b : Nat, b < 4294967296 → a &&& b < 4294967296 := fun a b hb => Nat.and_lt_two_pow (n := 32) a hb
  rw [hm, u32_xor_nat _ _ (by decide) hx, u32_xor_nat _ _ hx hy, u32_xor_nat _ _ (by decide) (lim _ _ hx hy), u32_and_nat _ _ (lim _ _ (by decide) hx) hy, u32_and_nat _ _ (lim _ _ (by decide) (lim _ _ hx hy)) hd, u32_or_nat _ _ (lia _ _ hy) (lia _ _ hd), ← borrow_nat hx hy hc hd he]
  rfl
set_option maxHeartbeats 400000 in
theorem sub32_any (x y c : Nat) (w : World) (hx : x ≤ 4294967295) (hy : y ≤ 4294967295) (hc : c ≤ 1) :
    Calls Try.prog 100 #[.int .u32 x, .int .u32 y, .int .u32 c] w fun e w' => e = .returned (.tuple #[.int .u32 ((x + bb - y - c) % bb : Nat), .int .u32 ((if x < y + c then 1 else 0 : Nat) : Int)]) ∧ w' = w := by
  have hd : ((x : Int) - y - c) % 4294967296 = ((x + bb - y - c) % bb : Nat) := by rw [bb_eq]; omega
  have hlt : (x + bb - y - c) % bb < 4294967296 := Nat.mod_lt _ bb_pos
  have h2 := borrow_int (x := x) (y := y) (c := c) (by omega) (by omega) hc hlt (by rw [bb_eq]; omega)
  generalize (if x < y + c then 1 else 0 : Nat) = q at *
  rw [← hd] at h2 ⊢
  have H2 := Lib.hid h2
  clear h2 hd hlt
  go_enter Try.func100, Try.ntmps100
  go_wp2
  go_ret2
  exact ⟨ret_two rfl H2.out, rfl⟩
set_option maxHeartbeats 400000 in
set_option maxRecDepth 100000 in
theorem plus_any (N M : Nat) (w : World) (hN : N < bb ^ 32) (hM : M < bb ^ 32) :
    Calls Try.prog 57 #[.agg (wc N).toArray, .agg (wc M).toArray] w fun e w' => e = .returned (.tuple #[.agg (wc ((N + M) % bb ^ 32)).toArray, .bool (decide (N + M < bb ^ 32))]) ∧ Below w.heap.size w w' := by
  have HN := Lib.hid hN
  have HM := Lib.hid hM
  clear hN hM
  go_enter Try.func57, Try.ntmps57
  go_wp2_with (first | (with_reducible refine alA rfl rfl ?_))
  go_loopw [7, 9] (fun c i wr => ∃ k : Nat, k ≤ 32 ∧ i = .int .i64 k ∧ c = .int .u32 (cy N M k : Nat) ∧ Below w.heap.size w wr ∧ Blk wr w.heap.size (wc N) 23 ∧ Blk wr (w.heap.size + 1) (wc M) 23 ∧ Blk wr (w.heap.size + 1 + 1) (wc 0) 23 ∧ Blk wr (w.heap.size + 1 + 1 + 1) (wc (sm N M k)) 23) (fun _ i _ => 32 - (intOf i).toNat)
  case atStart =>
    exact ⟨0, by omega, rfl, by rw [cy_zero]; rfl, ((((Below.refl _ _).alloc (Nat.le_refl _) _).alloc (by simp) _).alloc (by simp; omega) _).alloc (by simp; omega) _,
      (((Blk.new _ _ _ rfl).old _).old _).old _, ((Blk.new _ _ _ (by simp)).old _).old _, (Blk.new _ _ _ (by simp)).old _, by rw [sm_zero]; exact Blk.new _ _ _ (by simp)⟩
  case round =>
    obtain ⟨k, hk, rfl, rfl, hb, b0, b1, b2, b3⟩ := hrel
    have hcy := cy_le N M k
    by_cases hlt : k < 32
    · have c0 := b0.cell (wc_get N k hlt)
      have c1 := b1.cell (wc_get M k hlt)
      have f3 := b3.frozen k
      have c3 := b3.cell (wc_get (sm N M k) k hlt)
      have d0 := dig_le N k
      have d1 := dig_le M k
      go_wp2_with fail
      go_region_held3 (fun w' => w'.cell? ⟨w.heap.size, k, none⟩ = some (.int .u32 (dig N k : Nat)) ∧ w'.cell? ⟨w.heap.size + 1, k, none⟩ = some (.int .u32 (dig M k : Nat))) (first | exact ⟨c0, c1⟩ | exact ⟨(b0.setOther _ _ (by omega)).drew.cell (wc_get N k hlt), (b1.setOther _ _ (by omega)).drew.cell (wc_get M k hlt)⟩) (first | (go_at_call 99; refine (add32_any _ _ _ _ d0 d1 hcy).mono ?_; rintro e w' ⟨rfl, rfl⟩))
      go_wp2
      go_roundw
      case rel =>
        refine ⟨k + 1, by omega, by go_num, int_eq (by rw [cy_succ]; push_cast; rfl), (hb.setCell (by simp; omega) _).drew, (b0.setOther _ _ (by omega)).drew, (b1.setOther _ _ (by omega)).drew, (b2.setOther _ _ (by omega)).drew, ?_⟩
        have := (b3.set k (.int .u32 ((dig N k + dig M k + cy N M k) % bb : Nat))).drew
        rw [wc_set (sm_lt N M k) (Nat.mod_lt _ bb_pos), ← sm_succ] at this
        push_cast at this
        exact this
      case measure => simp [intOf]; omega
    · obtain rfl : k = 32 := by omega
      go_wp2_with (first | (with_reducible refine ldA rfl rfl rfl b3 ?_) | (with_reducible refine stA rfl rfl rfl rfl b2 ?_))
      have e1 := sm_all HN.out HM.out
      have e2 := cy_all HN.out HM.out
      refine ret_ct (cs := wc (sm N M 32)) (v := .bool ((cy N M 32 : Int) == 0)) rfl rfl rfl rfl (whole23 _) (b2.row _) ⟨?_, below_row hb (by omega) _⟩
      rw [e1, show ((cy N M 32 : Int) == 0) = decide (N + M < bb ^ 32) from by rw [Bool.eq_iff_iff]; simp [← e2]]
end Go.Proofs.Ytcfncekphdkphaa
