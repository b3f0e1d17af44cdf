/- Joined of: Arr Sum Dif. -/
import Derived.Test.YtoegjibeomhekaaGreatRows
import Derived.Test.YtoegjibeomhekaaGreatNum
import Derived.Test.YtoegjibeomhekaaGreatMem
import Derived.BigQuiet
import Derived.Deep.QuietTactic
import Derived.Deep.RegionHeld3
/- Arrays of 32 words in memory; wide.length. -/
namespace Go.Proofs.YtoegjibeomhekaaGreat
open Go.RowKit
set_option maxRecDepth 100000
/-- The words of N as cells. -/
def wc (N : Nat) : List Value := (List.range 32).map fun i => Value.int .u32 (dig N i : Nat)
theorem wc_length (N : Nat) : (wc N).length = 32 := by simp [wc]
theorem wc_get (N i : Nat) (h : i < 32) : (wc N)[i]? = some (.int .u32 (dig N i : Nat)) := by simp [wc, h]
theorem wc_one (N : Nat) : ∀ v ∈ wc N, v.oneCell' = true := by
  intro v hv; simp [wc] at hv; obtain ⟨i, _, rfl⟩ := hv; rfl
/-- A Wide: its sign, its words. -/
def wd (s : Bool) (N : Nat) : List Value := .bool s :: wc N
theorem wd_length (s : Bool) (N : Nat) : (wd s N).length = 33 := by simp [wd, wc_length]
theorem wd_one (s : Bool) (N : Nat) : ∀ v ∈ wd s N, v.oneCell' = true := by
  intro v hv; simp [wd] at hv; rcases hv with rfl | hv
  · rfl
  · exact wc_one N v hv
theorem zero23 : (Tryz.prog.info? 41).map (·.zero) = some (some (.agg (wc 0).toArray)) := by kernel_rfl
theorem zero25 : (Tryz.prog.info? 43).map (·.zero) = some (some (.agg (wd false 0).toArray)) := by kernel_rfl
theorem size23 : (Tryz.prog.info? 41).map (·.size) = some 32 := by kernel_rfl
theorem size25 : (Tryz.prog.info? 43).map (·.size) = some 33 := by kernel_rfl
theorem under23 : Tryz.prog.underlying 41 = some (.array 32 27) := by kernel_rfl
theorem under25 : ∃ d, Tryz.prog.underlying 43 = some d ∧ d.isRow = true := ⟨_, Tryz.underlying43, rfl⟩
theorem whole23 (N : Nat) : Whole Tryz.prog 41 (wc N).length := ⟨_, under23, rfl, by rw [wc_length]; exact size23⟩
theorem whole25 (s : Bool) (N : Nat) : Whole Tryz.prog 43 (wd s N).length := by
  obtain ⟨d, h, h'⟩ := under25
  exact ⟨d, h, h', by rw [wd_length]; exact size25⟩
/-- Word k of what has no words from k on is set. -/
theorem wc_set {X k v : Nat} (hX : X < bb ^ k) (hv : v < bb) : (wc X).set k (.int .u32 (v : Nat)) = wc (X + bb ^ k * v) := by
  apply List.ext_getElem?
  intro i
  rw [List.getElem?_set]
  by_cases hi : i < 32
  · rw [wc_get (X + bb ^ k * v) i hi, wc_length]
    split
    · rename_i h; subst h
      rw [if_pos hi, dig_add_same hX hv]
    · rename_i h
      rw [wc_get X i hi]
      rcases Nat.lt_or_ge i k with h1 | h1
      · rw [dig_add_low h1]
      · rw [dig_add_high hX hv (by omega), dig_of_lt (Nat.lt_of_lt_of_le hX (bp_mono h1))]
  · rw [List.getElem?_eq_none (by rw [wc_length]; omega), List.getElem?_eq_none (by rw [wc_length]; omega)]
    split
    · rw [if_neg (by rw [wc_length]; omega)]
    · rfl
section
variable {ops : Array Oper} {rest : List Oper} {o : Oper} {a : Act} {w : World} {Q : Exit → Act → World → Prop}
/-- An array of words is loaded. -/
theorem ldA {t : TypeId} {x : Operand} {b N : Nat} (hgd : o.guard = none) (ho : o.op = .load 41 x) (hx : a.eval x = .pointer (some ⟨b, 0, none⟩)) (h : Blk w b (wc N) t)
    (hr : wpList Tryz.prog ops Q rest (a.put o.dst (.agg (wc N).toArray)) w) : wpList Tryz.prog ops Q (o :: rest) a w :=
  ld_blk hgd ho hx h _ under23 rfl (by rw [wc_length]; exact size23) hr
/-- The words of a Wide are loaded. -/
theorem ldD {t : TypeId} {x : Operand} {b N : Nat} {s : Bool} (hgd : o.guard = none) (ho : o.op = .load 41 x) (hx : a.eval x = .pointer (some ⟨b, 1, none⟩)) (h : Blk w b (wd s N) t)
    (hr : wpList Tryz.prog ops Q rest (a.put o.dst (.agg (wc N).toArray)) w) : wpList Tryz.prog ops Q (o :: rest) a w :=
  ld_tail hgd ho hx h _ under23 rfl (by rw [wc_length]; exact size23) hr
/-- A Wide is loaded. -/
theorem ldW {t : TypeId} {x : Operand} {b N : Nat} {s : Bool} (hgd : o.guard = none) (ho : o.op = .load 43 x) (hx : a.eval x = .pointer (some ⟨b, 0, none⟩)) (h : Blk w b (wd s N) t)
    (hr : wpList Tryz.prog ops Q rest (a.put o.dst (.agg (wd s N).toArray)) w) : wpList Tryz.prog ops Q (o :: rest) a w := by
  obtain ⟨d, hu, hd⟩ := under25
  exact ld_blk hgd ho hx h d hu hd (by rw [wd_length]; exact size25) hr
theorem stA {t : TypeId} {x y : Operand} {b N M : Nat} (hgd : o.guard = none) (ho : o.op = .store 41 x y) (hx : a.eval x = .pointer (some ⟨b, 0, none⟩)) (hy : a.eval y = .agg (wc N).toArray) (h : Blk w b (wc M) t)
    (hr : wpList Tryz.prog ops Q rest (a.put o.dst undef) (w.setRow b (wc N).toArray)) : wpList Tryz.prog ops Q (o :: rest) a w :=
  st_blk hgd ho hx hy h (by rw [wc_length, wc_length]) (by rw [wc_length]; exact size23) (wc_one N) hr
theorem stW {t : TypeId} {x y : Operand} {b N M : Nat} {s s' : Bool} (hgd : o.guard = none) (ho : o.op = .store 43 x y) (hx : a.eval x = .pointer (some ⟨b, 0, none⟩)) (hy : a.eval y = .agg (wd s N).toArray) (h : Blk w b (wd s' M) t)
    (hr : wpList Tryz.prog ops Q rest (a.put o.dst undef) (w.setRow b (wd s N).toArray)) : wpList Tryz.prog ops Q (o :: rest) a w :=
  st_blk hgd ho hx hy h (by rw [wd_length, wd_length]) (by rw [wd_length]; exact size25) (wd_one s N) hr
theorem alA (hgd : o.guard = none) (ho : o.op = .alloc 41)
    (hr : wpList Tryz.prog ops Q rest (a.put o.dst (.pointer (some ⟨w.heap.size, 0, none⟩))) (w.alloc (.cells (wc 0).toArray 41))) : wpList Tryz.prog ops Q (o :: rest) a w :=
  al_blk hgd ho zero23 hr
theorem alW (hgd : o.guard = none) (ho : o.op = .alloc 43)
    (hr : wpList Tryz.prog ops Q rest (a.put o.dst (.pointer (some ⟨w.heap.size, 0, none⟩))) (w.alloc (.cells (wd false 0).toArray 43))) : wpList Tryz.prog ops Q (o :: rest) a w :=
  al_blk hgd ho zero25 hr
end
theorem ret_int {k : IntKind} {a b : Int} (h : a = b) : Ending.returned (.int k a) = .returned (.int k b) := by rw [h]
set_option maxHeartbeats 400000 in
theorem length_any (N : Nat) (w : World) (hN : N < bb ^ 32) :
    Calls Tryz.prog 80 #[.agg (wc N).toArray] w fun e w' => e = .returned (.int .i64 (nw N : Nat)) ∧ Below w.heap.size w w' := by
  have HN := Lib.hid hN
  clear hN
  have hr := Blk.new w (wc N) 41 rfl
  go_enter Tryz.func80, Tryz.ntmps80
  go_wp2
  go_loop [3] (fun n => ∃ k : Nat, k ≤ 32 ∧ n = .int .i64 k ∧ N < bb ^ k) (fun n => (intOf n).toNat)
  case atStart => exact ⟨32, Nat.le_refl _, rfl, HN.out⟩
  case round =>
    obtain ⟨k, hk, rfl, hb⟩ := hrel
    have HB := Lib.hid hb
    clear hb
    by_cases h0 : 0 < k
    · obtain ⟨j, rfl⟩ : ∃ j, k = j + 1 := ⟨k - 1, by omega⟩
      have hc := hr.cell (wc_get N j (by omega))
      by_cases hd : dig N j = 0
      · go_wp2
        go_round
        case rel => exact ⟨j, by omega, by go_num, lt_of_dig HB.out hd⟩
        case measure => simp [intOf]
      · go_wp2
        go_ret
        exact ⟨ret_int (by rw [nw_of HB.out (fun _ => le_of_dig hd)]; rfl), (Below.refl _ _).alloc (Nat.le_refl _) _⟩
    · obtain rfl : k = 0 := by omega
      go_wp2
      go_ret
      exact ⟨ret_int (by rw [nw_of HB.out (by omega)]; rfl), (Below.refl _ _).alloc (Nat.le_refl _) _⟩
end Go.Proofs.YtoegjibeomhekaaGreat

/- wide.plus, wide.minus, wide.compare. -/
namespace Go.Proofs.YtoegjibeomhekaaGreat
open Go.RowKit
set_option maxRecDepth 100000
theorem ret_two {k l : IntKind} {a b c d : Int} (h : a = b) (h' : c = d) : Ending.returned (.tuple #[.int k a, .int l c]) = .returned (.tuple #[.int k b, .int l d]) := by rw [h, h']
theorem int_eq {k : IntKind} {a b : Int} (h : a = b) : Value.int k a = .int k b := by rw [h]
set_option maxHeartbeats 400000 in
theorem add32_any (x y c : Nat) (w : World) (hx : x ≤ 4294967295) (hy : y ≤ 4294967295) (hc : c ≤ 1) :
    Calls Tryz.prog 116 #[.int .u32 x, .int .u32 y, .int .u32 c] w fun e w' => e = .returned (.tuple #[.int .u32 ((x + y + c) % bb : Nat), .int .u32 ((x + y + c) / bb : Nat)]) ∧ w' = w := by
  go_enter Tryz.func116, Tryz.ntmps116
  go_wp2
  go_ret2
  exact ⟨ret_two (by rw [bb_eq]; omega) (by rw [bb_eq]; omega), rfl⟩
theorem top_bit {z : Nat} (h : z < 4294967296) : z / 2147483648 = if z.testBit 31 then 1 else 0 := by
  rw [Nat.testBit_eq_decide_div_mod_eq]
  have : z / 2147483648 < 2 := Nat.div_lt_of_lt_mul h
  simp only [Nat.reducePow, decide_eq_true_eq]
  split <;> omega
/-- Which bit is borrowed, by the words' highest bits. -/
theorem borrow_nat {x y c : Nat} (hx : x < 4294967296) (hy : y < 4294967296) (hc : c ≤ 1) {d : Nat} (hd : d < 4294967296) (he : d + y + c = x ∨ d + y + c = x + 4294967296) :
    (((4294967295 ^^^ x) &&& y) ||| ((4294967295 ^^^ (x ^^^ y)) &&& d)) / 2147483648 = if x < y + c then 1 else 0 := by
  have hm : (4294967295 : Nat) < 2 ^ 32 := by decide
  have hx' : x < 2 ^ 32 := hx
  have hy' : y < 2 ^ 32 := hy
  have hd' : d < 2 ^ 32 := hd
  have b : (((4294967295 ^^^ x) &&& y) ||| ((4294967295 ^^^ (x ^^^ y)) &&& d)) < 2 ^ 32 :=
    Nat.or_lt_two_pow (Nat.and_lt_two_pow _ hy') (Nat.and_lt_two_pow _ hd')
  rw [top_bit b]
  have tx := Nat.testBit_eq_decide_div_mod_eq (x := x) (i := 31)
  have ty := Nat.testBit_eq_decide_div_mod_eq (x := y) (i := 31)
  have td := Nat.testBit_eq_decide_div_mod_eq (x := d) (i := 31)
  simp only [Nat.reducePow] at tx ty td
  simp only [Nat.testBit_or, Nat.testBit_and, Nat.testBit_xor, tx, ty, td, show Nat.testBit 4294967295 31 = true from by decide]
  by_cases h1 : x / 2147483648 % 2 = 1 <;> by_cases h2 : y / 2147483648 % 2 = 1 <;> by_cases h3 : d / 2147483648 % 2 = 1 <;> simp [h1, h2, h3] <;> omega
theorem borrow_int {x y c d : Nat} (hx : x < 4294967296) (hy : y < 4294967296) (hc : c ≤ 1) (hd : d < 4294967296) (he : d + y + c = x ∨ d + y + c = x + 4294967296) :
    bits .or .u32 (bits .and .u32 (bits .xor .u32 IntKind.u32.max (x : Int)) (y : Int)) (bits .and .u32 (bits .xor .u32 IntKind.u32.max (bits .xor .u32 (x : Int) (y : Int))) (d : Int)) / 2147483648 = ((if x < y + c then 1 else 0 : Nat) : Int) := by
  have hm : IntKind.u32.max = ((4294967295 : Nat) : Int) := by decide
  have lim : ∀ a b : Nat, a < 4294967296 → b < 4294967296 → a ^^^ b < 4294967296 := fun a b ha hb => Nat.xor_lt_two_pow (n := 32) ha hb
  have lia : ∀ a b : Nat, b < 4294967296 → a &&& b < 4294967296 := fun a b hb => Nat.and_lt_two_pow (n := 32) a hb
  rw [hm, u32_xor_nat _ _ (by decide) hx, u32_xor_nat _ _ hx hy, u32_xor_nat _ _ (by decide) (lim _ _ hx hy), u32_and_nat _ _ (lim _ _ (by decide) hx) hy, u32_and_nat _ _ (lim _ _ (by decide) (lim _ _ hx hy)) hd, u32_or_nat _ _ (lia _ _ hy) (lia _ _ hd), ← borrow_nat hx hy hc hd he]
  rfl
set_option maxHeartbeats 400000 in
theorem sub32_any (x y c : Nat) (w : World) (hx : x ≤ 4294967295) (hy : y ≤ 4294967295) (hc : c ≤ 1) :
    Calls Tryz.prog 115 #[.int .u32 x, .int .u32 y, .int .u32 c] w fun e w' => e = .returned (.tuple #[.int .u32 ((x + bb - y - c) % bb : Nat), .int .u32 ((if x < y + c then 1 else 0 : Nat) : Int)]) ∧ w' = w := by
  have hd : ((x : Int) - y - c) % 4294967296 = ((x + bb - y - c) % bb : Nat) := by rw [bb_eq]; omega
  have hlt : (x + bb - y - c) % bb < 4294967296 := Nat.mod_lt _ bb_pos
  have h2 := borrow_int (x := x) (y := y) (c := c) (by omega) (by omega) hc hlt (by rw [bb_eq]; omega)
  generalize (if x < y + c then 1 else 0 : Nat) = q at *
  rw [← hd] at h2 ⊢
  have H2 := Lib.hid h2
  clear h2 hd hlt
  go_enter Tryz.func115, Tryz.ntmps115
  go_wp2
  go_ret2
  exact ⟨ret_two rfl H2.out, rfl⟩
set_option maxHeartbeats 400000 in
set_option maxRecDepth 100000 in
theorem plus_any (N M : Nat) (w : World) (hN : N < bb ^ 32) (hM : M < bb ^ 32) :
    Calls Tryz.prog 117 #[.agg (wc N).toArray, .agg (wc M).toArray] w fun e w' => e = .returned (.tuple #[.agg (wc ((N + M) % bb ^ 32)).toArray, .bool (decide (N + M < bb ^ 32))]) ∧ Below w.heap.size w w' := by
  have HN := Lib.hid hN
  have HM := Lib.hid hM
  clear hN hM
  go_enter Tryz.func117, Tryz.ntmps117
  go_wp2_with (first | (with_reducible refine alA rfl rfl ?_))
  go_loopw [7, 9] (fun c i wr => ∃ k : Nat, k ≤ 32 ∧ i = .int .i64 k ∧ c = .int .u32 (cy N M k : Nat) ∧ Below w.heap.size w wr ∧ Blk wr w.heap.size (wc N) 41 ∧ Blk wr (w.heap.size + 1) (wc M) 41 ∧ Blk wr (w.heap.size + 1 + 1) (wc 0) 41 ∧ Blk wr (w.heap.size + 1 + 1 + 1) (wc (sm N M k)) 41) (fun _ i _ => 32 - (intOf i).toNat)
  case atStart =>
    exact ⟨0, by omega, rfl, by rw [cy_zero]; rfl, ((((Below.refl _ _).alloc (Nat.le_refl _) _).alloc (by simp) _).alloc (by simp; omega) _).alloc (by simp; omega) _,
      (((Blk.new _ _ _ rfl).old _).old _).old _, ((Blk.new _ _ _ (by simp)).old _).old _, (Blk.new _ _ _ (by simp)).old _, by rw [sm_zero]; exact Blk.new _ _ _ (by simp)⟩
  case round =>
    obtain ⟨k, hk, rfl, rfl, hb, b0, b1, b2, b3⟩ := hrel
    have hcy := cy_le N M k
    by_cases hlt : k < 32
    · have c0 := b0.cell (wc_get N k hlt)
      have c1 := b1.cell (wc_get M k hlt)
      have f3 := b3.frozen k
      have c3 := b3.cell (wc_get (sm N M k) k hlt)
      have d0 := dig_le N k
      have d1 := dig_le M k
      go_wp2_with fail
      go_region_held3 (fun w' => w'.cell? ⟨w.heap.size, k, none⟩ = some (.int .u32 (dig N k : Nat)) ∧ w'.cell? ⟨w.heap.size + 1, k, none⟩ = some (.int .u32 (dig M k : Nat))) (first | exact ⟨c0, c1⟩ | exact ⟨(b0.setOther _ _ (by omega)).drew.cell (wc_get N k hlt), (b1.setOther _ _ (by omega)).drew.cell (wc_get M k hlt)⟩) (first | (go_at_call 116; refine (add32_any _ _ _ _ d0 d1 hcy).mono ?_; rintro e w' ⟨rfl, rfl⟩))
      go_wp2
      go_roundw
      case rel =>
        refine ⟨k + 1, by omega, by go_num, int_eq (by rw [cy_succ]; push_cast; rfl), (hb.setCell (by simp; omega) _).drew, (b0.setOther _ _ (by omega)).drew, (b1.setOther _ _ (by omega)).drew, (b2.setOther _ _ (by omega)).drew, ?_⟩
        have := (b3.set k (.int .u32 ((dig N k + dig M k + cy N M k) % bb : Nat))).drew
        rw [wc_set (sm_lt N M k) (Nat.mod_lt _ bb_pos), ← sm_succ] at this
        push_cast at this
        exact this
      case measure => simp [intOf]; omega
    · obtain rfl : k = 32 := by omega
      go_wp2_with (first | (with_reducible refine ldA rfl rfl rfl b3 ?_) | (with_reducible refine stA rfl rfl rfl rfl b2 ?_))
      have e1 := sm_all HN.out HM.out
      have e2 := cy_all HN.out HM.out
      refine ret_ct (cs := wc (sm N M 32)) (v := .bool ((cy N M 32 : Int) == 0)) rfl rfl rfl rfl (whole23 _) (b2.row _) ⟨?_, below_row hb (by omega) _⟩
      rw [e1, show ((cy N M 32 : Int) == 0) = decide (N + M < bb ^ 32) from by rw [Bool.eq_iff_iff]; simp [← e2]]
end Go.Proofs.YtoegjibeomhekaaGreat

/- wide.minus, wide.compare. -/
namespace Go.Proofs.YtoegjibeomhekaaGreat
open Go.RowKit
set_option maxRecDepth 100000
set_option maxHeartbeats 400000 in
set_option maxRecDepth 100000 in
theorem minus_any (N M : Nat) (w : World) (hN : N < bb ^ 32) (hM : M < bb ^ 32) (hle : M ≤ N) :
    Calls Tryz.prog 118 #[.agg (wc N).toArray, .agg (wc M).toArray] w fun e w' => e = .returned (.agg (wc (N - M)).toArray) ∧ Below w.heap.size w w' := by
  have HE := Lib.hid (df_all hN hM hle)
  clear hN hM hle
  go_enter Tryz.func118, Tryz.ntmps118
  go_wp2_with (first | (with_reducible refine alA rfl rfl ?_))
  go_loopw [6, 8] (fun c i wr => ∃ k : Nat, k ≤ 32 ∧ i = .int .i64 k ∧ c = .int .u32 (br N M k : Nat) ∧ Below w.heap.size w wr ∧ Blk wr w.heap.size (wc N) 41 ∧ Blk wr (w.heap.size + 1) (wc M) 41 ∧ Blk wr (w.heap.size + 1 + 1) (wc 0) 41 ∧ Blk wr (w.heap.size + 1 + 1 + 1) (wc (df N M k)) 41) (fun _ i _ => 32 - (intOf i).toNat)
  case atStart =>
    exact ⟨0, by omega, rfl, by rw [br_zero]; rfl, ((((Below.refl _ _).alloc (Nat.le_refl _) _).alloc (by simp) _).alloc (by simp; omega) _).alloc (by simp; omega) _,
      (((Blk.new _ _ _ rfl).old _).old _).old _, ((Blk.new _ _ _ (by simp)).old _).old _, (Blk.new _ _ _ (by simp)).old _, by rw [df_zero]; exact Blk.new _ _ _ (by simp)⟩
  case round =>
    obtain ⟨k, hk, rfl, rfl, hb, b0, b1, b2, b3⟩ := hrel
    have hcy := br_le N M k
    by_cases hlt : k < 32
    · have c0 := b0.cell (wc_get N k hlt)
      have c1 := b1.cell (wc_get M k hlt)
      have f3 := b3.frozen k
      have c3 := b3.cell (wc_get (df N M k) k hlt)
      have d0 := dig_le N k
      have d1 := dig_le M k
      have hq : (dig N k + bb - dig M k - br N M k) % bb < bb := Nat.mod_lt _ bb_pos
      have HS := Lib.hid (df_step (N := N) (M := M) (k := k) (c := if dig N k < dig M k + br N M k then 1 else 0) hq (by
        have e := bb_eq
        split
        · rw [Nat.mod_eq_of_lt (by omega)]; omega
        · rw [show dig N k + bb - dig M k - br N M k = (dig N k - dig M k - br N M k) + bb by omega, Nat.add_mod_right, Nat.mod_eq_of_lt (by omega)]; omega))
      have HQ := Lib.hid hq
      clear hq
      have HC := fun w => sub32_any (dig N k) (dig M k) (br N M k) w d0 d1 hcy
      generalize (dig N k + bb - dig M k - br N M k) % bb = q at *
      generalize (if dig N k < dig M k + br N M k then 1 else 0 : Nat) = c at *
      have HC' := Lib.hid HC
      clear HC
      go_wp2_with fail
      go_region_held3 (fun w' => w'.cell? ⟨w.heap.size, k, none⟩ = some (.int .u32 (dig N k : Nat)) ∧ w'.cell? ⟨w.heap.size + 1, k, none⟩ = some (.int .u32 (dig M k : Nat))) (first | exact ⟨c0, c1⟩ | exact ⟨(b0.setOther _ _ (by omega)).drew.cell (wc_get N k hlt), (b1.setOther _ _ (by omega)).drew.cell (wc_get M k hlt)⟩) (first | (go_at_call 115; refine (HC'.out _).mono ?_; rintro e w' ⟨rfl, rfl⟩))
      go_wp2
      go_roundw
      case rel =>
        refine ⟨k + 1, by omega, by go_num, int_eq (by rw [HS.out.2]), (hb.setCell (by simp; omega) _).drew, (b0.setOther _ _ (by omega)).drew, (b1.setOther _ _ (by omega)).drew, (b2.setOther _ _ (by omega)).drew, ?_⟩
        have := (b3.set k (.int .u32 (q : Nat))).drew
        rw [wc_set (df_lt N M k) HQ.out, ← HS.out.1] at this
        exact this
      case measure => simp [intOf]; omega
    · obtain rfl : k = 32 := by omega
      go_wp2_with (first | (with_reducible refine ldA rfl rfl rfl b3 ?_) | (with_reducible refine stA rfl rfl rfl rfl b2 ?_))
      refine ret_c (cs := wc (df N M 32)) rfl rfl rfl (whole23 _) (b2.row _) ⟨?_, below_row hb (by omega) _⟩
      rw [HE.out.1]
set_option maxHeartbeats 400000 in
set_option maxRecDepth 100000 in
theorem compare_any (N M : Nat) (w : World) (hN : N < bb ^ 32) (hM : M < bb ^ 32) :
    Calls Tryz.prog 85 #[.agg (wc N).toArray, .agg (wc M).toArray] w fun e w' => e = .returned (.int .i64 (cmpv N M)) ∧ Below w.heap.size w w' := by
  have HE : Hid (N / bb ^ 32 = M / bb ^ 32) := by
    show N / bb ^ 32 = M / bb ^ 32
    rw [Nat.div_eq_of_lt hN, Nat.div_eq_of_lt hM]
  clear hN hM
  go_enter Tryz.func85, Tryz.ntmps85
  go_wp2
  go_loopw [5] (fun i wr => ∃ k : Nat, k ≤ 32 ∧ i = .int .i64 ((k : Int) - 1) ∧ N / bb ^ k = M / bb ^ k ∧ Below w.heap.size w wr ∧ Blk wr w.heap.size (wc N) 41 ∧ Blk wr (w.heap.size + 1) (wc M) 41) (fun i _ => (intOf i + 1).toNat)
  case atStart =>
    exact ⟨32, by omega, rfl, HE.out, ((Below.refl _ _).alloc (Nat.le_refl _) _).alloc (by simp) _, (Blk.new _ _ _ rfl).old _, Blk.new _ _ _ (by simp)⟩
  case round =>
    obtain ⟨k, hk, rfl, he, hb, b0, b1⟩ := hrel
    have HK := Lib.hid he
    clear he
    rcases Nat.eq_zero_or_pos k with rfl | hp
    · go_wp2
      go_ret
      refine ⟨ret_int ?_, hb⟩
      have := HK.out
      simp at this
      simp [cmpv, this]
    · obtain ⟨j, rfl⟩ : ∃ j, k = j + 1 := ⟨k - 1, by omega⟩
      rw [show ((j + 1 : Nat) : Int) - 1 = (j : Int) by omega]
      have c0 := b0.cell (wc_get N j (by omega))
      have c1 := b1.cell (wc_get M j (by omega))
      have d0 := dig_le N j
      have d1 := dig_le M j
      rcases Nat.lt_trichotomy (dig N j) (dig M j) with h | h | h
      · go_wp2_with fail
        go_quiet (fail)
        go_wp2
        go_ret
        exact ⟨ret_int (by simp [cmpv, lt_of_word HK.out h]), below_drewN hb _⟩
      · have h1 : ¬ (dig N j : Int) < dig M j := by omega
        have h2 : ¬ (dig M j : Int) < dig N j := by omega
        have HH := Lib.hid h
        clear h
        go_wp2_with fail
        go_quiet (fail)
        go_wp2_with fail
        go_quiet (fail)
        go_wp2
        go_roundw
        case rel => exact ⟨j, by omega, rfl, eq_of_word HK.out HH.out, below_drewN hb _, b0, b1⟩
        case measure => simp [intOf]
      · have h1 : ¬ (dig N j : Int) < dig M j := by omega
        go_wp2_with fail
        go_quiet (fail)
        go_wp2_with fail
        go_quiet (fail)
        go_wp2
        go_ret
        have hl := lt_of_word HK.out.symm h
        exact ⟨ret_int (by simp [cmpv, hl]; omega), below_drewN (below_drewN hb _) _⟩
theorem plus_yes (N M : Nat) (w : World) (hN : N < bb ^ 32) (hM : M < bb ^ 32) (h : N + M < bb ^ 32) :
    Calls Tryz.prog 117 #[.agg (wc N).toArray, .agg (wc M).toArray] w fun e w' => e = .returned (.tuple #[.agg (wc (N + M)).toArray, .bool true]) ∧ Below w.heap.size w w' :=
  (plus_any N M w hN hM).mono fun _ _ ⟨he, hb⟩ => ⟨he.trans (by rw [Nat.mod_eq_of_lt h, decide_eq_true h]), hb⟩
theorem plus_no (N M : Nat) (w : World) (hN : N < bb ^ 32) (hM : M < bb ^ 32) (h : ¬ N + M < bb ^ 32) :
    Calls Tryz.prog 117 #[.agg (wc N).toArray, .agg (wc M).toArray] w fun e w' => e = .returned (.tuple #[.agg (wc ((N + M) % bb ^ 32)).toArray, .bool false]) ∧ Below w.heap.size w w' :=
  (plus_any N M w hN hM).mono fun _ _ ⟨he, hb⟩ => ⟨he.trans (by rw [decide_eq_false h]), hb⟩
end Go.Proofs.YtoegjibeomhekaaGreat
