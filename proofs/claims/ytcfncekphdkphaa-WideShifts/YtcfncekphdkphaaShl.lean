/- wide.shiftUp, wide.Shl. -/
import Derived.Test.YtcfncekphdkphaaBit
import Derived.Test.YtcfncekphdkphaaMul
namespace Go.Proofs.Ytcfncekphdkphaa
set_option linter.unusedSimpArgs false
set_option linter.unusedVariables false
open Go.RowKit
set_option maxRecDepth 100000
theorem pow31 {r : Nat} (h : r < 32) : 2 ^ r ≤ 2147483648 := Nat.pow_le_pow_right (n := 2) (by decide) (show r ≤ 31 by omega)
theorem wrap_shl {d r : Nat} (hd : d ≤ 4294967295) (h : r < 32) : IntKind.u64.wrap ((d : Int) * 2 ^ r) = ((d * 2 ^ r : Nat) : Int) := by
  have h1 : d * 2 ^ r ≤ 4294967295 * 2147483648 := Nat.mul_le_mul hd (pow31 h)
  have e : (d : Int) * 2 ^ r = ((d * 2 ^ r : Nat) : Int) := by push_cast; rfl
  rw [e, IntKind.wrap_u64]
  generalize d * 2 ^ r = x at *
  omega
theorem sh_zero {N r : Nat} (h : r < 32) : IntKind.u64.wrap ((dig N 0 : Int) * 2 ^ r) % 4294967296 = ((dig (N * 2 ^ r) 0 : Nat) : Int) := by
  rw [wrap_shl (dig_le N 0) h, dig_pow_zero, bb_eq]
  generalize dig N 0 * 2 ^ r = x
  omega
theorem sh_succ {N j r : Nat} (h : r < 32) : bits .or .u64 (IntKind.u64.wrap ((dig N (j + 1) : Int) * 2 ^ r)) (IntKind.u64.wrap ((dig N j : Int) * 2 ^ r) / 4294967296) % 4294967296 = ((dig (N * 2 ^ r) (j + 1) : Nat) : Int) := by
  have h1 : dig N (j + 1) * 2 ^ r ≤ 4294967295 * 2147483648 := Nat.mul_le_mul (dig_le N _) (pow31 h)
  have h2 : dig N j * 2 ^ r < 4294967296 * 2 ^ r := Nat.mul_lt_mul_of_pos_right (by have := dig_le N j; omega) (Nat.two_pow_pos r)
  have h3 : dig N j * 2 ^ r / 4294967296 < 2 ^ r := by rw [Nat.div_lt_iff_lt_mul (by decide), Nat.mul_comm (2 ^ r)]; exact h2
  have h4 := pow31 h
  rw [wrap_shl (dig_le N _) h, wrap_shl (dig_le N _) h, dig_pow_succ N j h, show ((dig N j * 2 ^ r : Nat) : Int) / 4294967296 = ((dig N j * 2 ^ r / 4294967296 : Nat) : Int) by omega,
    u64_or_nat _ _ (by omega) (by omega), nat_join r _ _ (Nat.mul_mod_left _ _) h3, bb_eq]
  omega
set_option maxHeartbeats 1000000 in
set_option maxRecDepth 100000 in
theorem shiftUp_any (N n : Nat) (w : World) (hn : n ≤ 1024) (h : N * 2 ^ n < bb ^ 32) :
    Calls Try.prog 72 #[.agg (wc N).toArray, .int .i64 n] w fun e w' => e = .returned (.agg (wc (N * 2 ^ n)).toArray) ∧ Below w.heap.size w w' := by
  have H := Lib.hid h
  clear h
  obtain ⟨q, hq⟩ : ∃ q, n / 32 = q := ⟨_, rfl⟩
  obtain ⟨r, hr⟩ : ∃ r, n % 32 = r := ⟨_, rfl⟩
  have hr1 : r < 32 := by omega
  have hq1 : q ≤ 32 := by omega
  have HQ : Hid ((n : Int) / 32 = (q : Int)) := by
    show (n : Int) / 32 = (q : Int)
    omega
  have HR : Hid ((n : Int) % 32 = (r : Int)) := by
    show (n : Int) % 32 = (r : Int)
    omega
  have HNN : Hid (n = 32 * q + r) := by
    show n = 32 * q + r
    omega
  clear hq hr
  go_enter Try.func72, Try.ntmps72
  go_wp2_with (first | (with_reducible refine alA rfl rfl ?_))
  rw [HQ.out, HR.out]
  go_loopw [8] (fun i wr => ∃ k : Nat, q ≤ k ∧ k ≤ 32 ∧ i = .int .i64 k ∧ Below w.heap.size w wr ∧ Blk wr w.heap.size (wc N) 23 ∧ Blk wr (w.heap.size + 1) (wc 0) 23 ∧ Blk wr (w.heap.size + 1 + 1) (wc (N * 2 ^ n % bb ^ k)) 23) (fun i _ => 32 - (intOf i).toNat)
  case atStart =>
    refine ⟨q, Nat.le_refl _, hq1, rfl, (((Below.refl _ _).alloc (Nat.le_refl _) _).alloc (by simp) _).alloc (by simp; omega) _, ((Blk.new _ _ _ rfl).old _).old _, (Blk.new _ _ _ (by simp)).old _, ?_⟩
    rw [HNN.out, shift_words, Nat.mul_mod_left]
    exact Blk.new _ _ _ (by simp)
  case round =>
    obtain ⟨k, hk1, hk, rfl, hb, b0, b1, b2⟩ := hrel
    by_cases hlt : k < 32
    · have hlt' : (k : Int) < 32 := by omega
      by_cases h0 : k = q
      · subst h0
        have c0 := b0.cell (wc_get N 0 (by omega))
        have c2 := b2.cell (wc_get (N * 2 ^ n % bb ^ k) k (by omega))
        have f2 := b2.frozen k
        have d0 := dig_le N 0
        go_wp2
        rw [sh_zero hr1]
        go_roundw
        case rel =>
          refine ⟨k + 1, by omega, by omega, by go_num, hb.setCell (by simp; omega) _, b0.setOther _ _ (by omega), b1.setOther _ _ (by omega), ?_⟩
          have := b2.set k (.int .u32 (dig (N * 2 ^ r) 0 : Nat))
          rw [wc_set (Nat.mod_lt _ (bp_pos k)) (dig_lt _ _)] at this
          rw [mod_succ, HNN.out, shift_words]
          rw [HNN.out, shift_words] at this
          have e := dig_shift (N * 2 ^ r) k 0
          rw [Nat.add_zero] at e
          rw [e]
          exact this
        case measure => simp [intOf]; omega
      · obtain ⟨j, hj⟩ : ∃ j, k = q + j + 1 := ⟨k - q - 1, by omega⟩
        have e1 : (k : Int) - (q : Int) = (j : Int) + 1 := by omega
        have hj1 : j + 1 < 32 := by omega
        have hqk : (q : Int) < (k : Int) := by omega
        have HJ := Lib.hid hj
        clear hj h0
        have c0 := b0.cell (wc_get N (j + 1) (by omega))
        have c1 := b0.cell (wc_get N j (by omega))
        have c2 := b2.cell (wc_get (N * 2 ^ n % bb ^ k) k (by omega))
        have f2 := b2.frozen k
        have d0 := dig_le N (j + 1)
        have d1 := dig_le N j
        go_wp2
        rw [sh_succ hr1]
        go_roundw
        case rel =>
          refine ⟨k + 1, by omega, by omega, by go_num, hb.setCell (by simp; omega) _, b0.setOther _ _ (by omega), b1.setOther _ _ (by omega), ?_⟩
          have := b2.set k (.int .u32 (dig (N * 2 ^ r) (j + 1) : Nat))
          rw [wc_set (Nat.mod_lt _ (bp_pos k)) (dig_lt _ _)] at this
          rw [mod_succ, HNN.out, shift_words]
          rw [HNN.out, shift_words] at this
          have e := dig_shift (N * 2 ^ r) q (j + 1)
          rw [← Nat.add_assoc, ← HJ.out] at e
          rw [e]
          exact this
        case measure => simp [intOf]; omega
    · obtain rfl : k = 32 := by omega
      go_wp2_with (first | (with_reducible refine ldA rfl rfl rfl b2 ?_) | (with_reducible refine stA rfl rfl rfl rfl b1 ?_))
      refine ret_c (cs := wc (N * 2 ^ n % bb ^ 32)) rfl rfl rfl (whole23 _) (b1.row _) ⟨?_, below_row hb (by omega) _⟩
      rw [Nat.mod_eq_of_lt H.out]
theorem bb_pow (e : Nat) (h : e = 32 * 32) : bb ^ 32 = 2 ^ e := by subst h; exact bp_two 32
theorem two_le {a b : Nat} (h : a ≤ b) : 2 ^ a ≤ 2 ^ b := Nat.pow_le_pow_right (by decide) h
theorem two_lt {a b : Nat} (h : a < b) : 2 ^ a < 2 ^ b := Nat.pow_lt_pow_right (by decide) h
theorem bit_fits_of {N k E : Nat} (h0 : N ≠ 0) : (bitLen N + k ≤ E) ↔ N * 2 ^ k < 2 ^ E := by
  have ⟨h1, h2⟩ := bitLen_spec N
  have h3 := h2 h0
  have hb : 0 < bitLen N := by unfold bitLen; rw [if_neg h0]; omega
  have hp : 0 < 2 ^ k := Nat.two_pow_pos k
  constructor
  · intro h
    have a := Nat.mul_lt_mul_of_pos_right h1 hp
    rw [← Nat.pow_add] at a
    exact Nat.lt_of_lt_of_le a (two_le h)
  · intro h
    have a := Nat.mul_le_mul_right (2 ^ k) h3
    rw [← Nat.pow_add] at a
    have b := Nat.lt_of_le_of_lt a h
    have c := (Nat.pow_lt_pow_iff_right (show 1 < 2 by decide)).1 b
    omega
theorem bit_fits {N k : Nat} (h0 : N ≠ 0) : (bitLen N + k ≤ 1024) ↔ N * 2 ^ k < bb ^ 32 := by
  rw [bb_pow 1024 rfl]
  exact bit_fits_of h0
theorem run_max {P : Program} (ats : Array TypeId) (ty : TypeId) (n c : Int) (w : World) : (Builtin.max_ ats ty #[.int .i64 n, .int .i64 c]).run P w = .ok (.int .i64 (max n c)) w := by
  simp only [Builtin.max_, List.foldlM_cons, List.foldlM_nil]
  simp [Builtin.max2, go_sem]
  omega
theorem bmax {ops : Array Oper} {rest : List Oper} {o : Oper} {a : Act} {w : World} {Q : Exit → Act → World → Prop} {x : Operand} {n c : Int} (hgd : o.guard = none) (ho : o.op = .call { callee := .builtin .max, args := #[x, .const (.int .i64 c)], argTypes := #[3, 3] }) (hx : a.eval x = .int .i64 n)
    (hr : wpList Try.prog ops Q rest (a.put o.dst (.int .i64 (max n c))) w) : wpList Try.prog ops Q (o :: rest) a w :=
  wpList_plain hgd fun K hK => by
    have := hK _ _ hr
    obtain ⟨dst, op, ty, pos, af, gd⟩ := o
    subst ho
    unfold Oper.wp
    rw [BigFrame.execOp_builtin, BigFrame.builtin_max, show (#[x, Operand.const (.int .i64 c)] : Array Operand).map a.eval = #[.int .i64 n, .int .i64 c] by simp [hx, BigFrame.eval_const]]
    simp only [Sem.run_bind, run_max]
    exact this
theorem run_min {P : Program} (ats : Array TypeId) (ty : TypeId) (n c : Int) (w : World) : (Builtin.min_ ats ty #[.int .i64 n, .int .i64 c]).run P w = .ok (.int .i64 (min n c)) w := by
  simp only [Builtin.min_, List.foldlM_cons, List.foldlM_nil]
  simp [Builtin.min2, go_sem]
  omega
theorem bmin {ops : Array Oper} {rest : List Oper} {o : Oper} {a : Act} {w : World} {Q : Exit → Act → World → Prop} {x : Operand} {n c : Int} (hgd : o.guard = none) (ho : o.op = .call { callee := .builtin .min, args := #[x, .const (.int .i64 c)], argTypes := #[3, 3] }) (hx : a.eval x = .int .i64 n)
    (hr : wpList Try.prog ops Q rest (a.put o.dst (.int .i64 (min n c))) w) : wpList Try.prog ops Q (o :: rest) a w :=
  wpList_plain hgd fun K hK => by
    have := hK _ _ hr
    obtain ⟨dst, op, ty, pos, af, gd⟩ := o
    subst ho
    unfold Oper.wp
    rw [BigFrame.execOp_builtin, BigFrame.builtin_min, show (#[x, Operand.const (.int .i64 c)] : Array Operand).map a.eval = #[.int .i64 n, .int .i64 c] by simp [hx, BigFrame.eval_const]]
    simp only [Sem.run_bind, run_min]
    exact this
set_option maxHeartbeats 1000000 in
set_option maxRecDepth 100000 in
theorem Shl_yes (s : Bool) (N : Nat) (n : Int) (k : Nat) (w : World) (hn1 : -9223372036854775808 ≤ n) (hn2 : n ≤ 9223372036854775807) (hk : min (max n 0) 1024 = (k : Int)) (h0 : N ≠ 0) (hN : N < bb ^ 32) (h : N * 2 ^ k < bb ^ 32) :
    Calls Try.prog 21 #[.agg (wd s N).toArray, .int .i64 n] w fun e w' => e = .returned (.tuple #[.agg (mk (zn s N * 2 ^ k)).toArray, .bool true]) ∧ Below w.heap.size w w' := by
  have HN := Lib.hid hN
  have H := Lib.hid h
  have hk1 : k ≤ 1024 := by omega
  have hs : bitLen N + k ≤ 1024 := (bit_fits h0).2 h
  have hs' : ¬ (1024 : Int) < (bitLen N : Int) + (k : Int) := by omega
  have hz : ((bitLen N : Int) == 0) = false := by
    have : 0 < bitLen N := by unfold bitLen; rw [if_neg h0]; omega
    rw [beq_eq_false_iff_ne]; omega
  have HK := Lib.hid hk
  have HZ : Hid (zn s N * 2 ^ k = zn s (N * 2 ^ k)) := by
    show zn s N * 2 ^ k = zn s (N * 2 ^ k)
    unfold zn; cases s <;> simp [Int.neg_mul]
  clear hN h hk h0
  have b0 := (Blk.new w (wd s N) 25 rfl).old (.cells (wd false 0).toArray 25)
  have b1 := Blk.new (w.alloc (.cells (wd s N).toArray 25)) (wd false 0) 25 (b := w.heap.size + 1) (by simp)
  have hb : Below w.heap.size w ((w.alloc (.cells (wd s N).toArray 25)).alloc (.cells (wd false 0).toArray 25)) := ((Below.refl _ _).alloc (Nat.le_refl _) _).alloc (by simp) _
  go_enter Try.func21, Try.ntmps21
  go_wp2_with (first | (with_reducible refine alW rfl rfl ?_) | (with_reducible refine ldD rfl rfl rfl b0 ?_) | (with_reducible refine bmax rfl rfl rfl ?_) | (with_reducible refine bmin rfl rfl rfl ?_))
  refine (bitLength_any N _ HN.out).mono ?_
  rintro e w1 ⟨rfl, hb1⟩
  rw [HK.out]
  replace b0 := b0.call hb1
  replace b1 := b1.call hb1
  replace hb := bthen hb hb1
  go_wp2_with fail
  refine rg_start [w.heap.size + 1] (by kernel_rfl) (fun hS => ?_)
  replace b1 := b1.drew
  have hb := hb.drew
  refine rg_take 0 rfl (by kernel_rfl) (by kernel_rfl) (by kernel_rfl) (by rfl) hS (v := ?_) ?_ ?_
  rotate_left
  · (intro w' hS'; go_simp <;> try with_reducible rfl)
  try simp only [Act.put, List.setIfInBounds_toArray, List.set_cons_zero, List.set_cons_succ]
  refine rg_take 1 rfl (by kernel_rfl) (by kernel_rfl) (by kernel_rfl) (by rfl) hS (v := ?_) ?_ ?_
  rotate_left
  · (intro w' hS'; have hc := (b0.keep hS' (by simp <;> omega)).cell (i := 0) (v := .bool s) (wd_sign s N); go_simp <;> try with_reducible rfl)
  try simp only [Act.put, List.setIfInBounds_toArray, List.set_cons_zero, List.set_cons_succ]
  refine rg_take 2 rfl (by kernel_rfl) (by kernel_rfl) (by kernel_rfl) (by rfl) hS (v := ?_) ?_ ?_
  rotate_left
  · (intro w' hS'; go_simp <;> try with_reducible rfl)
  try simp only [Act.put, List.setIfInBounds_toArray, List.set_cons_zero, List.set_cons_succ]
  refine rg_ldT 3 rfl (by kernel_rfl) (by kernel_rfl) (by kernel_rfl) (by rfl) hS rfl rfl b0 (by simp <;> omega) (whole23 _) ?_
  try simp only [Act.put, List.setIfInBounds_toArray, List.set_cons_zero, List.set_cons_succ]
  refine rg_take 4 rfl (by kernel_rfl) (by kernel_rfl) (by kernel_rfl) (by rfl) hS (v := ?_) ?_ ?_
  rotate_left
  · (intro w' hS'; go_simp <;> try with_reducible rfl)
  try simp only [Act.put, List.setIfInBounds_toArray, List.set_cons_zero, List.set_cons_succ]
  refine rg_eff 5 rfl (by kernel_rfl) (by rfl) (fun K hK => ?_)
  go_simp
  refine (shiftUp_any N k _ hk1 H.out).mono ?_
  rintro e w2 ⟨rfl, hb2⟩
  refine hK _ _ (hS.call hb2) (fun hS => ?_)
  clear hK K
  replace b1 := b1.call hb2
  try simp only [Act.put, List.setIfInBounds_toArray, List.set_cons_zero, List.set_cons_succ]
  refine rg_eff 6 rfl (by kernel_rfl) (by rfl) (fun K hK => ?_)
  go_simp
  refine (signed_mk s (N * 2 ^ k) _ H.out).mono ?_
  rintro e w3 ⟨rfl, hb3⟩
  refine hK _ _ (hS.call hb3) (fun hS => ?_)
  clear hK K
  replace b1 := b1.call hb3
  try simp only [Act.put, List.setIfInBounds_toArray, List.set_cons_zero, List.set_cons_succ]
  refine rg_eff 7 rfl (by kernel_rfl) (by rfl) (fun K hK => ?_)
  refine wp_st (vs := mk (zn s (N * 2 ^ k))) rfl rfl rfl b1 (by rw [wd_length, mk_length]) (wholeM _) (mk_one _) ?_
  refine hK _ _ (hS.row (.inl (by simp)) _) (fun hS => ?_)
  clear hK K
  try simp only [Act.put, List.setIfInBounds_toArray, List.set_cons_zero, List.set_cons_succ]
  refine rg_take 8 rfl (by kernel_rfl) (by kernel_rfl) (by kernel_rfl) (by rfl) hS (v := ?_) ?_ ?_
  rotate_left
  · (intro w' hS'; go_simp <;> try with_reducible rfl)
  try simp only [Act.put, List.setIfInBounds_toArray, List.set_cons_zero, List.set_cons_succ]
  refine rg_done (by kernel_rfl) ?_
  go_wp2
  refine ret_ct (cs := mk (zn s (N * 2 ^ k))) (v := .bool true) rfl rfl rfl rfl (wholeM _) (b1.row _) ⟨?_, below_row (bthen (bthen hb hb2) hb3) (by omega) _⟩
  rw [HZ.out]
set_option maxHeartbeats 1000000 in
set_option maxRecDepth 100000 in
theorem Shl_no (s : Bool) (N : Nat) (n : Int) (k : Nat) (w : World) (hn1 : -9223372036854775808 ≤ n) (hn2 : n ≤ 9223372036854775807) (hk : min (max n 0) 1024 = (k : Int)) (h0 : N ≠ 0) (hN : N < bb ^ 32) (h : ¬ N * 2 ^ k < bb ^ 32) :
    Calls Try.prog 21 #[.agg (wd s N).toArray, .int .i64 n] w fun e w' => e = .returned (.tuple #[.agg (mk 0).toArray, .bool false]) ∧ Below w.heap.size w w' := by
  have HN := Lib.hid hN
  have hk1 : k ≤ 1024 := by omega
  have hs : ¬ bitLen N + k ≤ 1024 := fun e => h ((bit_fits h0).1 e)
  have hs' : (1024 : Int) < (bitLen N : Int) + (k : Int) := by omega
  have hbl : bitLen N ≤ 1024 := by have := (bit_fits (k := 0) h0).2 (by simpa using hN); omega
  have hz : ((bitLen N : Int) == 0) = false := by
    have : 0 < bitLen N := by unfold bitLen; rw [if_neg h0]; omega
    rw [beq_eq_false_iff_ne]; omega
  have HK := Lib.hid hk
  clear hN h hk h0 hs
  have b0 := (Blk.new w (wd s N) 25 rfl).old (.cells (wd false 0).toArray 25)
  have b1 := Blk.new (w.alloc (.cells (wd s N).toArray 25)) (wd false 0) 25 (b := w.heap.size + 1) (by simp)
  have hb : Below w.heap.size w ((w.alloc (.cells (wd s N).toArray 25)).alloc (.cells (wd false 0).toArray 25)) := ((Below.refl _ _).alloc (Nat.le_refl _) _).alloc (by simp) _
  go_enter Try.func21, Try.ntmps21
  go_wp2_with (first | (with_reducible refine alW rfl rfl ?_) | (with_reducible refine ldD rfl rfl rfl b0 ?_) | (with_reducible refine bmax rfl rfl rfl ?_) | (with_reducible refine bmin rfl rfl rfl ?_))
  refine (bitLength_any N _ HN.out).mono ?_
  rintro e w1 ⟨rfl, hb1⟩
  rw [HK.out]
  replace b1 := b1.call hb1
  go_wp2_with (first | (with_reducible refine bdW0 rfl rfl ?_) | (with_reducible refine stW rfl rfl rfl rfl b1 ?_))
  exact ret_ct (v := .bool false) rfl rfl rfl rfl (whole25 _ _) (b1.row _) ⟨rfl, below_row (bthen hb hb1) (by omega) _⟩
set_option maxHeartbeats 1000000 in
set_option maxRecDepth 100000 in
theorem Shl_zero (s : Bool) (n : Int) (k : Nat) (w : World) (hn1 : -9223372036854775808 ≤ n) (hn2 : n ≤ 9223372036854775807) (hk : min (max n 0) 1024 = (k : Int)) :
    Calls Try.prog 21 #[.agg (wd s 0).toArray, .int .i64 n] w fun e w' => e = .returned (.tuple #[.agg (mk 0).toArray, .bool true]) ∧ Below w.heap.size w w' := by
  have HN : Hid (0 < bb ^ 32) := bp_pos 32
  have HK := Lib.hid hk
  clear hk
  have b0 := (Blk.new w (wd s 0) 25 rfl).old (.cells (wd false 0).toArray 25)
  have b1 := Blk.new (w.alloc (.cells (wd s 0).toArray 25)) (wd false 0) 25 (b := w.heap.size + 1) (by simp)
  have hb : Below w.heap.size w ((w.alloc (.cells (wd s 0).toArray 25)).alloc (.cells (wd false 0).toArray 25)) := ((Below.refl _ _).alloc (Nat.le_refl _) _).alloc (by simp) _
  go_enter Try.func21, Try.ntmps21
  go_wp2_with (first | (with_reducible refine alW rfl rfl ?_) | (with_reducible refine ldD rfl rfl rfl b0 ?_) | (with_reducible refine bmax rfl rfl rfl ?_) | (with_reducible refine bmin rfl rfl rfl ?_))
  refine (bitLength_any 0 _ HN.out).mono ?_
  rintro e w1 ⟨rfl, hb1⟩
  rw [HK.out]
  rw [show ((bitLen 0 : Nat) : Int) = 0 from rfl]
  replace b1 := b1.call hb1
  go_wp2_with (first | (with_reducible refine bdW0 rfl rfl ?_) | (with_reducible refine stW rfl rfl rfl rfl b1 ?_))
  exact ret_ct (v := .bool true) rfl rfl rfl rfl (whole25 _ _) (b1.row _) ⟨rfl, below_row (bthen hb hb1) (by omega) _⟩
/-- How far Shl shifts. -/
def held (n : Int) : Nat := (min (max n 0) 1024).toNat
theorem held_eq (n : Int) : min (max n 0) 1024 = (held n : Int) := by unfold held; omega
theorem Shl_w {cs : List Value} {x : Int} (hx : Wd cs x) (n : Int) (w : World) (hn1 : -9223372036854775808 ≤ n) (hn2 : n ≤ 9223372036854775807) (h : fits (x * 2 ^ held n)) :
    Calls Try.prog 21 #[.agg cs.toArray, .int .i64 n] w fun e w' => e = .returned (.tuple #[.agg (mk (x * 2 ^ held n)).toArray, .bool true]) ∧ Below w.heap.size w w' := by
  obtain ⟨s, N, rfl, rfl, hN⟩ := hx
  by_cases h0 : N = 0
  · subst h0
    rw [show zn s 0 = 0 by cases s <;> rfl, Int.zero_mul]
    exact Shl_zero s n _ w hn1 hn2 (held_eq n)
  · refine Shl_yes s N n _ w hn1 hn2 (held_eq n) h0 hN ?_
    rw [fits, Int.natAbs_mul, zn_abs, Int.natAbs_pow] at h
    exact h
theorem Shl_wn {cs : List Value} {x : Int} (hx : Wd cs x) (n : Int) (w : World) (hn1 : -9223372036854775808 ≤ n) (hn2 : n ≤ 9223372036854775807) (h : ¬ fits (x * 2 ^ held n)) :
    Calls Try.prog 21 #[.agg cs.toArray, .int .i64 n] w fun e w' => e = .returned (.tuple #[.agg (mk 0).toArray, .bool false]) ∧ Below w.heap.size w w' := by
  obtain ⟨s, N, rfl, rfl, hN⟩ := hx
  rw [fits, Int.natAbs_mul, zn_abs, Int.natAbs_pow] at h
  by_cases h0 : N = 0
  · subst h0
    exact absurd (by rw [Nat.zero_mul]; exact bp_pos 32) h
  · exact Shl_no s N n _ w hn1 hn2 (held_eq n) h0 hN h
end Go.Proofs.Ytcfncekphdkphaa
