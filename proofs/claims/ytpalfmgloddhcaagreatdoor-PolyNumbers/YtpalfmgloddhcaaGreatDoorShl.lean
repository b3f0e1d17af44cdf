/- Joined of: Bit Mul Shl. -/
import Derived.Test.YtpalfmgloddhcaaGreatDoorWid
import Derived.Lib.BitFns
/- math/bits.Len32, wide.bitLength, wide.Bits, wide.shiftUp, wide.Shl. -/
namespace Go.Proofs.YtpalfmgloddhcaaGreatDoor
open Go.RowKit
set_option maxRecDepth 100000
theorem bl_log {x : Nat} (h : x < 4294967296) : Lib.bitLen x = bitLen x := by
  by_cases h0 : x = 0
  · subst h0; rfl
  · have h1 := Lib.bitLen_shift x.log2 x (Nat.log2_self_le h0) (by omega)
    have h2 : x / 2 ^ x.log2 = 1 := by
      have a := (Nat.le_div_iff_mul_le (Nat.two_pow_pos _)).2 (show 1 * 2 ^ x.log2 ≤ x by rw [Nat.one_mul]; exact Nat.log2_self_le h0)
      have b := (Nat.div_lt_iff_lt_mul (Nat.two_pow_pos x.log2)).2 (show x < 2 * 2 ^ x.log2 by rw [Nat.mul_comm, ← Nat.pow_succ]; exact Nat.lt_log2_self)
      omega
    rw [h1, h2, bitLen, if_neg h0]
    rfl
/-- A byte of the library's table of lengths. -/
theorem ixT {ops : Array Oper} {rest : List Oper} {o : Oper} {a : Act} {w : World} {Q : Exit → Act → World → Prop} {S : ByteArray} {x : Operand} {k : IntKind} {i : Int} (hS : S = Lib.len8tab) (hgd : o.guard = none) (ho : o.op = .index 9 (.const (.string S)) x) (hx : a.eval x = .int k i) (h0 : 0 ≤ i) (h1 : i ≤ 255)
    (hr : bitLen i.toNat ≤ 8 → wpList Tryz.prog ops Q rest (a.put o.dst (.int .u8 (bitLen i.toNat : Nat))) w) : wpList Tryz.prog ops Q (o :: rest) a w :=
  wpList_plain hgd fun K hK => by
    have := hK _ _ (hr (bitLen_le8 _ (by omega)))
    subst hS
    unfold Oper.wp execOp
    simp only [ho, hx, Sem.run_bind, BigFrame.eval_const, Lib.run_index_len8tab w 9 k i Tryz.underlying9 h0 h1, Lib.len8_of i h0 h1, bl_log (show i.toNat < 4294967296 by omega)]
    exact this
theorem wr_add (a b : Nat) (h : b ≤ 8) (ha : a ≤ 24) : wrap64 ((a : Int) + wrap64 (b : Int)) = ((a + b : Nat) : Int) := by
  unfold wrap64; omega
theorem wr_two (b : Nat) (h : b ≤ 8) : wrap64 (wrap64 (b : Int)) = (b : Int) := by
  unfold wrap64; omega
set_option maxHeartbeats 400000 in
set_option maxRecDepth 100000 in
theorem Len32_any (x : Nat) (w : World) (hx : x ≤ 4294967295) :
    Calls Tryz.prog 162 #[.int .u32 x] w fun e w' => e = .returned (.int .i64 (bitLen x : Nat)) ∧ w' = w := by
  have HX := Lib.hid hx
  by_cases h1 : 65536 ≤ x
  · by_cases h2 : 16777216 ≤ x
    · have g2 : (256 : Int) ≤ (x : Int) / 65536 := by omega
      have HL := Lib.hid (bitLen_shift x 24 (by omega))
      have g1 : (65536 : Int) ≤ (x : Int) := by omega
      clear h1 h2 hx
      go_enter Tryz.func162, Tryz.ntmps162
      go_wp2_with (first | (refine ixT (by kernel_rfl) rfl rfl rfl (by omega) (by have := HX.out; omega) (fun hl => ?_)))
      go_ret
      refine ⟨ret_int ?_, rfl⟩
      have := HX.out
      rw [HL.out, show x / 65536 / 256 % 256 = x / 2 ^ 24 by omega]
      exact wr_add 24 _ (bitLen_le8 _ (by omega)) (by omega)
    · have g2 : ¬ (256 : Int) ≤ (x : Int) / 65536 := by omega
      have HL := Lib.hid (bitLen_shift x 16 (by omega))
      have g1 : (65536 : Int) ≤ (x : Int) := by omega
      have H2 := Lib.hid h2
      clear h1 h2 hx
      go_enter Tryz.func162, Tryz.ntmps162
      go_wp2_with (first | (refine ixT (by kernel_rfl) rfl rfl rfl (by omega) (by omega) (fun hl => ?_)))
      go_ret
      refine ⟨ret_int ?_, rfl⟩
      have := H2.out
      rw [HL.out, show x / 65536 = x / 2 ^ 16 by omega]
      exact wr_add 16 _ (bitLen_le8 _ (by omega)) (by omega)
  · by_cases h2 : 256 ≤ x
    · have HL := Lib.hid (bitLen_shift x 8 (by omega))
      have g1 : ¬ (65536 : Int) ≤ (x : Int) := by omega
      have g2 : (256 : Int) ≤ (x : Int) := by omega
      have H1 := Lib.hid h1
      clear h1 h2 hx
      go_enter Tryz.func162, Tryz.ntmps162
      go_wp2_with (first | (refine ixT (by kernel_rfl) rfl rfl rfl (by omega) (by omega) (fun hl => ?_)))
      go_ret
      refine ⟨ret_int ?_, rfl⟩
      have := H1.out
      rw [HL.out, show x / 256 = x / 2 ^ 8 by omega]
      exact wr_add 8 _ (bitLen_le8 _ (by omega)) (by omega)
    · have g1 : ¬ (65536 : Int) ≤ (x : Int) := by omega
      have g2 : ¬ (256 : Int) ≤ (x : Int) := by omega
      have H2 := Lib.hid h2
      clear h1 h2 hx
      go_enter Tryz.func162, Tryz.ntmps162
      go_wp2_with (first | (refine ixT (by kernel_rfl) rfl rfl rfl (by omega) (by omega) (fun hl => ?_)))
      go_ret
      refine ⟨ret_int ?_, rfl⟩
      have := H2.out
      exact wr_two _ (bitLen_le8 _ (by omega))
theorem bitLen_words {N k : Nat} (h : N / bb ^ k ≠ 0) : bitLen N = 32 * k + bitLen (N / bb ^ k) := by
  rw [bp_two] at h ⊢
  exact bitLen_shift N (32 * k) h
end Go.Proofs.YtpalfmgloddhcaaGreatDoor

/- wide.times, wide.Mul. -/
namespace Go.Proofs.YtpalfmgloddhcaaGreatDoor
open Go.RowKit
set_option maxRecDepth 100000
theorem wc_put {Y k v : Nat} (hv : v < bb) : (wc Y).set k (.int .u32 (v : Nat)) = wc (put Y k v) := by
  apply List.ext_getElem?
  intro i
  rw [List.getElem?_set]
  by_cases hi : i < 32
  · rw [wc_get (put Y k v) i hi, wc_length]
    split
    · rename_i h; subst h
      rw [if_pos hi, dig_put_same hv]
    · rename_i h
      rw [wc_get Y i hi]
      rcases Nat.lt_or_ge i k with h1 | h1
      · rw [dig_put_low h1]
      · rw [dig_put_high hv (by omega)]
  · rw [List.getElem?_eq_none (by rw [wc_length]; omega), List.getElem?_eq_none (by rw [wc_length]; omega)]
    split
    · rw [if_neg (by rw [wc_length]; omega)]
    · rfl
theorem built23e : Tryz.prog.built 45 [] = some (wc 0).toArray := by kernel_rfl
theorem bdA0 {ops : Array Oper} {rest : List Oper} {o : Oper} {a : Act} {w : World} {Q : Exit → Act → World → Prop} (hgd : o.guard = none) (ho : o.op = .build 45 #[])
    (hr : wpList Tryz.prog ops Q rest (a.put o.dst (.agg (wc 0).toArray)) w) : wpList Tryz.prog ops Q (o :: rest) a w :=
  wpList_plain hgd fun K hK => by
    have := hK _ _ hr
    unfold Oper.wp execOp
    simp only [ho, Sem.run_bind]
    rw [show Array.map (fun x : Nat × Operand => (x.fst, a.eval x.snd)) #[] = #[] by simp, run_build w 45 #[] _ built23e]
    exact this
/-- What the loops of times keep in memory. -/
def Rows3 (w wr : World) (N M X : Nat) : Prop :=
  Below w.heap.size w wr ∧ Blk wr w.heap.size (wc N) 45 ∧ Blk wr (w.heap.size + 1) (wc M) 45 ∧ Blk wr (w.heap.size + 1 + 1) (wc 0) 45 ∧ Blk wr (w.heap.size + 1 + 1 + 1) (wc X) 45
/-- What times answers. -/
def TimesPost (w : World) (N M : Nat) (e : Ending) (w' : World) : Prop :=
  (N * M < bb ^ 32 → e = .returned (.tuple #[.agg (wc (N * M)).toArray, .bool true])) ∧ (¬ N * M < bb ^ 32 → e = .returned (.tuple #[.agg (wc 0).toArray, .bool false])) ∧ Below w.heap.size w w'
theorem zn_mul (s t : Bool) (N M : Nat) : zn s N * zn t M = zn (s != t) (N * M) := by
  unfold zn; cases s <;> cases t <;> simp [Int.neg_mul, Int.mul_neg]
end Go.Proofs.YtpalfmgloddhcaaGreatDoor

/- wide.shiftUp, wide.Shl. -/
namespace Go.Proofs.YtpalfmgloddhcaaGreatDoor
set_option linter.unusedSimpArgs false
set_option linter.unusedVariables false
open Go.RowKit
set_option maxRecDepth 100000
theorem pow31 {r : Nat} (h : r < 32) : 2 ^ r ≤ 2147483648 := Nat.pow_le_pow_right (n := 2) (by decide) (show r ≤ 31 by omega)
theorem wrap_shl {d r : Nat} (hd : d ≤ 4294967295) (h : r < 32) : IntKind.u64.wrap ((d : Int) * 2 ^ r) = ((d * 2 ^ r : Nat) : Int) := by
  have h1 : d * 2 ^ r ≤ 4294967295 * 2147483648 := Nat.mul_le_mul hd (pow31 h)
  have e : (d : Int) * 2 ^ r = ((d * 2 ^ r : Nat) : Int) := by push_cast; rfl
  rw [e, IntKind.wrap_u64]
  generalize d * 2 ^ r = x at *
  omega
theorem sh_zero {N r : Nat} (h : r < 32) : IntKind.u64.wrap ((dig N 0 : Int) * 2 ^ r) % 4294967296 = ((dig (N * 2 ^ r) 0 : Nat) : Int) := by
  rw [wrap_shl (dig_le N 0) h, dig_pow_zero, bb_eq]
  generalize dig N 0 * 2 ^ r = x
  omega
theorem sh_succ {N j r : Nat} (h : r < 32) : bits .or .u64 (IntKind.u64.wrap ((dig N (j + 1) : Int) * 2 ^ r)) (IntKind.u64.wrap ((dig N j : Int) * 2 ^ r) / 4294967296) % 4294967296 = ((dig (N * 2 ^ r) (j + 1) : Nat) : Int) := by
  have h1 : dig N (j + 1) * 2 ^ r ≤ 4294967295 * 2147483648 := Nat.mul_le_mul (dig_le N _) (pow31 h)
  have h2 : dig N j * 2 ^ r < 4294967296 * 2 ^ r := Nat.mul_lt_mul_of_pos_right (by have := dig_le N j; omega) (Nat.two_pow_pos r)
  have h3 : dig N j * 2 ^ r / 4294967296 < 2 ^ r := by rw [Nat.div_lt_iff_lt_mul (by decide), Nat.mul_comm (2 ^ r)]; exact h2
  have h4 := pow31 h
  rw [wrap_shl (dig_le N _) h, wrap_shl (dig_le N _) h, dig_pow_succ N j h, show ((dig N j * 2 ^ r : Nat) : Int) / 4294967296 = ((dig N j * 2 ^ r / 4294967296 : Nat) : Int) by omega,
    u64_or_nat _ _ (by omega) (by omega), nat_join r _ _ (Nat.mul_mod_left _ _) h3, bb_eq]
  omega
theorem bb_pow (e : Nat) (h : e = 32 * 32) : bb ^ 32 = 2 ^ e := by subst h; exact bp_two 32
theorem two_le {a b : Nat} (h : a ≤ b) : 2 ^ a ≤ 2 ^ b := Nat.pow_le_pow_right (by decide) h
theorem two_lt {a b : Nat} (h : a < b) : 2 ^ a < 2 ^ b := Nat.pow_lt_pow_right (by decide) h
theorem bit_fits_of {N k E : Nat} (h0 : N ≠ 0) : (bitLen N + k ≤ E) ↔ N * 2 ^ k < 2 ^ E := by
  have ⟨h1, h2⟩ := bitLen_spec N
  have h3 := h2 h0
  have hb : 0 < bitLen N := by unfold bitLen; rw [if_neg h0]; omega
  have hp : 0 < 2 ^ k := Nat.two_pow_pos k
  constructor
  · intro h
    have a := Nat.mul_lt_mul_of_pos_right h1 hp
    rw [← Nat.pow_add] at a
    exact Nat.lt_of_lt_of_le a (two_le h)
  · intro h
    have a := Nat.mul_le_mul_right (2 ^ k) h3
    rw [← Nat.pow_add] at a
    have b := Nat.lt_of_le_of_lt a h
    have c := (Nat.pow_lt_pow_iff_right (show 1 < 2 by decide)).1 b
    omega
theorem bit_fits {N k : Nat} (h0 : N ≠ 0) : (bitLen N + k ≤ 1024) ↔ N * 2 ^ k < bb ^ 32 := by
  rw [bb_pow 1024 rfl]
  exact bit_fits_of h0
theorem run_max {P : Program} (ats : Array TypeId) (ty : TypeId) (n c : Int) (w : World) : (Builtin.max_ ats ty #[.int .i64 n, .int .i64 c]).run P w = .ok (.int .i64 (max n c)) w := by
  simp only [Builtin.max_, List.foldlM_cons, List.foldlM_nil]
  simp [Builtin.max2, go_sem]
  omega
theorem bmax {ops : Array Oper} {rest : List Oper} {o : Oper} {a : Act} {w : World} {Q : Exit → Act → World → Prop} {x : Operand} {n c : Int} (hgd : o.guard = none) (ho : o.op = .call { callee := .builtin .max, args := #[x, .const (.int .i64 c)], argTypes := #[3, 3] }) (hx : a.eval x = .int .i64 n)
    (hr : wpList Tryz.prog ops Q rest (a.put o.dst (.int .i64 (max n c))) w) : wpList Tryz.prog ops Q (o :: rest) a w :=
  wpList_plain hgd fun K hK => by
    have := hK _ _ hr
    obtain ⟨dst, op, ty, pos, af, gd⟩ := o
    subst ho
    unfold Oper.wp
    rw [BigFrame.execOp_builtin, BigFrame.builtin_max, show (#[x, Operand.const (.int .i64 c)] : Array Operand).map a.eval = #[.int .i64 n, .int .i64 c] by simp [hx, BigFrame.eval_const]]
    simp only [Sem.run_bind, run_max]
    exact this
theorem run_min {P : Program} (ats : Array TypeId) (ty : TypeId) (n c : Int) (w : World) : (Builtin.min_ ats ty #[.int .i64 n, .int .i64 c]).run P w = .ok (.int .i64 (min n c)) w := by
  simp only [Builtin.min_, List.foldlM_cons, List.foldlM_nil]
  simp [Builtin.min2, go_sem]
  omega
theorem bmin {ops : Array Oper} {rest : List Oper} {o : Oper} {a : Act} {w : World} {Q : Exit → Act → World → Prop} {x : Operand} {n c : Int} (hgd : o.guard = none) (ho : o.op = .call { callee := .builtin .min, args := #[x, .const (.int .i64 c)], argTypes := #[3, 3] }) (hx : a.eval x = .int .i64 n)
    (hr : wpList Tryz.prog ops Q rest (a.put o.dst (.int .i64 (min n c))) w) : wpList Tryz.prog ops Q (o :: rest) a w :=
  wpList_plain hgd fun K hK => by
    have := hK _ _ hr
    obtain ⟨dst, op, ty, pos, af, gd⟩ := o
    subst ho
    unfold Oper.wp
    rw [BigFrame.execOp_builtin, BigFrame.builtin_min, show (#[x, Operand.const (.int .i64 c)] : Array Operand).map a.eval = #[.int .i64 n, .int .i64 c] by simp [hx, BigFrame.eval_const]]
    simp only [Sem.run_bind, run_min]
    exact this
/-- How far Shl shifts. -/
def held (n : Int) : Nat := (min (max n 0) 1024).toNat
theorem held_eq (n : Int) : min (max n 0) 1024 = (held n : Int) := by unfold held; omega
end Go.Proofs.YtpalfmgloddhcaaGreatDoor
