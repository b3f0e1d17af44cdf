/- Arrays of 33 words in memory; wide.lengthen. -/
import Derived.Test.YtcfncekphdkphaaShl
import Derived.Test.YtcfncekphdkphaaKnu
namespace Go.Proofs.Ytcfncekphdkphaa
set_option linter.unusedSimpArgs false
set_option linter.unusedVariables false
open Go.RowKit
set_option maxRecDepth 100000
/-- The words of N as cells, one more. -/
def lc (N : Nat) : List Value := (List.range 33).map fun i => Value.int .u32 (dig N i : Nat)
theorem lc_length (N : Nat) : (lc N).length = 33 := by simp [lc]
theorem lc_get (N i : Nat) (h : i < 33) : (lc N)[i]? = some (.int .u32 (dig N i : Nat)) := by simp [lc, h]
theorem lc_one (N : Nat) : ∀ v ∈ lc N, v.oneCell' = true := by
  intro v hv; simp [lc] at hv; obtain ⟨i, _, rfl⟩ := hv; rfl
theorem zeroL : (Try.prog.info? 124).map (·.zero) = some (some (.agg (lc 0).toArray)) := by kernel_rfl
theorem sizeL : (Try.prog.info? 124).map (·.size) = some 33 := by kernel_rfl
theorem underL : Try.prog.underlying 124 = some (.array 33 22) := by kernel_rfl
theorem wholeL (N : Nat) : Whole Try.prog 124 (lc N).length := ⟨_, underL, rfl, by rw [lc_length]; exact sizeL⟩
theorem lc_put {Y k v : Nat} (hv : v < bb) : (lc Y).set k (.int .u32 (v : Nat)) = lc (put Y k v) := by
  apply List.ext_getElem?
  intro i
  rw [List.getElem?_set]
  by_cases hi : i < 33
  · rw [lc_get (put Y k v) i hi, lc_length]
    split
    · rename_i h; subst h
      rw [if_pos hi, dig_put_same hv]
    · rename_i h
      rw [lc_get Y i hi]
      rcases Nat.lt_or_ge i k with h1 | h1
      · rw [dig_put_low h1]
      · rw [dig_put_high hv (by omega)]
  · rw [List.getElem?_eq_none (by rw [lc_length]; omega), List.getElem?_eq_none (by rw [lc_length]; omega)]
    split
    · rw [if_neg (by rw [lc_length]; omega)]
    · rfl
theorem lc_set {X k v : Nat} (hX : X < bb ^ k) (hv : v < bb) : (lc X).set k (.int .u32 (v : Nat)) = lc (X + bb ^ k * v) := by
  apply List.ext_getElem?
  intro i
  rw [List.getElem?_set]
  by_cases hi : i < 33
  · rw [lc_get (X + bb ^ k * v) i hi, lc_length]
    split
    · rename_i h; subst h
      rw [if_pos hi, dig_add_same hX hv]
    · rename_i h
      rw [lc_get X i hi]
      rcases Nat.lt_or_ge i k with h1 | h1
      · rw [dig_add_low h1]
      · rw [dig_add_high hX hv (by omega), dig_of_lt (Nat.lt_of_lt_of_le hX (bp_mono h1))]
  · rw [List.getElem?_eq_none (by rw [lc_length]; omega), List.getElem?_eq_none (by rw [lc_length]; omega)]
    split
    · rw [if_neg (by rw [lc_length]; omega)]
    · rfl
section
variable {ops : Array Oper} {rest : List Oper} {o : Oper} {a : Act} {w : World} {Q : Exit → Act → World → Prop}
theorem ldL {t : TypeId} {x : Operand} {b N : Nat} (hgd : o.guard = none) (ho : o.op = .load 124 x) (hx : a.eval x = .pointer (some ⟨b, 0, none⟩)) (h : Blk w b (lc N) t)
    (hr : wpList Try.prog ops Q rest (a.put o.dst (.agg (lc N).toArray)) w) : wpList Try.prog ops Q (o :: rest) a w :=
  ld_blk hgd ho hx h _ underL rfl (by rw [lc_length]; exact sizeL) hr
theorem stL {t : TypeId} {x y : Operand} {b N M : Nat} (hgd : o.guard = none) (ho : o.op = .store 124 x y) (hx : a.eval x = .pointer (some ⟨b, 0, none⟩)) (hy : a.eval y = .agg (lc N).toArray) (h : Blk w b (lc M) t)
    (hr : wpList Try.prog ops Q rest (a.put o.dst undef) (w.setRow b (lc N).toArray)) : wpList Try.prog ops Q (o :: rest) a w :=
  st_blk hgd ho hx hy h (by rw [lc_length, lc_length]) (by rw [lc_length]; exact sizeL) (lc_one N) hr
theorem alL (hgd : o.guard = none) (ho : o.op = .alloc 124)
    (hr : wpList Try.prog ops Q rest (a.put o.dst (.pointer (some ⟨w.heap.size, 0, none⟩))) (w.alloc (.cells (lc 0).toArray 124))) : wpList Try.prog ops Q (o :: rest) a w :=
  al_blk hgd ho zeroL hr
end
/-- What lengthen has done behind k words: what it has written, what it carries. -/
def lx (N s k : Nat) : Nat := N % bb ^ k * 2 ^ s
def llow (N s k : Nat) : Nat := lx N s k % bb ^ k
def lcar (N s k : Nat) : Nat := lx N s k / bb ^ k
theorem lcar_lt (N s k : Nat) : lcar N s k < 2 ^ s := by
  unfold lcar lx
  rw [Nat.div_lt_iff_lt_mul (bp_pos k), Nat.mul_comm (2 ^ s)]
  exact Nat.mul_lt_mul_of_pos_right (Nat.mod_lt _ (bp_pos k)) (Nat.two_pow_pos s)
theorem llow_lt (N s k : Nat) : llow N s k < bb ^ k := Nat.mod_lt _ (bp_pos k)
theorem l_step (N s k : Nat) : lcar N s (k + 1) = (dig N k * 2 ^ s + lcar N s k) / bb ∧ llow N s (k + 1) = llow N s k + bb ^ k * ((dig N k * 2 ^ s + lcar N s k) % bb) := by
  have h1 : lx N s (k + 1) = llow N s k + bb ^ k * (dig N k * 2 ^ s + lcar N s k) := by
    have := Nat.mod_add_div (lx N s k) (bb ^ k)
    unfold llow lcar
    rw [Nat.mul_add, lx, mod_succ, Nat.add_mul, ← Nat.mul_assoc]
    rw [lx] at this
    rw [lx]
    omega
  have hlo : llow N s k < bb ^ k := Nat.mod_lt _ (bp_pos k)
  generalize dig N k * 2 ^ s + lcar N s k = T at *
  have h2 := Nat.mod_add_div T bb
  have hm := Nat.mod_lt T bb_pos
  generalize T % bb = a at *
  generalize T / bb = c at *
  have h3 : lx N s (k + 1) = llow N s k + bb ^ k * a + bb ^ (k + 1) * c := by rw [h1, ← h2, Nat.mul_add, Nat.pow_succ, Nat.mul_assoc, Nat.add_assoc]
  have h4 : llow N s k + bb ^ k * a < bb ^ (k + 1) := by
    have : bb ^ k * (a + 1) ≤ bb ^ k * bb := Nat.mul_le_mul_left _ hm
    rw [Nat.mul_add, Nat.mul_one] at this
    rw [Nat.pow_succ]
    omega
  constructor
  · rw [lcar, h3, Nat.add_mul_div_left _ _ (bp_pos (k + 1)), Nat.div_eq_of_lt h4, Nat.zero_add]
  · rw [llow, h3, Nat.add_mul_mod_self_left, Nat.mod_eq_of_lt h4]
theorem l_end {N s n : Nat} (h : N < bb ^ n) (hs : s < 32) : llow N s n + bb ^ n * lcar N s n = N * 2 ^ s := by
  have := Nat.mod_add_div (lx N s n) (bb ^ n)
  unfold llow lcar
  rw [this, lx, Nat.mod_eq_of_lt h]
theorem l_or {d c s : Nat} (hd : d ≤ 4294967295) (hs : s < 32) (hc : c < 2 ^ s) : bits .or .u64 (IntKind.u64.wrap ((d : Int) * 2 ^ s)) (c : Int) = ((d * 2 ^ s + c : Nat) : Int) := by
  have h1 : d * 2 ^ s ≤ 4294967295 * 2147483648 := Nat.mul_le_mul hd (pow31 hs)
  have h4 := pow31 hs
  rw [wrap_shl hd hs, u64_or_nat _ _ (by omega) (by omega), nat_join s _ _ (Nat.mul_mod_left _ _) hc]
set_option maxHeartbeats 1000000 in
set_option maxRecDepth 100000 in
theorem lengthen_any (N s n : Nat) (w : World) (hs : s < 32) (hn : n ≤ 32) (hN : N < bb ^ n) :
    Calls Try.prog 113 #[.agg (wc N).toArray, .int .i64 s, .int .i64 n] w fun e w' => e = .returned (.agg (lc (N * 2 ^ s)).toArray) ∧ Below w.heap.size w w' := by
  have HN := Lib.hid hN
  clear hN
  go_enter Try.func113, Try.ntmps113
  go_wp2_with (first | (with_reducible refine alL rfl rfl ?_))
  go_loopw [8, 12] (fun c i wr => ∃ k : Nat, k ≤ n ∧ i = .int .i64 k ∧ c = .int .u64 (lcar N s k : Nat) ∧ Below w.heap.size w wr ∧ Blk wr w.heap.size (wc N) 23 ∧ Blk wr (w.heap.size + 1) (lc 0) 124 ∧ Blk wr (w.heap.size + 1 + 1) (lc (llow N s k)) 124) (fun _ i _ => n - (intOf i).toNat)
  case atStart =>
    refine ⟨0, by omega, rfl, by rw [lcar, lx, Nat.pow_zero, Nat.mod_one, Nat.zero_mul]; rfl, (((Below.refl _ _).alloc (Nat.le_refl _) _).alloc (by simp) _).alloc (by simp; omega) _, ((Blk.new _ _ _ rfl).old _).old _, (Blk.new _ _ _ (by simp)).old _, ?_⟩
    rw [llow, lx, Nat.pow_zero, Nat.mod_one]
    exact Blk.new _ _ _ (by simp)
  case round =>
    obtain ⟨k, hk, rfl, rfl, hb, b0, b1, b2⟩ := hrel
    by_cases hlt : k < n
    · have c0 := b0.cell (wc_get N k (by omega))
      have c2 := b2.cell (lc_get (llow N s k) k (by omega))
      have f2 := b2.frozen k
      have d0 := dig_le N k
      have hlt' : (k : Int) < (n : Int) := by omega
      have HO := l_or d0 hs (lcar_lt N s k)
      have HS := Lib.hid (l_step N s k)
      obtain ⟨T, hT⟩ : ∃ T, dig N k * 2 ^ s + lcar N s k = T := ⟨_, rfl⟩
      rw [hT] at HO HS
      have E1 : Hid ((T : Int) % 4294967296 = ((T % bb : Nat) : Int)) := by
        show (T : Int) % 4294967296 = ((T % bb : Nat) : Int)
        rw [bb_eq]; omega
      have E2 : Hid ((T : Int) / 4294967296 = ((T / bb : Nat) : Int)) := by
        show (T : Int) / 4294967296 = ((T / bb : Nat) : Int)
        rw [bb_eq]; omega
      clear hT
      go_wp2
      rw [E1.out]
      go_roundw
      case rel =>
        refine ⟨k + 1, by omega, by go_num, int_eq (by rw [HS.out.1]; exact E2.out), hb.setCell (by simp; omega) _, b0.setOther _ _ (by omega), b1.setOther _ _ (by omega), ?_⟩
        have := b2.set k (.int .u32 (T % bb : Nat))
        rw [lc_set (llow_lt N s k) (Nat.mod_lt _ bb_pos), ← HS.out.2] at this
        exact this
      case measure => simp [intOf]; omega
    · obtain rfl : k = n := by omega
      have c2 := b2.cell (lc_get (llow N s k) k (by omega))
      have f2 := b2.frozen k
      have hc := lcar_lt N s k
      have h31 := pow31 hs
      have hc2 : lcar N s k ≤ 4294967295 := by omega
      have d2 := b2.set k (.int .u32 (lcar N s k : Nat))
      rw [lc_set (llow_lt N s k) (by rw [bb_eq]; omega), l_end HN.out hs] at d2
      have d1 := b1.setOther (g := w.heap.size + 1 + 1) k (.int .u32 (lcar N s k : Nat)) (by omega)
      clear hc h31
      go_wp2_with (first | (with_reducible refine ldL rfl rfl rfl d2 ?_) | (with_reducible refine stL rfl rfl rfl rfl d1 ?_))
      exact ret_c (cs := lc (N * 2 ^ s)) rfl rfl rfl (wholeL _) (d1.row _) ⟨rfl, below_row (hb.setCell (by simp; omega) _) (by omega) _⟩
end Go.Proofs.Ytcfncekphdkphaa
