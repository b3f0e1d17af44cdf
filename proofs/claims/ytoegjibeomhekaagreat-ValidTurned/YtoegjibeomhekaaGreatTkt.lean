/- Joined of: Lgr Sho Gsw Tkt. -/
import Derived.Test.YtoegjibeomhekaaGreatShl
import Derived.Test.YtoegjibeomhekaaGreatNum
import Derived.BigQuiet
import Derived.Deep.QuietTactic
/- Arrays of 33 words in memory; wide.lengthen. -/
namespace Go.Proofs.YtoegjibeomhekaaGreat
set_option linter.unusedSimpArgs false
set_option linter.unusedVariables false
open Go.RowKit
set_option maxRecDepth 100000
/-- The words of N as cells, one more. -/
def lc (N : Nat) : List Value := (List.range 33).map fun i => Value.int .u32 (dig N i : Nat)
theorem lc_length (N : Nat) : (lc N).length = 33 := by simp [lc]
theorem lc_get (N i : Nat) (h : i < 33) : (lc N)[i]? = some (.int .u32 (dig N i : Nat)) := by simp [lc, h]
theorem lc_one (N : Nat) : ∀ v ∈ lc N, v.oneCell' = true := by
  intro v hv; simp [lc] at hv; obtain ⟨i, _, rfl⟩ := hv; rfl
theorem zeroL : (Tryz.prog.info? 141).map (·.zero) = some (some (.agg (lc 0).toArray)) := by kernel_rfl
theorem sizeL : (Tryz.prog.info? 141).map (·.size) = some 33 := by kernel_rfl
theorem underL : Tryz.prog.underlying 141 = some (.array 33 27) := by kernel_rfl
theorem wholeL (N : Nat) : Whole Tryz.prog 141 (lc N).length := ⟨_, underL, rfl, by rw [lc_length]; exact sizeL⟩
theorem lc_put {Y k v : Nat} (hv : v < bb) : (lc Y).set k (.int .u32 (v : Nat)) = lc (put Y k v) := by
  apply List.ext_getElem?
  intro i
  rw [List.getElem?_set]
  by_cases hi : i < 33
  · rw [lc_get (put Y k v) i hi, lc_length]
    split
    · rename_i h; subst h
      rw [if_pos hi, dig_put_same hv]
    · rename_i h
      rw [lc_get Y i hi]
      rcases Nat.lt_or_ge i k with h1 | h1
      · rw [dig_put_low h1]
      · rw [dig_put_high hv (by omega)]
  · rw [List.getElem?_eq_none (by rw [lc_length]; omega), List.getElem?_eq_none (by rw [lc_length]; omega)]
    split
    · rw [if_neg (by rw [lc_length]; omega)]
    · rfl
theorem lc_set {X k v : Nat} (hX : X < bb ^ k) (hv : v < bb) : (lc X).set k (.int .u32 (v : Nat)) = lc (X + bb ^ k * v) := by
  apply List.ext_getElem?
  intro i
  rw [List.getElem?_set]
  by_cases hi : i < 33
  · rw [lc_get (X + bb ^ k * v) i hi, lc_length]
    split
    · rename_i h; subst h
      rw [if_pos hi, dig_add_same hX hv]
    · rename_i h
      rw [lc_get X i hi]
      rcases Nat.lt_or_ge i k with h1 | h1
      · rw [dig_add_low h1]
      · rw [dig_add_high hX hv (by omega), dig_of_lt (Nat.lt_of_lt_of_le hX (bp_mono h1))]
  · rw [List.getElem?_eq_none (by rw [lc_length]; omega), List.getElem?_eq_none (by rw [lc_length]; omega)]
    split
    · rw [if_neg (by rw [lc_length]; omega)]
    · rfl
section
variable {ops : Array Oper} {rest : List Oper} {o : Oper} {a : Act} {w : World} {Q : Exit → Act → World → Prop}
theorem ldL {t : TypeId} {x : Operand} {b N : Nat} (hgd : o.guard = none) (ho : o.op = .load 141 x) (hx : a.eval x = .pointer (some ⟨b, 0, none⟩)) (h : Blk w b (lc N) t)
    (hr : wpList Tryz.prog ops Q rest (a.put o.dst (.agg (lc N).toArray)) w) : wpList Tryz.prog ops Q (o :: rest) a w :=
  ld_blk hgd ho hx h _ underL rfl (by rw [lc_length]; exact sizeL) hr
theorem stL {t : TypeId} {x y : Operand} {b N M : Nat} (hgd : o.guard = none) (ho : o.op = .store 141 x y) (hx : a.eval x = .pointer (some ⟨b, 0, none⟩)) (hy : a.eval y = .agg (lc N).toArray) (h : Blk w b (lc M) t)
    (hr : wpList Tryz.prog ops Q rest (a.put o.dst undef) (w.setRow b (lc N).toArray)) : wpList Tryz.prog ops Q (o :: rest) a w :=
  st_blk hgd ho hx hy h (by rw [lc_length, lc_length]) (by rw [lc_length]; exact sizeL) (lc_one N) hr
theorem alL (hgd : o.guard = none) (ho : o.op = .alloc 141)
    (hr : wpList Tryz.prog ops Q rest (a.put o.dst (.pointer (some ⟨w.heap.size, 0, none⟩))) (w.alloc (.cells (lc 0).toArray 141))) : wpList Tryz.prog ops Q (o :: rest) a w :=
  al_blk hgd ho zeroL hr
end
/-- What lengthen has done behind k words: what it has written, what it carries. -/
def lx (N s k : Nat) : Nat := N % bb ^ k * 2 ^ s
def llow (N s k : Nat) : Nat := lx N s k % bb ^ k
def lcar (N s k : Nat) : Nat := lx N s k / bb ^ k
theorem lcar_lt (N s k : Nat) : lcar N s k < 2 ^ s := by
  unfold lcar lx
  rw [Nat.div_lt_iff_lt_mul (bp_pos k), Nat.mul_comm (2 ^ s)]
  exact Nat.mul_lt_mul_of_pos_right (Nat.mod_lt _ (bp_pos k)) (Nat.two_pow_pos s)
theorem llow_lt (N s k : Nat) : llow N s k < bb ^ k := Nat.mod_lt _ (bp_pos k)
theorem l_step (N s k : Nat) : lcar N s (k + 1) = (dig N k * 2 ^ s + lcar N s k) / bb ∧ llow N s (k + 1) = llow N s k + bb ^ k * ((dig N k * 2 ^ s + lcar N s k) % bb) := by
  have h1 : lx N s (k + 1) = llow N s k + bb ^ k * (dig N k * 2 ^ s + lcar N s k) := by
    have := Nat.mod_add_div (lx N s k) (bb ^ k)
    unfold llow lcar
    rw [Nat.mul_add, lx, mod_succ, Nat.add_mul, ← Nat.mul_assoc]
    rw [lx] at this
    rw [lx]
    omega
  have hlo : llow N s k < bb ^ k := Nat.mod_lt _ (bp_pos k)
  generalize dig N k * 2 ^ s + lcar N s k = T at *
  have h2 := Nat.mod_add_div T bb
  have hm := Nat.mod_lt T bb_pos
  generalize T % bb = a at *
  generalize T / bb = c at *
  have h3 : lx N s (k + 1) = llow N s k + bb ^ k * a + bb ^ (k + 1) * c := by rw [h1, ← h2, Nat.mul_add, Nat.pow_succ, Nat.mul_assoc, Nat.add_assoc]
  have h4 : llow N s k + bb ^ k * a < bb ^ (k + 1) := by
    have : bb ^ k * (a + 1) ≤ bb ^ k * bb := Nat.mul_le_mul_left _ hm
    rw [Nat.mul_add, Nat.mul_one] at this
    rw [Nat.pow_succ]
    omega
  constructor
  · rw [lcar, h3, Nat.add_mul_div_left _ _ (bp_pos (k + 1)), Nat.div_eq_of_lt h4, Nat.zero_add]
  · rw [llow, h3, Nat.add_mul_mod_self_left, Nat.mod_eq_of_lt h4]
theorem l_end {N s n : Nat} (h : N < bb ^ n) (hs : s < 32) : llow N s n + bb ^ n * lcar N s n = N * 2 ^ s := by
  have := Nat.mod_add_div (lx N s n) (bb ^ n)
  unfold llow lcar
  rw [this, lx, Nat.mod_eq_of_lt h]
theorem l_or {d c s : Nat} (hd : d ≤ 4294967295) (hs : s < 32) (hc : c < 2 ^ s) : bits .or .u64 (IntKind.u64.wrap ((d : Int) * 2 ^ s)) (c : Int) = ((d * 2 ^ s + c : Nat) : Int) := by
  have h1 : d * 2 ^ s ≤ 4294967295 * 2147483648 := Nat.mul_le_mul hd (pow31 hs)
  have h4 := pow31 hs
  rw [wrap_shl hd hs, u64_or_nat _ _ (by omega) (by omega), nat_join s _ _ (Nat.mul_mod_left _ _) hc]
set_option maxHeartbeats 1000000 in
set_option maxRecDepth 100000 in
theorem lengthen_any (N s n : Nat) (w : World) (hs : s < 32) (hn : n ≤ 32) (hN : N < bb ^ n) :
    Calls Tryz.prog 108 #[.agg (wc N).toArray, .int .i64 s, .int .i64 n] w fun e w' => e = .returned (.agg (lc (N * 2 ^ s)).toArray) ∧ Below w.heap.size w w' := by
  have HN := Lib.hid hN
  clear hN
  go_enter Tryz.func108, Tryz.ntmps108
  go_wp2_with (first | (with_reducible refine alL rfl rfl ?_))
  go_loopw [8, 12] (fun c i wr => ∃ k : Nat, k ≤ n ∧ i = .int .i64 k ∧ c = .int .u64 (lcar N s k : Nat) ∧ Below w.heap.size w wr ∧ Blk wr w.heap.size (wc N) 41 ∧ Blk wr (w.heap.size + 1) (lc 0) 141 ∧ Blk wr (w.heap.size + 1 + 1) (lc (llow N s k)) 141) (fun _ i _ => n - (intOf i).toNat)
  case atStart =>
    refine ⟨0, by omega, rfl, by rw [lcar, lx, Nat.pow_zero, Nat.mod_one, Nat.zero_mul]; rfl, (((Below.refl _ _).alloc (Nat.le_refl _) _).alloc (by simp) _).alloc (by simp; omega) _, ((Blk.new _ _ _ rfl).old _).old _, (Blk.new _ _ _ (by simp)).old _, ?_⟩
    rw [llow, lx, Nat.pow_zero, Nat.mod_one]
    exact Blk.new _ _ _ (by simp)
  case round =>
    obtain ⟨k, hk, rfl, rfl, hb, b0, b1, b2⟩ := hrel
    by_cases hlt : k < n
    · have c0 := b0.cell (wc_get N k (by omega))
      have c2 := b2.cell (lc_get (llow N s k) k (by omega))
      have f2 := b2.frozen k
      have d0 := dig_le N k
      have hlt' : (k : Int) < (n : Int) := by omega
      have HO := l_or d0 hs (lcar_lt N s k)
      have HS := Lib.hid (l_step N s k)
      obtain ⟨T, hT⟩ : ∃ T, dig N k * 2 ^ s + lcar N s k = T := ⟨_, rfl⟩
      rw [hT] at HO HS
      have E1 : Hid ((T : Int) % 4294967296 = ((T % bb : Nat) : Int)) := by
        show (T : Int) % 4294967296 = ((T % bb : Nat) : Int)
        rw [bb_eq]; omega
      have E2 : Hid ((T : Int) / 4294967296 = ((T / bb : Nat) : Int)) := by
        show (T : Int) / 4294967296 = ((T / bb : Nat) : Int)
        rw [bb_eq]; omega
      clear hT
      go_wp2
      rw [E1.out]
      go_roundw
      case rel =>
        refine ⟨k + 1, by omega, by go_num, int_eq (by rw [HS.out.1]; exact E2.out), hb.setCell (by simp; omega) _, b0.setOther _ _ (by omega), b1.setOther _ _ (by omega), ?_⟩
        have := b2.set k (.int .u32 (T % bb : Nat))
        rw [lc_set (llow_lt N s k) (Nat.mod_lt _ bb_pos), ← HS.out.2] at this
        exact this
      case measure => simp [intOf]; omega
    · obtain rfl : k = n := by omega
      have c2 := b2.cell (lc_get (llow N s k) k (by omega))
      have f2 := b2.frozen k
      have hc := lcar_lt N s k
      have h31 := pow31 hs
      have hc2 : lcar N s k ≤ 4294967295 := by omega
      have d2 := b2.set k (.int .u32 (lcar N s k : Nat))
      rw [lc_set (llow_lt N s k) (by rw [bb_eq]; omega), l_end HN.out hs] at d2
      have d1 := b1.setOther (g := w.heap.size + 1 + 1) k (.int .u32 (lcar N s k : Nat)) (by omega)
      clear hc h31
      go_wp2_with (first | (with_reducible refine ldL rfl rfl rfl d2 ?_) | (with_reducible refine stL rfl rfl rfl rfl d1 ?_))
      exact ret_c (cs := lc (N * 2 ^ s)) rfl rfl rfl (wholeL _) (d1.row _) ⟨rfl, below_row (hb.setCell (by simp; omega) _) (by omega) _⟩
end Go.Proofs.YtoegjibeomhekaaGreat

/- wide.shorten. -/
namespace Go.Proofs.YtoegjibeomhekaaGreat
set_option linter.unusedSimpArgs false
set_option linter.unusedVariables false
open Go.RowKit
set_option maxRecDepth 100000
theorem two_words (U i : Nat) : U / bb ^ i % bb ^ 2 = dig U i + bb * dig U (i + 1) := by
  rw [low_two]
  unfold dig
  rw [Nat.pow_zero, Nat.div_one, Nat.pow_one, Nat.div_div_eq_div_mul, ← Nat.pow_succ]
theorem sh_dig (U i : Nat) {s : Nat} (hs : s < 32) : (dig U i + bb * dig U (i + 1)) / 2 ^ s % bb = dig (U / 2 ^ s) i := by
  rw [← two_words]
  have e : bb ^ 2 = 2 ^ s * 2 ^ (64 - s) := by rw [← Nat.pow_add, bp_two]; congr 1; omega
  rw [e, Nat.mod_mul_right_div_self, Nat.mod_mod_of_dvd, dig, Nat.div_div_eq_div_mul, Nat.div_div_eq_div_mul, Nat.mul_comm]
  rw [show bb = 2 ^ 32 by rw [bb_eq]]
  exact Nat.pow_dvd_pow 2 (by omega)
theorem shr_cast (T s : Nat) : (T : Int) / 2 ^ s % 4294967296 = ((T / 2 ^ s % bb : Nat) : Int) := by
  rw [bb_eq]
  have e : ((2 ^ s : Nat) : Int) = 2 ^ s := by push_cast; rfl
  rw [← e]
  generalize 2 ^ s = y
  omega
set_option maxHeartbeats 1000000 in
set_option maxRecDepth 100000 in
theorem shorten_any (U s m : Nat) (w : World) (hs : s < 32) (hm : m ≤ 32) (hU : U / 2 ^ s < bb ^ m) :
    Calls Tryz.prog 112 #[.agg (lc U).toArray, .int .i64 s, .int .i64 m] w fun e w' => e = .returned (.agg (wc (U / 2 ^ s)).toArray) ∧ Below w.heap.size w w' := by
  have HU := Lib.hid hU
  clear hU
  go_enter Tryz.func112, Tryz.ntmps112
  go_wp2_with (first | (with_reducible refine alA rfl rfl ?_))
  go_loopw [11] (fun i wr => ∃ k : Nat, k ≤ m ∧ i = .int .i64 k ∧ Below w.heap.size w wr ∧ Blk wr w.heap.size (lc U) 141 ∧ Blk wr (w.heap.size + 1) (wc 0) 41 ∧ Blk wr (w.heap.size + 1 + 1) (wc (U / 2 ^ s % bb ^ k)) 41) (fun i _ => m - (intOf i).toNat)
  case atStart =>
    refine ⟨0, by omega, rfl, (((Below.refl _ _).alloc (Nat.le_refl _) _).alloc (by simp) _).alloc (by simp; omega) _, ((Blk.new _ _ _ rfl).old _).old _, (Blk.new _ _ _ (by simp)).old _, ?_⟩
    rw [Nat.pow_zero, Nat.mod_one]
    exact Blk.new _ _ _ (by simp)
  case round =>
    obtain ⟨k, hk, rfl, hb, b0, b1, b2⟩ := hrel
    by_cases hlt : k < m
    · have c0 := b0.cell (lc_get U k (by omega))
      have c1 := b0.cell (lc_get U (k + 1) (by omega))
      have c2 := b2.cell (wc_get (U / 2 ^ s % bb ^ k) k (by omega))
      have f2 := b2.frozen k
      have d0 := dig_le U k
      have d1 := dig_le U (k + 1)
      have hlt' : (k : Int) < (m : Int) := by omega
      have hk1 : (k : Int) + 1 < 33 := by omega
      have hk2 : (k : Int) < 33 := by omega
      have hk4 : (0 : Int) ≤ (k : Int) + 1 := by omega
      have hk3 : (k : Int) < 32 := by omega
      have hk0 : (0 : Int) ≤ (k : Int) := by omega
      have hkw : IntKind.i64.wrap ((k : Int) + 1) = (k : Int) + 1 := by rw [IntKind.wrap_i64]; omega
      have HO := or_join (dig U (k + 1)) (dig U k) d1 d0
      have HD := Lib.hid (sh_dig U k hs)
      obtain ⟨T, hT⟩ : ∃ T, dig U k + bb * dig U (k + 1) = T := ⟨_, rfl⟩
      have hT2 : T ≤ 18446744073709551615 := by rw [← hT, bb_eq]; omega
      rw [hT] at HO HD
      clear hT
      go_wp2_with fail
      have EW : bits .or .u64 (IntKind.u64.wrap (IntKind.u64.wrap (dig U (k + 1) : Int) * 4294967296)) (IntKind.u64.wrap (dig U k : Int)) = (T : Int) := by
        rw [show IntKind.u64.wrap (dig U k : Int) = (dig U k : Int) by rw [IntKind.wrap_u64]; omega, show IntKind.u64.wrap (dig U (k + 1) : Int) = (dig U (k + 1) : Int) by rw [IntKind.wrap_u64]; omega, show IntKind.u64.wrap ((dig U (k + 1) : Int) * 4294967296) = (dig U (k + 1) : Int) * 4294967296 by rw [IntKind.wrap_u64]; omega]
        exact HO
      refine rg_start [] (by kernel_rfl) (fun hS => ?_)
      refine rg_take 0 rfl (by kernel_rfl) (by kernel_rfl) (by kernel_rfl) (by rfl) hS (v := ?_) ?_ ?_
      rotate_left
      · (intro w' hS'; go_simp <;> try with_reducible rfl)
      try simp only [Act.put, List.setIfInBounds_toArray, List.set_cons_zero, List.set_cons_succ]
      refine rg_take 1 rfl (by kernel_rfl) (by kernel_rfl) (by kernel_rfl) (by rfl) hS (v := ?_) ?_ ?_
      rotate_left
      · (intro w' hS'; go_simp <;> try with_reducible rfl)
      try simp only [Act.put, List.setIfInBounds_toArray, List.set_cons_zero, List.set_cons_succ]
      refine rg_take 2 rfl (by kernel_rfl) (by kernel_rfl) (by kernel_rfl) (by rfl) hS (v := ?_) ?_ ?_
      rotate_left
      · (intro w' hS'; go_simp <;> try with_reducible rfl)
      try simp only [Act.put, List.setIfInBounds_toArray, List.set_cons_zero, List.set_cons_succ]
      refine rg_take 3 rfl (by kernel_rfl) (by kernel_rfl) (by kernel_rfl) (by rfl) hS (v := ?_) ?_ ?_
      rotate_left
      · (intro w' hS'; have hc := (b0.keep hS' (by simp <;> omega)).cell (i := k + 1) (v := .int .u32 (dig U (k + 1) : Nat)) (lc_get U (k + 1) (by omega)); go_simp <;> try with_reducible rfl)
      try simp only [Act.put, List.setIfInBounds_toArray, List.set_cons_zero, List.set_cons_succ]
      refine rg_take 4 rfl (by kernel_rfl) (by kernel_rfl) (by kernel_rfl) (by rfl) hS (v := ?_) ?_ ?_
      rotate_left
      · (intro w' hS'; go_simp <;> try with_reducible rfl)
      try simp only [Act.put, List.setIfInBounds_toArray, List.set_cons_zero, List.set_cons_succ]
      refine rg_take 5 rfl (by kernel_rfl) (by kernel_rfl) (by kernel_rfl) (by rfl) hS (v := ?_) ?_ ?_
      rotate_left
      · (intro w' hS'; go_simp <;> try with_reducible rfl)
      try simp only [Act.put, List.setIfInBounds_toArray, List.set_cons_zero, List.set_cons_succ]
      refine rg_take 6 rfl (by kernel_rfl) (by kernel_rfl) (by kernel_rfl) (by rfl) hS (v := ?_) ?_ ?_
      rotate_left
      · (intro w' hS'; go_simp <;> try with_reducible rfl)
      try simp only [Act.put, List.setIfInBounds_toArray, List.set_cons_zero, List.set_cons_succ]
      refine rg_take 7 rfl (by kernel_rfl) (by kernel_rfl) (by kernel_rfl) (by rfl) hS (v := ?_) ?_ ?_
      rotate_left
      · (intro w' hS'; go_simp <;> try with_reducible rfl)
      try simp only [Act.put, List.setIfInBounds_toArray, List.set_cons_zero, List.set_cons_succ]
      refine rg_take 8 rfl (by kernel_rfl) (by kernel_rfl) (by kernel_rfl) (by rfl) hS (v := ?_) ?_ ?_
      rotate_left
      · (intro w' hS'; have hc := (b0.keep hS' (by simp <;> omega)).cell (i := k) (v := .int .u32 (dig U k : Nat)) (lc_get U k (by omega)); go_simp <;> try with_reducible rfl)
      try simp only [Act.put, List.setIfInBounds_toArray, List.set_cons_zero, List.set_cons_succ]
      refine rg_take 9 rfl (by kernel_rfl) (by kernel_rfl) (by kernel_rfl) (by rfl) hS (v := ?_) ?_ ?_
      rotate_left
      · (intro w' hS'; go_simp <;> try with_reducible rfl)
      try simp only [Act.put, List.setIfInBounds_toArray, List.set_cons_zero, List.set_cons_succ]
      refine rg_take 10 rfl (by kernel_rfl) (by kernel_rfl) (by kernel_rfl) (by rfl) hS (v := ?_) ?_ ?_
      rotate_left
      · (intro w' hS'; go_simp <;> try with_reducible rfl)
      try simp only [Act.put, List.setIfInBounds_toArray, List.set_cons_zero, List.set_cons_succ]
      refine rg_take 11 rfl (by kernel_rfl) (by kernel_rfl) (by kernel_rfl) (by rfl) hS (v := ?_) ?_ ?_
      rotate_left
      · (intro w' hS'; go_simp <;> try with_reducible rfl)
      try simp only [Act.put, List.setIfInBounds_toArray, List.set_cons_zero, List.set_cons_succ]
      refine rg_done (by kernel_rfl) ?_
      clear EW
      go_wp2
      have E : (T : Int) / 2 ^ s % 4294967296 = ((dig (U / 2 ^ s) k : Nat) : Int) := by
        rw [← HD.out]; exact shr_cast T s
      rw [E]
      go_roundw
      case rel =>
        refine ⟨k + 1, by omega, by go_num, (hb.setCell (by simp; omega) _).drew, (b0.setOther _ _ (by omega)).drew, (b1.setOther _ _ (by omega)).drew, ?_⟩
        have := (b2.set k (.int .u32 (dig (U / 2 ^ s) k : Nat))).drew
        rw [wc_set (Nat.mod_lt _ (bp_pos k)) (dig_lt _ _), ← mod_succ] at this
        exact this
      case measure => simp [intOf]; omega
    · obtain rfl : k = m := by omega
      go_wp2_with (first | (with_reducible refine ldA rfl rfl rfl b2 ?_) | (with_reducible refine stA rfl rfl rfl rfl b1 ?_))
      refine ret_c (cs := wc (U / 2 ^ s % bb ^ k)) rfl rfl rfl (whole23 _) (b1.row _) ⟨?_, below_row hb (by omega) _⟩
      rw [Nat.mod_eq_of_lt HU.out]
end Go.Proofs.YtoegjibeomhekaaGreat

/- wide.guessWord. -/
namespace Go.Proofs.YtoegjibeomhekaaGreat
set_option linter.unusedSimpArgs false
set_option linter.unusedVariables false
open Go.RowKit
set_option maxRecDepth 100000
theorem gw_top {H u2 U v1 v2 V q r : Nat} (hU : H * bb + u2 = U) (hV : v1 * bb + v2 = V) (h0 : 0 < V) (hq : q * v1 + r = H) (hr : r < v1) (hu : u2 ≤ 4294967295) : gw U V ≤ q := by
  have hb := bb_eq
  unfold gw
  apply Nat.le_trans (Nat.min_le_right _ _)
  have : U / V < q + 1 := by
    rw [Nat.div_lt_iff_lt_mul h0, ← hV, ← hU, ← hq]
    have : (q * v1 + r + 1) * bb ≤ (q + 1) * v1 * bb := Nat.mul_le_mul_right _ (by rw [Nat.add_mul, Nat.one_mul]; omega)
    have h2 : (q + 1) * v1 * bb ≤ (q + 1) * (v1 * bb + v2) := by rw [Nat.mul_add, Nat.mul_assoc]; omega
    rw [Nat.add_mul _ 1, Nat.one_mul] at this
    omega
  omega
theorem gw_break {H u2 U v1 v2 V G R : Nat} (hU : H * bb + u2 = U) (hV : v1 * bb + v2 = V) (h0 : 0 < V) (h1 : G * v1 + R = H) (hlt : gw U V < G) (hr : bb ≤ R + v1) (hH : H < (v1 + 1) * bb) (hv2 : v2 ≤ 4294967295) : gw U V = G - 1 ∧ G - 1 < bb := by
  have hb := bb_eq
  obtain ⟨K, rfl⟩ : ∃ K, G = K + 1 := ⟨G - 1, by omega⟩
  rw [Nat.add_mul, Nat.one_mul] at h1
  have hK : K < bb := by
    rcases Nat.lt_or_ge K bb with h | h
    · exact h
    · have := Nat.mul_le_mul_right v1 h
      rw [Nat.add_mul, Nat.one_mul, Nat.mul_comm v1] at hH
      omega
  have : K ≤ gw U V := by
    apply gw_le_of hK _ h0
    rw [← hU, ← hV, ← h1, Nat.mul_add]
    have a : K * v2 ≤ bb * bb := Nat.mul_le_mul (by omega) (by omega)
    have b : bb * bb ≤ (v1 + R) * bb := Nat.mul_le_mul_right _ (by omega)
    rw [Nat.add_assoc (K * v1), Nat.add_mul (K * v1), Nat.mul_assoc]
    omega
  omega
theorem gw_next {H v1 G R : Nat} (h1 : G * v1 + R = H) (hG : 0 < G) : (G - 1) * v1 + (R + v1) = H := by
  obtain ⟨K, rfl⟩ : ∃ K, G = K + 1 := ⟨G - 1, by omega⟩
  rw [Nat.add_mul, Nat.one_mul] at h1
  simp only [Nat.add_sub_cancel]
  omega
set_option maxHeartbeats 1000000 in
theorem guessWord_any {bu fu bv cu cv k u0 u1 u2 v1 v2 : Nat} (w : World) (hk : k ≤ 30)
    (c0 : w.cell? ⟨bu, fu + (k + 2), none⟩ = some (.int .u32 (u0 : Nat))) (c1 : w.cell? ⟨bu, fu + (k + 1), none⟩ = some (.int .u32 (u1 : Nat))) (c2 : w.cell? ⟨bu, fu + k, none⟩ = some (.int .u32 (u2 : Nat)))
    (e1 : w.cell? ⟨bv, k + 1, none⟩ = some (.int .u32 (v1 : Nat))) (e2 : w.cell? ⟨bv, k, none⟩ = some (.int .u32 (v2 : Nat)))
    (hu0 : u0 ≤ v1) (hu1 : u1 ≤ 4294967295) (hu2 : u2 ≤ 4294967295) (hv1 : v1 ≤ 4294967295) (hv2 : v2 ≤ 4294967295) (hn : 2147483648 ≤ v1) :
    Calls Tryz.prog 109 #[.slice (some ⟨bu, fu, none⟩) (k + 3) cu, .slice (some ⟨bv, 0, none⟩) (k + 2) cv] w fun e w' => e = .returned (.int .u32 (gw ((u0 * bb + u1) * bb + u2) (v1 * bb + v2) : Nat)) ∧ Below w.heap.size w w' := by
  have hk0 : (0 : Int) ≤ (k : Int) := by omega
  have i1 : IntKind.i64.wrap ((k : Int) + 2 - 1) = (k : Int) + 1 := by rw [IntKind.wrap_i64]; omega
  have i2 : IntKind.i64.wrap ((k : Int) + 2 - 2) = (k : Int) := by rw [IntKind.wrap_i64]; omega
  have j1 : (k : Int) + 1 < (k : Int) + 2 := by omega
  have j2 : (k : Int) < (k : Int) + 2 := by omega
  have j3 : (k : Int) + 2 < (k : Int) + 3 := by omega
  have j4 : (k : Int) + 1 < (k : Int) + 3 := by omega
  have j5 : (k : Int) < (k : Int) + 3 := by omega
  have n1 : (0 : Int) ≤ (k : Int) + 1 := by omega
  have n2 : (0 : Int) ≤ (k : Int) + 2 := by omega
  have hv0 : (v1 : Int) ≠ 0 := by omega
  have EO := or_join u0 u1 (by omega) hu1
  obtain ⟨H, hH⟩ : ∃ H, u1 + bb * u0 = H := ⟨_, rfl⟩
  rw [hH] at EO
  obtain ⟨U, hU⟩ : ∃ U, (u0 * bb + u1) * bb + u2 = U := ⟨_, rfl⟩
  obtain ⟨V, hV⟩ : ∃ V, v1 * bb + v2 = V := ⟨_, rfl⟩
  rw [hU, hV]
  have HU : Hid (H * bb + u2 = U) := by
    show H * bb + u2 = U
    rw [← hU, ← hH, Nat.mul_comm bb u0, Nat.add_comm u1]
  have HV := Lib.hid hV
  have HH : Hid (H < (v1 + 1) * bb ∧ H ≤ 18446744073709551615) := by
    show H < (v1 + 1) * bb ∧ H ≤ 18446744073709551615
    rw [← hH, Nat.add_mul, bb_eq]
    constructor <;> omega
  have HV0 : Hid (0 < V) := by
    show 0 < V
    rw [← hV, bb_eq]; omega
  have hu0' : u0 ≤ 4294967295 := by omega
  clear hH hU hV hu0
  obtain ⟨q, hq⟩ : ∃ q, H / v1 = q := ⟨_, rfl⟩
  obtain ⟨r, hr⟩ : ∃ r, H % v1 = r := ⟨_, rfl⟩
  have HQ : Hid (q * v1 + r = H ∧ r < bb ∧ r < v1) := by
    show q * v1 + r = H ∧ r < bb ∧ r < v1
    rw [← hq, ← hr, bb_eq]
    have := Nat.div_add_mod' H v1
    have := Nat.mod_lt H (show 0 < v1 by omega)
    refine ⟨by omega, by omega, by omega⟩
  have E1 : IntKind.u64.wrap ((H : Int) / (v1 : Int)) = (q : Int) := by
    rw [IntKind.wrap_u64, ← hq]
    have := HH.out.2
    have h3 := Nat.div_le_self H v1
    rw [show (H : Int) / (v1 : Int) = ((H / v1 : Nat) : Int) by push_cast; rfl]
    generalize H / v1 = x at *
    omega
  have E3 : (H : Int).tdiv (v1 : Int) = (H : Int) / (v1 : Int) := Int.tdiv_eq_ediv_of_nonneg (by omega)
  have E2 : (H : Int).tmod (v1 : Int) = (r : Int) := by rw [← hr]; exact (Int.ofNat_tmod H v1).symm
  clear hq hr
  go_enter Tryz.func109, Tryz.ntmps109
  go_wp2_with fail
  go_quiet (fail)
  go_wp2_with fail
  go_quiet (fail)
  go_wp2_with fail
  go_quiet (fail)
  go_wp2
  go_loop [9, 10] (fun g r => ∃ G R : Nat, g = .int .u64 G ∧ r = .int .u64 R ∧ G * v1 + R = H ∧ R < bb ∧ gw U V ≤ G) (fun g _ => (intOf g).toNat)
  case atStart =>
    refine ⟨q, r, rfl, rfl, HQ.out.1, HQ.out.2.1, ?_⟩
    exact gw_top HU.out HV.out HV0.out HQ.out.1 HQ.out.2.2 hu2
  case round =>
    obtain ⟨G, R, rfl, rfl, h1, h2, h3⟩ := hrel
    have G1 := Lib.hid h1
    have G2 := Lib.hid h2
    have G3 := Lib.hid h3
    have G4 : Hid (G ≤ H) := by
      show G ≤ H
      rw [← h1]
      exact Nat.le_trans (Nat.le_mul_of_pos_right G (by omega)) (Nat.le_add_right _ _)
    have h5 : G ≤ 18446744073709551615 := Nat.le_trans G4.out HH.out.2
    have h6 : R ≤ 4294967295 := by rw [bb_eq] at h2; omega
    clear h1 h2 h3
    by_cases hg : 4294967296 ≤ G
    · have LT := Lib.hid (gw_lt_of (U := U) (V := V) (g := G) (.inl (by rw [bb_eq]; exact hg)) HV0.out)
      have g1 : (0 : Int) < (G : Int) / 4294967296 := by omega
      by_cases hr : 4294967296 ≤ R + v1
      · have g2 : (0 : Int) < ((R : Int) + (v1 : Int)) / 4294967296 := by omega
        go_wp2
        go_ret
        have a := gw_break HU.out HV.out HV0.out G1.out LT.out (by rw [bb_eq]; exact hr) HH.out.1 hv2
        refine ⟨ret_int ?_, below_drewN (Below.refl _ _) _⟩
        have hb := bb_eq
        have := a.2
        rw [a.1]
        omega
      · have g2 : ((R : Int) + (v1 : Int)) / 4294967296 = 0 := by omega
        go_wp2
        go_round
        case rel => exact ⟨G - 1, by omega, R + v1, by omega, gw_next G1.out (by omega), by rw [bb_eq]; omega, by have := LT.out; omega⟩
        case measure => simp [intOf]; omega
    · have g1 : (G : Int) / 4294967296 = 0 := by omega
      have g9 : G ≤ 4294967295 := by omega
      have EO2 := or_join R u2 h6 hu2
      obtain ⟨T, hT⟩ : ∃ T, u2 + bb * R = T := ⟨_, rfl⟩
      rw [hT] at EO2
      obtain ⟨P, hP⟩ : ∃ P, G * v2 = P := ⟨_, rfl⟩
      have EP : (G : Int) * (v2 : Int) = (P : Int) := by rw [← hP]; push_cast; rfl
      have hP2 : P ≤ 18446744073709551615 := by
        rw [← hP]
        exact Nat.le_trans (Nat.mul_le_mul g9 hv2) (by decide)
      have TT := gw_test (v2 := v2) (u2 := u2) G1.out
      rw [HV.out, HU.out, hP, Nat.mul_comm R, Nat.add_comm (bb * R), hT] at TT
      have TH := Lib.hid TT
      clear TT hT hP
      by_cases ht : T < P
      · have LT := Lib.hid (gw_lt_of (U := U) (V := V) (g := G) (.inr (TH.out.1 ht)) HV0.out)
        have ht' : (T : Int) < (P : Int) := by omega
        have GP : Hid (0 < G) := Nat.lt_of_le_of_lt (Nat.zero_le _) LT.out
        have gp := GP.out
        by_cases hr : 4294967296 ≤ R + v1
        · have g2 : (0 : Int) < ((R : Int) + (v1 : Int)) / 4294967296 := by omega
          go_wp2
          go_ret
          have a := gw_break HU.out HV.out HV0.out G1.out LT.out (by rw [bb_eq]; exact hr) HH.out.1 hv2
          refine ⟨ret_int ?_, below_drewN (Below.refl _ _) _⟩
          have hb := bb_eq
          have := a.2
          rw [a.1]
          omega
        · have g2 : ((R : Int) + (v1 : Int)) / 4294967296 = 0 := by omega
          go_wp2
          go_round
          case rel => exact ⟨G - 1, by omega, R + v1, by omega, gw_next G1.out (by omega), by rw [bb_eq]; omega, by have := LT.out; omega⟩
          case measure => simp [intOf]; omega
      · have ht' : ¬ (T : Int) < (P : Int) := by omega
        go_wp2
        go_ret
        have a := gw_le_of (U := U) (V := V) (g := G) (by rw [bb_eq]; omega) (Nat.le_of_not_lt fun h => ht (TH.out.2 h)) HV0.out
        refine ⟨ret_int ?_, below_drewN (Below.refl _ _) _⟩
        have := G3.out
        rw [show gw U V = G by omega]
end Go.Proofs.YtoegjibeomhekaaGreat

/- wide.takeTimes, wide.giveBack. -/
namespace Go.Proofs.YtoegjibeomhekaaGreat
set_option linter.unusedSimpArgs false
set_option linter.unusedVariables false
open Go.RowKit
set_option maxRecDepth 100000
theorem put_eq (Y k d : Nat) : put Y k d + bb ^ k * dig Y k = Y + bb ^ k * d := by
  have h1 := mod_succ Y k
  have h2 := Nat.mod_add_div Y (bb ^ (k + 1))
  rw [bp_succ, Nat.mul_assoc, ← bp_succ] at h2
  unfold put
  rw [Nat.mul_add]
  omega
theorem put_lt {Y k d n : Nat} (hY : Y < bb ^ n) (hk : k < n) (hd : d < bb) : put Y k d < bb ^ n := by
  obtain ⟨i, rfl⟩ : ∃ i, n = k + 1 + i := ⟨n - k - 1, by omega⟩
  have h1 : Y / bb ^ (k + 1) < bb ^ i := by
    rw [Nat.div_lt_iff_lt_mul (bp_pos _), Nat.mul_comm, ← Nat.pow_add]; exact hY
  rw [Nat.pow_add, Nat.mul_comm, ← Nat.div_lt_iff_lt_mul (bp_pos _), put_high hd]
  exact h1
/-- One word of takeTimes: x the word, t what is taken and what was carried, d the new word. -/
theorem tk_step {Y U P j i x d g v b c b' : Nat} (hx : dig Y (j + i) = x) (h : Y + bb ^ j * (g * P) = U + bb ^ (j + i) * (b + c)) (hd : d + (g * v + c) % bb + b = x + bb * b') :
    put Y (j + i) d + bb ^ j * (g * (P + bb ^ i * v)) = U + bb ^ (j + (i + 1)) * (b' + (g * v + c) / bb) := by
  have h1 := put_eq Y (j + i) d
  have h2 := Nat.mod_add_div (g * v + c) bb
  have h3 : bb ^ (j + i) * (d + (g * v + c) + b) = bb ^ (j + i) * (x + bb * (b' + (g * v + c) / bb)) := by
    congr 1; rw [Nat.mul_add]; omega
  rw [hx] at h1
  generalize (g * v + c) / bb = c' at *
  rw [← Nat.add_assoc j i 1, bp_succ, Nat.mul_assoc (bb ^ (j + i)) bb, Nat.mul_add g, Nat.mul_add (bb ^ j), show bb ^ j * (g * (bb ^ i * v)) = bb ^ (j + i) * (g * v) by rw [Nat.pow_add]; simp only [Nat.mul_assoc, Nat.mul_left_comm]]
  simp only [Nat.mul_add] at h h1 h3 ⊢
  omega
theorem tk_last {Y U P j i x d g b c b' : Nat} (hx : dig Y (j + i) = x) (h : Y + bb ^ j * (g * P) = U + bb ^ (j + i) * (b + c)) (hd : d + c + b = x + bb * b') :
    put Y (j + i) d + bb ^ j * (g * P) = U + bb ^ (j + i + 1) * b' := by
  have h1 := put_eq Y (j + i) d
  have h3 : bb ^ (j + i) * (d + c + b) = bb ^ (j + i) * (x + bb * b') := by congr 1
  rw [hx] at h1
  rw [bp_succ, Nat.mul_assoc (bb ^ (j + i)) bb]
  simp only [Nat.mul_add] at h h1 h3 ⊢
  omega
theorem gb_step {Z Y P j i x d v c c' : Nat} (hx : dig Z (j + i) = x) (h : Z + bb ^ (j + i) * c = Y + bb ^ j * P) (hd : d + bb * c' = x + v + c) :
    put Z (j + i) d + bb ^ (j + (i + 1)) * c' = Y + bb ^ j * (P + bb ^ i * v) := by
  have h1 := put_eq Z (j + i) d
  have h3 : bb ^ (j + i) * (d + bb * c') = bb ^ (j + i) * (x + v + c) := by congr 1
  rw [hx] at h1
  rw [← Nat.add_assoc j i 1, bp_succ, Nat.mul_assoc (bb ^ (j + i)) bb, Nat.mul_add (bb ^ j), show bb ^ j * (bb ^ i * v) = bb ^ (j + i) * v by rw [Nat.pow_add, Nat.mul_assoc]]
  simp only [Nat.mul_add] at h h1 h3 ⊢
  omega
/-- Nothing but block g has changed. -/
def Only (g : Nat) (w w' : World) : Prop := Below g w w' ∧ ∀ k, k ≠ g → w'.heap[k]? = w.heap[k]?
theorem Only.refl (g : Nat) (w : World) : Only g w w := ⟨Below.refl _ _, fun _ _ => rfl⟩
theorem Only.set {g : Nat} {w w' : World} (h : Only g w w') (i : Nat) (v : Value) : Only g w (w'.setCell ⟨g, i, none⟩ v) :=
  ⟨h.1.setCell (Nat.le_refl _) v, fun k hk => (Below.heap_setCell _ _ _ _ (fun e => hk e)).trans (h.2 k hk)⟩
theorem Only.blk {g b : Nat} {w w' : World} {cs : List Value} {t : TypeId} (h : Only g w w') (hb : Blk w b cs t) (hne : b ≠ g) : Blk w' b cs t := (h.2 b hne).trans hb
set_option maxHeartbeats 1000000 in
theorem takeTimes_any {bu bv cu cv j m g U V : Nat} (w : World) (hj : j + m ≤ 32) (hne : bv ≠ bu) (hg : g ≤ 4294967295) (hU : U < bb ^ (j + m + 1))
    (b0 : Blk w bu (lc U) 141) (b1 : Blk w bv (lc V) 141) :
    Calls Tryz.prog 110 #[.slice (some ⟨bu, j, none⟩) (m + 1) cu, .slice (some ⟨bv, 0, none⟩) m cv, .int .u32 g] w fun e w' =>
      ∃ Y b, b ≤ 1 ∧ e = .returned (.bool (decide (0 < b))) ∧ Blk w' bu (lc Y) 141 ∧ Y < bb ^ (j + m + 1) ∧ Y + bb ^ j * (g * (V % bb ^ m)) = U + bb ^ (j + m + 1) * b ∧ Only bu w w' := by
  have HU := Lib.hid hU
  have B0 := Lib.hid b0
  have B1 := Lib.hid b1
  have HJ := Lib.hid hj
  clear hU b0 b1 hj
  go_enter Tryz.func110, Tryz.ntmps110
  go_wp2
  go_loopw [7, 8, 15] (fun c b i wr => ∃ k C B Y : Nat, k ≤ m ∧ i = .int .i64 k ∧ c = .int .u64 C ∧ b = .int .u32 B ∧ C ≤ 4294967295 ∧ B ≤ 1 ∧ Blk wr bu (lc Y) 141 ∧ Y < bb ^ (j + m + 1) ∧ Y + bb ^ j * (g * (V % bb ^ k)) = U + bb ^ (j + k) * (B + C) ∧ Only bu w wr) (fun _ _ i _ => m - (intOf i).toNat)
  case atStart => exact ⟨0, 0, 0, U, Nat.zero_le _, rfl, rfl, rfl, by omega, by omega, B0.out, HU.out, by simp [Nat.mod_one], Only.refl _ _⟩
  case round =>
    obtain ⟨k, C, B, Y, hk, rfl, rfl, rfl, hC, hB, a0, hY, he, ho⟩ := hrel
    have a1 := ho.blk B1.out hne
    have HY := Lib.hid hY
    have HE := Lib.hid he
    clear hY he
    by_cases hlt : k < m
    · have hj' : j + k < 33 := by have := HJ.out; omega
      have c0 := a0.cell (lc_get Y (j + k) hj')
      have f0 := a0.frozen (j + k)
      have c1 := a1.cell (lc_get V k (by omega))
      have d0 := dig_le Y (j + k)
      have d1 := dig_le V k
      have hlt' : (k : Int) < (m : Int) := by omega
      have hlt2 : (k : Int) < (m : Int) + 1 := by omega
      have hk0 : (0 : Int) ≤ (k : Int) := by omega
      obtain ⟨x, hx⟩ : ∃ x, dig Y (j + k) = x := ⟨_, rfl⟩
      obtain ⟨v, hv⟩ : ∃ v, dig V k = v := ⟨_, rfl⟩
      rw [hx] at c0 d0
      rw [hv] at c1 d1
      have HX := Lib.hid hx
      have HV := Lib.hid hv
      clear hx hv
      obtain ⟨t, ht⟩ : ∃ t, g * v + C = t := ⟨_, rfl⟩
      have ET : (g : Int) * (v : Int) + (C : Int) = (t : Int) := by rw [← ht]; push_cast; rfl
      obtain ⟨p, hp⟩ : ∃ p, g * v = p := ⟨_, rfl⟩
      have EP : (g : Int) * (v : Int) = (p : Int) := by rw [← hp]; push_cast; rfl
      have hp2 : p ≤ 18446744065119617025 := by rw [← hp]; exact Nat.le_trans (Nat.mul_le_mul hg d1) (by decide)
      have hpt : p + C = t := by rw [← hp, ht]
      have HT := Lib.hid ht
      clear ht hp ET
      have ht2 : t ≤ 18446744069414584320 := by omega
      have E1 : ((p : Int) + (C : Int)) % 4294967296 = ((t % bb : Nat) : Int) := by rw [bb_eq]; omega
      have E2 : ((p : Int) + (C : Int)) / 4294967296 = ((t / bb : Nat) : Int) := by rw [bb_eq]; omega
      have HT2 : Hid (t % bb ≤ 4294967295 ∧ t / bb ≤ 4294967295) := by
        show t % bb ≤ 4294967295 ∧ t / bb ≤ 4294967295
        rw [bb_eq]; omega
      obtain ⟨l, hl⟩ : ∃ l, t % bb = l := ⟨_, rfl⟩
      obtain ⟨h, hh⟩ : ∃ h, t / bb = h := ⟨_, rfl⟩
      rw [hl] at E1 HT2
      rw [hh] at E2 HT2
      have HL := Lib.hid hl
      have HH := Lib.hid hh
      clear hl hh hpt
      go_wp2_with fail
      refine (sub32_any x l B _ d0 HT2.out.1 hB).mono ?_
      rintro e w' ⟨rfl, rfl⟩
      have HD : Hid ((x + bb - l - B) % bb + l + B = x + bb * (if x < l + B then 1 else 0) ∧ (x + bb - l - B) % bb < bb) := by
        show (x + bb - l - B) % bb + l + B = x + bb * (if x < l + B then 1 else 0) ∧ (x + bb - l - B) % bb < bb
        refine ⟨?_, Nat.mod_lt _ bb_pos⟩
        have := HT2.out.1
        have e := bb_eq
        split
        · rw [Nat.mod_eq_of_lt (by omega)]; omega
        · rw [show x + bb - l - B = (x - l - B) + bb by omega, Nat.add_mod_right, Nat.mod_eq_of_lt (by omega)]; omega
      have HB : Hid ((if x < l + B then 1 else 0 : Nat) ≤ 1) := by
        show (if x < l + B then 1 else 0 : Nat) ≤ 1
        split <;> omega
      generalize (x + bb - l - B) % bb = d at *
      generalize (if x < l + B then 1 else 0 : Nat) = B' at *
      go_wp2
      go_roundw
      case rel =>
        refine ⟨k + 1, h, B', put Y (j + k) d, by omega, by go_num, rfl, rfl, HT2.out.2, HB.out, ?_, put_lt HY.out (by omega) HD.out.2, ?_, ho.set _ _⟩
        · have := a0.set (j + k) (.int .u32 (d : Nat))
          rw [lc_put HD.out.2] at this
          exact this
        · rw [mod_succ, HV.out, ← HH.out, ← HT.out]
          refine tk_step HX.out HE.out ?_
          rw [HT.out, HL.out]
          exact HD.out.1
      case measure => simp [intOf]; omega
    · obtain rfl : k = m := by omega
      have hj' : j + k < 33 := by have := HJ.out; omega
      have c0 := a0.cell (lc_get Y (j + k) hj')
      have f0 := a0.frozen (j + k)
      have d0 := dig_le Y (j + k)
      have hlt2 : (k : Int) < (k : Int) + 1 := by omega
      obtain ⟨x, hx⟩ : ∃ x, dig Y (j + k) = x := ⟨_, rfl⟩
      rw [hx] at c0 d0
      have HX := Lib.hid hx
      clear hx
      go_wp2_with fail
      refine (sub32_any x C B _ d0 hC hB).mono ?_
      rintro e w' ⟨rfl, rfl⟩
      have HD : Hid ((x + bb - C - B) % bb + C + B = x + bb * (if x < C + B then 1 else 0) ∧ (x + bb - C - B) % bb < bb) := by
        show (x + bb - C - B) % bb + C + B = x + bb * (if x < C + B then 1 else 0) ∧ (x + bb - C - B) % bb < bb
        refine ⟨?_, Nat.mod_lt _ bb_pos⟩
        have e := bb_eq
        split
        · rw [Nat.mod_eq_of_lt (by omega)]; omega
        · rw [show x + bb - C - B = (x - C - B) + bb by omega, Nat.add_mod_right, Nat.mod_eq_of_lt (by omega)]; omega
      have HB : Hid ((if x < C + B then 1 else 0 : Nat) ≤ 1) := by
        show (if x < C + B then 1 else 0 : Nat) ≤ 1
        split <;> omega
      generalize (x + bb - C - B) % bb = d at *
      generalize (if x < C + B then 1 else 0 : Nat) = B' at *
      go_wp2
      go_ret
      have a2 := a0.set (j + k) (.int .u32 (d : Nat))
      rw [lc_put HD.out.2] at a2
      refine ⟨put Y (j + k) d, B', HB.out, ?_, a2, put_lt HY.out (by omega) HD.out.2, tk_last HX.out HE.out HD.out.1, ho.set _ _⟩
      rfl
set_option maxHeartbeats 1000000 in
theorem giveBack_any {bu bv cu cv j m U V : Nat} (w : World) (hj : j + m ≤ 32) (hne : bv ≠ bu) (hU : U < bb ^ (j + m + 1))
    (b0 : Blk w bu (lc U) 141) (b1 : Blk w bv (lc V) 141) :
    Calls Tryz.prog 111 #[.slice (some ⟨bu, j, none⟩) (m + 1) cu, .slice (some ⟨bv, 0, none⟩) m cv] w fun e w' =>
      ∃ Y c, e = .returned (.tuple #[]) ∧ Blk w' bu (lc Y) 141 ∧ Y < bb ^ (j + m + 1) ∧ Y + bb ^ (j + m + 1) * c = U + bb ^ j * (V % bb ^ m) ∧ Only bu w w' := by
  have HU := Lib.hid hU
  have B0 := Lib.hid b0
  have B1 := Lib.hid b1
  have HJ := Lib.hid hj
  clear hU b0 b1 hj
  go_enter Tryz.func111, Tryz.ntmps111
  go_wp2
  go_loopw [4, 9] (fun c i wr => ∃ k C Y : Nat, k ≤ m ∧ i = .int .i64 k ∧ c = .int .u32 C ∧ C ≤ 1 ∧ Blk wr bu (lc Y) 141 ∧ Y < bb ^ (j + m + 1) ∧ Y + bb ^ (j + k) * C = U + bb ^ j * (V % bb ^ k) ∧ Only bu w wr) (fun _ i _ => m - (intOf i).toNat)
  case atStart => exact ⟨0, 0, U, Nat.zero_le _, rfl, rfl, by omega, B0.out, HU.out, by simp [Nat.mod_one], Only.refl _ _⟩
  case round =>
    obtain ⟨k, C, Y, hk, rfl, rfl, hC, a0, hY, he, ho⟩ := hrel
    have a1 := ho.blk B1.out hne
    have HY := Lib.hid hY
    have HE := Lib.hid he
    clear hY he
    by_cases hlt : k < m
    · have hj' : j + k < 33 := by have := HJ.out; omega
      have c0 := a0.cell (lc_get Y (j + k) hj')
      have f0 := a0.frozen (j + k)
      have c1 := a1.cell (lc_get V k (by omega))
      have d0 := dig_le Y (j + k)
      have d1 := dig_le V k
      have hlt' : (k : Int) < (m : Int) := by omega
      have hlt2 : (k : Int) < (m : Int) + 1 := by omega
      have hk0 : (0 : Int) ≤ (k : Int) := by omega
      obtain ⟨x, hx⟩ : ∃ x, dig Y (j + k) = x := ⟨_, rfl⟩
      obtain ⟨v, hv⟩ : ∃ v, dig V k = v := ⟨_, rfl⟩
      rw [hx] at c0 d0
      rw [hv] at c1 d1
      have HX := Lib.hid hx
      have HV := Lib.hid hv
      clear hx hv
      go_wp2_with fail
      refine (add32_any x v C _ d0 d1 hC).mono ?_
      rintro e w' ⟨rfl, rfl⟩
      have HD : Hid ((x + v + C) % bb + bb * ((x + v + C) / bb) = x + v + C ∧ (x + v + C) % bb < bb ∧ (x + v + C) / bb ≤ 1) := by
        show (x + v + C) % bb + bb * ((x + v + C) / bb) = x + v + C ∧ (x + v + C) % bb < bb ∧ (x + v + C) / bb ≤ 1
        refine ⟨Nat.mod_add_div _ _, Nat.mod_lt _ bb_pos, ?_⟩
        rw [bb_eq]; omega
      generalize (x + v + C) % bb = d at *
      generalize (x + v + C) / bb = C' at *
      go_wp2
      go_roundw
      case rel =>
        refine ⟨k + 1, C', put Y (j + k) d, by omega, by go_num, rfl, HD.out.2.2, ?_, put_lt HY.out (by omega) HD.out.2.1, ?_, ho.set _ _⟩
        · have := a0.set (j + k) (.int .u32 (d : Nat))
          rw [lc_put HD.out.2.1] at this
          exact this
        · rw [mod_succ, HV.out]
          exact gb_step HX.out HE.out HD.out.1
      case measure => simp [intOf]; omega
    · obtain rfl : k = m := by omega
      have hj' : j + k < 33 := by have := HJ.out; omega
      have c0 := a0.cell (lc_get Y (j + k) hj')
      have f0 := a0.frozen (j + k)
      have d0 := dig_le Y (j + k)
      have hlt2 : (k : Int) < (k : Int) + 1 := by omega
      obtain ⟨x, hx⟩ : ∃ x, dig Y (j + k) = x := ⟨_, rfl⟩
      rw [hx] at c0 d0
      have HX := Lib.hid hx
      clear hx
      have HD : Hid ((x + C) % bb + bb * ((x + C) / bb) = x + 0 + C ∧ (x + C) % bb < bb) := ⟨Nat.mod_add_div _ _, Nat.mod_lt _ bb_pos⟩
      have E : ((x : Int) + (C : Int)) % 4294967296 = (((x + C) % bb : Nat) : Int) := by rw [bb_eq]; omega
      generalize (x + C) % bb = d at *
      generalize (x + C) / bb = C' at *
      go_wp2
      rw [E]
      go_end0
      have a2 := a0.set (j + k) (.int .u32 (d : Nat))
      rw [lc_put HD.out.2] at a2
      have := gb_step HX.out HE.out HD.out.1
      rw [Nat.mul_zero, Nat.add_zero] at this
      exact ⟨put Y (j + k) d, C', rfl, a2, put_lt HY.out (by omega) HD.out.2, this, ho.set _ _⟩
end Go.Proofs.YtoegjibeomhekaaGreat
