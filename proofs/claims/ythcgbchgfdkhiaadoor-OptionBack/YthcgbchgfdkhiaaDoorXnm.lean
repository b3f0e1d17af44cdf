/- parquetref6.Num: the text of a number. -/
import Derived.Test.YthcgbchgfdkhiaaDoorXin
import Derived.Deep.RegionWith
namespace Go.Proofs.YthcgbchgfdkhiaaDoor
set_option linter.unusedSimpArgs false
set_option linter.unusedVariables false
open Go.RowKit
set_option maxRecDepth 100000
def dgc (n : Nat) : UInt8 := UInt8.ofNat (48 + n)
/-- The digits of a number, k at most. -/
def digs : Nat → Nat → List UInt8
  | 0, _ => []
  | k + 1, n => if n < 10 then [dgc n] else digs k (n / 10) ++ [dgc (n % 10)]
theorem dig_val {n : Nat} (h : n < 10) : (dgc n).toNat = 48 + n := by
  rw [dgc, UInt8.toNat_ofNat']; omega
theorem digs_len : ∀ k n, (digs k n).length ≤ k
  | 0, _ => Nat.le_refl _
  | k + 1, n => by
    have := digs_len k (n / 10)
    unfold digs
    split <;> simp <;> omega
theorem carry1 {w w' : World} {v : Value} {t : TypeId} (h1 : Below (w.alloc (.cells #[v] t)).drew.heap.size (w.alloc (.cells #[v] t)).drew w') : w'.cell? ⟨w.heap.size, 0, none⟩ = some v :=
  (h1.cell (p := ⟨w.heap.size, 0, none⟩) (by simp)).trans (World.cell?_alloc_at _ _ _ _ rfl)
theorem below_b {w w' : World} (h1 : Below w.drew.heap.size w.drew w') : Below w.heap.size w w' := (Below.refl _ _).drew.trans h1
theorem below_a {w w' : World} {o : Obj} (h1 : Below (w.alloc o).drew.heap.size (w.alloc o).drew w') : Below w.heap.size w w' := (((Below.refl _ _).alloc (Nat.le_refl _) o).drew).trans (h1.mono (by simp))
theorem below_c {w w' : World} {o : Obj} (h1 : Below w.heap.size w w') : Below w.heap.size w (w'.alloc o) := h1.alloc h1.size o
theorem back1 (w : World) (g : Nat) (c : UInt8) (n : Int) (hn : n = (c.toNat : Int)) (h : w.cell? ⟨g, 0, none⟩ = some (.int .u8 n)) :
    Sem.run Tryd.prog (convert 58 9 (.slice (some ⟨g, 0, none⟩) 1 1)) w = .ok (.string (tx [c])) w := by
  refine run_convert_bytes_back w 58 9 5 ⟨g, 0, none⟩ 1 [c] Tryd.underlying58 Tryd.underlying5 Tryd.underlying9 fun j hj => ?_
  have : j = 0 := by simpa using hj
  subst this
  subst hn
  simpa [Addr.add] using h
set_option maxHeartbeats 4000000 in
theorem digits_any (k : Nat) : ∀ (n : Nat) (w : World), k ≤ 19 → n < 10 ^ k → 0 < k → Calls Tryd.prog 23 #[.int .u64 (n : Int)] w fun e w' => e = .returned (.string (tx (digs k n))) ∧ Below w.heap.size w w' := by
  induction k with
  | zero => intro n w _ _ h; omega
  | succ k ih =>
    intro n w hk hn _
    have hn18 : n < 10000000000000000000 := Nat.lt_of_lt_of_le hn (Nat.pow_le_pow_right (n := 10) (by decide) hk)
    by_cases h : n < 10
    · have g : (n : Int) < 10 := by omega
      have hd := dig_val h
      have e : digs (k + 1) n = [dgc n] := by unfold digs; rw [if_pos h]
      rw [e]
      have hcv := back1 (w.alloc (.cells #[.int .u8 (48 + (n : Int))] 5)) w.heap.size _ (48 + (n : Int)) (by rw [hd]; omega) (World.cell?_alloc_at _ _ _ _ rfl)
      clear e hn ih
      go_enter Tryd.func23, Tryd.ntmps23
      go_wp2_with fail
      go_ret
      exact ⟨rfl, (Below.refl _ _).alloc (Nat.le_refl _) _⟩
    · have g : ¬ (n : Int) < 10 := by omega
      have hk0 : 0 < k := by
        apply Classical.byContradiction; intro hh
        have : k = 0 := by omega
        subst this
        omega
      have e : digs (k + 1) n = digs k (n / 10) ++ [dgc (n % 10)] := by rw [digs, if_neg h]
      rw [e]
      have hl := digs_len k (n / 10)
      have ihq := fun w => ih (n / 10) w (by omega) (by rw [Nat.pow_succ] at hn; omega) hk0
      obtain ⟨q, hq⟩ : ∃ q, n / 10 = q := ⟨_, rfl⟩
      obtain ⟨r, hr⟩ : ∃ r, n % 10 = r := ⟨_, rfl⟩
      have hq1 : (n : Int) / 10 = (q : Int) := by omega
      have hr1 : (n : Int) % 10 = (r : Int) := by omega
      have hr9 : r < 10 := by omega
      have hr2 : (n : Int).tmod 10 = (r : Int) := by rw [← hr]; rfl
      have hw1 : IntKind.u64.wrap (q : Int) = (q : Int) := by rw [IntKind.wrap_u64]; omega
      have hw2 : IntKind.u64.wrap (48 + (r : Int)) = 48 + (r : Int) := by rw [IntKind.wrap_u64]; omega
      have hw3 : IntKind.u8.wrap (48 + (r : Int)) = 48 + (r : Int) := by rw [IntKind.wrap_u8]; omega
      rw [hq] at ihq hl ⊢
      rw [hr]
      have hd := dig_val hr9
      have IH := Lib.hid ihq
      have hs1 := tx_size (digs k q)
      have hs2 : (tx [dgc r]).size = 1 := tx_size _
      have hs9 : ¬ (9223372036854775807 : Nat) < (digs k q).length + 1 := by omega
      have hcv := fun W g => back1 W g (dgc r) (48 + (r : Int)) (by rw [hd]; omega)
      clear e hn ih h ihq hd hq hr
      go_enter Tryd.func23, Tryd.ntmps23
      go_wp2_with fail
      go_region_with (first | (go_at_call 23; refine (IH.out _).mono ?_; rintro e w' ⟨rfl, h1⟩; first | (have hc1 := carry1 h1; have hb1 := below_a h1) | (have hb1 := below_b h1)))
      all_goals (try go_wp2)
      all_goals go_ret
      all_goals first | exact ⟨by rw [← tx_app]; rfl, hb1⟩ | exact ⟨by rw [← tx_app]; rfl, below_c hb1⟩
theorem digs_val : ∀ (k n : Nat), n < 10 ^ k → 0 < k → numv (digs k n) = n ∧ (∀ c ∈ digs k n, isDig c = true) ∧ digs k n ≠ [] ∧ (0 < n → (digs k n).head? ≠ some 48) ∧ (n = 0 → digs k n = [48])
  | 0, n, _, h => absurd h (by decide)
  | k + 1, n, hn, _ => by
    by_cases h : n < 10
    · have hd := dig_val h
      rw [digs, if_pos h]
      refine ⟨?_, ?_, by simp, ?_, ?_⟩
      · have := numv_snoc [] (dgc n)
        rw [List.nil_append] at this
        rw [this, hd]
        simp [numv]
      · intro c hc
        simp only [List.mem_cons, List.not_mem_nil, or_false] at hc
        subst hc
        simp [isDig, hd]; omega
      · intro h0 e
        simp only [List.head?_cons, Option.some.injEq] at e
        rw [e] at hd
        have : (48 : UInt8).toNat = 48 := rfl
        omega
      · intro h0; subst h0; rfl
    · have hk : 0 < k := by
        apply Classical.byContradiction; intro hh
        have : k = 0 := by omega
        subst this
        omega
      have hd := dig_val (show n % 10 < 10 by omega)
      obtain ⟨h1, h2, h3, h4, _⟩ := digs_val k (n / 10) (by rw [Nat.pow_succ] at hn; omega) hk
      rw [digs, if_neg h]
      refine ⟨?_, ?_, by simp, ?_, fun h0 => by omega⟩
      · rw [numv_snoc, h1, hd]; omega
      · intro c hc
        rcases List.mem_append.1 hc with hc | hc
        · exact h2 c hc
        · simp only [List.mem_cons, List.not_mem_nil, or_false] at hc
          subst hc
          simp [isDig, hd]; omega
      · intro _
        have := h4 (by omega)
        cases e : digs k (n / 10) with
        | nil => exact absurd e h3
        | cons c r => rw [e] at this; simpa using this
theorem natOk_digs {k n : Nat} (hn : n < 10 ^ k) (hk : 0 < k) (hk9 : k ≤ 9) : natOk (digs k n) = true := by
  obtain ⟨h1, h2, h3, h4, h5⟩ := digs_val k n hn hk
  have hl := digs_len k n
  unfold natOk
  rw [List.all_eq_true.2 h2, decide_eq_true (show (digs k n).length ≤ 9 by omega)]
  have e : (digs k n).isEmpty = false := by simpa using h3
  rw [e]
  rcases Nat.eq_zero_or_pos n with h0 | h0
  · rw [h5 h0]; rfl
  · have := h4 h0
    have e2 : ((digs k n).head? == some 48) = false := by rw [beq_eq_false_iff_ne]; exact this
    rw [e2]; simp
/-- The text of a number. -/
def numT (a : Int) : List UInt8 := if a < 0 then 45 :: digs 10 a.natAbs else digs 10 a.toNat
set_option maxHeartbeats 2000000 in
theorem Num_any (a : Int) (w : World) (h : -1000000000 < a ∧ a < 1000000000) : Calls Tryd.prog 14 #[.int .i64 a] w fun e w' => e = .returned (.string (tx (numT a))) ∧ Below w.heap.size w w' := by
  by_cases h0 : a < 0
  · have HD := Lib.hid fun w => digits_any 10 a.natAbs w (by decide) (by omega) (by decide)
    have e : numT a = 45 :: digs 10 a.natAbs := if_pos h0
    have hl := digs_len 10 a.natAbs
    rw [e]
    obtain ⟨n, hn⟩ : ∃ n, a.natAbs = n := ⟨_, rfl⟩
    obtain rfl : a = -(n : Int) := by omega
    rw [hn] at HD hl ⊢
    have k1 : IntKind.i64.wrap (-(n : Int) + 1) = -(n : Int) + 1 := by rw [IntKind.wrap_i64]; omega
    have k2 : IntKind.i64.wrap (-(-(n : Int) + 1)) = (n : Int) - 1 := by rw [IntKind.wrap_i64]; omega
    have k3 : IntKind.u64.wrap ((n : Int) - 1) = (n : Int) - 1 := by rw [IntKind.wrap_u64]; omega
    have k4 : IntKind.u64.wrap ((n : Int) - 1 + 1) = (n : Int) := by rw [IntKind.wrap_u64]; omega
    have hs1 := tx_size (digs 10 n)
    have hs9 : ¬ (9223372036854775807 : Nat) < 1 + (digs 10 n).length := by omega
    clear e hn
    go_enter Tryd.func14, Tryd.ntmps14
    go_wp2_with fail
    refine (HD.out _).mono ?_
    rintro e w1 ⟨rfl, h1⟩
    go_wp2_with fail
    go_ret
    exact ⟨by rw [show (45 :: digs 10 n) = [45] ++ digs 10 n from rfl, ← tx_app]; rfl, h1⟩
  · have HD := Lib.hid fun w => digits_any 10 a.toNat w (by decide) (by omega) (by decide)
    have e : numT a = digs 10 a.toNat := if_neg h0
    rw [e]
    obtain ⟨n, hn⟩ : ∃ n, a.toNat = n := ⟨_, rfl⟩
    obtain rfl : a = (n : Int) := by omega
    rw [hn] at HD ⊢
    have k1 : IntKind.u64.wrap (n : Int) = (n : Int) := by rw [IntKind.wrap_u64]; omega
    clear e hn
    go_enter Tryd.func14, Tryd.ntmps14
    go_wp2_with fail
    refine (HD.out _).mono ?_
    rintro e w1 ⟨rfl, h1⟩
    go_wp2_with fail
    go_ret
    exact ⟨rfl, h1⟩
end Go.Proofs.YthcgbchgfdkhiaaDoor
