/- LexInts answers true of every number. No conditions. -/
import Derived.Test.YtoahkpfngemhcaaXkn
import Derived.Test.YtoahkpfngemhcaaXnm
import Derived.Test.YtoahkpfngemhcaaPst
import Derived.Test.YtoahkpfngemhcaaRows
import Derived.WalkKit
import Derived.ProofKit
import Derived.OpenShut
namespace Go.Proofs.Ytoahkpfngemhcaa
set_option linter.unusedSimpArgs false
set_option linter.unusedVariables false
open Go.RowKit
set_option maxRecDepth 100000
theorem digs_head (k n : Nat) (hn : n < 10 ^ k) (hk : 0 < k) : (digs k n).head? ≠ some 45 := by
  obtain ⟨_, h2, h3, _, _⟩ := digs_val k n hn hk
  cases e : digs k n with
  | nil => exact absurd e h3
  | cons c r =>
    intro h
    simp only [List.head?_cons, Option.some.injEq] at h
    have := h2 c (by rw [e]; exact List.mem_cons_self ..)
    rw [h] at this
    exact absurd this (by decide)
/-- The digits of a number below a thousand millions are as many in ten places as in nine. -/
theorem digs_more : ∀ (k n : Nat), n < 10 ^ k → 0 < k → digs (k + 1) n = digs k n
  | 0, _, _, h => absurd h (by decide)
  | k + 1, n, hn, _ => by
    by_cases h : n < 10
    · rw [digs, if_pos h, digs, if_pos h]
    · have hk : 0 < k := by
        apply Classical.byContradiction; intro hh
        have : k = 0 := by omega
        subst this
        omega
      rw [digs, if_neg h, digs_more k (n / 10) (by rw [Nat.pow_succ] at hn; omega) hk]
      conv => rhs; rw [digs, if_neg h]
theorem numT_ne (a : Int) : numT a ≠ [] := by
  unfold numT
  split
  · simp
  · unfold digs; split <;> simp
theorem int_numT {a : Int} (h : -1000000000 < a ∧ a < 1000000000) : intA (numT a) = .tuple #[.int .i64 a, .bool true] := by
  by_cases h0 : a < 0
  · have hn : a.natAbs < 10 ^ 9 := by omega
    have e : numT a = 45 :: digs 9 a.natAbs := by unfold numT; rw [if_pos h0, digs_more 9 _ hn (by decide)]
    have h1 := natOk_digs hn (by decide) (by decide)
    obtain ⟨h2, _⟩ := digs_val 9 _ hn (by decide)
    have k1 : intOk (numT a) = true := by
      rw [e]; unfold intOk; rw [if_pos List.head?_cons]
      show (natOk (digs 9 a.natAbs) && numv (digs 9 a.natAbs) != 0) = true
      rw [h1, h2]; simp; omega
    have k2 : intV (numT a) = a := by
      rw [e]; unfold intV; rw [if_pos List.head?_cons]
      show -(numv (digs 9 a.natAbs) : Int) = a
      rw [h2]; omega
    unfold intA
    rw [if_pos k1, k2]
  · have hn : a.toNat < 10 ^ 9 := by omega
    have e : numT a = digs 9 a.toNat := by unfold numT; rw [if_neg h0, digs_more 9 _ hn (by decide)]
    have h1 := natOk_digs hn (by decide) (by decide)
    obtain ⟨h2, _⟩ := digs_val 9 _ hn (by decide)
    have h3 := digs_head 9 _ hn (by decide)
    unfold intA intOk intV
    rw [e, if_neg h3, if_neg h3, if_pos h1, h2]
    rw [show ((a.toNat : Nat) : Int) = a by omega]
theorem int_no {l : List UInt8} (h : intOk l = false) : intA l = .tuple #[.int .i64 0, .bool false] := by unfold intA; rw [h]; rfl
theorem int_nought (l : List UInt8) (h : l ≠ []) : intA (48 :: l) = .tuple #[.int .i64 0, .bool false] := by
  apply int_no
  unfold intOk
  rw [if_neg (by simp)]
  unfold natOk
  have : ¬ (48 :: l).length ≤ 1 := by have := List.length_pos_iff.2 h; simp; omega
  rw [decide_eq_false this]
  simp
theorem int_more (l : List UInt8) (h : 9 < l.length) (h' : l.head? = some 45 → 10 < l.length) : intA l = .tuple #[.int .i64 0, .bool false] := by
  apply int_no
  unfold intOk
  split
  · rename_i he
    have := h' he
    unfold natOk
    rw [decide_eq_false (show ¬ l.tail.length ≤ 9 by simp; omega)]
    simp
  · unfold natOk
    rw [decide_eq_false (show ¬ l.length ≤ 9 by omega)]
    simp
theorem int_letter (l : List UInt8) (h : l ≠ []) : intA (l ++ [120]) = .tuple #[.int .i64 0, .bool false] := by
  apply int_no
  unfold intOk
  split
  · cases l with
    | nil => exact absurd rfl h
    | cons c r =>
      show (natOk (r ++ [120]) && _) = false
      unfold natOk
      rw [show (r ++ [120] : List UInt8).all isDig = false by simp [isDig]]
      simp
  · unfold natOk
    rw [show (l ++ [120] : List UInt8).all isDig = false by simp [isDig]]
    simp
theorem i32_in {a : Int} (h : (Lit.int .i32 a).wf = true) : -2147483648 ≤ a ∧ a ≤ 2147483647 := by
  simp only [Lit.wf, Bool.and_eq_true, decide_eq_true_eq] at h
  exact h
set_option maxHeartbeats 4000000 in
theorem lints_all (a : Int) (ha : (Lit.int .i32 a).wf = true) (w : World) :
    Calls Try.prog 5 #[.int .i32 a] w fun e w' => e = .returned (.bool true) ∧ Below w.heap.size w w' := by
  have ha := i32_in ha
  obtain ⟨k, hk⟩ : ∃ k, a.tmod 1000000000 = k := ⟨_, rfl⟩
  have hr : -1000000000 < k ∧ k < 1000000000 := by
    rcases Int.le_total 0 a with h | h
    · have h1 := Int.tmod_eq_emod_of_nonneg (b := 1000000000) h
      omega
    · have h1 := Int.neg_tmod a 1000000000
      have h2 := Int.tmod_eq_emod_of_nonneg (b := 1000000000) (show 0 ≤ -a by omega)
      omega
  have hw : IntKind.i64.wrap a = a := by rw [IntKind.wrap_i64]; omega
  have hw2 : IntKind.i64.wrap k = k := by rw [IntKind.wrap_i64]; omega
  have HK := Lib.hid fun w => known6_any w
  have HN := Lib.hid fun w => Num_any k w hr
  have e1 := int_numT hr
  obtain ⟨s, hs⟩ : ∃ s, numT k = s := ⟨_, rfl⟩
  have hne := numT_ne k
  have hsl : s.length ≤ 11 := by
    rw [← hs]; unfold numT
    split
    · have := digs_len 10 k.natAbs; simp; omega
    · have := digs_len 10 k.toNat; omega
  have hml : s.head? = some 45 → 1 < s.length := by
    rw [← hs]; unfold numT
    split
    · intro _
      have := List.length_pos_iff.2 (show digs 10 k.natAbs ≠ [] by unfold digs; split <;> simp)
      simp; omega
    · intro h
      exact absurd h (digs_head 10 _ (by omega) (by decide))
  rw [hs] at HN e1 hne
  have hs1 := List.length_pos_iff.2 hne
  have e2 := int_nought s hne
  have e3 := int_more (s ++ [48, 48, 48, 48, 48, 48, 48, 48, 48]) (by simp; omega) (by
    intro h
    have : s.head? = some 45 := by
      cases s with
      | nil => exact absurd rfl hne
      | cons c r => simpa using h
    have := hml this
    simp; omega)
  have e4 := int_letter s hne
  have e5 : intA [45, 48] = .tuple #[.int .i64 0, .bool false] := by rfl
  have I1 := Lib.hid fun w => e1 ▸ Int_any s w (by omega)
  have I2 := Lib.hid fun w => e2 ▸ Int_any (48 :: s) w (by simp; omega)
  have I3 := Lib.hid fun w => e3 ▸ Int_any (s ++ [48, 48, 48, 48, 48, 48, 48, 48, 48]) w (by simp; omega)
  have I4 := Lib.hid fun w => e4 ▸ Int_any (s ++ [120]) w (by simp; omega)
  have I5 := Lib.hid fun w => e5 ▸ Int_any [45, 48] w (by decide)
  have H2 : Hid ((⟨#[48]⟩ : ByteArray) ++ tx s = tx (48 :: s)) := tx_app [48] s
  have H3 : Hid (tx s ++ (⟨#[48, 48, 48, 48, 48, 48, 48, 48, 48]⟩ : ByteArray) = tx (s ++ [48, 48, 48, 48, 48, 48, 48, 48, 48])) := tx_app s [48, 48, 48, 48, 48, 48, 48, 48, 48]
  have H4 : Hid (tx s ++ (⟨#[120]⟩ : ByteArray) = tx (s ++ [120])) := tx_app s [120]
  have hsz := tx_size s
  have z1 : ¬ (9223372036854775807 : Nat) < 1 + s.length := by omega
  have z2 : ¬ (9223372036854775807 : Nat) < s.length + 9 := by omega
  have z3 : ¬ (9223372036854775807 : Nat) < s.length + 1 := by omega
  clear e1 e2 e3 e4 e5 hml hne hs hr
  go_enter Try.func5, Try.ntmps5
  go_wp2_with fail
  refine (HK.out _).mono ?_
  rintro e w1 ⟨rfl, hb⟩
  go_wp2_with fail
  refine (HN.out _).mono ?_
  rintro e w2 ⟨rfl, h1⟩
  replace hb := bthen hb h1
  clear h1
  go_wp2_with fail
  refine (I1.out _).mono ?_
  rintro e w3 ⟨rfl, rfl⟩
  go_wp2_with fail
  rw [H2.out]
  refine (I2.out _).mono ?_
  rintro e w3 ⟨rfl, rfl⟩
  go_wp2_with fail
  rw [H3.out]
  refine (I3.out _).mono ?_
  rintro e w3 ⟨rfl, rfl⟩
  go_wp2_with fail
  rw [H4.out]
  refine (I4.out _).mono ?_
  rintro e w3 ⟨rfl, rfl⟩
  go_wp2_with fail
  refine (I5.out _).mono ?_
  rintro e w3 ⟨rfl, rfl⟩
  go_wp2
  go_ret
  exact ⟨rfl, hb⟩
end Go.Proofs.Ytoahkpfngemhcaa
namespace Go.Proofs.Ytoahkpfngemhcaa.lexInts
open Go.ChangeShapes Go.WideShapes Go.ChangeAt Go.RowKit
set_option linter.unusedVariables false
theorem own : ownKnob Try.prog.godebug = none := by kernel_rfl
set_option maxRecDepth 100000 in
theorem lifted (os : Os) (started : os.Started) (H : Type) (enc : TypeId × Value → H) :
    ReturnsInHanded {} Try.checked os 5 .any (Rows.lexIntsSpec.pre6 enc Try.prog Try.f5 Rows.lexIntsRow.domain false) (Rows.lexIntsSpec.post enc Try.prog Try.f5 false true false false) := by
  refine returnsInHanded_of_change (C := Try.checked) own started (by kernel_rfl) Try.func5
    (ChangeSpec.witness6 (enc := enc) (C := Try.checked) false ⟨#[], #[.int .i32 0], []⟩ 8 (by kernel_rfl) (by kernel_rfl) (by kernel_rfl) (by kernel_rfl)) ?_
  intro W base args ds gs before hval0 hW hcnd _
  have hval : ∀ (j : Nat) t v, Try.f5.params[j]? = some t → args[j]? = some v → Value.okWide Try.prog W .any base t v := hval0
  have hW' := hW
  obtain ⟨p, q, hA0, hV, rfl, hfz, hnd⟩ := hW
  have hA : DataW.TrodAll enc Try.prog W 0 (fun _ => true) true Try.f5.params.toList args.toList ds p := hA0
  rw [Try.params5] at hA hval
  obtain ⟨v0, vs0, d0, ds0, p0, q0, hargs, rfl, rfl, h0, r0⟩ := trodAll_cons hA
  obtain ⟨rfl, rfl, rfl⟩ := trodAll_nil r0
  obtain rfl : args = #[v0] := by cases args; simp_all
  obtain ⟨rfl, rfl⟩ := trodVars_none hV
  obtain ⟨a0, rfl, rfl, rfl, w0⟩ := open_int Try.underlying21 (hval 0 21 v0 rfl rfl) h0
  clear hA0 hval0
  simp only [List.append_nil] at hW'
  refine (lints_all a0 w0 W).mono fun e W' ⟨he, hg⟩ => ?_
  subst he
  exact ⟨_, rfl, post_of_below (pa := []) (pv := []) hW' (fun _ _ _ => (trodAll_cons_mk (shut_bool Try.underlying4 _) trodAll_mk0)) (fun sp _ => (trodAll_cons_mk (shut_int Try.underlying21 w0) trodAll_mk0)) (fun _ _ => rfl) rfl
    hg (ok_one (by kernel_rfl) rfl (okWide_bool_mk Try.underlying4 _))⟩
theorem over : Rows.lexIntsRow.holds Try.pinned (OpenSpec.ofChange Rows.lexIntsSpec) :=
  OpenClaim.holds_of_wide 5 Try.f5 rfl rfl rfl rfl rfl rfl rfl ⟨rfl, rfl, rfl, rfl, rfl⟩ rfl rfl rfl rfl rfl (by kernel_rfl) Try.func5 (by kernel_rfl)
    (of_decide_eq_true (by kernel_rfl)) (by unfold Func.isWrapper; first | (rw [if_pos (by decide +kernel)]; kernel_rfl) | (rw [if_neg (by decide +kernel)]; exact ⟨rfl, rfl⟩))
    (fun os started H enc _ => lifted os started H enc)
end Go.Proofs.Ytoahkpfngemhcaa.lexInts
namespace Go.Proofs.Ytoahkpfngemhcaa
theorem lexInts_holds : Rows.LexIntsSaid := lexInts.over
#print axioms lexInts_holds
end Go.Proofs.Ytoahkpfngemhcaa
