/- RatioRows answers true of every row. No conditions. -/
import Derived.Test.YtiaikjeljhfadaaRrw
import Derived.Test.YtiaikjeljhfadaaOrs
import Derived.Test.YtiaikjeljhfadaaOpn
import Derived.Test.YtiaikjeljhfadaaRows
import Derived.WalkKit
import Derived.ProofKit
import Derived.OpenShut
namespace Go.Proofs.Ytiaikjeljhfadaa
set_option linter.unusedSimpArgs false
set_option linter.unusedVariables false
open Go.RowKit
theorem cq_three (x u : Rat) : (x < u ∧ cq x u = -1) ∨ (x = u ∧ cq x u = 0) ∨ (u < x ∧ cq x u = 1) := by
  unfold cq
  by_cases h : x < u
  · exact .inl ⟨h, if_pos h⟩
  · rw [if_neg h]
    by_cases h' : u < x
    · exact .inr (.inr ⟨h', if_pos h'⟩)
    · rw [if_neg h']
      exact .inr (.inl ⟨by grind, rfl⟩)
/-- The least of the first, and k more. -/
def lst (q : Nat → Rat) : Nat → Rat
  | 0 => q 0
  | k + 1 => if cq (q (k + 1)) (lst q k) < 0 then q (k + 1) else lst q k
theorem lst_le (q : Nat → Rat) : ∀ n k, k ≤ n → lst q n ≤ q k
  | 0, k, h => by
    obtain rfl : k = 0 := by omega
    exact Rat.le_refl
  | n + 1, k, h => by
    unfold lst
    have h3 := cq_three (q (n + 1)) (lst q n)
    split
    · rename_i hc
      by_cases e : k = n + 1
      · subst e; exact Rat.le_refl
      · have := lst_le q n k (by omega)
        rcases h3 with ⟨h1, _⟩ | ⟨_, h2⟩ | ⟨_, h2⟩
        · grind
        · omega
        · omega
    · rename_i hc
      by_cases e : k = n + 1
      · subst e
        rcases h3 with ⟨_, h2⟩ | ⟨h1, _⟩ | ⟨h1, _⟩
        · omega
        · grind
        · grind
      · exact lst_le q n k (by omega)
theorem lst_mem (q : Nat → Rat) : ∀ n, ∃ k, k ≤ n ∧ lst q n = q k
  | 0 => ⟨0, Nat.le_refl _, rfl⟩
  | n + 1 => by
    unfold lst
    split
    · exact ⟨n + 1, Nat.le_refl _, rfl⟩
    · obtain ⟨k, hk, e⟩ := lst_mem q n
      exact ⟨k, by omega, e⟩
theorem fdq_true (m : Rat) (q : Nat → Rat) : ∀ n k, k < n → m = q k → fdq m q n = true
  | 0, k, h, _ => absurd h (by omega)
  | n + 1, k, h, e => by
    unfold fdq
    by_cases hk : k = n
    · subst hk
      rcases cq_three m (q k) with ⟨h1, _⟩ | ⟨_, h2⟩ | ⟨h1, _⟩
      · exfalso; grind
      · rw [h2]; simp
      · exfalso; grind
    · rw [fdq_true m q n k (by omega) e]; rfl
theorem bq_sum {j : Nat} {q : Nat → Rat} : ∀ (n : Nat), (∀ k, k < n → Bq j (q k)) → Bq (1 + (j + 1) * n) (sumq q n)
  | 0, _ => ⟨by show (0 : Int).natAbs < 2 ^ 1; decide, by show (1 : Int).natAbs < 2 ^ 1; decide⟩
  | k + 1, h => by
    have := bq_add (bq_sum k fun i hi => h i (by omega)) (h k (by omega))
    exact bq_mono this (by rw [Nat.mul_add]; omega)
theorem safe_ex (L : Nat → List Value) (n : Nat) (hL : ∀ i, i < n → ∃ s N t M, L i = rr s N t M ∧ N < bb ^ 32 ∧ M < bb ^ 32) :
    ∃ s : Nat → Bool, (∀ i, i < n → Tl 43 #[vl (L i), .int .i64 40] (.bool (s i))) ∧ ((∀ i, i < n → s i = true) → ∃ q : Nat → Rat, ∀ i, i < n → L i = fq (q i) ∧ Bq 40 (q i)) := by
  induction n with
  | zero => exact ⟨fun _ => true, fun i hi => absurd hi (by omega), fun _ => ⟨fun _ => 0, fun i hi => absurd hi (by omega)⟩⟩
  | succ n ih =>
    obtain ⟨s, h1, h2⟩ := ih fun i hi => hL i (by omega)
    obtain ⟨a, N, t, M, e, hN, hM⟩ := hL n (by omega)
    rcases safe_q a t hN hM 40 with h | ⟨x, ex, hx, _, _, Sx⟩
    · refine ⟨fun i => if i = n then false else s i, fun i hi => ?_, fun hall => absurd (hall n (by omega)) (by simp)⟩
      by_cases hi' : i = n
      · subst hi'; simp only [if_true]; rw [e]; exact h
      · simp only [hi', if_false]; exact h1 i (by omega)
    · refine ⟨fun i => if i = n then true else s i, fun i hi => ?_, fun hall => ?_⟩
      · by_cases hi' : i = n
        · subst hi'; simp only [if_true]; rw [e, ex]; exact Sx
        · simp only [hi', if_false]; exact h1 i (by omega)
      · obtain ⟨q, hq⟩ := h2 fun i hi => by
          have := hall i (by omega)
          simpa [show ¬ i = n by omega] using this
        refine ⟨fun i => if i = n then x else q i, fun i hi => ?_⟩
        by_cases hi' : i = n
        · subst hi'; simp only [if_true]; rw [e, ex]; exact ⟨rfl, hx⟩
        · simp only [hi', if_false]; exact hq i (by omega)
theorem rrows_all (a : Addr) (len cap : Nat) (L : Nat → List Value) (hl : len ≤ cap) (hm : cap ≤ maxLen) (W : World) (hsp : 0 < len → a.spot = none ∧ a.block < W.heap.size)
    (hL : ∀ i, i < len → (∃ s N t M, L i = rr s N t M ∧ N < bb ^ 32 ∧ M < bb ^ 32) ∧ (L i).length = 66 ∧ W.rangeAt a.block (a.off + i * 66) (L i)) :
    Calls Try.prog 7 #[.slice (some a) len cap] W fun e w' => e = .returned (.bool true) ∧ Below W.heap.size W w' := by
  by_cases h0 : len = 0 ∨ 8 < len
  · exact rrows_none _ _ h0 (by unfold maxLen at hm; omega) W
  · obtain ⟨h1, h2⟩ := hsp (by omega)
    obtain ⟨b, f, z⟩ := a
    subst h1
    obtain ⟨s, S1, S2⟩ := safe_ex L len fun i hi => (hL i hi).1
    refine rrows_walk len b f cap L s W (by omega) (by omega) (fun k hk => ?_) S1 h2 (fun k hk => (hL k hk).2.2) (fun hall => ?_)
    · obtain ⟨_, _, _, _, e, _⟩ := (hL k hk).1
      exact ⟨_, _, _, _, e⟩
    · obtain ⟨q, hq⟩ := S2 hall
      have hB : ∀ k, k < len → Bq 40 (q k) := fun k hk => (hq k hk).2
      obtain ⟨n, rfl⟩ : ∃ n, len = n + 1 := ⟨len - 1, by omega⟩
      obtain ⟨i, hi, ei⟩ := lst_mem q n
      have hl' : ∀ k, k ≤ n → Bq 40 (lst q k) := fun k hk => by
        obtain ⟨i, hi, ei⟩ := lst_mem q k
        rw [ei]; exact hB i (by omega)
      have hs : ∀ k, k ≤ n + 1 → Bq 330 (sumq q k) := fun k hk => bq_mono (bq_sum k fun i hi => hB i (by omega)) (by omega)
      have hR : ∀ w', Below W.heap.size W w' → ∀ k, k < n + 1 → w'.rangeAt b (f + k * 66) (fr (q k).num (q k).den) := fun w' hw k hk => by
        have := rng_below hw h2 (hL k hk).2.2
        rw [(hq k hk).1] at this
        exact this
      refine ⟨q, lst q n, fun k hk => (hq k hk).1, (hs _ (Nat.le_refl _)).f2 (by omega), fdq_true _ _ _ i (by omega) ei, fun k hk => ?_, fun k hk => Cmp_q (hl' n (Nat.le_refl _)) (by omega) (hB k hk) (by omega), fun k hk => Add_q (hs k (by omega)) (by omega) (hB k hk) (by omega), fun w' hw => ?_, fun w' hw => ?_⟩
      · have := lst_le q n k (by omega)
        rcases cq_three (lst q n) (q k) with ⟨_, h⟩ | ⟨_, h⟩ | ⟨h, _⟩
        · omega
        · omega
        · exfalso; grind
      · refine Least_gen n b f cap (fun k => (q k).num) (fun k => (q k).den) (fun k => (lst q k).num) (fun k => (lst q k).den) (fun k => cq (q (k + 1)) (lst q k)) w' (by omega) (by omega) (by unfold maxLen at hm; omega) ⟨rfl, rfl⟩ (fun k hk => ⟨Cmp_q (hB (k + 1) (by omega)) (by omega) (hl' k (by omega)) (by omega), fun h => ?_, fun h => ?_⟩) (Nat.lt_of_lt_of_le h2 hw.size) (hR w' hw)
        · show (lst q (k + 1)).num = _ ∧ ((lst q (k + 1)).den : Int) = _
          unfold lst
          rw [if_pos h]; exact ⟨rfl, rfl⟩
        · show (lst q (k + 1)).num = _ ∧ ((lst q (k + 1)).den : Int) = _
          have e : lst q (k + 1) = lst q k := by
            conv => lhs; unfold lst
            rw [if_neg h]
          rw [e]; exact ⟨rfl, rfl⟩
      · exact Sum_cap (n + 1) b f cap (fun k => (q k).num) (fun k => (q k).den) (fun k => (sumq q k).num) (fun k => (sumq q k).den) w' (by omega) ⟨rfl, rfl⟩ (fun k hk => Add_q (hs k (by omega)) (by omega) (hB k hk) (by omega)) (Nat.lt_of_lt_of_le h2 hw.size) (hR w' hw)
end Go.Proofs.Ytiaikjeljhfadaa
namespace Go.Proofs.Ytiaikjeljhfadaa.ratioRows
open Go.ChangeShapes Go.WideShapes Go.ChangeAt Go.RowKit
set_option linter.unusedVariables false
theorem own : ownKnob Try.prog.godebug = none := by kernel_rfl
set_option maxRecDepth 100000 in
theorem lifted (os : Os) (started : os.Started) (H : Type) (enc : TypeId × Value → H) :
    ReturnsInHanded {} Try.checked os 7 .any (Rows.ratioRowsSpec.pre6 enc Try.prog Try.f7 Rows.ratioRowsRow.domain false) (Rows.ratioRowsSpec.post enc Try.prog Try.f7 false true false false) := by
  refine returnsInHanded_of_change (C := Try.checked) own started (by kernel_rfl) Try.func7
    (ChangeSpec.witness6 (enc := enc) (C := Try.checked) false ⟨#[], #[.slice none 0 0], []⟩ 7 (by kernel_rfl) (by kernel_rfl) (by kernel_rfl) (by kernel_rfl)) ?_
  intro W base args ds gs before hval0 hW hcnd _
  have hval : ∀ (j : Nat) t v, Try.f7.params[j]? = some t → args[j]? = some v → Value.okWide Try.prog W .any base t v := hval0
  have hW' := hW
  obtain ⟨p, q, hA0, hV, rfl, hfz, hnd⟩ := hW
  have hA : DataW.TrodAll enc Try.prog W 0 (fun _ => true) true Try.f7.params.toList args.toList ds p := hA0
  rw [Try.params7] at hA hval
  obtain ⟨v0, vs0, d0, ds0, p0, q0, hargs, rfl, rfl, h0, r0⟩ := trodAll_cons hA
  obtain ⟨rfl, rfl, rfl⟩ := trodAll_nil r0
  obtain rfl : args = #[v0] := by cases args; simp_all
  obtain ⟨rfl, rfl⟩ := trodVars_none hV
  clear hA0 hval0
  rcases open_rows (k := 66) (n0 := 4) (Q := fun L => ∃ s N t M, L = rr s N t M ∧ N < bb ^ 32 ∧ M < bb ^ 32) Try.underlying59 (by kernel_rfl) (by decide) (fun h => by obtain ⟨s, N, t, M, e, hN, hM, hp, sh⟩ := rat_cells h; exact ⟨⟨s, N, t, M, e, hN, hM⟩, hp, sh⟩) (hval 0 59 v0 rfl rfl) h0 with ⟨rfl, rfl, sh⟩ | ⟨a, len, cap, L, rfl, hl, hm, hsp, hL, sh⟩
  · refine (rrows_none none (n := 0) 0 (.inl rfl) (by omega) W).mono fun e W' ⟨he, hg⟩ => ?_
    subst he
    exact ⟨_, rfl, post_of_below (pa := [] ++ []) (pv := []) hW' (fun _ _ _ => (trodAll_cons_mk (shut_bool Try.underlying4 _) trodAll_mk0)) (fun sp hs => trodAll_cons_mk (sh _ _ _ _) trodAll_mk0) (fun _ _ => rfl) (by simp)
      hg (ok_one (by kernel_rfl) rfl (okWide_bool_mk Try.underlying4 _))⟩
  · refine (rrows_all a len cap L hl hm W hsp hL).mono fun e W' ⟨he, hg⟩ => ?_
    subst he
    exact ⟨_, rfl, post_of_below (pa := p0 ++ []) (pv := []) hW' (fun _ _ _ => (trodAll_cons_mk (shut_bool Try.underlying4 _) trodAll_mk0)) (fun sp hs => trodAll_cons_mk (sh W' sp hg (fun p hp => hs p (by simp [hp]))) trodAll_mk0) (fun _ _ => rfl) (by simp)
      hg (ok_one (by kernel_rfl) rfl (okWide_bool_mk Try.underlying4 _))⟩
theorem over : Rows.ratioRowsRow.holds Try.pinned (OpenSpec.ofChange Rows.ratioRowsSpec) :=
  OpenClaim.holds_of_wide 7 Try.f7 rfl rfl rfl rfl rfl rfl rfl ⟨rfl, rfl, rfl, rfl, rfl⟩ rfl rfl rfl rfl rfl (by kernel_rfl) Try.func7 (by kernel_rfl)
    (of_decide_eq_true (by kernel_rfl)) (by unfold Func.isWrapper; first | (rw [if_pos (by decide +kernel)]; kernel_rfl) | (rw [if_neg (by decide +kernel)]; exact ⟨rfl, rfl⟩))
    (fun os started H enc _ => lifted os started H enc)
end Go.Proofs.Ytiaikjeljhfadaa.ratioRows
namespace Go.Proofs.Ytiaikjeljhfadaa
theorem ratioRows_holds : Rows.RatioRowsSaid := ratioRows.over
#print axioms ratioRows_holds
end Go.Proofs.Ytiaikjeljhfadaa
