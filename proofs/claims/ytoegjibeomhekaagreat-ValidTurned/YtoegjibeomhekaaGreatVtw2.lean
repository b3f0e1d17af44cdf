/- Joined of: Vtp Vti Vtw2. -/
import Derived.Test.YtoegjibeomhekaaGreatVkn
import Derived.RegionTactic
import Derived.BigRegion
/- A drawing turned: segments the other way round. Without walks. -/
namespace Go.Proofs.YtoegjibeomhekaaGreat
set_option linter.unusedSimpArgs false
set_option linter.unusedVariables false
open Go.RowKit
set_option maxRecDepth 100000
theorem oq_back (a b c d : Rat) : oq b a c d = oq a b c d := by
  rw [Bool.eq_iff_iff]
  unfold oq
  simp only [Bool.or_eq_true, hq_iff]
  grind
theorem xq_back (ax ay ex ey cx cy dx dy : Rat) : xq ex ey ax ay cx cy dx dy = xq ax ay ex ey cx cy dx dy := by
  unfold xq spq
  rw [oq_back ax ex cx dx, oq_back ay ey cy dy, sd_back ax ay ex ey, sd_back ax ay ex ey, Int.neg_mul_neg, Int.mul_comm (sd cx cy dx dy ex ey)]
theorem mq_back (ax ay ex ey cx cy dx dy : Rat) : mq ex ey ax ay cx cy dx dy = mq ax ay ex ey cx cy dx dy := by
  have hm : ∀ q, q ∈ lq ex ey ax ay cx cy dx dy ↔ q ∈ lq ax ay ex ey cx cy dx dy := fun q => by
    rw [mem_lq, mem_lq, onq_sym ex ey ax ay cx cy, onq_sym ex ey ax ay dx dy]
    grind
  have hn : lq ex ey ax ay cx cy dx dy = [] ↔ lq ax ay ex ey cx cy dx dy = [] := by
    rw [List.eq_nil_iff_forall_not_mem, List.eq_nil_iff_forall_not_mem]
    exact ⟨fun h q hq => h q ((hm q).2 hq), fun h q hq => h q ((hm q).1 hq)⟩
  have ho : okq ex ey ax ay cx cy dx dy ↔ okq ax ay ex ey cx cy dx dy := by
    rw [okq_iff, okq_iff]
    constructor
    · rintro ⟨h1, h2⟩
      exact ⟨fun q hq q' hq' => h1 q ((hm q).2 hq) q' ((hm q').2 hq'), fun q hq => ⟨by rw [enq_sym]; exact (h2 q ((hm q).2 hq)).1, (h2 q ((hm q).2 hq)).2⟩⟩
    · rintro ⟨h1, h2⟩
      exact ⟨fun q hq q' hq' => h1 q ((hm q).1 hq) q' ((hm q').1 hq'), fun q hq => ⟨by rw [enq_sym]; exact (h2 q ((hm q).1 hq)).1, (h2 q ((hm q).1 hq)).2⟩⟩
  unfold mq
  rw [xq_back]
  simp only [hn, ho]
theorem mq_swap (ax ay ex ey cx cy dx dy : Rat) : mq cx cy dx dy ax ay ex ey = mq ax ay ex ey cx cy dx dy := by
  rw [mq_sym cx cy dx dy ax ay ex ey, mq_back]
theorem mq_back' (ax ay ex ey cx cy dx dy : Rat) : mq ax ay ex ey dx dy cx cy = mq ax ay ex ey cx cy dx dy := by
  rw [← mq_swap, mq_back, mq_swap]
theorem tn_back (f t v : I3) : tnI t f v = - tnI f t v := by unfold tnI; grind
/-- The same segment under other names, this way or the other way round. -/
def Sim (τ : Int → Int) (s' s : Sd) : Prop := (s'.1.1 = τ s.1.1 ∧ s'.1.2.1 = τ s.1.2.1 ∧ s'.2.1 = s.2.1 ∧ s'.2.2 = s.2.2) ∨ (s'.1.1 = τ s.1.2.1 ∧ s'.1.2.1 = τ s.1.1 ∧ s'.2.1 = s.2.2 ∧ s'.2.2 = s.2.1)
theorem sim_join {τ : Int → Int} {s s' t t' : Sd} (hs : Sim τ s' s) (ht : Sim τ t' t) (hi : ∀ x y, (x = s.1.1 ∨ x = s.1.2.1) → (y = t.1.1 ∨ y = t.1.2.1) → (τ x = τ y ↔ x = y)) : vJoin s' t' = vJoin s t := by
  have h1 := hi s.1.1 t.1.1 (.inl rfl) (.inl rfl)
  have h2 := hi s.1.1 t.1.2.1 (.inl rfl) (.inr rfl)
  have h3 := hi s.1.2.1 t.1.1 (.inr rfl) (.inl rfl)
  have h4 := hi s.1.2.1 t.1.2.1 (.inr rfl) (.inr rfl)
  unfold vJoin
  rw [Bool.eq_iff_iff]
  simp only [Bool.or_eq_true, decide_eq_true_eq]
  rcases hs with ⟨e1, e2, _, _⟩ | ⟨e1, e2, _, _⟩ <;> rcases ht with ⟨f1, f2, _, _⟩ | ⟨f1, f2, _, _⟩ <;> rw [e1, e2, f1, f2, h1, h2, h3, h4] <;> grind
theorem sim_mq {τ : Int → Int} {s s' t t' : Sd} (hs : Sim τ s' s) (ht : Sim τ t' t) : vMq s' t' = vMq s t := by
  unfold vMq
  rcases hs with ⟨_, _, e1, e2⟩ | ⟨_, _, e1, e2⟩ <;> rcases ht with ⟨_, _, f1, f2⟩ | ⟨_, _, f1, f2⟩ <;> rw [e1, e2, f1, f2]
  · rw [mq_back']
  · rw [mq_back]
  · rw [mq_back, mq_back']
theorem sim_lv {τ : Int → Int} {s s' t t' : Sd} (hs : Sim τ s' s) (ht : Sim τ t' t) (hj : vJoin s' t' = vJoin s t) : vLvs s' t' = vLvs s t := by
  unfold vLvs
  rw [hj]
  rw [Bool.eq_iff_iff]
  rcases hs with ⟨_, _, e1, e2⟩ | ⟨_, _, e1, e2⟩ <;> rcases ht with ⟨_, _, f1, f2⟩ | ⟨_, _, f1, f2⟩ <;> rw [e1, e2, f1, f2] <;> try rw [tn_back s.2.1 s.2.2, tn_back s.2.1 s.2.2]
  all_goals
    split
    · simp only [decide_eq_true_eq]; omega
    · simp only [Bool.or_eq_true, Bool.and_eq_true, decide_eq_true_eq]; omega
theorem join_sym (s t : Sd) : vJoin s t = vJoin t s := by
  unfold vJoin
  rw [Bool.eq_iff_iff]
  simp only [Bool.or_eq_true, decide_eq_true_eq]
  grind
theorem mqs_sym (s t : Sd) : vMq s t = vMq t s := by unfold vMq; rw [mq_swap]
theorem xng_sym (s t : Sd) : vXng s t = vXng t s := by
  unfold vXng vMay
  rw [join_sym s t, mqs_sym s t, Bool.or_comm]
theorem sim_xng {τ : Int → Int} {s s' t t' : Sd} (hs : Sim τ s' s) (ht : Sim τ t' t) (hi : ∀ x y, (x = s.1.1 ∨ x = s.1.2.1) → (y = t.1.1 ∨ y = t.1.2.1) → (τ x = τ y ↔ x = y)) : vXng s' t' = vXng s t := by
  have hj := sim_join hs ht hi
  have hj' : vJoin t' s' = vJoin t s := by rw [join_sym t', join_sym t]; exact hj
  unfold vXng vMay
  rw [sim_lv hs ht hj, sim_lv ht hs hj', sim_mq hs ht, hj]
theorem sim_on {τ : Int → Int} {s s' : Sd} (hs : Sim τ s' s) (p : Hp) : vOn s' p = vOn s p := by
  unfold vOn
  rcases hs with ⟨_, _, e1, e2⟩ | ⟨_, _, e1, e2⟩ <;> rw [e1, e2]
  split
  · rw [onq_sym]
  · rfl
end Go.Proofs.YtoegjibeomhekaaGreat

/- A drawing turned: rows in another order. Without walks. -/
namespace Go.Proofs.YtoegjibeomhekaaGreat
set_option linter.unusedSimpArgs false
set_option linter.unusedVariables false
open Go.RowKit
set_option maxRecDepth 100000
/-- The place from which one comes. -/
def rot (n k i : Nat) : Nat := if i + k < n then i + k else i + k - n
theorem rot_lt {n k i : Nat} (hk : k < n) (hi : i < n) : rot n k i < n := by unfold rot; split <;> omega
theorem rot_eq {α : Type} {n k : Nat} {l l' : List α} (hk : k < n) (hl : l.length = n) (hl' : l'.length = n) (h : ∀ i, i < n → l'[i]? = l[rot n k i]?) : l' = l.drop k ++ l.take k := by
  apply List.ext_getElem?
  intro i
  by_cases hi : i < n
  · rw [h i hi]
    unfold rot
    split
    · rw [List.getElem?_append_left (by rw [List.length_drop]; omega), List.getElem?_drop, Nat.add_comm]
    · rw [List.getElem?_append_right (by rw [List.length_drop]; omega), List.length_drop, List.getElem?_take, if_pos (by omega)]
      congr 1; omega
  · rw [List.getElem?_eq_none (by omega), List.getElem?_eq_none (by simp; omega)]
theorem rot_all {α β : Type} {n k : Nat} {l : List α} {l' : List β} (f : β → Bool) (g : α → Bool) (hk : k < n) (hl : l.length = n) (hl' : l'.length = n) (h : ∀ i, i < n → ∃ x y, l'[i]? = some x ∧ l[rot n k i]? = some y ∧ f x = g y) : l'.all f = l.all g := by
  have e := rot_eq (l := l.map g) (l' := l'.map f) hk (by simp [hl]) (by simp [hl']) (fun i hi => by
    obtain ⟨x, y, h1, h2, h3⟩ := h i hi
    rw [List.getElem?_map, List.getElem?_map, h1, h2]; simp [h3])
  have e1 : l'.all f = (l'.map f).all id := by rw [List.all_map]; rfl
  have e2 : l.all g = (l.map g).all id := by rw [List.all_map]; rfl
  rw [e1, e2, e, List.all_append, Bool.and_comm, ← List.all_append, List.take_append_drop]
theorem rot_sum {α β : Type} {n k : Nat} {l : List α} {l' : List β} (f : β → Nat) (g : α → Nat) (hk : k < n) (hl : l.length = n) (hl' : l'.length = n) (h : ∀ i, i < n → ∃ x y, l'[i]? = some x ∧ l[rot n k i]? = some y ∧ f x = g y) : (l'.map f).sum = (l.map g).sum := by
  have e := rot_eq (l := l.map g) (l' := l'.map f) hk (by simp [hl]) (by simp [hl']) (fun i hi => by
    obtain ⟨x, y, h1, h2, h3⟩ := h i hi
    rw [List.getElem?_map, List.getElem?_map, h1, h2]; simp [h3])
  rw [e, List.sum_append, Nat.add_comm, ← List.sum_append, List.take_append_drop]
theorem cnt_sum (l : List I3) (j : Nat) : vCnt l j = (l.map fun p => (if p.1 = (j : Int) then 1 else 0) + (if p.2.1 = (j : Int) then 1 else 0)).sum := by
  unfold vCnt
  induction l with
  | nil => rfl
  | cons p l ih =>
    rw [List.map_cons, List.sum_cons, ← ih, List.countP_cons, List.countP_cons]
    by_cases h1 : p.1 = (j : Int) <;> by_cases h2 : p.2.1 = (j : Int) <;> simp [h1, h2] <;> omega
theorem pairs_iff {α : Type} (r : α → α → Bool) (d : α) (l : List α) : (List.range l.length).any (earlier r d l) = true ↔ ∃ (i j : Nat) (x y : α), j < i ∧ l[i]? = some x ∧ l[j]? = some y ∧ r x y = true := by
  rw [List.any_eq_true]
  constructor
  · rintro ⟨i, hi, h⟩
    rw [List.mem_range] at hi
    unfold earlier at h
    rw [List.any_eq_true] at h
    obtain ⟨y, hy, hr⟩ := h
    obtain ⟨j, hj⟩ := List.getElem?_of_mem hy
    rw [List.getElem?_take] at hj
    split at hj
    · rename_i hji
      refine ⟨i, j, l[i], y, hji, List.getElem?_eq_getElem hi, hj, ?_⟩
      rwa [getD_some (List.getElem?_eq_getElem hi)] at hr
    · cases hj
  · rintro ⟨i, j, x, y, hji, hx, hy, hr⟩
    have hi : i < l.length := (List.getElem?_eq_some_iff.1 hx).1
    refine ⟨i, List.mem_range.2 hi, ?_⟩
    unfold earlier
    rw [getD_some hx, List.any_eq_true]
    exact ⟨y, List.mem_of_getElem? (i := j) (by rw [List.getElem?_take, if_pos hji]; exact hy), hr⟩
theorem pairs_sym {α : Type} {r : α → α → Bool} (hs : ∀ x y, r x y = r y x) (d : α) (l : List α) : (List.range l.length).any (earlier r d l) = true ↔ ∃ (i j : Nat) (x y : α), i ≠ j ∧ l[i]? = some x ∧ l[j]? = some y ∧ r x y = true := by
  rw [pairs_iff]
  constructor
  · rintro ⟨i, j, x, y, h, r⟩; exact ⟨i, j, x, y, by omega, r⟩
  · rintro ⟨i, j, x, y, h, h1, h2, h3⟩
    rcases Nat.lt_or_gt_of_ne h with h | h
    · exact ⟨j, i, y, x, h, h2, h1, by rw [hs]; exact h3⟩
    · exact ⟨i, j, x, y, h, h1, h2, h3⟩
theorem pairs_eq {α β : Type} {r : α → α → Bool} {r' : β → β → Bool} (hs : ∀ x y, r x y = r y x) (hs' : ∀ x y, r' x y = r' y x) (d : α) (d' : β) {n k : Nat} {l : List α} {l' : List β} (hk : k < n) (hl : l.length = n) (hl' : l'.length = n) (Q : β → α → Prop) (h : ∀ i, i < n → ∃ x y, l'[i]? = some x ∧ l[rot n k i]? = some y ∧ Q x y) (hQ : ∀ x y u v, Q x y → Q u v → y ∈ l → v ∈ l → r' x u = r y v) :
    (List.range l'.length).any (earlier r' d' l') = (List.range l.length).any (earlier r d l) := by
  rw [Bool.eq_iff_iff, pairs_sym hs', pairs_sym hs]
  constructor
  · rintro ⟨i, j, x, u, hij, hx, hu, hr⟩
    have hi : i < n := by rw [← hl']; exact (List.getElem?_eq_some_iff.1 hx).1
    have hj : j < n := by rw [← hl']; exact (List.getElem?_eq_some_iff.1 hu).1
    obtain ⟨x', y, h1, h2, q1⟩ := h i hi
    obtain ⟨u', v, h3, h4, q2⟩ := h j hj
    rw [hx] at h1
    rw [hu] at h3
    cases h1
    cases h3
    refine ⟨rot n k i, rot n k j, y, v, ?_, h2, h4, by rw [← hQ _ _ _ _ q1 q2 (List.mem_of_getElem? h2) (List.mem_of_getElem? h4)]; exact hr⟩
    unfold rot
    split <;> split <;> omega
  · rintro ⟨i, j, y, v, hij, hy, hv, hr⟩
    have hi : i < n := by rw [← hl]; exact (List.getElem?_eq_some_iff.1 hy).1
    have hj : j < n := by rw [← hl]; exact (List.getElem?_eq_some_iff.1 hv).1
    have back : ∀ m, m < n → ∃ m', m' < n ∧ rot n k m' = m := fun m hm => by
      by_cases hkm : k ≤ m
      · exact ⟨m - k, by omega, by unfold rot; rw [if_pos (by omega)]; omega⟩
      · exact ⟨m + n - k, by omega, by unfold rot; rw [if_neg (by omega)]; omega⟩
    obtain ⟨i', hi', ei⟩ := back i hi
    obtain ⟨j', hj', ej⟩ := back j hj
    obtain ⟨x, y', h1, h2, q1⟩ := h i' hi'
    obtain ⟨u, v', h3, h4, q2⟩ := h j' hj'
    rw [ei, hy] at h2
    rw [ej, hv] at h4
    cases h2
    cases h4
    exact ⟨i', j', x, u, fun e => hij (by rw [← ei, ← ej, e]), h1, h3, by rw [hQ _ _ _ _ q1 q2 (List.mem_of_getElem? hy) (List.mem_of_getElem? hv)]; exact hr⟩
/-- The new name of a vertex. -/
def tau (n k : Nat) (x : Int) : Int := if (k : Int) ≤ x then x - k else x + n - k
theorem tau_in {n k : Nat} {x : Int} (hk : k < n) (hx : 0 ≤ x ∧ x < n) : 0 ≤ tau n k x ∧ tau n k x < n := by unfold tau; split <;> omega
theorem tau_inj {n k : Nat} {x y : Int} (hk : k < n) (hx : 0 ≤ x ∧ x < n) (hy : 0 ≤ y ∧ y < n) : tau n k x = tau n k y ↔ x = y := by unfold tau; split <;> split <;> omega
theorem rot_tau {n k : Nat} {x : Int} (hk : k < n) (hx : 0 ≤ x ∧ x < n) : rot n k (tau n k x).toNat = x.toNat := by
  unfold tau rot
  split <;> split <;> omega
section
variable {V VV S SS : List I3} {n m k b : Nat}
/-- How the turned drawing comes of the other. -/
structure Turned (V VV S SS : List I3) (n m k b : Nat) : Prop where
  hk : k < n
  hb : b < m
  lV : V.length = n
  lVV : VV.length = n
  lS : S.length = m
  lSS : SS.length = m
  hV : ∀ i, i < n → VV[i]? = V[rot n k i]?
  hE : ∀ p ∈ S, (0 ≤ p.1 ∧ p.1 < n) ∧ (0 ≤ p.2.1 ∧ p.2.1 < n)
  hS : ∀ i, i < m → ∃ p' p, SS[i]? = some p' ∧ S[rot m b i]? = some p ∧ p'.2.2 = p.2.2 ∧ ((p'.1 = tau n k p.1 ∧ p'.2.1 = tau n k p.2.1) ∨ (p'.1 = tau n k p.2.1 ∧ p'.2.1 = tau n k p.1))
theorem Turned.vert (T : Turned V VV S SS n m k b) (f : I3 → Bool) : VV.all f = V.all f :=
  rot_all f f T.hk T.lV T.lVV fun i hi => by
    obtain ⟨x, hx⟩ : ∃ x, VV[i]? = some x := ⟨_, List.getElem?_eq_getElem (by rw [T.lVV]; exact hi)⟩
    exact ⟨x, x, hx, by rw [← T.hV i hi]; exact hx, rfl⟩
theorem Turned.at (T : Turned V VV S SS n m k b) {x : Int} (hx : 0 ≤ x ∧ x < n) : VV.getD (tau n k x).toNat i30 = V.getD x.toNat i30 := by
  have h := tau_in T.hk hx
  rw [List.getD_eq_getElem?_getD, List.getD_eq_getElem?_getD, T.hV _ (by omega), rot_tau T.hk hx]
theorem Turned.sim (T : Turned V VV S SS n m k b) {p p' : I3} (hp : p ∈ S) (h : (p'.1 = tau n k p.1 ∧ p'.2.1 = tau n k p.2.1) ∨ (p'.1 = tau n k p.2.1 ∧ p'.2.1 = tau n k p.1)) : Sim (tau n k) (sdOf VV p') (sdOf V p) := by
  obtain ⟨h1, h2⟩ := T.hE p hp
  unfold Sim sdOf
  rcases h with ⟨e1, e2⟩ | ⟨e1, e2⟩
  · exact .inl ⟨e1, e2, by simp only [e1]; exact T.at h1, by simp only [e2]; exact T.at h2⟩
  · exact .inr ⟨e1, e2, by simp only [e1]; exact T.at h2, by simp only [e2]; exact T.at h1⟩
theorem Turned.form (T : Turned V VV S SS n m k b) (H : List Hp) : vForm VV SS H = vForm V S H := by
  have e : SS.all (vEnd VV.length) = S.all (vEnd V.length) := by
    rw [T.lV, T.lVV]
    refine rot_all _ _ T.hb T.lS T.lSS fun i hi => ?_
    obtain ⟨p', p, h1, h2, h3, h4⟩ := T.hS i hi
    refine ⟨p', p, h1, h2, ?_⟩
    obtain ⟨r1, r2⟩ := T.hE p (List.mem_of_getElem? h2)
    have i1 := tau_in T.hk r1
    have i2 := tau_in T.hk r2
    have ij := tau_inj T.hk r1 r2
    have v1 : ∀ x : Int, 0 ≤ x ∧ x < n → vin 0 ((n : Int) - 1) x = true := fun x hx => (vin_iff _ _ _).2 ⟨hx.1, by omega⟩
    unfold vEnd
    rw [h3, v1 _ r1, v1 _ r2]
    rcases h4 with ⟨e1, e2⟩ | ⟨e1, e2⟩ <;> rw [e1, e2, v1 _ i1, v1 _ i2]
    · rw [decide_eq_decide.2 ij]
    · rw [decide_eq_decide.2 (Iff.trans ⟨Eq.symm, Eq.symm⟩ ij)]
  unfold vForm vNum vCntd
  rw [e, T.vert vMark, T.lV, T.lVV, T.lS, T.lSS]
theorem Turned.twin (T : Turned V VV S SS n m k b) : vTwin VV = vTwin V := by
  have hs : ∀ x y : I3, vSame x y = vSame y x := fun x y => by unfold vSame; rw [Bool.eq_iff_iff]; simp only [Bool.and_eq_true, decide_eq_true_eq]; grind
  unfold vTwin
  refine pairs_eq hs hs i30 i30 T.hk T.lV T.lVV (fun x y => x = y) (fun i hi => ?_) (fun x y u v h1 h2 _ _ => by rw [h1, h2])
  obtain ⟨x, hx⟩ : ∃ x, VV[i]? = some x := ⟨_, List.getElem?_eq_getElem (by rw [T.lVV]; exact hi)⟩
  exact ⟨x, x, hx, by rw [← T.hV i hi]; exact hx, rfl⟩
theorem Turned.cnt (T : Turned V VV S SS n m k b) {j : Nat} (hj : j < n) : vCnt SS (tau n k j).toNat = vCnt S j := by
  have ht := tau_in (x := (j : Int)) T.hk (by omega)
  rw [cnt_sum, cnt_sum]
  refine rot_sum _ _ T.hb T.lS T.lSS fun i hi => ?_
  obtain ⟨p', p, h1, h2, h3, h4⟩ := T.hS i hi
  refine ⟨p', p, h1, h2, ?_⟩
  obtain ⟨r1, r2⟩ := T.hE p (List.mem_of_getElem? h2)
  have i1 := tau_inj (y := (j : Int)) T.hk r1 (by omega)
  have i2 := tau_inj (y := (j : Int)) T.hk r2 (by omega)
  have e : (((tau n k j).toNat : Nat) : Int) = tau n k j := by omega
  rw [e]
  rcases h4 with ⟨e1, e2⟩ | ⟨e1, e2⟩ <;> rw [e1, e2] <;> simp only [i1, i2]
  omega
theorem Turned.loop (T : Turned V VV S SS n m k b) : vLoop VV SS = vLoop V S := by
  unfold vLoop
  rw [T.lV, T.lVV, Bool.eq_iff_iff, List.all_eq_true, List.all_eq_true]
  constructor
  · intro h j hj
    rw [List.mem_range] at hj
    have ht := tau_in (x := (j : Int)) T.hk (by omega)
    have := h (tau n k j).toNat (List.mem_range.2 (by omega))
    rwa [T.cnt hj] at this
  · intro h j hj
    rw [List.mem_range] at hj
    obtain ⟨i, hi, e⟩ : ∃ i : Nat, i < n ∧ (tau n k i).toNat = j := by
      refine ⟨rot n k j, rot_lt T.hk hj, ?_⟩
      unfold rot tau
      split <;> split <;> omega
    have := h i (List.mem_range.2 hi)
    rw [← T.cnt hi, e] at this
    exact this
theorem Turned.crs (T : Turned V VV S SS n m k b) : vCrs VV SS = vCrs V S := by
  unfold vCrs
  have l1 : (S.map (sdOf V)).length = S.length := List.length_map ..
  have l2 : (SS.map (sdOf VV)).length = SS.length := List.length_map ..
  rw [← l1, ← l2]
  refine pairs_eq xng_sym xng_sym sd0 sd0 (n := m) (k := b) T.hb (by rw [l1, T.lS]) (by rw [l2, T.lSS]) (fun x y => Sim (tau n k) x y) (fun i hi => ?_) (fun x y u v h1 h2 hy hv => ?_)
  · obtain ⟨p', p, h1, h2, h3, h4⟩ := T.hS i hi
    exact ⟨sdOf VV p', sdOf V p, by rw [List.getElem?_map, h1]; rfl, by rw [List.getElem?_map, h2]; rfl, T.sim (List.mem_of_getElem? h2) h4⟩
  · obtain ⟨p, hp, rfl⟩ := List.mem_map.1 hy
    obtain ⟨q, hq, rfl⟩ := List.mem_map.1 hv
    refine sim_xng h1 h2 fun a c ha hc => ?_
    obtain ⟨r1, r2⟩ := T.hE p hp
    obtain ⟨r3, r4⟩ := T.hE q hq
    have ha' : 0 ≤ a ∧ a < n := by rcases ha with rfl | rfl <;> assumption
    have hc' : 0 ≤ c ∧ c < n := by rcases hc with rfl | rfl <;> assumption
    exact tau_inj T.hk ha' hc'
theorem Turned.free (T : Turned V VV S SS n m k b) (H : List Hp) : vFree VV SS H = vFree V S H := by
  unfold vFree
  congr 1
  refine rot_all _ _ T.hb T.lS T.lSS fun i hi => ?_
  obtain ⟨p', p, h1, h2, h3, h4⟩ := T.hS i hi
  refine ⟨p', p, h1, h2, ?_⟩
  have hs := T.sim (List.mem_of_getElem? h2) h4
  congr 1
  congr 1
  funext q
  exact sim_on hs q
theorem Turned.chk (T : Turned V VV S SS n m k b) (H : List Hp) : chk VV SS H = chk V S H := by
  unfold Proofs.YtoegjibeomhekaaGreat.chk
  rw [T.form, T.twin, T.loop, T.crs, T.free]
  unfold vBnd
  rw [T.vert]
end
end Go.Proofs.YtoegjibeomhekaaGreat

/- ValidTurned: its walk, up to the first loop. -/
namespace Go.Proofs.YtoegjibeomhekaaGreat
set_option linter.unusedSimpArgs false
set_option linter.unusedVariables false
open Go.RowKit
set_option maxRecDepth 100000
section
variable {va : Option Addr} {vc : Nat} {sa : Option Addr} {sc : Nat} {ha : Option Addr} {hc : Nat} {V S : List I3} {H : List Hp}
set_option maxHeartbeats 2000000 in
theorem few_any (w : World) : Calls Tryz.prog 7 #[.agg #[.slice va V.length vc, .slice sa S.length sc, .slice ha H.length hc]] w fun e w' => e = .returned (.bool (decide (V.length ≤ 18) && (decide (S.length ≤ 18) && decide (H.length ≤ 6)))) ∧ Below w.heap.size w w' := by
  have B1 := Blk.new w [.slice va V.length vc, .slice sa S.length sc, .slice ha H.length hc] 26 rfl
  have hb := bnew w (.cells #[.slice va V.length vc, .slice sa S.length sc, .slice ha H.length hc] 26)
  have c0 := B1.cell (i := 0) rfl
  have c1 := B1.cell (i := 1) rfl
  have c2 := B1.cell (i := 2) rfl
  have HE : Hid ((decide (V.length ≤ 18) && (decide (S.length ≤ 18) && decide (H.length ≤ 6))) = (decide (V.length ≤ 18) && (decide (S.length ≤ 18) && decide (H.length ≤ 6)))) := rfl
  generalize hr : (decide (V.length ≤ 18) && (decide (S.length ≤ 18) && decide (H.length ≤ 6))) = r at *
  have HR := Lib.hid hr
  clear hr HE
  by_cases h1 : V.length ≤ 18
  · have g1 : (V.length : Int) ≤ 18 := by omega
    by_cases h2 : S.length ≤ 18
    · have g2 : (S.length : Int) ≤ 18 := by omega
      by_cases h3 : H.length ≤ 6
      · have g3 : (H.length : Int) ≤ 6 := by omega
        have E : Hid (r = true) := by show _ = _; rw [← HR.out]; simp [h1, h2, h3]
        clear h1 h2 h3
        go_enter Tryz.func7, Tryz.ntmps7
        go_wp2
        go_ret
        exact ⟨by rw [E.out]; first | rfl | (simp; omega), hb⟩
      · have g3 : ¬ (H.length : Int) ≤ 6 := by omega
        have E : Hid (r = false) := by show _ = _; rw [← HR.out]; simp [h3]
        clear h1 h2 h3
        go_enter Tryz.func7, Tryz.ntmps7
        go_wp2
        go_ret
        exact ⟨by rw [E.out]; first | rfl | (simp; omega), hb⟩
    · have g2 : ¬ (S.length : Int) ≤ 18 := by omega
      have E : Hid (r = false) := by show _ = _; rw [← HR.out]; simp [h2]
      clear h1 h2
      go_enter Tryz.func7, Tryz.ntmps7
      go_wp2
      go_ret
      exact ⟨by rw [E.out]; first | rfl | (simp; omega), hb⟩
  · have g1 : ¬ (V.length : Int) ≤ 18 := by omega
    have E : Hid (r = false) := by show _ = _; rw [← HR.out]; simp [h1]
    clear h1
    go_enter Tryz.func7, Tryz.ntmps7
    go_wp2
    go_ret
    exact ⟨by rw [E.out]; first | rfl | (simp; omega), hb⟩
theorem rot_get {α : Type} {n k : Nat} {l : List α} (hk : k < n) (hl : l.length = n) {i : Nat} (hi : i < n) : (l.drop k ++ l.take k)[i]? = l[rot n k i]? := by
  unfold rot
  split
  · rw [List.getElem?_append_left (by rw [List.length_drop]; omega), List.getElem?_drop, Nat.add_comm]
  · rw [List.getElem?_append_right (by rw [List.length_drop]; omega), List.length_drop, List.getElem?_take, if_pos (by omega)]
    congr 1; omega
theorem rot_mod {n k i : Nat} (hk : k < n) (hi : i < n) : ((i : Int) + (k : Int)) % (n : Int) = ((rot n k i : Nat) : Int) := by
  have : (i + k) % n = rot n k i := by
    unfold rot
    split
    · exact Nat.mod_eq_of_lt (by omega)
    · rw [Nat.mod_eq_sub_mod (by omega), Nat.mod_eq_of_lt (by omega)]
  rw [← this]; rfl
/-- How far the turned segments go. -/
def SegsOk (S L : List I3) (n m k b i : Nat) : Prop := L.length = i ∧ ∀ t, t < i → ∃ p' p, L[t]? = some p' ∧ S[rot m b t]? = some p ∧ ((0 ≤ p.1 ∧ p.1 < n) ∧ (0 ≤ p.2.1 ∧ p.2.1 < n)) ∧ p'.2.2 = p.2.2 ∧ ((p'.1 = tau n k p.1 ∧ p'.2.1 = tau n k p.2.1) ∨ (p'.1 = tau n k p.2.1 ∧ p'.2.1 = tau n k p.1))
theorem SegsOk.snoc {S L : List I3} {n m k b i : Nat} (h : SegsOk S L n m k b i) {p p' : I3} (hp : S[rot m b i]? = some p) (hr : (0 ≤ p.1 ∧ p.1 < n) ∧ (0 ≤ p.2.1 ∧ p.2.1 < n)) (hm : p'.2.2 = p.2.2) (hh : (p'.1 = tau n k p.1 ∧ p'.2.1 = tau n k p.2.1) ∨ (p'.1 = tau n k p.2.1 ∧ p'.2.1 = tau n k p.1)) : SegsOk S (L ++ [p']) n m k b (i + 1) := by
  refine ⟨by rw [List.length_append, h.1]; rfl, fun t ht => ?_⟩
  by_cases e : t < i
  · obtain ⟨q', q, h1, h2⟩ := h.2 t e
    exact ⟨q', q, by rw [List.getElem?_append_left (by rw [h.1]; exact e)]; exact h1, h2⟩
  · obtain rfl : t = i := by omega
    refine ⟨p', p, ?_, hp, hr, hm, hh⟩
    rw [List.getElem?_append_right (by rw [h.1]; exact Nat.le_refl _), h.1, Nat.sub_self]; rfl
theorem rot_mod2 {m i : Nat} {B : Int} {b : Nat} (hb : B % (m : Int) = (b : Int)) (hbm : b < m) (hi : i < m) : ((i : Int) + B) % (m : Int) = ((rot m b i : Nat) : Int) := by
  rw [← rot_mod hbm hi, ← hb, Int.add_emod_emod]
theorem tau_mod {n k : Nat} {x : Int} (hk : k < n) (hx : 0 ≤ x ∧ x < n) : (x + n - k) % (n : Int) = tau n k x := by
  unfold tau
  split
  · rw [show x + (n : Int) - k = (x - k) + n by omega, Int.add_emod_right]
    exact Int.emod_eq_of_lt (by omega) (by omega)
  · exact Int.emod_eq_of_lt (by omega) (by omega)
theorem turned_of {V S L : List I3} {n m k b : Nat} (hk : k < n) (hb : b < m) (lV : V.length = n) (lS : S.length = m) (h : SegsOk S L n m k b m) : Turned V (V.drop k ++ V.take k) S L n m k b where
  hk := hk
  hb := hb
  lV := lV
  lVV := by rw [List.length_append, List.length_drop, List.length_take]; omega
  lS := lS
  lSS := h.1
  hV := fun i hi => rot_get hk lV hi
  hE := fun p hp => by
    obtain ⟨j, hj⟩ := List.getElem?_of_mem hp
    have hjm : j < m := by rw [← lS]; exact (List.getElem?_eq_some_iff.1 hj).1
    obtain ⟨t, ht, e⟩ : ∃ t, t < m ∧ rot m b t = j := by
      by_cases hbj : b ≤ j
      · exact ⟨j - b, by omega, by unfold rot; rw [if_pos (by omega)]; omega⟩
      · exact ⟨j + m - b, by omega, by unfold rot; rw [if_neg (by omega)]; omega⟩
    obtain ⟨p', q, h1, h2, h3, _⟩ := h.2 t ht
    rw [e, hj] at h2
    cases h2
    exact h3
  hS := fun i hi => by
    obtain ⟨p', p, h1, h2, _, h4, h5⟩ := h.2 i hi
    exact ⟨p', p, h1, h2, h4, h5⟩
theorem own_row' {w : World} {base : Nat} {e : TypeId} {size : Nat} {v : Value} {n : Nat} {xs : List Value} (h : w.ownsRow base e size v n xs) {g : Nat} (hne : v.ownBlock ≠ some g) (vs : Array Value) : (w.setRow g vs).ownsRow base e size v n xs := by
  obtain ⟨h1, h2⟩ := h
  refine ⟨h1, h2.imp id fun ⟨g', cap, cur, hv, hg, hh, r⟩ => ⟨g', cap, cur, hv, hg, ?_, r⟩⟩
  have : g' ≠ g := by
    rintro rfl
    rw [hv] at hne
    exact hne rfl
  unfold World.setRow
  rw [Array.getElem?_modify, if_neg (Ne.symm this)]
  exact hh
theorem own_cell' {w : World} {base : Nat} {e : TypeId} {size : Nat} {v : Value} {n : Nat} {xs : List Value} (h : w.ownsRow base e size v n xs) {g : Nat} (hne : v.ownBlock ≠ some g) (i : Nat) (u : Value) : (w.setCell ⟨g, i, none⟩ u).ownsRow base e size v n xs := by
  obtain ⟨h1, h2⟩ := h
  refine ⟨h1, h2.imp id fun ⟨g', cap, cur, hv, hg, hh, r⟩ => ⟨g', cap, cur, hv, hg, ?_, r⟩⟩
  have : g' ≠ g := by
    rintro rfl
    rw [hv] at hne
    exact hne rfl
  rw [Below.heap_setCell _ _ _ _ this]; exact hh
theorem own_nb {w : World} {B n size size' m c' k : Nat} {e t : TypeId} {v : Value} {xs ys : List Value} (h : w.ownsRow B e size v n xs) (h' : w.ownsRow B t size' (.slice (some ⟨k, 0, none⟩) m c') m ys) (hne : e ≠ t) : v.ownBlock ≠ some k := by
  rcases h.2 with ⟨rfl, _⟩ | ⟨g', cap, cur, rfl, _⟩
  · simp [Value.ownBlock]
  · have := own_ne_own h h' hne
    simp [Value.ownBlock]; exact this
theorem cT_one (p : I3) : ∀ v ∈ cT p, v.oneCell' = true := by
  intro v hv
  simp only [cT, List.mem_cons, List.not_mem_nil, or_false] at hv
  rcases hv with rfl | rfl | rfl <;> rfl
section
variable {ops : Array Oper} {rest : List Oper} {o : Oper} {a : Act} {w : World} {Q : Exit → Act → World → Prop}
theorem apSgL {s x : Operand} {B n g : Nat} {v : Value} {xs : List Value} {p q r : Int} (hgd : o.guard = none)
    (ho : o.op = .call { callee := .builtin .append, args := #[s, x], argTypes := #[23, 23] }) (hs : a.eval s = v) (hx : a.eval x = .slice (some ⟨g, 0, none⟩) 1 1)
    (hown : w.ownsRow B 33 3 v n xs) (hg : Blk w g [.int .i64 p, .int .i64 q, .int .i64 r] 33) (hn : n ≤ 2000000) (hB : B ≤ w.heap.size)
    (hr : ∀ v' w', w'.ownsRow B 33 3 v' (n + 1) (xs ++ [.int .i64 p, .int .i64 q, .int .i64 r]) → w.grownBy w' v.ownBlock → wpList Tryz.prog ops Q rest (a.put o.dst v') w') : wpList Tryz.prog ops Q (o :: rest) a w :=
  wpList_plain hgd fun K hK => wp_ap1Sg ho hs hx hown hg hn hB fun v' w' h1 h2 => hK _ _ (hr v' w' h1 h2)
end
set_option maxHeartbeats 16000000 in
theorem turned_walk (B K : Int) (hB : 0 ≤ B ∧ B ≤ 255) (hK : 0 ≤ K ∧ K ≤ 4294967295) (w : World) (hR : RdV w va vc sa sc ha hc V S H) (hok : ∀ p ∈ H, HpOk p) (hVb : ∀ p ∈ V, i64b p.1 ∧ i64b p.2.1) :
    Calls Tryz.prog 3 #[.agg #[.slice va V.length vc, .slice sa S.length sc, .slice ha H.length hc], .int .u8 B, .int .u32 K] w fun e w' => e = .returned (.bool true) ∧ Below w.heap.size w w' := by
  have D := Blk.new w [.slice va V.length vc, .slice sa S.length sc, .slice ha H.length hc] 26 rfl
  have hb := bnew w (.cells #[.slice va V.length vc, .slice sa S.length sc, .slice ha H.length hc] 26)
  have hDl : w.heap.size < (w.alloc (.cells #[.slice va V.length vc, .slice sa S.length sc, .slice ha H.length hc] 26)).heap.size := by simp
  have HRV := Lib.hid (hR.below hb)
  have HOK := Lib.hid hok
  have HKn := Lib.hid (known9_any (w.alloc (.cells #[.slice va V.length vc, .slice sa S.length sc, .slice ha H.length hc] 26)))
  clear hR hok
  go_enter Tryz.func3, Tryz.ntmps3
  go_wp2_with fail
  generalize w.alloc (.cells #[.slice va V.length vc, .slice sa S.length sc, .slice ha H.length hc] 26) = W at *
  refine HKn.out.mono ?_
  rintro e w1 ⟨rfl, k1⟩
  replace D := D.call k1
  replace hb := bthen hb k1
  replace HRV := Lib.hid (HRV.out.below k1)
  have HDl : Hid (w.heap.size < w1.heap.size) := D.lt
  clear hDl
  have c0 := D.cell (i := 0) rfl
  have c1 := D.cell (i := 1) rfl
  have c2 := D.cell (i := 2) rfl
  have HF := Lib.hid (few_any (va := va) (vc := vc) (sa := sa) (sc := sc) (ha := ha) (hc := hc) (V := V) (S := S) (H := H) w1)
  clear k1 HKn
  go_wp2_with fail
  refine HF.out.mono ?_
  rintro e w2 ⟨rfl, k1⟩
  replace D := D.call k1
  replace hb := bthen hb k1
  replace HRV := Lib.hid (HRV.out.below k1)
  replace HDl : Hid (w.heap.size < w2.heap.size) := D.lt
  clear k1 HF
  replace c0 := D.cell (i := 0) rfl
  replace c1 := D.cell (i := 1) rfl
  replace c2 := D.cell (i := 2) rfl
  cases hfew : (decide (V.length ≤ 18) && (decide (S.length ≤ 18) && decide (H.length ≤ 6)))
  · clear hfew
    go_wp2
    go_ret
    exact ⟨rfl, hb⟩
  have hl : V.length ≤ 18 ∧ S.length ≤ 18 ∧ H.length ≤ 6 := by
    simpa using hfew
  clear hfew
  by_cases hv0 : V.length = 0
  · have g : ((V.length : Int) == 0) = true := by simp [hv0]
    have g' : (V.length : Int) = 0 := by omega
    go_wp2
    go_ret
    exact ⟨rfl, hb⟩
  have gv : ((V.length : Int) == 0) = false := by rw [beq_eq_false_iff_ne]; omega
  have gv' : ¬ (V.length : Int) = 0 := by omega
  by_cases hs0 : S.length = 0
  · have g : ((S.length : Int) == 0) = true := by simp [hs0]
    have g' : (S.length : Int) = 0 := by omega
    go_wp2
    go_ret
    exact ⟨rfl, hb⟩
  have gs : ((S.length : Int) == 0) = false := by rw [beq_eq_false_iff_ne]; omega
  have gs' : ¬ (S.length : Int) = 0 := by omega
  go_wp2_with fail
  have T := Blk.new w2 [.slice none 0 0, .slice none 0 0, .slice ha H.length hc] 26 rfl
  replace D := D.old (.cells #[.slice none 0 0, .slice none 0 0, .slice ha H.length hc] 26)
  have hd8 := hb.size
  have hdl : w.heap.size < w2.heap.size := by have := HDl.out; omega
  have hb2 := bnew w2 (.cells #[.slice none 0 0, .slice none 0 0, .slice ha H.length hc] 26)
  have hz8 : (w2.alloc (.cells #[.slice none 0 0, .slice none 0 0, .slice ha H.length hc] 26)).heap.size = w2.heap.size + 1 := by simp
  generalize w2.alloc (.cells #[.slice none 0 0, .slice none 0 0, .slice ha H.length hc] 26) = W2 at *
  clear c0 c1 c2
  obtain ⟨k, hk, hkn⟩ : ∃ k : Nat, B % (V.length : Int) = (k : Int) ∧ k < V.length := by
    have h1 := Int.emod_nonneg B (b := (V.length : Int)) (by omega)
    have h2 := Int.emod_lt_of_pos B (b := (V.length : Int)) (by omega)
    exact ⟨(B % (V.length : Int)).toNat, by omega, by omega⟩
  rw [hk]
  have HK := Lib.hid hk
  clear hk
  go_loopw [10] (fun j wr => ∃ (i : Nat) (vv : Value), i ≤ V.length ∧ j = .int .i64 (i : Int) ∧ Blk wr w.heap.size [.slice va V.length vc, .slice sa S.length sc, .slice ha H.length hc] 26 ∧ Blk wr w2.heap.size [vv, .slice none 0 0, .slice ha H.length hc] 26 ∧ wr.ownsRow (w2.heap.size + 1) 31 3 vv i (cTs ((V.drop k ++ V.take k).take i)) ∧ Below w2.heap.size w2 wr ∧ w2.heap.size + 1 ≤ wr.heap.size) (fun j _ => V.length - (intOf j).toNat)
  case atStart => exact ⟨0, .slice none 0 0, Nat.zero_le _, rfl, D, T, World.ownsRow_nil _ _ _ _, hb2, by omega⟩
  case round =>
    obtain ⟨i, vv, hi, rfl, D, T, OV, hr, hrs⟩ := hrel
    by_cases hlt : i < V.length
    · have hrl := rot_lt hkn hlt
      have etm : (IntKind.i64.wrap ((i : Int) + (k : Int))).tmod (V.length : Int) = ((rot V.length k i : Nat) : Int) := by
        rw [show IntKind.i64.wrap ((i : Int) + (k : Int)) = (i : Int) + (k : Int) by rw [IntKind.wrap_i64]; omega, Int.tmod_eq_emod_of_nonneg (by omega)]
        exact rot_mod hkn hlt
      obtain ⟨⟨vx, vy, vm⟩, hv⟩ : ∃ p, V[rot V.length k i]? = some p := ⟨_, List.getElem?_eq_getElem hrl⟩
      have HT : Hid ((V.drop k ++ V.take k).take (i + 1) = (V.drop k ++ V.take k).take i ++ [(vx, vy, vm)]) := by
        show _ = _
        rw [List.take_add_one, rot_get hkn rfl hlt, hv]; rfl
      obtain ⟨gv, ov, rfl, hcap, p1, p2, p3⟩ := (HRV.out.below hr).v.at hv
      have rV := cT_rng p1 p2 p3
      have gl : gv < w2.heap.size := by
        obtain ⟨_, _, e, _, q1, _⟩ := HRV.out.v.at hv
        injection e with e
        injection e with e1 e2
        rw [e1]; exact World.block_lt_of_cell? _ _ q1
      generalize rot V.length k i = r at *
      have hown := OV.lt
      have glr : gv < wr.heap.size := by omega
      have HG : Hid (∀ k, vv.ownBlock = some k → k ∈ w2.heap.size :: vv.ownBlock.toList) := by
        apply Lib.hid
        intro k hk
        simp [hk]
      have nD : Hid (w.heap.size ∉ w2.heap.size :: vv.ownBlock.toList) := by
        show _ ∉ _
        intro h
        rcases List.mem_cons.1 h with h | h
        · omega
        · have := (hown _ (by simpa using h)).1; omega
      have nV : Hid (gv ∉ w2.heap.size :: vv.ownBlock.toList) := by
        show _ ∉ _
        intro h
        rcases List.mem_cons.1 h with h | h
        · omega
        · have := (hown _ (by simpa using h)).1; omega
      have nT : Hid (vv.ownBlock ≠ some w2.heap.size) := by
        show _ ≠ _
        intro h
        have := (hown _ h).1; omega
      have nD2 : Hid (vv.ownBlock ≠ some w.heap.size) := by
        show _ ≠ _
        intro h
        have := (hown _ h).1; omega
      have HDD : Hid (w.heap.size ≠ w2.heap.size ∧ w.heap.size < w2.heap.size) := ⟨by omega, hdl⟩
      have HI : Hid (i ≤ 18) := Lib.hid (by omega)
      clear p1 p2 p3 hv hown
      go_wp2_with fail
      refine rg_start (w2.heap.size :: vv.ownBlock.toList) (by kernel_rfl) (fun hS => ?_)
      have Dq := D.drew
      have Tq := T.drew
      replace OV := OV.drew
      replace hr := hr.drew
      replace hrs : w2.heap.size + 1 ≤ wr.drew.heap.size := hrs
      refine rg_take 0 rfl (by kernel_rfl) (by kernel_rfl) (by kernel_rfl) (by rfl) hS (v := ?_) ?_ ?_
      rotate_left
      · (intro w' hS'; go_simp <;> try with_reducible rfl)
      try simp only [Act.put, List.setIfInBounds_toArray, List.set_cons_zero, List.set_cons_succ]
      refine rg_take 2 rfl (by kernel_rfl) (by kernel_rfl) (by kernel_rfl) (by rfl) hS (v := ?_) ?_ ?_
      rotate_left
      · (intro w' hS'; go_simp <;> try with_reducible rfl)
      try simp only [Act.put, List.setIfInBounds_toArray, List.set_cons_zero, List.set_cons_succ]
      refine rg_take 3 rfl (by kernel_rfl) (by kernel_rfl) (by kernel_rfl) (by rfl) hS (v := ?_) ?_ ?_
      rotate_left
      · (intro w' hS'; have hc := vkeep hS' nD.out (D.cell (i := 0) rfl); go_simp <;> try with_reducible rfl)
      try simp only [Act.put, List.setIfInBounds_toArray, List.set_cons_zero, List.set_cons_succ]
      refine rg_take 4 rfl (by kernel_rfl) (by kernel_rfl) (by kernel_rfl) (by rfl) hS (v := ?_) ?_ ?_
      rotate_left
      · (intro w' hS'; go_simp <;> try with_reducible rfl)
      try simp only [Act.put, List.setIfInBounds_toArray, List.set_cons_zero, List.set_cons_succ]
      refine rg_take 5 rfl (by kernel_rfl) (by kernel_rfl) (by kernel_rfl) (by rfl) hS (v := ?_) ?_ ?_
      rotate_left
      · (intro w' hS'; go_simp <;> try with_reducible rfl)
      try simp only [Act.put, List.setIfInBounds_toArray, List.set_cons_zero, List.set_cons_succ]
      refine rg_take 6 rfl (by kernel_rfl) (by kernel_rfl) (by kernel_rfl) (by rfl) hS (v := ?_) ?_ ?_
      rotate_left
      · (intro w' hS'; go_simp <;> try with_reducible rfl)
      try simp only [Act.put, List.setIfInBounds_toArray, List.set_cons_zero, List.set_cons_succ]
      refine rg_take 7 rfl (by kernel_rfl) (by kernel_rfl) (by kernel_rfl) (by rfl) hS (v := ?_) ?_ ?_
      rotate_left
      · (intro w' hS'; go_simp <;> try with_reducible rfl)
      try simp only [Act.put, List.setIfInBounds_toArray, List.set_cons_zero, List.set_cons_succ]
      refine rg_take 8 rfl (by kernel_rfl) (by kernel_rfl) (by kernel_rfl) (by rfl) hS (v := (.int .i64 (r : Int))) (fun w' _ => (by go_simp <;> first | rfl | (rw [etm]))) ?_
      try simp only [Act.put, List.setIfInBounds_toArray, List.set_cons_zero, List.set_cons_succ]
      refine rg_take 9 rfl (by kernel_rfl) (by kernel_rfl) (by kernel_rfl) (by rfl) hS (v := ?_) ?_ ?_
      rotate_left
      · (intro w' hS'; go_simp <;> try with_reducible rfl)
      try simp only [Act.put, List.setIfInBounds_toArray, List.set_cons_zero, List.set_cons_succ]
      refine rg_take 10 rfl (by kernel_rfl) (by kernel_rfl) (by kernel_rfl) (by rfl) hS (v := (.agg (cT (vx, vy, vm)).toArray)) (fun w' hS' => (lop_rng rfl (by rfl) rV glr nV.out hS' (whVt _))) ?_
      try simp only [Act.put, List.setIfInBounds_toArray, List.set_cons_zero, List.set_cons_succ]
      refine rg_two 1 11 rfl rfl (by kernel_rfl) (by rfl) (by rfl) (fun K hK => ?_) (fun K hK => ?_)
      · have c0 := Tq.cell (i := 0) rfl
        go_simp
        refine hK _ _ hS (fun hS => ?_)
        clear hK K c0
        try simp only [Act.put, List.setIfInBounds_toArray, List.set_cons_zero, List.set_cons_succ]
        refine rg_eff 11 rfl (by kernel_rfl) (by rfl) (fun K hK => ?_)
        refine wp_bs1Vt rfl (by rfl) (fun gq wq gle BZ hqq => ?_)
        refine hK _ _ (hS.call hqq) (fun hS => ?_)
        clear hK K
        replace hrs := Nat.le_trans hrs hqq.size
        replace hr := hr.trans (hqq.mono (Nat.le_trans (Nat.le_refl _) (by have := hr.size; omega)))
        replace OV := own_call OV hqq
        replace Tq := Tq.call hqq
        replace Dq := Dq.call hqq
        clear hqq gle
        try simp only [Act.put, List.setIfInBounds_toArray, List.set_cons_zero, List.set_cons_succ]
        refine rg_eff 12 rfl (by kernel_rfl) (by rfl) (fun K hK => ?_)
        refine wp_ap1Vt (v := vv) rfl rfl rfl OV BZ (by have := HI.out; omega) hrs (fun v3 w3 o3 hgw => ?_)
        refine hK _ _ (vgrown hS hgw HG.out) (fun hS => ?_)
        clear hK K
        have h3 : Below w2.heap.size _ _ := (Below.refl _ _).grown hgw (by have := hr.size; omega) (fun k hk => by have := (OV.lt k hk).1; omega)
        have hrs3 := Nat.le_trans hrs h3.size
        replace Tq := Tq.grown hgw nT.out
        replace Dq := Dq.grown hgw nD2.out
        replace hr := hr.trans h3
        clear hgw h3 OV BZ hrs
        obtain ⟨g5, c5, rfl⟩ := own_form o3 (Nat.succ_pos _)
        try simp only [Act.put, List.setIfInBounds_toArray, List.set_cons_zero, List.set_cons_succ]
        refine rg_take 13 rfl (by kernel_rfl) (by kernel_rfl) (by kernel_rfl) (by rfl) hS (v := ?_) ?_ ?_
        rotate_left
        · (intro w' hS'; go_simp <;> try with_reducible rfl)
        try simp only [Act.put, List.setIfInBounds_toArray, List.set_cons_zero, List.set_cons_succ]
        refine rg_eff 14 rfl (by kernel_rfl) (by rfl) (fun K hK => ?_)
        have c0 := Tq.cell (i := 0) rfl
        have f0 := Tq.frozen 0
        go_simp
        refine hK _ _ (hS.cell (.inl (List.mem_cons_self ..)) _ _) (fun hS => ?_)
        clear hK K c0 f0
        try simp only [Act.put, List.setIfInBounds_toArray, List.set_cons_zero, List.set_cons_succ]
        refine rg_done (by kernel_rfl) ?_
        have OW := vown_set o3 Tq (by decide) 0 (.slice (some ⟨g5, 0, none⟩) (i + 1) c5)
        have TT := Tq.set 0 (.slice (some ⟨g5, 0, none⟩) (i + 1) c5)
        have DD := Dq.setOther (g := w2.heap.size) 0 (.slice (some ⟨g5, 0, none⟩) (i + 1) c5) HDD.out.1
        replace hr := hr.setCell (p := ⟨w2.heap.size, 0, none⟩) (Nat.le_refl _) (.slice (some ⟨g5, 0, none⟩) (i + 1) c5)
        go_wp2_with fail
        go_roundw
        case rel => exact ⟨i + 1, _, by omega, by go_num, DD, TT, by rw [HT.out, cTs_app]; exact OW, hr, by simp [World.setCell]; omega⟩
        case measure => simp [intOf]; omega
      · refine wp_bs1Vt rfl (by rfl) (fun gq wq gle BZ hqq => ?_)
        refine hK _ _ (hS.call hqq) (fun hS => ?_)
        clear hK K
        replace hrs := Nat.le_trans hrs hqq.size
        replace hr := hr.trans (hqq.mono (Nat.le_trans (Nat.le_refl _) (by have := hr.size; omega)))
        replace OV := own_call OV hqq
        replace Tq := Tq.call hqq
        replace Dq := Dq.call hqq
        clear hqq gle
        try simp only [Act.put, List.setIfInBounds_toArray, List.set_cons_zero, List.set_cons_succ]
        refine rg_eff 1 rfl (by kernel_rfl) (by rfl) (fun K hK => ?_)
        have c0 := Tq.cell (i := 0) rfl
        go_simp
        refine hK _ _ hS (fun hS => ?_)
        clear hK K c0
        try simp only [Act.put, List.setIfInBounds_toArray, List.set_cons_zero, List.set_cons_succ]
        refine rg_eff 12 rfl (by kernel_rfl) (by rfl) (fun K hK => ?_)
        refine wp_ap1Vt (v := vv) rfl rfl rfl OV BZ (by have := HI.out; omega) hrs (fun v3 w3 o3 hgw => ?_)
        refine hK _ _ (vgrown hS hgw HG.out) (fun hS => ?_)
        clear hK K
        have h3 : Below w2.heap.size _ _ := (Below.refl _ _).grown hgw (by have := hr.size; omega) (fun k hk => by have := (OV.lt k hk).1; omega)
        have hrs3 := Nat.le_trans hrs h3.size
        replace Tq := Tq.grown hgw nT.out
        replace Dq := Dq.grown hgw nD2.out
        replace hr := hr.trans h3
        clear hgw h3 OV BZ hrs
        obtain ⟨g5, c5, rfl⟩ := own_form o3 (Nat.succ_pos _)
        try simp only [Act.put, List.setIfInBounds_toArray, List.set_cons_zero, List.set_cons_succ]
        refine rg_take 13 rfl (by kernel_rfl) (by kernel_rfl) (by kernel_rfl) (by rfl) hS (v := ?_) ?_ ?_
        rotate_left
        · (intro w' hS'; go_simp <;> try with_reducible rfl)
        try simp only [Act.put, List.setIfInBounds_toArray, List.set_cons_zero, List.set_cons_succ]
        refine rg_eff 14 rfl (by kernel_rfl) (by rfl) (fun K hK => ?_)
        have c0 := Tq.cell (i := 0) rfl
        have f0 := Tq.frozen 0
        go_simp
        refine hK _ _ (hS.cell (.inl (List.mem_cons_self ..)) _ _) (fun hS => ?_)
        clear hK K c0 f0
        try simp only [Act.put, List.setIfInBounds_toArray, List.set_cons_zero, List.set_cons_succ]
        refine rg_done (by kernel_rfl) ?_
        have OW := vown_set o3 Tq (by decide) 0 (.slice (some ⟨g5, 0, none⟩) (i + 1) c5)
        have TT := Tq.set 0 (.slice (some ⟨g5, 0, none⟩) (i + 1) c5)
        have DD := Dq.setOther (g := w2.heap.size) 0 (.slice (some ⟨g5, 0, none⟩) (i + 1) c5) HDD.out.1
        replace hr := hr.setCell (p := ⟨w2.heap.size, 0, none⟩) (Nat.le_refl _) (.slice (some ⟨g5, 0, none⟩) (i + 1) c5)
        go_wp2_with fail
        go_roundw
        case rel => exact ⟨i + 1, _, by omega, by go_num, DD, TT, by rw [HT.out, cTs_app]; exact OW, hr, by simp [World.setCell]; omega⟩
        case measure => simp [intOf]; omega
    · obtain rfl : i = V.length := by omega
      have lVV : (V.drop k ++ V.take k).length = V.length := by rw [List.length_append, List.length_drop, List.length_take]; omega
      rw [List.take_of_length_le (by omega)] at OV
      obtain ⟨gw, cw, rfl⟩ := own_form OV (by omega)
      obtain ⟨b, hbm, hbl⟩ : ∃ b : Nat, B % (S.length : Int) = (b : Int) ∧ b < S.length := by
        have h1 := Int.emod_nonneg B (b := (S.length : Int)) (by omega)
        have h2 := Int.emod_lt_of_pos B (b := (S.length : Int)) (by omega)
        exact ⟨(B % (S.length : Int)).toNat, by omega, by omega⟩
      have HBM := Lib.hid hbm
      clear hbm lVV hi hb2 hz8 gv gv' gs
      have c1 := D.cell (i := 1) rfl
      go_wp2_with fail
      generalize wr = W3 at *
      clear c1
      go_loopw [11] (fun j wx => ∃ (i : Nat) (ss : Value) (L : List I3), i ≤ S.length ∧ j = .int .i64 (i : Int) ∧ SegsOk S L V.length S.length k b i ∧ Blk wx w.heap.size [.slice va V.length vc, .slice sa S.length sc, .slice ha H.length hc] 26 ∧ Blk wx w2.heap.size [.slice (some ⟨gw, 0, none⟩) V.length cw, ss, .slice ha H.length hc] 26 ∧ wx.ownsRow (w2.heap.size + 1) 31 3 (.slice (some ⟨gw, 0, none⟩) V.length cw) V.length (cTs (V.drop k ++ V.take k)) ∧ wx.ownsRow (w2.heap.size + 1) 33 3 ss i (cTs L) ∧ Below w2.heap.size w2 wx ∧ w2.heap.size + 1 ≤ wx.heap.size) (fun j _ => S.length - (intOf j).toNat)
      case atStart => exact ⟨0, .slice none 0 0, [], Nat.zero_le _, rfl, ⟨rfl, fun t ht => absurd ht (Nat.not_lt_zero t)⟩, D, T, OV, World.ownsRow_nil _ _ _ _, hr, hrs⟩
      case round =>
        obtain ⟨i, ss, L, hi, rfl, hSL, D, T, OV, OS, hr, hrs⟩ := hrel
        have HSL := Lib.hid hSL
        clear hSL
        have c1 := D.cell (i := 1) rfl
        by_cases hlt : i < S.length
        · have hrl := rot_lt hbl hlt
          have etm : (IntKind.i64.wrap ((i : Int) + IntKind.i64.wrap B)).tmod (S.length : Int) = ((rot S.length b i : Nat) : Int) := by
            rw [show IntKind.i64.wrap B = B by rw [IntKind.wrap_i64]; omega, show IntKind.i64.wrap ((i : Int) + B) = (i : Int) + B by rw [IntKind.wrap_i64]; omega, Int.tmod_eq_emod_of_nonneg (by omega)]
            exact rot_mod2 HBM.out hbl hlt
          obtain ⟨⟨x, y, mk'⟩, hv⟩ : ∃ p, S[rot S.length b i]? = some p := ⟨_, List.getElem?_eq_getElem hrl⟩
          have HX := Lib.hid hv
          obtain ⟨gv, ov, rfl, hcap, p1, p2, p3⟩ := (HRV.out.below hr).s.at hv
          have rV := cT_rng p1 p2 p3
          have glr := World.block_lt_of_cell? _ _ p1
          simp only at glr
          generalize hrr : rot S.length b i = r at *
          have HRR := Lib.hid hrr
          have hhs := hr.size
          clear p1 p2 p3 hv hrr
          go_wp2_with fail
          go_cut [12] (fun pv wx => ∃ q, pv = .pointer (some ⟨q, 0, none⟩) ∧ w2.heap.size + 1 ≤ q ∧ Blk wx q (cT (x, y, mk')) 33 ∧ Blk wx w.heap.size [.slice va V.length vc, .slice (some ⟨gv, ov, none⟩) S.length sc, .slice ha H.length hc] 26 ∧ Blk wx w2.heap.size [.slice (some ⟨gw, 0, none⟩) V.length cw, ss, .slice ha H.length hc] 26 ∧ wx.ownsRow (w2.heap.size + 1) 31 3 (.slice (some ⟨gw, 0, none⟩) V.length cw) V.length (cTs (V.drop k ++ V.take k)) ∧ wx.ownsRow (w2.heap.size + 1) 33 3 ss i (cTs L) ∧ ss.ownBlock ≠ some q ∧ Below w2.heap.size w2 wx ∧ w2.heap.size + 1 ≤ wx.heap.size)
          case first =>
            have hsl := OS.lt
            have HNS : Hid (∀ q, wr.heap.size ≤ q → ss.ownBlock ≠ some q) := by
              apply Lib.hid
              intro q hq h
              have := (hsl _ h).2; omega
            have hvl := OV.lt
            have HNV : Hid (∀ q, wr.heap.size ≤ q → (Value.slice (some ⟨gw, 0, none⟩) V.length cw).ownBlock ≠ some q) := by
              apply Lib.hid
              intro q hq h
              have := (hvl _ h).2; omega
            clear hsl hvl c1
            refine rg_start [] (by kernel_rfl) (fun hS => ?_)
            replace OV := OV.drew
            replace OS := OS.drew
            replace hr := hr.drew
            refine rg_take 0 rfl (by kernel_rfl) (by kernel_rfl) (by kernel_rfl) (by rfl) hS (v := ?_) ?_ ?_
            rotate_left
            · (intro w' hS'; go_simp <;> try with_reducible rfl)
            try simp only [Act.put, List.setIfInBounds_toArray, List.set_cons_zero, List.set_cons_succ]
            refine rg_take 1 rfl (by kernel_rfl) (by kernel_rfl) (by kernel_rfl) (by rfl) hS (v := ?_) ?_ ?_
            rotate_left
            · (intro w' hS'; have hc := (D.keep hS' (by simp <;> omega)).cell (i := 1) (v := (.slice (some ⟨gv, ov, none⟩) S.length sc)) rfl; go_simp <;> try with_reducible rfl)
            try simp only [Act.put, List.setIfInBounds_toArray, List.set_cons_zero, List.set_cons_succ]
            refine rg_take 2 rfl (by kernel_rfl) (by kernel_rfl) (by kernel_rfl) (by rfl) hS (v := ?_) ?_ ?_
            rotate_left
            · (intro w' hS'; go_simp <;> try with_reducible rfl)
            try simp only [Act.put, List.setIfInBounds_toArray, List.set_cons_zero, List.set_cons_succ]
            refine rg_take 3 rfl (by kernel_rfl) (by kernel_rfl) (by kernel_rfl) (by rfl) hS (v := ?_) ?_ ?_
            rotate_left
            · (intro w' hS'; go_simp <;> try with_reducible rfl)
            try simp only [Act.put, List.setIfInBounds_toArray, List.set_cons_zero, List.set_cons_succ]
            refine rg_take 4 rfl (by kernel_rfl) (by kernel_rfl) (by kernel_rfl) (by rfl) hS (v := ?_) ?_ ?_
            rotate_left
            · (intro w' hS'; go_simp <;> try with_reducible rfl)
            try simp only [Act.put, List.setIfInBounds_toArray, List.set_cons_zero, List.set_cons_succ]
            refine rg_take 5 rfl (by kernel_rfl) (by kernel_rfl) (by kernel_rfl) (by rfl) hS (v := ?_) ?_ ?_
            rotate_left
            · (intro w' hS'; go_simp <;> try with_reducible rfl)
            try simp only [Act.put, List.setIfInBounds_toArray, List.set_cons_zero, List.set_cons_succ]
            refine rg_take 6 rfl (by kernel_rfl) (by kernel_rfl) (by kernel_rfl) (by rfl) hS (v := ?_) ?_ ?_
            rotate_left
            · (intro w' hS'; go_simp <;> try with_reducible rfl)
            try simp only [Act.put, List.setIfInBounds_toArray, List.set_cons_zero, List.set_cons_succ]
            refine rg_take 7 rfl (by kernel_rfl) (by kernel_rfl) (by kernel_rfl) (by rfl) hS (v := ?_) ?_ ?_
            rotate_left
            · (intro w' hS'; have hc := (D.keep hS' (by simp <;> omega)).cell (i := 1) (v := (.slice (some ⟨gv, ov, none⟩) S.length sc)) rfl; go_simp <;> try with_reducible rfl)
            try simp only [Act.put, List.setIfInBounds_toArray, List.set_cons_zero, List.set_cons_succ]
            refine rg_take 8 rfl (by kernel_rfl) (by kernel_rfl) (by kernel_rfl) (by rfl) hS (v := ?_) ?_ ?_
            rotate_left
            · (intro w' hS'; go_simp <;> try with_reducible rfl)
            try simp only [Act.put, List.setIfInBounds_toArray, List.set_cons_zero, List.set_cons_succ]
            refine rg_take 9 rfl (by kernel_rfl) (by kernel_rfl) (by kernel_rfl) (by rfl) hS (v := (.int .i64 (r : Int))) (fun w' _ => (by go_simp <;> first | rfl | (rw [etm]))) ?_
            try simp only [Act.put, List.setIfInBounds_toArray, List.set_cons_zero, List.set_cons_succ]
            refine rg_take 10 rfl (by kernel_rfl) (by kernel_rfl) (by kernel_rfl) (by rfl) hS (v := ?_) ?_ ?_
            rotate_left
            · (intro w' hS'; go_simp <;> try with_reducible rfl)
            try simp only [Act.put, List.setIfInBounds_toArray, List.set_cons_zero, List.set_cons_succ]
            refine rg_take 11 rfl (by kernel_rfl) (by kernel_rfl) (by kernel_rfl) (by rfl) hS (v := (.agg (cT (x, y, mk')).toArray)) (fun w' hS' => (lop_rng rfl (by rfl) rV glr (by simp) hS' (whSg _))) ?_
            try simp only [Act.put, List.setIfInBounds_toArray, List.set_cons_zero, List.set_cons_succ]
            refine rg_eff 12 rfl (by kernel_rfl) (by rfl) (fun K hK => ?_)
            refine wp_alB (zs := [.int .i64 0, .int .i64 0, .int .i64 0]) rfl (by kernel_rfl) (fun pn qn an => ?_)
            replace qn := Nat.le_trans hS.1 qn
            refine hK _ _ (hS.alloc _) (fun hS => ?_)
            clear hK K
            replace OV := OV.alloc (.cells #[.int .i64 0, .int .i64 0, .int .i64 0] 33)
            replace OS := OS.alloc (.cells #[.int .i64 0, .int .i64 0, .int .i64 0] 33)
            replace hr := hr.alloc (by have := hr.size; omega) (.cells #[.int .i64 0, .int .i64 0, .int .i64 0] 33)
            try simp only [Act.put, List.setIfInBounds_toArray, List.set_cons_zero, List.set_cons_succ]
            refine rg_eff 13 rfl (by kernel_rfl) (by rfl) (fun K hK => ?_)
            refine wp_st (vs := cT (x, y, mk')) rfl rfl rfl an rfl (whSg _) (cT_one _) ?_
            refine hK _ _ (hS.row (.inr qn) _) (fun hS => ?_)
            clear hK K
            replace an := an.row (cT (x, y, mk'))
            replace OV := own_row' OV (HNV.out _ qn) (cT (x, y, mk')).toArray
            replace OS := own_row' OS (HNS.out _ qn) (cT (x, y, mk')).toArray
            replace hr := below_row hr (g := pn) (by omega) (cT (x, y, mk')).toArray
            try simp only [Act.put, List.setIfInBounds_toArray, List.set_cons_zero, List.set_cons_succ]
            refine rg_done (by kernel_rfl) ?_
            have hz := hS.1
            go_wp2_with fail
            go_meet
            case rel => exact ⟨pn, rfl, Nat.le_trans hrs qn, an, D.keep hS (by simp), T.keep hS (by simp), OV, OS, HNS.out _ qn, hr, Nat.le_trans hrs hz⟩
          case rest =>
            clear D T OV OS hr hrs c1 rV glr hhs etm
            obtain ⟨q, rfl, hq, Q, D, T, OV, OS, hsq, hr, hrs⟩ := hcut
            have hbw : Below w.heap.size w wc := hb.trans (hr.mono hd8)
            have q0 := Q.cell (i := 0) rfl
            have q1 := Q.cell (i := 1) rfl
            simp only at q0 q1
            by_cases a1 : x < 0
            · go_wp2_with fail
              go_ret
              exact ⟨rfl, hbw⟩
            by_cases a2 : y < 0
            · go_wp2_with fail
              go_ret
              exact ⟨rfl, hbw⟩
            by_cases a3 : (V.length : Int) ≤ x
            · go_wp2_with fail
              go_ret
              exact ⟨rfl, hbw⟩
            by_cases a4 : (V.length : Int) ≤ y
            · go_wp2_with fail
              go_ret
              exact ⟨rfl, hbw⟩
            have hxr : 0 ≤ x ∧ x < V.length := by omega
            have hyr : 0 ≤ y ∧ y < V.length := by omega
            have kx1 : IntKind.i64.wrap (x + (V.length : Int)) = x + (V.length : Int) := by rw [IntKind.wrap_i64]; omega
            have ky1 : IntKind.i64.wrap (y + (V.length : Int)) = y + (V.length : Int) := by rw [IntKind.wrap_i64]; omega
            have kx2 : IntKind.i64.wrap (x + (V.length : Int) - (k : Int)) = x + (V.length : Int) - (k : Int) := by rw [IntKind.wrap_i64]; omega
            have ky2 : IntKind.i64.wrap (y + (V.length : Int) - (k : Int)) = y + (V.length : Int) - (k : Int) := by rw [IntKind.wrap_i64]; omega
            have tx := tau_mod hkn hxr
            have ty := tau_mod hkn hyr
            have tx' : (x + (V.length : Int) - (k : Int)).tmod (V.length : Int) = tau V.length k x := by rw [Int.tmod_eq_emod_of_nonneg (by omega)]; exact tx
            have ty' : (y + (V.length : Int) - (k : Int)).tmod (V.length : Int) = tau V.length k y := by rw [Int.tmod_eq_emod_of_nonneg (by omega)]; exact ty
            have f0 := Q.frozen 0
            have f1 := Q.frozen 1
            have gv' : ¬ (V.length : Int) = 0 := by omega
            have hvl := OV.lt
            have hgq : gw ≠ q := fun e => by
              subst e
              exact own_ne_ty OV Q (by decide) rfl
            have nq : (Value.slice (some ⟨gw, 0, none⟩) V.length cw).ownBlock ≠ some q := by simp [Value.ownBlock]; exact hgq
            have Q2 := ((Q.set 0 (.int .i64 (tau V.length k x))).set 1 (.int .i64 (tau V.length k y))).drew
            have D2 := ((D.setOther (g := q) 0 (.int .i64 (tau V.length k x)) (by omega)).setOther (g := q) 1 (.int .i64 (tau V.length k y)) (by omega)).drew
            have T2 := ((T.setOther (g := q) 0 (.int .i64 (tau V.length k x)) (by omega)).setOther (g := q) 1 (.int .i64 (tau V.length k y)) (by omega)).drew
            have OV2 := (own_cell' (own_cell' OV nq 0 (.int .i64 (tau V.length k x))) nq 1 (.int .i64 (tau V.length k y))).drew
            have OS2 := (own_cell' (own_cell' OS hsq 0 (.int .i64 (tau V.length k x))) hsq 1 (.int .i64 (tau V.length k y))).drew
            have hr2 := ((hr.setCell (p := ⟨q, 0, none⟩) (by show _ ≤ q; omega) (.int .i64 (tau V.length k x))).setCell (p := ⟨q, 1, none⟩) (by show _ ≤ q; omega) (.int .i64 (tau V.length k y))).drew
            have hrs2 : w2.heap.size + 1 ≤ ((wc.setCell ⟨q, 0, none⟩ (.int .i64 (tau V.length k x))).setCell ⟨q, 1, none⟩ (.int .i64 (tau V.length k y))).drew.heap.size := by
              show _ ≤ ((wc.setCell ⟨q, 0, none⟩ (.int .i64 (tau V.length k x))).setCell ⟨q, 1, none⟩ (.int .i64 (tau V.length k y))).heap.size
              simp [World.setCell]; omega
            go_wp2_with fail
            go_region
            generalize ((wc.setCell ⟨q, 0, none⟩ (.int .i64 (tau V.length k x))).setCell ⟨q, 1, none⟩ (.int .i64 (tau V.length k y))).drew = W4 at *
            have Q4 : Blk W4 q [.int .i64 (tau V.length k x), .int .i64 (tau V.length k y), .int .i64 mk'] 33 := Q2
            clear Q2 Q D T OV OS q0 q1 f0 f1 kx1 ky1 kx2 ky2 tx ty tx' ty' hr hrs hvl hbw
            have HA : Hid (0 ≤ x ∧ x < V.length ∧ 0 ≤ y ∧ y < V.length) := ⟨hxr.1, hxr.2, hyr.1, hyr.2⟩
            clear a1 a2 a3 a4 hxr hyr
            generalize hcx : tau V.length k x = X at *
            generalize hcy : tau V.length k y = Y at *
            have HCX := Lib.hid hcx
            have HCY := Lib.hid hcy
            clear hcx hcy
            have q0 := Q4.cell (i := 0) rfl
            have q1 := Q4.cell (i := 1) rfl
            have q2 := Q4.cell (i := 2) rfl
            have f0 := Q4.frozen 0
            have f1 := Q4.frozen 1
            have t1 := T2.cell (i := 1) rfl
            cases hbit : (bits BinOp.and IntKind.u32 (K / 2 ^ i) 1 == 1)
            ·
              have BZ := Blk.new W4 [.int .i64 X, .int .i64 Y, .int .i64 mk'] 33 (b := W4.heap.size) (by rfl)
              have DA := D2.old (.cells #[.int .i64 X, .int .i64 Y, .int .i64 mk'] 33)
              have TA := T2.old (.cells #[.int .i64 X, .int .i64 Y, .int .i64 mk'] 33)
              have tA := TA.cell (i := 1) rfl
              have OVA := OV2.alloc (.cells #[.int .i64 X, .int .i64 Y, .int .i64 mk'] 33)
              have OSA := OS2.alloc (.cells #[.int .i64 X, .int .i64 Y, .int .i64 mk'] 33)
              have hrA := hr2.alloc (by have := hr2.size; omega) (.cells #[.int .i64 X, .int .i64 Y, .int .i64 mk'] 33)
              have hzA : w2.heap.size + 1 ≤ (W4.alloc (.cells #[.int .i64 X, .int .i64 Y, .int .i64 mk'] 33)).heap.size := by simp [World.setCell]; omega
              have hwA := hrA.size
              go_wp2_with (first | (at_builtin; refine apSgL (v := ss) rfl rfl rfl rfl OSA BZ (by omega) hzA ?_; intro v3 w3 o3 hgw; refine Hid.out ?_))
              have hlA := OSA.lt
              have n8 : ss.ownBlock ≠ some w2.heap.size := fun h => absurd (hlA _ h).1 (Nat.not_succ_le_self _)
              have nw : ss.ownBlock ≠ some w.heap.size := fun h => absurd (Nat.le_of_succ_le (hlA _ h).1) (Nat.not_le.2 hdl)
              have h3 : Below w2.heap.size _ _ := (Below.refl _ _).grown hgw hwA (fun k hk => Nat.le_of_succ_le (hlA _ hk).1)
              have D6 := DA.grown hgw nw
              have T6 := TA.grown hgw n8
              have OV6 := own_grown OVA hgw (own_nb OSA OVA (by decide))
              have hr6 := hrA.trans h3
              have hz6 := Nat.le_trans hzA h3.size
              replace o3 : w3.ownsRow (w2.heap.size + 1) 33 3 v3 (i + 1) (cTs (L ++ [(X, Y, mk')])) := by rw [cTs_app]; exact o3
              obtain ⟨g5, c5, rfl⟩ := own_form o3 (Nat.succ_pos _)
              have OS7 := vown_set o3 T6 (by decide) 1 (.slice (some ⟨g5, 0, none⟩) (i + 1) c5)
              have OV7 := vown_set OV6 T6 (by decide) 1 (.slice (some ⟨g5, 0, none⟩) (i + 1) c5)
              have T7 := T6.set 1 (.slice (some ⟨g5, 0, none⟩) (i + 1) c5)
              have D7 := D6.setOther (g := w2.heap.size) 1 (.slice (some ⟨g5, 0, none⟩) (i + 1) c5) (by omega)
              have hr7 := hr6.setCell (p := ⟨w2.heap.size, 1, none⟩) (Nat.le_refl _) (.slice (some ⟨g5, 0, none⟩) (i + 1) c5)
              have y1 := T6.cell (i := 1) rfl
              have yf := T6.frozen 1
              clear OSA OVA DA TA tA BZ hrA hzA hwA
              apply Lib.hid
              go_wp2_with fail
              go_roundw
              case rel => exact ⟨i + 1, _, L ++ [(X, Y, mk')], by omega, by go_num, HSL.out.snoc (p := (x, y, mk')) (by rw [HRR.out]; exact HX.out) ⟨⟨HA.out.1, HA.out.2.1⟩, HA.out.2.2.1, HA.out.2.2.2⟩ rfl (.inl ⟨HCX.out.symm, HCY.out.symm⟩), D7, T7, OV7, OS7, hr7, by simp [World.setCell]; omega⟩
              case measure => simp [intOf]; omega
            ·
              have nq4 : (Value.slice (some ⟨gw, 0, none⟩) V.length cw).ownBlock ≠ some q := nq
              have Q5 := (Q4.set 0 (.int .i64 Y)).set 1 (.int .i64 X)
              have D5 := (D2.setOther (g := q) 0 (.int .i64 Y) (by omega)).setOther (g := q) 1 (.int .i64 X) (by omega)
              have T5 := (T2.setOther (g := q) 0 (.int .i64 Y) (by omega)).setOther (g := q) 1 (.int .i64 X) (by omega)
              have OV5 := own_cell' (own_cell' OV2 nq4 0 (.int .i64 Y)) nq4 1 (.int .i64 X)
              have OS5 := own_cell' (own_cell' OS2 hsq 0 (.int .i64 Y)) hsq 1 (.int .i64 X)
              have hr5 := (hr2.setCell (p := ⟨q, 0, none⟩) (by show _ ≤ q; omega) (.int .i64 Y)).setCell (p := ⟨q, 1, none⟩) (by show _ ≤ q; omega) (.int .i64 X)
              have z5 : ((W4.setCell ⟨q, 0, none⟩ (.int .i64 Y)).setCell ⟨q, 1, none⟩ (.int .i64 X)).heap.size = W4.heap.size := by simp [World.setCell]
              have s0 := Q5.cell (i := 0) rfl
              have s1 := Q5.cell (i := 1) rfl
              have s2 := Q5.cell (i := 2) rfl
              have g1 := (Q4.set 0 (.int .i64 Y)).cell (i := 1) rfl
              have gf1 := (Q4.set 0 (.int .i64 Y)).frozen 1
              have u1 := T5.cell (i := 1) rfl
              have BZ := Blk.new ((W4.setCell ⟨q, 0, none⟩ (.int .i64 Y)).setCell ⟨q, 1, none⟩ (.int .i64 X)) [.int .i64 Y, .int .i64 X, .int .i64 mk'] 33 (b := W4.heap.size) (by rw [z5])
              have DA := D5.old (.cells #[.int .i64 Y, .int .i64 X, .int .i64 mk'] 33)
              have TA := T5.old (.cells #[.int .i64 Y, .int .i64 X, .int .i64 mk'] 33)
              have tA := TA.cell (i := 1) rfl
              have OVA := OV5.alloc (.cells #[.int .i64 Y, .int .i64 X, .int .i64 mk'] 33)
              have OSA := OS5.alloc (.cells #[.int .i64 Y, .int .i64 X, .int .i64 mk'] 33)
              have hrA := hr5.alloc (by have := hr5.size; omega) (.cells #[.int .i64 Y, .int .i64 X, .int .i64 mk'] 33)
              have hzA : w2.heap.size + 1 ≤ (((W4.setCell ⟨q, 0, none⟩ (.int .i64 Y)).setCell ⟨q, 1, none⟩ (.int .i64 X)).alloc (.cells #[.int .i64 Y, .int .i64 X, .int .i64 mk'] 33)).heap.size := by simp [World.setCell]; omega
              have hwA := hrA.size
              go_wp2_with (first | (at_builtin; refine apSgL (v := ss) rfl rfl rfl rfl OSA BZ (by omega) hzA ?_; intro v3 w3 o3 hgw; refine Hid.out ?_))
              have hlA := OSA.lt
              have n8 : ss.ownBlock ≠ some w2.heap.size := fun h => absurd (hlA _ h).1 (Nat.not_succ_le_self _)
              have nw : ss.ownBlock ≠ some w.heap.size := fun h => absurd (Nat.le_of_succ_le (hlA _ h).1) (Nat.not_le.2 hdl)
              have h3 : Below w2.heap.size _ _ := (Below.refl _ _).grown hgw hwA (fun k hk => Nat.le_of_succ_le (hlA _ hk).1)
              have D6 := DA.grown hgw nw
              have T6 := TA.grown hgw n8
              have OV6 := own_grown OVA hgw (own_nb OSA OVA (by decide))
              have hr6 := hrA.trans h3
              have hz6 := Nat.le_trans hzA h3.size
              replace o3 : w3.ownsRow (w2.heap.size + 1) 33 3 v3 (i + 1) (cTs (L ++ [(Y, X, mk')])) := by rw [cTs_app]; exact o3
              obtain ⟨g5, c5, rfl⟩ := own_form o3 (Nat.succ_pos _)
              have OS7 := vown_set o3 T6 (by decide) 1 (.slice (some ⟨g5, 0, none⟩) (i + 1) c5)
              have OV7 := vown_set OV6 T6 (by decide) 1 (.slice (some ⟨g5, 0, none⟩) (i + 1) c5)
              have T7 := T6.set 1 (.slice (some ⟨g5, 0, none⟩) (i + 1) c5)
              have D7 := D6.setOther (g := w2.heap.size) 1 (.slice (some ⟨g5, 0, none⟩) (i + 1) c5) (by omega)
              have hr7 := hr6.setCell (p := ⟨w2.heap.size, 1, none⟩) (Nat.le_refl _) (.slice (some ⟨g5, 0, none⟩) (i + 1) c5)
              have y1 := T6.cell (i := 1) rfl
              have yf := T6.frozen 1
              clear OSA OVA DA TA tA BZ hrA hzA hwA
              apply Lib.hid
              go_wp2_with fail
              go_roundw
              case rel => exact ⟨i + 1, _, L ++ [(Y, X, mk')], by omega, by go_num, HSL.out.snoc (p := (x, y, mk')) (by rw [HRR.out]; exact HX.out) ⟨⟨HA.out.1, HA.out.2.1⟩, HA.out.2.2.1, HA.out.2.2.2⟩ rfl (.inr ⟨HCY.out.symm, HCX.out.symm⟩), D7, T7, OV7, OS7, hr7, by simp [World.setCell]; omega⟩
              case measure => simp [intOf]; omega
        · obtain rfl : i = S.length := by omega
          have hT := turned_of hkn hbl rfl rfl HSL.out
          have hCE := hT.chk H
          have lVV := hT.lVV
          have lSS := hT.lSS
          have RV : RdT wr (.slice (some ⟨gw, 0, none⟩) V.length cw) (V.drop k ++ V.take k) := RdT.of (by rw [lVV]; exact OV)
          have RS : RdT wr ss L := RdT.of (by rw [lSS]; exact OS)
          have HRW := Lib.hid (HRV.out.below hr)
          obtain ⟨sx, sxc, rfl⟩ := RS.shape
          have hbw : Below w.heap.size w wr := hb.trans (hr.mono hd8)
          have lH : H.length ≤ 1000 := by omega
          have HC1 : Hid (∀ w', Below wr.heap.size wr w' → Calls Tryz.prog 8 #[.agg #[.slice (some ⟨gw, 0, none⟩) V.length cw, .slice sx L.length sxc, .slice ha H.length hc]] w' fun e w'' => e = .returned (.int .i64 (chk V S H)) ∧ Below w'.heap.size w' w'') := by
            apply Lib.hid
            intro w' hq
            exact Check_at (RV.below hq) (RS.below hq) (HRW.out.h.below hq) (by omega) (by omega) lH HOK.out hCE
          have HC2 : Hid (∀ w', Below wr.heap.size wr w' → Calls Tryz.prog 8 #[.agg #[.slice va V.length vc, .slice sa S.length sc, .slice ha H.length hc]] w' fun e w'' => e = .returned (.int .i64 (chk V S H)) ∧ Below w'.heap.size w' w'') := by
            apply Lib.hid
            intro w' hq
            exact Check_at (HRW.out.v.below hq) (HRW.out.s.below hq) (HRW.out.h.below hq) (by omega) (by omega) lH HOK.out rfl
          have hq := Below.refl wr.heap.size wr
          clear hCE lVV lSS RV RS OV OS hT
          generalize chk V S H = c at *
          go_wp2_with fail
          refine rg_start [] (by kernel_rfl) (fun hS => ?_)
          replace hq := hq.drew
          refine rg_ldP 0 rfl (by kernel_rfl) (by kernel_rfl) (by kernel_rfl) (by rfl) hS rfl rfl T (by simp <;> omega) (part_all _) (whDr _ _ _ _ _ _ _ _ _) ?_
          try simp only [Act.put, List.setIfInBounds_toArray, List.set_cons_zero, List.set_cons_succ]
          refine rg_ldP 2 rfl (by kernel_rfl) (by kernel_rfl) (by kernel_rfl) (by rfl) hS rfl rfl D (by simp <;> omega) (part_all _) (whDr _ _ _ _ _ _ _ _ _) ?_
          try simp only [Act.put, List.setIfInBounds_toArray, List.set_cons_zero, List.set_cons_succ]
          refine rg_eff 1 rfl (by kernel_rfl) (by rfl) (fun K hK => ?_)
          go_simp
          refine (HC1.out _ hq).mono ?_
          rintro e w1 ⟨rfl, h1⟩
          refine hK _ _ (hS.call h1) (fun hS => ?_)
          clear hK K
          replace hq := hq.trans (h1.mono hq.size)
          clear h1
          try simp only [Act.put, List.setIfInBounds_toArray, List.set_cons_zero, List.set_cons_succ]
          refine rg_eff 3 rfl (by kernel_rfl) (by rfl) (fun K hK => ?_)
          go_simp
          refine (HC2.out _ hq).mono ?_
          rintro e w1 ⟨rfl, h1⟩
          refine hK _ _ (hS.call h1) (fun hS => ?_)
          clear hK K
          replace hq := hq.trans (h1.mono hq.size)
          clear h1
          try simp only [Act.put, List.setIfInBounds_toArray, List.set_cons_zero, List.set_cons_succ]
          refine rg_take 4 rfl (by kernel_rfl) (by kernel_rfl) (by kernel_rfl) (by rfl) hS (v := ?_) ?_ ?_
          rotate_left
          · (intro w' hS'; go_simp <;> try with_reducible rfl)
          try simp only [Act.put, List.setIfInBounds_toArray, List.set_cons_zero, List.set_cons_succ]
          refine rg_take 5 rfl (by kernel_rfl) (by kernel_rfl) (by kernel_rfl) (by rfl) hS (v := ?_) ?_ ?_
          rotate_left
          · (intro w' hS'; go_simp <;> try with_reducible rfl)
          try simp only [Act.put, List.setIfInBounds_toArray, List.set_cons_zero, List.set_cons_succ]
          refine rg_done (by kernel_rfl) ?_
          have hfin := bthen hbw hq
          clear hq hr hrs hbw T D
          go_wp2
          go_ret
          exact ⟨by first | rfl | (simp; done), hfin⟩
end
end Go.Proofs.YtoegjibeomhekaaGreat
