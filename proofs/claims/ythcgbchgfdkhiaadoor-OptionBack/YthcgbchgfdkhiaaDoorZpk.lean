/- Words that are printed are parsed as these; the last H, the last Cap counts. -/
import Derived.Test.YthcgbchgfdkhiaaDoorZod
import Derived.Test.YthcgbchgfdkhiaaDoorZth
namespace Go.Proofs.YthcgbchgfdkhiaaDoor
set_option linter.unusedSimpArgs false
set_option linter.unusedVariables false
open Go.RowKit
set_option maxRecDepth 100000
theorem natOk_none {b : UInt8} (hb : isDig b = false) {l : List UInt8} (h : natOk l = true) : b ∉ l := by
  unfold natOk at h
  simp only [Bool.and_eq_true] at h
  intro hx
  have := List.all_eq_true.1 h.2 b hx
  rw [hb] at this; cases this
theorem intOk_none {b : UInt8} (hb : isDig b = false) (h45 : b ≠ 45) {l : List UInt8} (h : intOk l = true) : b ∉ l := by
  unfold intOk at h
  split at h
  · rename_i h0
    simp only [Bool.and_eq_true] at h
    cases l with
    | nil => simp at h0
    | cons a r =>
      have : a = 45 := by simpa using h0
      subst this
      intro hx
      rcases List.mem_cons.1 hx with rfl | hx
      · exact h45 rfl
      · exact natOk_none hb h.1 hx
  · exact natOk_none hb h
theorem no32 {a : Int} (h : sml a) : (32 : UInt8) ∉ numA a := intOk_none (by decide) (by decide) (numA_int h).1
theorem wtx1_32 {c : UInt8} (hc : c ≠ 32) {a : Int} (h : sml a) : (32 : UInt8) ∉ wtx c [a] := by
  rw [wtx1]
  intro hx
  rcases List.mem_cons.1 hx with hx | hx
  · exact hc hx.symm
  · exact no32 h hx
theorem wtx3_32 {c : UInt8} (hc : c ≠ 32) {x y z : Int} (hx : sml x) (hy : sml y) (hz : sml z) : (32 : UInt8) ∉ wtx c [x, y, z] := by
  rw [wtx3]
  intro h
  rcases List.mem_cons.1 h with h | h
  · exact hc h.symm
  rcases List.mem_append.1 h with h | h
  · exact no32 hx h
  rcases List.mem_cons.1 h with h | h
  · cases h
  rcases List.mem_append.1 h with h | h
  · exact no32 hy h
  rcases List.mem_cons.1 h with h | h
  · cases h
  · exact no32 hz h
theorem splits_join (s : UInt8) : ∀ (r : List (List UInt8)) (w : List UInt8), s ∉ w → (∀ u ∈ r, s ∉ u) → splits [s] (Lib.join (w :: r) [s]) = w :: r
  | [], w, h, _ => by
    rw [Lib.join_one]
    exact splits_all _ _ fun c hc => by simp only [List.mem_cons, List.not_mem_nil, or_false]; rintro rfl; exact h hc
  | u :: r, w, h, hr => by
    have ih := splits_join s r u (hr u (List.mem_cons_self ..)) fun v hv => hr v (List.mem_cons_of_mem _ hv)
    have e : Lib.join (w :: u :: r) [s] = w ++ s :: Lib.join (u :: r) [s] := by
      rw [Lib.join_cons, Lib.join_cons]
      simp [Lib.joinTail]
    rw [e, splits_at _ _ (by simp) _ (fun c hc => by simp only [List.mem_cons, List.not_mem_nil, or_false]; rintro rfl; exact h hc), ih]
/-- What options that may be asked for are made of. -/
structure OkP (h c : Int) (Z : List (Int × Int × Int)) : Prop where
  hs : sideI h = true
  hc : inI 1 4096 c = true
  hl : Z.length ≤ 4
  hz : ∀ p ∈ Z, szOk p = true
theorem okP_of {h c : Int} {Z : List (Int × Int × Int)} (k : opOk h c Z = true) : OkP h c Z := by
  unfold opOk at k
  simp only [Bool.and_eq_true, decide_eq_true_eq] at k
  exact ⟨k.1.1.1, k.1.1.2, k.1.2, List.all_eq_true.1 k.2⟩
theorem OkP.op {h c : Int} {Z : List (Int × Int × Int)} (k : OkP h c Z) : opOk h c Z = true := by
  unfold opOk
  rw [k.hs, k.hc, List.all_eq_true.2 k.hz]
  simp [k.hl]
theorem side_sml {h : Int} (k : sideI h = true) : sml h := by have := side_in k; exact ⟨by omega, by omega⟩
theorem in_sml {lo hi n : Int} (k : inI lo hi n = true) (h1 : 0 ≤ lo) (h2 : hi ≤ 5000) : sml n := by have := (inI_iff _ _ _).1 k; exact ⟨by omega, by omega⟩
theorem sz_sml {p : Int × Int × Int} (k : szOk p = true) : sml p.1 ∧ sml p.2.1 ∧ sml p.2.2 := by
  unfold szOk at k
  simp only [Bool.and_eq_true] at k
  exact ⟨in_sml k.2.1 (by decide) (by decide), in_sml k.2.2 (by decide) (by decide), side_sml k.1⟩
theorem OkP.parts {h c : Int} {Z : List (Int × Int × Int)} (k : OkP h c Z) : splits [32] (Lib.join (ows h c Z) [32]) = ows h c Z := by
  unfold ows
  refine splits_join 32 _ _ (wtx1_32 (by decide) (side_sml k.hs)) fun u hu => ?_
  rcases List.mem_cons.1 hu with rfl | hu
  · exact wtx1_32 (by decide) (in_sml k.hc (by decide) (by decide))
  · obtain ⟨p, hp, rfl⟩ := List.mem_map.1 hu
    obtain ⟨h1, h2, h3⟩ := sz_sml (k.hz p hp)
    exact wtx3_32 (by decide) h1 h2 h3
theorem parseL_sizes : ∀ (Z : List (Int × Int × Int)) (o : Opt), (∀ p ∈ Z, szOk p = true) → parseL o (Z.map fun p => wtx 115 [p.1, p.2.1, p.2.2]) = some { o with z := o.z ++ Z }
  | [], o, _ => by rw [List.append_nil]; rfl
  | p :: Z, o, h => by
    obtain ⟨h1, h2, h3⟩ := sz_sml (h p (List.mem_cons_self ..))
    rw [List.map_cons, parseL, take_word_s _ h1 h2 h3]
    show parseL { o with z := o.z ++ [p] } _ = _
    rw [parseL_sizes Z _ fun q hq => h q (List.mem_cons_of_mem _ hq)]
    simp
theorem OkP.parse {h c : Int} {Z : List (Int × Int × Int)} (k : OkP h c Z) (o : Opt) : parseL o (ows h c Z) = some ⟨h, c, o.z ++ Z⟩ := by
  unfold ows
  rw [parseL, take_word_h _ (side_sml k.hs)]
  show parseL { o with h := h } (wtx 99 [c] :: _) = _
  rw [parseL, take_word_c _ (in_sml k.hc (by decide) (by decide))]
  show parseL { o with h := h, c := c } _ = _
  rw [parseL_sizes _ _ k.hz]
theorem OkP.prs {h c : Int} {Z : List (Int × Int × Int)} (k : OkP h c Z) : Proofs.YthcgbchgfdkhiaaDoor.prs (ows h c Z) = some ⟨h, c, Z⟩ := by
  have e : parseL ⟨64, 4096, []⟩ (ows h c Z) = some ⟨h, c, Z⟩ := by rw [k.parse]; rfl
  unfold Proofs.YthcgbchgfdkhiaaDoor.prs
  rw [e]
  show (if okO ⟨h, c, Z⟩ = true then _ else none) = _
  rw [show okO ⟨h, c, Z⟩ = true from k.op]; rfl
theorem parseL_app : ∀ (l t : List (List UInt8)) (o o' : Opt), parseL o l = some o' → parseL o (l ++ t) = parseL o' t
  | [], t, o, o', h => by
    have : o = o' := by simpa [parseL] using h
    subst this; rfl
  | a :: l, t, o, o', h => by
    rw [List.cons_append, parseL]
    rw [parseL] at h
    cases e : takeO o a with
    | none => rw [e] at h; cases h
    | some q => rw [e] at h; exact parseL_app l t q o' h
theorem OkP.last {h c : Int} {Z : List (Int × Int × Int)} (k : OkP h c Z) {x m : Int} (hx : sideI x = true) (hm : inI 1 4096 m = true) : Proofs.YthcgbchgfdkhiaaDoor.prs (ows h c Z ++ [wtx 104 [x], wtx 99 [m]]) = some ⟨x, m, Z⟩ := by
  have e : parseL ⟨64, 4096, []⟩ (ows h c Z ++ [wtx 104 [x], wtx 99 [m]]) = some ⟨x, m, Z⟩ := by
    rw [parseL_app _ _ _ _ (k.parse _), parseL, take_word_h _ (side_sml hx)]
    show parseL ⟨x, c, [] ++ Z⟩ [wtx 99 [m]] = _
    rw [parseL, take_word_c _ (in_sml hm (by decide) (by decide))]; rfl
  have k2 : OkP x m Z := ⟨hx, hm, k.hl, k.hz⟩
  unfold Proofs.YthcgbchgfdkhiaaDoor.prs
  rw [e]
  show (if okO ⟨x, m, Z⟩ = true then _ else none) = _
  rw [show okO ⟨x, m, Z⟩ = true from k2.op]; rfl
end Go.Proofs.YthcgbchgfdkhiaaDoor
