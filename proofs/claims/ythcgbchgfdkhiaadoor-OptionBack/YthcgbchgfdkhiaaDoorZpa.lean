/- option.Parse: any words. -/
import Derived.Test.YthcgbchgfdkhiaaDoorZts
namespace Go.Proofs.YthcgbchgfdkhiaaDoor
set_option linter.unusedSimpArgs false
set_option linter.unusedVariables false
open Go.RowKit
set_option maxRecDepth 100000
theorem take_nil (b : Nat) (w : World) : Calls Tryd.prog 15 #[.pointer (some ⟨b, 0, none⟩), .string (tx [])] w fun e w' => e = .returned (.bool false) ∧ w' = w := by
  have g0 : (tx []).toList.isEmpty = true := by rw [tx_toList]; rfl
  go_enter Tryd.func15, Tryd.ntmps15
  go_wp2
  go_ret
  exact ⟨rfl, rfl⟩
theorem take_other (s : ByteArray) (b : Nat) (w : World) (h0 : 0 < s.size) (d1 : ((s[0].toNat : Int) == 104) = false) (d2 : ((s[0].toNat : Int) == 99) = false) (d3 : ((s[0].toNat : Int) == 115) = false) : Calls Tryd.prog 15 #[.pointer (some ⟨b, 0, none⟩), .string s] w fun e w' => e = .returned (.bool false) ∧ w' = w := by
  have g0 := ne_empty s h0
  go_enter Tryd.func15, Tryd.ntmps15
  go_wp2
  go_ret
  exact ⟨rfl, rfl⟩
theorem byte_eq (a : UInt8) (n : Nat) (c : UInt8) (hc : c.toNat = n) : ((a.toNat : Int) == (n : Int)) = decide (a = c) := by
  by_cases h : a = c
  · subst h; rw [hc]; simp
  · rw [decide_eq_false h, beq_eq_false_iff_ne]
    intro e
    exact h (UInt8.toNat_inj.1 (by omega))
theorem takeO_cons (o : Opt) (a : UInt8) (r : List UInt8) : takeO o (a :: r) = if a = 104 then (if intOk r then some { o with h := intV r } else none) else if a = 99 then (if intOk r then some { o with c := intV r } else none)
    else if a = 115 then (if rdOk 3 (splits [44] r) then some { o with z := o.z ++ [trip (splits [44] r)] } else none) else none := rfl
theorem take_any (u : List UInt8) (B b : Nat) (o : Opt) (w : World) (hu : u.length ≤ 1000000) (hO : Opb B b o w) (hbB : b < B) (hBw : B ≤ w.heap.size) (hE : Env w) (hz : o.z.length ≤ 1000000) :
    Calls Tryd.prog 15 #[.pointer (some ⟨b, 0, none⟩), .string (tx u)] w fun e w' => Below b w w' ∧ ((∃ o', e = .returned (.bool true) ∧ takeO o u = some o' ∧ o'.z.length ≤ o.z.length + 1 ∧ Opb B b o' w') ∨ (e = .returned (.bool false) ∧ takeO o u = none)) := by
  cases u with
  | nil =>
    refine (take_nil b w).mono ?_
    rintro e w' ⟨rfl, rfl⟩
    exact ⟨Below.refl _ _, .inr ⟨rfl, rfl⟩⟩
  | cons a r =>
    have hs : (tx (a :: r)).size = r.length + 1 := tx_size _
    have hX : (tx (a :: r)).extract 1 (r.length + 1) = tx r := by rw [tx_extract, List.take_of_length_le (by simp)]; rfl
    have hl : r.length ≤ 1000000 := by simp at hu; omega
    have hg : (tx (a :: r))[0]'(by omega) = a := tx_get _ 0 _
    have e1 : ∀ (n : Nat) (c : UInt8), c.toNat = n → ((((tx (a :: r))[0]'(by omega)).toNat : Int) == (n : Int)) = decide (a = c) := fun n c hc => by rw [hg]; exact byte_eq a n c hc
    by_cases h1 : a = 104
    · have d1 := e1 104 104 rfl
      rw [decide_eq_true h1] at d1
      refine (take_h _ r B b o w hs hX hl d1 hO hbB hBw hE).mono ?_
      rintro e w' ⟨rfl, k1, k2⟩
      refine ⟨k1, ?_⟩
      cases hi : intOk r
      · exact .inr ⟨rfl, by rw [takeO_cons, if_pos h1, hi]; rfl⟩
      · exact .inl ⟨{ o with h := intV r }, rfl, by rw [takeO_cons, if_pos h1, hi]; rfl, Nat.le_succ _, k2 hi⟩
    · have d1 := e1 104 104 rfl
      rw [decide_eq_false h1] at d1
      by_cases h2 : a = 99
      · have d2 := e1 99 99 rfl
        rw [decide_eq_true h2] at d2
        refine (take_c _ r B b o w hs hX hl d1 d2 hO hbB hBw hE).mono ?_
        rintro e w' ⟨rfl, k1, k2⟩
        refine ⟨k1, ?_⟩
        cases hi : intOk r
        · exact .inr ⟨rfl, by rw [takeO_cons, if_neg h1, if_pos h2, hi]; rfl⟩
        · exact .inl ⟨{ o with c := intV r }, rfl, by rw [takeO_cons, if_neg h1, if_pos h2, hi]; rfl, Nat.le_succ _, k2 hi⟩
      · have d2 := e1 99 99 rfl
        rw [decide_eq_false h2] at d2
        by_cases h3 : a = 115
        · have d3 := e1 115 115 rfl
          rw [decide_eq_true h3] at d3
          refine (take_s _ r B b o w hs hX hl d1 d2 d3 hO hbB hBw hE hz).mono ?_
          rintro e w' ⟨rfl, k1, k2⟩
          refine ⟨k1, ?_⟩
          cases hi : rdOk 3 (splits [44] r)
          · exact .inr ⟨rfl, by rw [takeO_cons, if_neg h1, if_neg h2, if_pos h3, hi]; rfl⟩
          · exact .inl ⟨{ o with z := o.z ++ [trip (splits [44] r)] }, rfl, by rw [takeO_cons, if_neg h1, if_neg h2, if_pos h3, hi]; rfl, by simp, k2 hi⟩
        · have d3 := e1 115 115 rfl
          rw [decide_eq_false h3] at d3
          refine (take_other _ b w (by omega) d1 d2 d3).mono ?_
          rintro e w' ⟨rfl, rfl⟩
          exact ⟨Below.refl _ _, .inr ⟨rfl, by rw [takeO_cons, if_neg h1, if_neg h2, if_neg h3]⟩⟩
theorem flat_get : ∀ (Z : List (Int × Int × Int)) (i : Nat) (p : Int × Int × Int), Z[i]? = some p → (Z.flatMap celZ)[i * 3]? = some (.int .i64 p.1) ∧ (Z.flatMap celZ)[i * 3 + 1]? = some (.int .i64 p.2.1) ∧ (Z.flatMap celZ)[i * 3 + 2]? = some (.int .i64 p.2.2)
  | [], i, p, h => by simp at h
  | q :: Z, 0, p, h => by
    have : q = p := by simpa using h
    subst this
    exact ⟨rfl, rfl, rfl⟩
  | q :: Z, i + 1, p, h => by
    have := flat_get Z i p (by simpa using h)
    rw [show (i + 1) * 3 = i * 3 + 3 by omega]
    exact this
theorem RdZ.of_owns {w : World} {B : Nat} {v : Value} {Z : List (Int × Int × Int)} (h : w.ownsRow B 40 3 v Z.length (Z.flatMap celZ)) : RdZ w v Z := by
  rcases h.2 with ⟨rfl, h0⟩ | ⟨g, cap, cur, rfl, _, _, hcap, _⟩
  · exact .inl ⟨List.eq_nil_of_length_eq_zero h0, _, _, rfl⟩
  · refine .inr ⟨g, 0, cap, rfl, hcap, fun i p hi => ?_⟩
    obtain ⟨h1, h2, h3⟩ := flat_get Z i p hi
    have hc : ∀ (j : Nat) u, (Z.flatMap celZ)[j]? = some u → w.cell? ⟨g, j, none⟩ = some u := fun j u hu => by
      have := h.cells (g := g) rfl j u hu
      rw [show (⟨g, j, none⟩ : Addr) = (⟨g, 0, none⟩ : Addr).add j by cases j <;> simp [Addr.add]]
      exact this
    rw [Nat.zero_add]
    exact ⟨hc _ _ h1, hc _ _ h2, hc _ _ h3⟩
theorem parseL_snoc : ∀ (l : List (List UInt8)) (u : List UInt8) (o : Opt), parseL o (l ++ [u]) = match parseL o l with
    | none => none
    | some o' => takeO o' u
  | [], u, o => by
    show (match takeO o u with | none => none | some o' => some o') = takeO o u
    cases takeO o u <;> rfl
  | a :: l, u, o => by
    rw [List.cons_append, parseL, parseL]
    cases takeO o a with
    | none => rfl
    | some o' => exact parseL_snoc l u o'
theorem parseL_none : ∀ (l t : List (List UInt8)) (o : Opt), parseL o l = none → parseL o (l ++ t) = none
  | [], t, o, h => by cases h
  | a :: l, t, o, h => by
    rw [List.cons_append, parseL]
    rw [parseL] at h
    cases e : takeO o a with
    | none => rfl
    | some o' => rw [e] at h; exact parseL_none l t o' h
end Go.Proofs.YthcgbchgfdkhiaaDoor
