/- A row of numbers as a text; the lines of a text of rows. -/
import Derived.Test.YtpalfmgloddhcaaGreatDoorXlq
import Derived.Test.YtpalfmgloddhcaaGreatDoorXnm
namespace Go.Proofs.YtpalfmgloddhcaaGreatDoor
set_option linter.unusedSimpArgs false
set_option linter.unusedVariables false
open Go.RowKit
set_option maxRecDepth 100000
/-- Words with a blank between. -/
def rowW : List (List UInt8) → List UInt8
  | [] => []
  | w :: r => w ++ body [32] r
theorem rowW_snoc (ws : List (List UInt8)) (u : List UInt8) : rowW (ws ++ [u]) = if ws = [] then u else rowW ws ++ [32] ++ u := by
  cases ws with
  | nil => simp [rowW, body]
  | cons w r => rw [if_neg (by simp), List.cons_append, rowW, rowW, body_snoc]; simp only [List.append_assoc]
/-- A word: no blank, mark, line's end in it. -/
def okv (w : List UInt8) : Prop := w ≠ [] ∧ ∀ c ∈ w, okc c = true
theorem wrds_okv {w : List UInt8} (hw : okv w) (t : List UInt8) (ht : t = [] ∨ ∃ c r, t = c :: r ∧ c ∈ bl) : wrds (w ++ t) = w :: wrds t := by
  have hn : ∀ x ∈ w, x ∉ bl := fun x hx => okc_bl (hw.2 x hx)
  have hne : w.isEmpty = false := by simpa using hw.1
  rcases ht with rfl | ⟨c, r, rfl, hc⟩
  · rw [List.append_nil, wrds_nil]
    unfold wrds
    rw [splits_all bl w hn]
    simp [hne]
  · rw [wrds_blank c hc]
    unfold wrds
    rw [splits_at bl r hc w hn]
    simp [hne]
theorem wrds_bodyv : ∀ (ws : List (List UInt8)) (t : List UInt8), (∀ w ∈ ws, okv w) → (t = [] ∨ ∃ c r, t = c :: r ∧ c ∈ bl) → wrds (body [32] ws ++ t) = ws ++ wrds t
  | [], _, _, _ => rfl
  | w :: r, t, h, ht => by
    rw [body, List.append_assoc, List.append_assoc, wrds_blanks [32] _ (by decide), wrds_okv (h w (List.mem_cons_self ..))]
    · rw [wrds_bodyv r t (fun x hx => h x (List.mem_cons_of_mem _ hx)) ht, List.cons_append]
    · cases r with
      | nil => exact ht
      | cons v r => exact .inr ⟨32, _, rfl, by decide⟩
theorem wrds_rowW (ws : List (List UInt8)) (h : ∀ w ∈ ws, okv w) : wrds (rowW ws) = ws := by
  cases ws with
  | nil => rfl
  | cons w r =>
    rw [rowW, wrds_okv (h w (List.mem_cons_self ..))]
    · have := wrds_bodyv r [] (fun x hx => h x (List.mem_cons_of_mem _ hx)) (.inl rfl)
      rw [List.append_nil, wrds_nil, List.append_nil] at this
      rw [this]
    · cases r with
      | nil => exact .inl rfl
      | cons v r => exact .inr ⟨32, _, rfl, by decide⟩
theorem body_nov {d : UInt8} (h32 : d ≠ 32) (hd : okc d = false) : ∀ ws : List (List UInt8), (∀ w ∈ ws, okv w) → d ∉ body [32] ws
  | [], _, h => by simp [body] at h
  | w :: r, hw, h => by
    rw [body] at h
    simp only [List.mem_append, List.mem_cons, List.not_mem_nil, or_false] at h
    rcases h with (h | h) | h
    · exact h32 h
    · have := (hw w (List.mem_cons_self ..)).2 d h
      rw [hd] at this; cases this
    · exact body_nov h32 hd r (fun x hx => hw x (List.mem_cons_of_mem _ hx)) h
theorem rowW_no {d : UInt8} (h32 : d ≠ 32) (hd : okc d = false) (ws : List (List UInt8)) (h : ∀ w ∈ ws, okv w) : d ∉ rowW ws := by
  cases ws with
  | nil => simp [rowW]
  | cons w r =>
    rw [rowW, List.mem_append]
    rintro (hm | hm)
    · have := (h w (List.mem_cons_self ..)).2 d hm
      rw [hd] at this; cases this
    · exact body_nov h32 hd r (fun x hx => h x (List.mem_cons_of_mem _ hx)) hm
theorem ahead_none (p : List UInt8) : ∀ l : List UInt8, (∀ x ∈ l, x ∉ p) → ahead p l = l := fun l h => (ahead_all p l h).1
/-- One row ahead of a text. -/
theorem lns_rowW (n : Nat) (ws : List (List UInt8)) (hne : ws ≠ []) (h : ∀ w ∈ ws, okv w) (t : List UInt8) : lns n (rowW ws ++ 10 :: t) = (n, ws) :: lns (n + 1) t := by
  have h10 : ∀ x ∈ rowW ws, x ∉ ([10] : List UInt8) := fun x hx hm => by
    simp only [List.mem_cons, List.not_mem_nil, or_false] at hm
    subst hm; exact rowW_no (by decide) (by decide) ws h hx
  have h35 : ∀ x ∈ rowW ws, x ∉ ([35] : List UInt8) := fun x hx hm => by
    simp only [List.mem_cons, List.not_mem_nil, or_false] at hm
    subst hm; exact rowW_no (by decide) (by decide) ws h hx
  rw [lns_step, (ahead_at [10] t (by decide) _ h10).1, (ahead_at [10] t (by decide) _ h10).2, ahead_none _ _ h35, wrds_rowW ws h, if_neg hne]
  rfl
/-- A text of rows, each with its line's end. -/
def rowsT : List (List (List UInt8)) → List UInt8
  | [] => []
  | ws :: r => rowW ws ++ 10 :: rowsT r
theorem rowsT_app : ∀ (a b : List (List (List UInt8))), rowsT (a ++ b) = rowsT a ++ rowsT b
  | [], _ => rfl
  | ws :: r, b => by rw [List.cons_append, rowsT, rowsT, rowsT_app r b, List.append_assoc, List.cons_append]
/-- The rows numbered. -/
def numd : Nat → List (List (List UInt8)) → List (Nat × List (List UInt8))
  | _, [] => []
  | n, ws :: r => (n, ws) :: numd (n + 1) r
def okrows (M : List (List (List UInt8))) : Prop := ∀ ws ∈ M, ws ≠ [] ∧ ∀ w ∈ ws, okv w
theorem lns_rowsT : ∀ (M : List (List (List UInt8))) (n : Nat), okrows M → lns n (rowsT M) = numd n M
  | [], n, _ => lns_nil n
  | ws :: r, n, h => by
    have h1 := h ws (List.mem_cons_self ..)
    rw [rowsT, lns_rowW n ws h1.1 h1.2, lns_rowsT r (n + 1) fun x hx => h x (List.mem_cons_of_mem _ hx)]
    rfl
theorem cnt_rowsT (M : List (List (List UInt8))) (h : okrows M) : (rowsT M).count 10 = M.length := by
  induction M with
  | nil => rfl
  | cons ws r ih =>
    have h1 := h ws (List.mem_cons_self ..)
    have : (rowW ws).count 10 = 0 := List.count_eq_zero.2 (rowW_no (by decide) (by decide) ws h1.2)
    rw [rowsT, List.count_append, this, List.count_cons_self, ih fun x hx => h x (List.mem_cons_of_mem _ hx)]
    simp
theorem numT_len (a : Int) : (numT a).length ≤ 11 := by
  unfold numT
  split
  · have := digs_len 10 a.natAbs; simp; omega
  · have := digs_len 10 a.toNat; omega
theorem okv_digs {k n : Nat} (hn : n < 10 ^ k) (hk : 0 < k) : okv (digs k n) := by
  obtain ⟨_, h2, h3, _⟩ := digs_val k n hn hk
  refine ⟨h3, fun c hc => ?_⟩
  have := h2 c hc
  simp only [isDig, Bool.and_eq_true, decide_eq_true_eq] at this
  have ne : ∀ d : UInt8, d.toNat < 48 → c ≠ d := fun d hd e => by subst e; omega
  simp [okc, ne 32 (by decide), ne 35 (by decide), ne 9 (by decide), ne 10 (by decide), ne 13 (by decide)]
theorem okv_numT {a : Int} (h : -1000000000 < a ∧ a < 1000000000) : okv (numT a) := by
  unfold numT
  split
  · have h1 := okv_digs (k := 10) (n := a.natAbs) (by omega) (by decide)
    refine ⟨by simp, fun c hc => ?_⟩
    rcases List.mem_cons.1 hc with rfl | hc
    · decide
    · exact h1.2 c hc
  · exact okv_digs (by omega) (by decide)
set_option maxHeartbeats 4000000 in
theorem Row_any (xs : List Int) (g o c : Nat) (w : World) (hl : xs.length ≤ 1000) (hx : ∀ x ∈ xs, -1000000000 < x ∧ x < 1000000000) (hc : ∀ (i : Nat) x, xs[i]? = some x → w.cell? ⟨g, o + i, none⟩ = some (.int .i64 x)) :
    Calls Tryz.prog 12 #[.slice (some ⟨g, o, none⟩) xs.length c] w fun e w' => e = .returned (.string (tx (rowW (xs.map numT) ++ [10]))) ∧ Below w.heap.size w w' := by
  have HC := Lib.hid hc
  have HX := Lib.hid hx
  clear hc hx
  go_enter Tryz.func12, Tryz.ntmps12
  go_wp2_with fail
  go_loopw [3, 4] (fun s j wr => ∃ i : Nat, i ≤ xs.length ∧ j = .int .i64 (i : Int) ∧ s = .string (tx (rowW ((xs.take i).map numT))) ∧ (rowW ((xs.take i).map numT)).length ≤ 12 * i ∧ Below w.heap.size w wr) (fun _ j _ => xs.length - (intOf j).toNat)
  case atStart => exact ⟨0, Nat.zero_le _, rfl, rfl, Nat.le_refl _, Below.refl _ _⟩
  case round =>
    obtain ⟨i, hi, rfl, rfl, hz, hb⟩ := hrel
    by_cases hlt : i < xs.length
    · obtain ⟨x, hxi⟩ : ∃ x, xs[i]? = some x := ⟨_, List.getElem?_eq_getElem hlt⟩
      have c1 := cell_below hb (HC.out i x hxi)
      have HN := Lib.hid fun w => Num_any x w (HX.out x (List.mem_of_getElem? hxi))
      have ht : (xs.take (i + 1)).map numT = (xs.take i).map numT ++ [numT x] := by rw [List.take_add_one, hxi]; simp
      have hnl := numT_len x
      obtain ⟨u, hu⟩ : ∃ u, numT x = u := ⟨_, rfl⟩
      rw [hu] at HN ht hnl
      have HT := Lib.hid ht
      have hzero : i = 0 → (xs.take i).map numT = [] := fun h => by rw [h]; rfl
      have hpos : 0 < i → (xs.take i).map numT ≠ [] := fun h e => by
        have hlen : ((xs.take i).map numT).length = i := by rw [List.length_map, List.length_take]; omega
        rw [e] at hlen
        simp at hlen
        omega
      have HZ := Lib.hid hzero
      have HP := Lib.hid hpos
      clear hxi ht hu hzero hpos
      obtain ⟨S, hS⟩ : ∃ S, (xs.take i).map numT = S := ⟨_, rfl⟩
      rw [hS] at HT HZ HP hz ⊢
      clear hS
      by_cases h0 : i = 0
      · have g0 : ¬ (0 : Int) < (i : Int) := by omega
        have e1 : rowW (S ++ [u]) = u := by rw [rowW_snoc, if_pos (HZ.out h0)]
        have e2 : rowW S = [] := by rw [HZ.out h0]; rfl
        rw [e2] at hz ⊢
        have E1 := Lib.hid e1
        have zs := tx_size u
        have zs2 : ¬ (9223372036854775807 : Nat) < 0 + u.length := by omega
        have zs3 : (tx []).size = 0 := rfl
        have HA : Hid (tx [] ++ tx u = tx u) := by show _ = _; rw [tx_app]; rfl
        clear e1 e2 h0
        go_wp2_with fail
        refine (HN.out _).mono ?_
        rintro e w1 ⟨rfl, h1⟩
        replace hb := bthen hb h1
        clear h1 c1
        go_wp2_with fail
        go_roundw
        case rel => exact ⟨i + 1, by omega, by go_num, by rw [HT.out, E1.out, HA.out], by rw [HT.out, E1.out]; omega, hb⟩
        case measure => simp [intOf]; omega
      · have g0 : (0 : Int) < (i : Int) := by omega
        have E1 : Hid (tx (rowW (S ++ [u])) = tx (rowW S) ++ ⟨#[32]⟩ ++ tx u) := by
          show _ = _
          rw [rowW_snoc, if_neg (HP.out (by omega)), show (⟨#[32]⟩ : ByteArray) = tx [32] from rfl, tx_app, tx_app]
        have E2 : Hid ((rowW (S ++ [u])).length = (rowW S).length + 1 + u.length) := by
          show _ = _
          rw [rowW_snoc, if_neg (HP.out (by omega))]; simp; omega
        have zs := tx_size u
        have zt := tx_size (rowW S)
        have z1 : ¬ (9223372036854775807 : Nat) < (rowW S).length + 1 := by omega
        have z2 : ¬ (9223372036854775807 : Nat) < (rowW S).length + 1 + u.length := by omega
        clear h0
        go_wp2_with fail
        refine (HN.out _).mono ?_
        rintro e w1 ⟨rfl, h1⟩
        replace hb := bthen hb h1
        clear h1 c1
        go_wp2_with fail
        go_roundw
        case rel => exact ⟨i + 1, by omega, by go_num, by rw [HT.out, E1.out], by rw [HT.out, E2.out]; omega, hb⟩
        case measure => simp [intOf]; omega
    · obtain rfl : i = xs.length := by omega
      rw [List.take_length] at hz ⊢
      obtain ⟨S, hS⟩ : ∃ S, rowW (xs.map numT) = S := ⟨_, rfl⟩
      rw [hS] at hz ⊢
      have HS := Lib.hid hS
      clear hS
      have zt := tx_size S
      have z1 : ¬ (9223372036854775807 : Nat) < S.length + 1 := by omega
      have HA : Hid (tx S ++ ⟨#[10]⟩ = tx (S ++ [10])) := by show _ = _; rw [← tx_app]; rfl
      go_wp2_with fail
      go_ret
      exact ⟨by rw [HS.out, ← HA.out]; rfl, hb⟩
end Go.Proofs.YtpalfmgloddhcaaGreatDoor
