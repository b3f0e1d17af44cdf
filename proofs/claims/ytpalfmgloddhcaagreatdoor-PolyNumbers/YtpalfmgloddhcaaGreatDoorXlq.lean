/- The lines of a text that is laid out of words. -/
import Derived.Test.YtpalfmgloddhcaaGreatDoorXrl
import Derived.Test.YtpalfmgloddhcaaGreatDoorXsm
namespace Go.Proofs.YtpalfmgloddhcaaGreatDoor
set_option linter.unusedSimpArgs false
set_option linter.unusedVariables false
open Go.RowKit
set_option maxRecDepth 100000
/-- The blanks of the three kinds. -/
def blk3 : Nat → List UInt8
  | 0 => [32]
  | 1 => [9, 32]
  | _ => [32, 32, 13]
/-- A word as the statement lets it by. -/
def okc (c : UInt8) : Bool := c != 32 && c != 35 && c != 9 && c != 10 && c != 13
def okw (w : List UInt8) : Prop := w ≠ [] ∧ w.length ≤ 12 ∧ ∀ c ∈ w, okc c = true
def body (b : List UInt8) : List (List UInt8) → List UInt8
  | [] => []
  | w :: r => b ++ w ++ body b r
def rowT (b : List UInt8) (mark : Bool) (ws : List (List UInt8)) : List UInt8 := body b ws ++ (if mark then b ++ [35, 32, 97, 32, 98] else [])
def allT (b : List UInt8) (mark : Bool) : List (List (List UInt8)) → List UInt8
  | [] => []
  | ws :: r => rowT b mark ws ++ 10 :: allT b mark r
def rowsL : Nat → List (List (List UInt8)) → List (Nat × List (List UInt8))
  | _, [] => []
  | n, ws :: r => (if ws = [] then [] else [(n, ws)]) ++ rowsL (n + 1) r
theorem body_snoc (b : List UInt8) (w : List UInt8) : ∀ ws, body b (ws ++ [w]) = body b ws ++ b ++ w
  | [] => by simp [body]
  | v :: r => by
    rw [List.cons_append, body, body_snoc b w r, body]
    simp only [List.append_assoc]
theorem allT_snoc (b : List UInt8) (mark : Bool) (ws : List (List UInt8)) : ∀ M, allT b mark (M ++ [ws]) = allT b mark M ++ (rowT b mark ws ++ [10])
  | [] => by simp [allT]
  | v :: r => by
    rw [List.cons_append, allT, allT_snoc b mark ws r, allT]
    simp only [List.append_assoc, List.cons_append]
theorem rowsL_snoc (ws : List (List UInt8)) : ∀ (M : List (List (List UInt8))) (n : Nat), rowsL n (M ++ [ws]) = rowsL n M ++ (if ws = [] then [] else [(n + M.length, ws)])
  | [], n => by simp [rowsL]
  | v :: r, n => by
    rw [List.cons_append, rowsL, rowsL_snoc ws r (n + 1), rowsL, List.append_assoc]
    rw [show n + 1 + r.length = n + (v :: r).length by simp; omega]
theorem wrds_blank (c : UInt8) (hc : c ∈ bl) (t : List UInt8) : wrds (c :: t) = wrds t := by
  have := splits_at bl t hc [] (by simp)
  rw [List.nil_append] at this
  unfold wrds
  rw [this]
  simp
theorem wrds_blanks : ∀ (b t : List UInt8), (∀ c ∈ b, c ∈ bl) → wrds (b ++ t) = wrds t
  | [], _, _ => rfl
  | c :: b, t, h => by
    rw [List.cons_append, wrds_blank c (h c (List.mem_cons_self ..)), wrds_blanks b t fun x hx => h x (List.mem_cons_of_mem _ hx)]
theorem okc_bl {c : UInt8} (h : okc c = true) : c ∉ bl := by
  intro hm
  rcases (show c = 32 ∨ c = 9 ∨ c = 13 by simpa [bl] using hm) with rfl | rfl | rfl <;> exact absurd h (by decide)
theorem wrds_word {w : List UInt8} (hw : okw w) (t : List UInt8) (ht : t = [] ∨ ∃ c r, t = c :: r ∧ c ∈ bl) : wrds (w ++ t) = w :: wrds t := by
  have hn : ∀ x ∈ w, x ∉ bl := fun x hx => okc_bl (hw.2.2 x hx)
  have hne : w.isEmpty = false := by simpa using hw.1
  rcases ht with rfl | ⟨c, r, rfl, hc⟩
  · rw [List.append_nil, wrds_nil]
    unfold wrds
    rw [splits_all bl w hn]
    simp [hne]
  · rw [wrds_blank c hc]
    unfold wrds
    rw [splits_at bl r hc w hn]
    simp [hne]
theorem wrds_body {b : List UInt8} (hb : ∀ c ∈ b, c ∈ bl) (hne : b ≠ []) : ∀ (ws : List (List UInt8)) (t : List UInt8), (∀ w ∈ ws, okw w) → (t = [] ∨ ∃ c r, t = c :: r ∧ c ∈ bl) → wrds (body b ws ++ t) = ws ++ wrds t
  | [], _, _, _ => rfl
  | w :: r, t, h, ht => by
    rw [body, List.append_assoc, List.append_assoc, wrds_blanks b _ hb, wrds_word (h w (List.mem_cons_self ..))]
    · rw [wrds_body hb hne r t (fun x hx => h x (List.mem_cons_of_mem _ hx)) ht, List.cons_append]
    · cases r with
      | nil => exact ht
      | cons v r =>
        right
        cases b with
        | nil => exact absurd rfl hne
        | cons c b => exact ⟨c, _, rfl, hb c (List.mem_cons_self ..)⟩
theorem ahead_app (p : List UInt8) : ∀ (a t : List UInt8), (∀ x ∈ a, x ∉ p) → ahead p (a ++ t) = a ++ ahead p t
  | [], _, _ => rfl
  | x :: a, t, h => by
    have h1 := h x (List.mem_cons_self ..)
    rw [List.cons_append, ahead, if_neg h1, ahead_app p a t fun y hy => h y (List.mem_cons_of_mem _ hy), List.cons_append]
theorem body_no {b : List UInt8} {d : UInt8} (hb : d ∉ b) (hd : okc d = false) : ∀ ws : List (List UInt8), (∀ w ∈ ws, okw w) → d ∉ body b ws
  | [], _, h => by simp [body] at h
  | w :: r, hw, h => by
    rw [body] at h
    simp only [List.mem_append] at h
    rcases h with (h | h) | h
    · exact hb h
    · have := (hw w (List.mem_cons_self ..)).2.2 d h
      rw [hd] at this
      exact absurd this (by decide)
    · exact body_no hb hd r (fun x hx => hw x (List.mem_cons_of_mem _ hx)) h
/-- What is asked of the blanks. -/
structure Bk (b : List UInt8) : Prop where
  inb : ∀ c ∈ b, c ∈ bl
  ne : b ≠ []
  len : b.length ≤ 3
theorem bk3 : ∀ i, Bk (blk3 i)
  | 0 => ⟨by decide, by decide, by decide⟩
  | 1 => ⟨by decide, by decide, by decide⟩
  | n + 2 => ⟨by show ∀ c ∈ ([32, 32, 13] : List UInt8), c ∈ bl; decide, by show ([32, 32, 13] : List UInt8) ≠ []; decide, by show ([32, 32, 13] : List UInt8).length ≤ 3; decide⟩
theorem Bk.no {b : List UInt8} (h : Bk b) {d : UInt8} (hd : d ∉ bl) : d ∉ b := fun hm => hd (h.inb d hm)
theorem lrow_rowT {b : List UInt8} (hb : Bk b) (mark : Bool) (n : Nat) (ws : List (List UInt8)) (h : ∀ w ∈ ws, okw w) : lrow n (rowT b mark ws) = if ws = [] then [] else [(n, ws)] := by
  have key : wrds (ahead [35] (rowT b mark ws)) = ws := by
    unfold rowT
    have n35 : ∀ x ∈ body b ws, x ∉ ([35] : List UInt8) := fun x hx hm => by
      simp only [List.mem_cons, List.not_mem_nil, or_false] at hm
      subst hm
      exact body_no (hb.no (by decide)) (by decide) ws h hx
    rw [ahead_app [35] _ _ n35]
    cases mark with
    | false =>
      rw [if_neg (by decide), ahead]
      have := wrds_body hb.inb hb.ne ws [] h (.inl rfl)
      rw [this, wrds_nil, List.append_nil]
    | true =>
      rw [if_pos rfl, ahead_app [35] b _ (fun x hx hm => by
        simp only [List.mem_cons, List.not_mem_nil, or_false] at hm
        subst hm
        exact hb.no (by decide) hx)]
      rw [show ahead [35] [35, 32, 97, 32, 98] = [] from by decide, List.append_nil]
      have h2 : ∃ c r, b = c :: r ∧ c ∈ bl := by
        cases hbb : b with
        | nil => exact absurd hbb hb.ne
        | cons c r => exact ⟨c, r, rfl, hb.inb c (by rw [hbb]; exact List.mem_cons_self ..)⟩
      rw [wrds_body hb.inb hb.ne ws b h (.inr h2)]
      have := wrds_blanks b [] hb.inb
      rw [List.append_nil] at this
      rw [this, wrds_nil, List.append_nil]
  unfold lrow
  rw [key]
theorem rowT_no {b : List UInt8} (hb : Bk b) (mark : Bool) (ws : List (List UInt8)) (h : ∀ w ∈ ws, okw w) : ∀ x ∈ rowT b mark ws, x ∉ ([10] : List UInt8) := by
  intro x hx hm
  simp only [List.mem_cons, List.not_mem_nil, or_false] at hm
  subst hm
  unfold rowT at hx
  rcases List.mem_append.1 hx with hx | hx
  · exact body_no (hb.no (by decide)) (by decide) ws h hx
  · cases mark with
    | false => simp at hx
    | true =>
      rw [if_pos rfl] at hx
      rcases List.mem_append.1 hx with hx | hx
      · exact hb.no (by decide) hx
      · exact absurd hx (by decide)
theorem lns_allT {b : List UInt8} (hb : Bk b) (mark : Bool) : ∀ (M : List (List (List UInt8))) (n : Nat), (∀ ws ∈ M, ∀ w ∈ ws, okw w) → lns n (allT b mark M) = rowsL n M
  | [], n, _ => rfl
  | ws :: r, n, h => by
    have hw := h ws (List.mem_cons_self ..)
    rw [allT, lns_at _ _ _ (rowT_no hb mark ws hw), lrow_rowT hb mark n ws hw, lns_allT hb mark r (n + 1) fun x hx => h x (List.mem_cons_of_mem _ hx), rowsL]
theorem body_len {b : List UInt8} (hb : Bk b) : ∀ ws : List (List UInt8), (∀ w ∈ ws, okw w) → (body b ws).length ≤ 15 * ws.length
  | [], _ => Nat.le_refl _
  | w :: r, h => by
    have h1 := body_len hb r fun x hx => h x (List.mem_cons_of_mem _ hx)
    have h2 := (h w (List.mem_cons_self ..)).2.1
    have h3 := hb.len
    simp only [body, List.length_append, List.length_cons]
    omega
theorem rowT_len {b : List UInt8} (hb : Bk b) (mark : Bool) (ws : List (List UInt8)) (h : ∀ w ∈ ws, okw w) : (rowT b mark ws).length ≤ 15 * ws.length + 8 := by
  have h1 := body_len hb ws h
  have h3 := hb.len
  unfold rowT
  cases mark <;> simp <;> omega
theorem allT_len {b : List UInt8} (hb : Bk b) (mark : Bool) : ∀ M : List (List (List UInt8)), (∀ ws ∈ M, ws.length ≤ 6 ∧ ∀ w ∈ ws, okw w) → (allT b mark M).length ≤ 100 * M.length
  | [], _ => Nat.le_refl _
  | ws :: r, h => by
    have h1 := allT_len hb mark r fun x hx => h x (List.mem_cons_of_mem _ hx)
    obtain ⟨h2, h3⟩ := h ws (List.mem_cons_self ..)
    have h4 := rowT_len hb mark ws h3
    simp only [allT, List.length_append, List.length_cons]
    omega
theorem rowsL_len : ∀ (M : List (List (List UInt8))) (n : Nat), (rowsL n M).length ≤ M.length
  | [], _ => Nat.le_refl _
  | ws :: r, n => by
    have := rowsL_len r (n + 1)
    unfold rowsL
    split <;> simp <;> omega
theorem rowsL_in : ∀ (M : List (List (List UInt8))) (n : Nat) p, p ∈ rowsL n M → p.2 ∈ M
  | [], _, _, h => by simp [rowsL] at h
  | ws :: r, n, p, h => by
    unfold rowsL at h
    rcases List.mem_append.1 h with h | h
    · split at h
      · simp at h
      · simp only [List.mem_cons, List.not_mem_nil, or_false] at h
        subst h; exact List.mem_cons_self ..
    · exact List.mem_cons_of_mem _ (rowsL_in r (n + 1) p h)
/-- The slice v reads as these rows of texts. -/
def RdM (w : World) (v : Value) (M : List (List (List UInt8))) : Prop := (M = [] ∧ ∃ a c, v = .slice a 0 c) ∨ ∃ b o c, v = .slice (some ⟨b, o, none⟩) M.length c ∧ M.length ≤ c ∧ ∀ (i : Nat) ws, M[i]? = some ws → ∃ x, w.cell? ⟨b, o + i, none⟩ = some x ∧ RdS w x ws
/-- The cells of some lines, whose rows of words are read. -/
def Lwr (w : World) : List (Nat × List (List UInt8)) → List Value → Prop
  | [], cs => cs = []
  | (n, ws) :: t, cs => ∃ x r, cs = .int .i64 (n : Int) :: x :: r ∧ RdS w x ws ∧ Lwr w t r
theorem Lwr.snoc {w : World} {n : Nat} {ws : List (List UInt8)} {x : Value} (hx : RdS w x ws) : ∀ {L : List (Nat × List (List UInt8))} {cs : List Value}, Lwr w L cs → Lwr w (L ++ [(n, ws)]) (cs ++ [.int .i64 (n : Int), x])
  | [], _, hl => by
    have : _ = [] := hl
    subst this
    exact ⟨x, [], rfl, hx, rfl⟩
  | (m, us) :: t, _, ⟨y, r, e, ho, ht⟩ => by
    subst e
    exact ⟨y, r ++ [.int .i64 (n : Int), x], rfl, ho, Lwr.snoc hx ht⟩
theorem Lwr.get {w : World} : ∀ {L : List (Nat × List (List UInt8))} {cs : List Value}, Lwr w L cs → ∀ (i : Nat) n ws, L[i]? = some (n, ws) → cs[i * 2]? = some (.int .i64 (n : Int)) ∧ ∃ x, cs[i * 2 + 1]? = some x ∧ RdS w x ws
  | [], _, _, _, _, _, h => by simp at h
  | (m, us) :: t, _, ⟨x, r, e, ho, _⟩, 0, n, ws, h => by
    simp at h
    obtain ⟨rfl, rfl⟩ := h
    subst e
    exact ⟨rfl, x, rfl, ho⟩
  | (m, us) :: t, _, ⟨x, r, e, _, ht⟩, i + 1, n, ws, h => by
    subst e
    rw [show (i + 1) * 2 = i * 2 + 1 + 1 by omega]
    simp only [List.getElem?_cons_succ] at h ⊢
    exact Lwr.get ht i n ws h
theorem Lwr.rd {w w' : World} {B : Nat} {v : Value} {L : List (Nat × List (List UInt8))} {cs : List Value} (h1 : w'.ownsRow B 67 2 v L.length cs) (h2 : Lwr w L cs) (hb : Below w.heap.size w w') : RdL w' v L := by
  rcases h1.2 with ⟨rfl, h0⟩ | ⟨g, cap, cur, rfl, _, _, hcap, _⟩
  · exact .inl ⟨List.eq_nil_of_length_eq_zero h0, _, _, rfl⟩
  · refine .inr ⟨g, cap, rfl, hcap, fun i n ws hi => ?_⟩
    obtain ⟨k1, x, k2, k3⟩ := Lwr.get h2 i n ws hi
    have e : ∀ j, (⟨g, j, none⟩ : Addr) = (⟨g, 0, none⟩ : Addr).add j := fun j => by cases j <;> simp [Addr.add]
    exact ⟨by rw [e]; exact h1.cells (g := g) rfl _ _ k1, x, by rw [e]; exact h1.cells (g := g) rfl _ _ k2, k3.below hb⟩
end Go.Proofs.YtpalfmgloddhcaaGreatDoor
