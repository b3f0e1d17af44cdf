/- ratio.Parse of short words without a mark between two numbers, and of what Text tells. -/
import Derived.Test.YtpalfmgloddhcaaGreatDoorRpt
import Derived.Test.YtpalfmgloddhcaaGreatDoorXin
namespace Go.Proofs.YtpalfmgloddhcaaGreatDoor
set_option linter.unusedSimpArgs false
set_option linter.unusedVariables false
open Go.RowKit
set_option maxRecDepth 100000
/-- Digits, the first no nought. -/
def dg1 (l : List UInt8) : Bool := !l.isEmpty && l.head? != some 48 && l.all isDig
def wok (u : List UInt8) : Bool := u == [48] || dg1 u || (u.head? == some 45 && dg1 u.tail)
def wv (u : List UInt8) : Int := if wok u then (if u.head? = some 45 then -(numv u.tail : Int) else (numv u : Int)) else 0
theorem val_numv (l : List UInt8) : val (dg (tx l)) = numv l := by
  show val (l.map fun c => c.toNat - 48) = _
  unfold val numv
  rw [List.foldl_map]
theorem pow300 : 10 ^ 300 ≤ bb ^ 32 := by decide +kernel
theorem numv_bb {l : List UInt8} (h : l.length ≤ 300) (hd : ∀ c ∈ l, c.toNat ≤ 57) : numv l < bb ^ 32 := by
  have h1 := numv_lt l.length l rfl hd
  exact Nat.lt_of_lt_of_le (Nat.lt_of_lt_of_le h1 (Nat.pow_le_pow_right (n := 10) (by decide) h)) pow300
theorem digits_tx {l : List UInt8} (h : l.all isDig = true) : Digits (tx l) := fun i hi => by
  rw [tx_get]
  have := List.all_eq_true.1 h _ (List.getElem_mem (by rw [tx_size] at hi; exact hi))
  simpa [isDig] using this
theorem ydig_le {l : List UInt8} (h : l.all isDig = true) : ∀ c ∈ l, c.toNat ≤ 57 := fun c hc => by
  have := List.all_eq_true.1 h c hc
  simp only [isDig, Bool.and_eq_true, decide_eq_true_eq] at this
  exact this.2
theorem dg1_iff (l : List UInt8) : dg1 l = true ↔ l ≠ [] ∧ l.head? ≠ some 48 ∧ l.all isDig = true := by
  unfold dg1
  cases l with
  | nil => simp
  | cons c r => simp [and_assoc]
theorem bad_tx {l : List UInt8} (h : ¬ l.all isDig = true) : ∃ i, ∃ h : i < (tx l).size, (tx l)[i].toNat < 48 ∨ 57 < (tx l)[i].toNat := by
  apply Classical.byContradiction
  intro hn
  refine h ((all_dig l).2 fun i hi => ?_)
  apply Classical.byContradiction
  intro hh
  exact hn ⟨i, hi, by omega⟩
theorem hd_tx {l : List UInt8} (h : 0 < (tx l).size) (c : UInt8) : l.head? = some c ↔ (tx l)[0].toNat = c.toNat := by
  rw [tx_get]
  cases l with
  | nil => simp [tx_size] at h
  | cons d r =>
    simp only [List.head?_cons, Option.some.injEq, List.getElem_cons_zero]
    exact ⟨fun e => by rw [e], fun e => UInt8.toNat_inj.1 e⟩
theorem not_dg1 {l : List UInt8} (h : ¬ dg1 l = true) : (tx l).size = 0 ∨ (∃ h : 0 < (tx l).size, (tx l)[0].toNat = 48) ∨ ∃ i, ∃ h : i < (tx l).size, (tx l)[i].toNat < 48 ∨ 57 < (tx l)[i].toNat := by
  by_cases h0 : l = []
  · exact .inl (by rw [h0]; rfl)
  · have hp : 0 < (tx l).size := by rw [tx_size]; exact List.length_pos_iff.2 h0
    by_cases h1 : l.head? = some 48
    · exact .inr (.inl ⟨hp, (hd_tx hp 48).1 h1⟩)
    · exact .inr (.inr (bad_tx fun h2 => h ((dg1_iff l).2 ⟨h0, h1, h2⟩)))
theorem wparse (u : List UInt8) (h : u.length ≤ 300) : Tl 133 #[.string (tx u)] (.tuple #[vw (wv u), .bool (wok u)]) := fun w => by
  have hs : (tx u).size ≤ 400 := by rw [tx_size]; omega
  by_cases hz : u = [48]
  · subst hz
    have := Parse_zero (tx [48]) w (tx_toList _)
    exact this
  · have hzb : (u == [48]) = false := by rw [beq_eq_false_iff_ne]; exact hz
    by_cases hm : u.head? = some 45
    · obtain ⟨r, rfl⟩ : ∃ r, u = 45 :: r := by
        cases u with
        | nil => simp at hm
        | cons c r => simp at hm; subst hm; exact ⟨r, rfl⟩
      have hX : (tx (45 :: r)).extract 1 (tx (45 :: r)).size = tx r := by rw [tx_extract, tx_size]; simp
      have hp : 0 < (tx (45 :: r)).size := by rw [tx_size]; simp
      have h45 : (tx (45 :: r))[0].toNat = 45 := by rw [tx_get]; rfl
      have hd0 : dg1 (45 :: r) = false := by
        cases hh : dg1 (45 :: r)
        · rfl
        · have := ((dg1_iff _).1 hh).2.2
          simp [isDig] at this
      simp only [List.length_cons] at h
      by_cases hk : dg1 r = true
      · obtain ⟨k1, k2, k3⟩ := (dg1_iff r).1 hk
        have hrp : 0 < (tx r).size := by rw [tx_size]; exact List.length_pos_iff.2 k1
        have hb := numv_bb (by omega) (ydig_le k3)
        have := Parse_neg (tx (45 :: r)) (tx r) w hs hp h45 hX hrp (digits_tx k3) (fun e => k2 ((hd_tx hrp 48).2 e)) (by rw [val_numv]; exact hb)
        rw [val_numv] at this
        have e1 : wok (45 :: r) = true := by unfold wok; rw [hd0, hzb, List.tail_cons, hk]; rfl
        have e2 : wv (45 :: r) = -(numv r : Int) := by unfold wv; rw [if_pos e1, if_pos hm]; rfl
        rw [e1, e2]
        exact this
      · have := Parse_badneg (tx (45 :: r)) (tx r) w hs hp h45 hX (not_dg1 hk)
        have e1 : wok (45 :: r) = false := by unfold wok; rw [hd0, hzb, List.tail_cons, Bool.eq_false_iff.2 hk]; rfl
        have e2 : wv (45 :: r) = 0 := by unfold wv; rw [e1]; rfl
        rw [e1, e2]
        exact this
    · have hmb : (u.head? == some 45) = false := by rw [beq_eq_false_iff_ne]; exact hm
      by_cases hk : dg1 u = true
      · obtain ⟨k1, k2, k3⟩ := (dg1_iff u).1 hk
        have hp : 0 < (tx u).size := by rw [tx_size]; exact List.length_pos_iff.2 k1
        have hb := numv_bb h (ydig_le k3)
        have := Parse_pos (tx u) w hs hp (digits_tx k3) (fun e => k2 ((hd_tx hp 48).2 e)) (by rw [val_numv]; exact hb)
        rw [val_numv] at this
        have e1 : wok u = true := by unfold wok; rw [hzb, hk]; rfl
        have e2 : wv u = (numv u : Int) := by unfold wv; rw [if_pos e1, if_neg hm]
        rw [e1, e2]
        exact this
      · have := Parse_bad (tx u) w hs (by rw [tx_toList]; exact hzb) (fun hh e => hm ((hd_tx hh 45).2 e)) (not_dg1 hk)
        have e1 : wok u = false := by unfold wok; rw [hzb, Bool.eq_false_iff.2 hk, hmb]; rfl
        have e2 : wv u = 0 := by unfold wv; rw [e1]; rfl
        rw [e1, e2]
        exact this
set_option maxHeartbeats 2000000 in
/-- What is above is no number. -/
theorem Parse_above {n : Int} {x y s : ByteArray} {q : Bool} (C : Tl 132 #[.string s, .string ⟨#[47]⟩] (.tuple #[.string x, .string y, .bool q])) (P1 : Tl 133 #[.string x] (.tuple #[vw n, .bool false])) :
    Tl 109 #[.string s] (.tuple #[.agg (rr false 0 false 0).toArray, .bool false]) := fun w => by
  unfold Tl at C P1
  unfold vw at P1
  have HC := Lib.hid C
  have HP1 := Lib.hid P1
  clear C P1
  have b2 := Blk.new w (rr false 0 false 0) 49 rfl
  have hb : Below w.heap.size w (w.alloc (.cells (rr false 0 false 0).toArray 49)) := (Below.refl _ _).alloc (Nat.le_refl _) _
  go_enter Tryz.func109, Tryz.ntmps109
  go_wp2_with (first | (with_reducible refine alR rfl rfl ?_))
  refine (HC.out _).mono ?_
  rintro e w1 ⟨rfl, h1⟩
  replace b2 := b2.call h1
  replace hb := bthen hb h1
  clear h1
  go_wp2_with fail
  refine (HP1.out _).mono ?_
  rintro e w1 ⟨rfl, h1⟩
  replace b2 := b2.call h1
  replace hb := bthen hb h1
  clear h1
  have f := Blk.new w1 (wd false 0) 47 rfl
  have b7 := laid_new w1 (n)
  replace b2 := laid_old b2 (n)
  replace hb := laid_below hb (n)
  go_wp2_with (first | (with_reducible refine alW rfl rfl ?_) | (with_reducible refine stM rfl rfl rfl rfl f (wd_length _ _) ?_) | (with_reducible refine bdR0 rfl rfl ?_) | (with_reducible refine stRr rfl rfl rfl rfl b2 (rr_length _ _ _ _) ?_))
  clear f
  generalize (w1.alloc (.cells (wd false 0).toArray 47)).setRow w1.heap.size (mk (n)).toArray = W at *
  generalize w1.heap.size = pl_b7 at *
  exact ret_ct (cs := rr false 0 false 0) (v := .bool false) rfl rfl rfl rfl (wholeR _ _ _ _) (b2.row _) ⟨rfl, below_row hb (Nat.le_refl _) _⟩
end Go.Proofs.YtpalfmgloddhcaaGreatDoor
