/- lex.natural, lex.Int: the number that a word writes. -/
import Derived.Test.YthcgbchgfdkhiaaDoorXct
import Derived.Test.YthcgbchgfdkhiaaDoorXsh
namespace Go.Proofs.YthcgbchgfdkhiaaDoor
set_option linter.unusedSimpArgs false
set_option linter.unusedVariables false
open Go.RowKit
set_option maxRecDepth 100000
/-- The number that digits write. -/
def numv (l : List UInt8) : Nat := l.foldl (fun n c => n * 10 + (c.toNat - 48)) 0
theorem numv_snoc (l : List UInt8) (c : UInt8) : numv (l ++ [c]) = numv l * 10 + (c.toNat - 48) := by simp [numv]
def isDig (c : UInt8) : Bool := 48 ≤ c.toNat && c.toNat ≤ 57
theorem snoc_cases : ∀ l : List UInt8, l ≠ [] → ∃ a c, l = a ++ [c]
  | [], h => absurd rfl h
  | [c], _ => ⟨[], c, rfl⟩
  | c :: d :: r, _ => by
    obtain ⟨a, x, e⟩ := snoc_cases (d :: r) (List.cons_ne_nil _ _)
    exact ⟨c :: a, x, by rw [e]; rfl⟩
theorem numv_lt : ∀ (n : Nat) (l : List UInt8), l.length = n → (∀ c ∈ l, c.toNat ≤ 57) → numv l < 10 ^ n
  | 0, l, h, _ => by
    have := List.eq_nil_of_length_eq_zero h
    subst this; decide
  | n + 1, l, h, hd => by
    obtain ⟨a, c, rfl⟩ := snoc_cases l (by intro e; subst e; simp at h)
    have h1 := numv_lt n a (by simpa using h) fun c hc => hd c (List.mem_append_left _ hc)
    have h2 := hd c (by simp)
    rw [numv_snoc, Nat.pow_succ]
    omega
/-- A number without a sign: of one to nine digits, without a nought ahead. -/
def natOk (l : List UInt8) : Bool := !l.isEmpty && decide (l.length ≤ 9) && (decide (l.length ≤ 1) || !(l.head? == some 48)) && l.all isDig
theorem vint_eq {k : IntKind} {a b : Int} (h : a = b) : Value.int k a = Value.int k b := by rw [h]
theorem dl_len (s : ByteArray) : s.data.toList.length = s.size := by rw [Array.length_toList]; rfl
theorem dl_take (s : ByteArray) (k : Nat) (h : k < s.size) : s.data.toList.take (k + 1) = s.data.toList.take k ++ [s[k]] := by
  rw [List.take_add_one, List.getElem?_eq_getElem (by rw [dl_len]; exact h)]
  rfl
theorem ne_empty (s : ByteArray) (h : 0 < s.size) : s.toList.isEmpty = false := by
  rw [Lib.toList_data]
  cases e : s.data.toList with
  | nil => have := dl_len s; rw [e] at this; simp at this; omega
  | cons => rfl
theorem is_empty (s : ByteArray) (h : s.size = 0) : s.toList.isEmpty = true := by
  rw [Lib.toList_data]
  cases e : s.data.toList with
  | nil => rfl
  | cons => have := dl_len s; rw [e] at this; simp at this; omega
set_option maxHeartbeats 4000000 in
theorem natural_yes (s : ByteArray) (w : World) (h0 : 0 < s.size) (hs : s.size ≤ 9) (h1 : s.size = 1 ∨ s[0].toNat ≠ 48) (hd : ∀ i (h : i < s.size), 48 ≤ s[i].toNat ∧ s[i].toNat ≤ 57) :
    Calls Tryd.prog 36 #[.string s] w fun e w' => e = .returned (.tuple #[.int .i64 (numv s.data.toList : Nat), .bool true]) ∧ w' = w := by
  have g0 := ne_empty s h0
  have g1 : ¬ (9 : Int) < (s.size : Int) := by omega
  have HD := Lib.hid hd
  have HL : Hid (∀ k, k ≤ s.size → numv (s.data.toList.take k) < 1000000000) := by
    show ∀ k, k ≤ s.size → numv (s.data.toList.take k) < 1000000000
    intro k hk
    have h := numv_lt k (s.data.toList.take k) (by rw [List.length_take, dl_len]; omega) fun c hc => by
      obtain ⟨i, hi, e⟩ := List.mem_iff_getElem.1 (List.mem_of_mem_take hc)
      rw [dl_len] at hi
      have := (hd i hi).2
      have e2 : s[i] = c := by rw [← e]; rfl
      rw [← e2]; exact this
    exact Nat.lt_of_lt_of_le h (Nat.pow_le_pow_right (n := 10) (by decide) (show k ≤ 9 by omega))
  clear hd
  rcases Nat.lt_or_ge 1 s.size with h2 | h2
  · have g2 : (1 : Int) < (s.size : Int) := by omega
    have g3 : ((s[0].toNat : Int) == 48) = false := by rw [beq_eq_false_iff_ne]; omega
    clear h1
    go_enter Tryd.func36, Tryd.ntmps36
    go_wp2
    go_loop [4, 25] (fun n i => ∃ k : Nat, k ≤ s.size ∧ i = .int .i64 k ∧ n = .int .i64 (numv (s.data.toList.take k) : Nat)) (fun _ i => s.size - (intOf i).toNat)
    case atStart => exact ⟨0, Nat.zero_le _, rfl, rfl⟩
    case round =>
      obtain ⟨k, hk, rfl, rfl⟩ := hrel
      have hy := HL.out k hk
      by_cases hlt : k < s.size
      · have h2 := (HD.out k hlt).1
        have h3 := (HD.out k hlt).2
        have e := numv_snoc (s.data.toList.take k) s[k]
        rw [← dl_take s k hlt] at e
        have HE := Lib.hid e
        clear e
        generalize numv (s.data.toList.take k) = y at *
        have g5 : ¬ (s[k].toNat : Int) < 48 := by omega
        have g6 : ¬ (57 : Int) < (s[k].toNat : Int) := by omega
        go_wp2
        go_round
        case rel => exact ⟨k + 1, by omega, by go_num, vint_eq (by rw [HE.out]; omega)⟩
        case measure => simp [intOf]; omega
      · obtain rfl : k = s.size := by omega
        have e : s.data.toList.take s.size = s.data.toList := by rw [← dl_len, List.take_length]
        rw [e]
        go_wp2
        go_ret2
        exact ⟨rfl, rfl⟩
  · have g2 : ¬ (1 : Int) < (s.size : Int) := by omega
    clear h1
    go_enter Tryd.func36, Tryd.ntmps36
    go_wp2
    go_loop [4, 25] (fun n i => ∃ k : Nat, k ≤ s.size ∧ i = .int .i64 k ∧ n = .int .i64 (numv (s.data.toList.take k) : Nat)) (fun _ i => s.size - (intOf i).toNat)
    case atStart => exact ⟨0, Nat.zero_le _, rfl, rfl⟩
    case round =>
      obtain ⟨k, hk, rfl, rfl⟩ := hrel
      have hy := HL.out k hk
      by_cases hlt : k < s.size
      · have h2 := (HD.out k hlt).1
        have h3 := (HD.out k hlt).2
        have e := numv_snoc (s.data.toList.take k) s[k]
        rw [← dl_take s k hlt] at e
        have HE := Lib.hid e
        clear e
        generalize numv (s.data.toList.take k) = y at *
        have g5 : ¬ (s[k].toNat : Int) < 48 := by omega
        have g6 : ¬ (57 : Int) < (s[k].toNat : Int) := by omega
        go_wp2
        go_round
        case rel => exact ⟨k + 1, by omega, by go_num, vint_eq (by rw [HE.out]; omega)⟩
        case measure => simp [intOf]; omega
      · obtain rfl : k = s.size := by omega
        have e : s.data.toList.take s.size = s.data.toList := by rw [← dl_len, List.take_length]
        rw [e]
        go_wp2
        go_ret2
        exact ⟨rfl, rfl⟩
set_option maxHeartbeats 4000000 in
theorem natural_no (s : ByteArray) (w : World) (hs : s.size ≤ 1000000) (h : s.size = 0 ∨ 9 < s.size ∨ (∃ h : 1 < s.size, s[0].toNat = 48) ∨ ∃ i, ∃ h : i < s.size, s[i].toNat < 48 ∨ 57 < s[i].toNat) :
    Calls Tryd.prog 36 #[.string s] w fun e w' => e = .returned (.tuple #[.int .i64 0, .bool false]) ∧ w' = w := by
  by_cases h0 : s.size = 0
  · have g0 := is_empty s h0
    clear h h0
    go_enter Tryd.func36, Tryd.ntmps36
    go_wp2
    go_ret2
    exact ⟨rfl, rfl⟩
  · have g0 := ne_empty s (by omega)
    by_cases h9 : 9 < s.size
    · have g1 : (9 : Int) < (s.size : Int) := by omega
      clear h h0
      go_enter Tryd.func36, Tryd.ntmps36
      go_wp2
      go_ret2
      exact ⟨rfl, rfl⟩
    · have g1 : ¬ (9 : Int) < (s.size : Int) := by omega
      have hp : 0 < s.size := by omega
      by_cases h1 : 1 < s.size ∧ s[0].toNat = 48
      · have g2 : (1 : Int) < (s.size : Int) := by omega
        have g3 : ((s[0].toNat : Int) == 48) = true := by rw [beq_iff_eq]; omega
        clear h h0
        go_enter Tryd.func36, Tryd.ntmps36
        go_wp2
        go_ret2
        exact ⟨rfl, rfl⟩
      · have hbad : ∃ i, ∃ h : i < s.size, s[i].toNat < 48 ∨ 57 < s[i].toNat := by
          rcases h with h | h | ⟨a, h⟩ | h
          · exact absurd h h0
          · exact absurd h h9
          · exact absurd ⟨a, h⟩ h1
          · exact h
        obtain ⟨j, hj, hjb⟩ := hbad
        have HJ := Lib.hid hjb
        clear h h0 hjb
        rcases Nat.lt_or_ge 1 s.size with h2 | h2
        · have g2 : (1 : Int) < (s.size : Int) := by omega
          have g3 : ((s[0].toNat : Int) == 48) = false := by
            rw [beq_eq_false_iff_ne]; intro e; exact h1 ⟨h2, by omega⟩
          clear h1
          go_enter Tryd.func36, Tryd.ntmps36
          go_wp2
          go_loop [4, 25] (fun n i => ∃ k : Nat, k ≤ j ∧ i = .int .i64 k ∧ ∃ m : Int, n = .int .i64 m) (fun _ i => s.size - (intOf i).toNat)
          case atStart => exact ⟨0, Nat.zero_le _, rfl, 0, rfl⟩
          case round =>
            obtain ⟨k, hk, rfl, m, rfl⟩ := hrel
            have hlt : k < s.size := by omega
            by_cases h3 : s[k].toNat < 48
            · have g5 : (s[k].toNat : Int) < 48 := by omega
              go_wp2
              go_ret2
              exact ⟨rfl, rfl⟩
            · by_cases h4 : 57 < s[k].toNat
              · have g5 : ¬ (s[k].toNat : Int) < 48 := by omega
                have g6 : (57 : Int) < (s[k].toNat : Int) := by omega
                go_wp2
                go_ret2
                exact ⟨rfl, rfl⟩
              · have g5 : ¬ (s[k].toNat : Int) < 48 := by omega
                have g6 : ¬ (57 : Int) < (s[k].toNat : Int) := by omega
                have hkj : k < j := by
                  rcases Nat.lt_or_ge k j with h | h
                  · exact h
                  · obtain rfl : k = j := by omega
                    rcases HJ.out with h | h
                    · exact absurd h h3
                    · exact absurd h h4
                go_wp2
                go_round
                case rel => exact ⟨k + 1, by omega, by go_num, _, rfl⟩
                case measure => simp [intOf]; omega
        · have g2 : ¬ (1 : Int) < (s.size : Int) := by omega
          clear h1
          go_enter Tryd.func36, Tryd.ntmps36
          go_wp2
          go_loop [4, 25] (fun n i => ∃ k : Nat, k ≤ j ∧ i = .int .i64 k ∧ ∃ m : Int, n = .int .i64 m) (fun _ i => s.size - (intOf i).toNat)
          case atStart => exact ⟨0, Nat.zero_le _, rfl, 0, rfl⟩
          case round =>
            obtain ⟨k, hk, rfl, m, rfl⟩ := hrel
            have hlt : k < s.size := by omega
            by_cases h3 : s[k].toNat < 48
            · have g5 : (s[k].toNat : Int) < 48 := by omega
              go_wp2
              go_ret2
              exact ⟨rfl, rfl⟩
            · by_cases h4 : 57 < s[k].toNat
              · have g5 : ¬ (s[k].toNat : Int) < 48 := by omega
                have g6 : (57 : Int) < (s[k].toNat : Int) := by omega
                go_wp2
                go_ret2
                exact ⟨rfl, rfl⟩
              · have g5 : ¬ (s[k].toNat : Int) < 48 := by omega
                have g6 : ¬ (57 : Int) < (s[k].toNat : Int) := by omega
                have hkj : k < j := by
                  rcases Nat.lt_or_ge k j with h | h
                  · exact h
                  · obtain rfl : k = j := by omega
                    rcases HJ.out with h | h
                    · exact absurd h h3
                    · exact absurd h h4
                go_wp2
                go_round
                case rel => exact ⟨k + 1, by omega, by go_num, _, rfl⟩
                case measure => simp [intOf]; omega
theorem all_dig (l : List UInt8) : l.all isDig = true ↔ ∀ i (h : i < (tx l).size), 48 ≤ (tx l)[i].toNat ∧ (tx l)[i].toNat ≤ 57 := by
  constructor
  · intro h i hi
    rw [tx_get]
    have := List.all_eq_true.1 h _ (List.getElem_mem (by rw [tx_size] at hi; exact hi))
    simpa [isDig] using this
  · intro h
    rw [List.all_eq_true]
    intro c hc
    obtain ⟨i, hi, e⟩ := List.mem_iff_getElem.1 hc
    have := h i (by rw [tx_size]; exact hi)
    rw [tx_get, e] at this
    simpa [isDig] using this
/-- What natural answers. -/
def natA (l : List UInt8) : Value := if natOk l then .tuple #[.int .i64 (numv l : Nat), .bool true] else .tuple #[.int .i64 0, .bool false]
theorem natural_any (l : List UInt8) (w : World) (hl : l.length ≤ 1000000) : Calls Tryd.prog 36 #[.string (tx l)] w fun e w' => e = .returned (natA l) ∧ w' = w := by
  have hz : ∀ h : 0 < (tx l).size, (l.head? = some 48 ↔ (tx l)[0].toNat = 48) := by
    intro h
    rw [tx_get]
    cases l with
    | nil => simp [tx_size] at h
    | cons c r =>
      simp only [List.head?_cons, Option.some.injEq, List.getElem_cons_zero]
      exact ⟨fun e => by rw [e]; rfl, fun e => UInt8.toNat_inj.1 e⟩
  by_cases h0 : l = []
  · rw [show natA l = .tuple #[.int .i64 0, .bool false] by subst h0; rfl]
    exact natural_no _ w (by rw [tx_size]; exact hl) (.inl (by rw [tx_size, h0]; rfl))
  · have hp : 0 < l.length := List.length_pos_iff.2 h0
    have hp' : 0 < (tx l).size := by rw [tx_size]; exact hp
    have he : l.isEmpty = false := by simpa using h0
    by_cases h9 : l.length ≤ 9
    · by_cases h1 : l.length ≤ 1 ∨ l.head? ≠ some 48
      · by_cases hd : l.all isDig = true
        · have e : natOk l = true := by
            unfold natOk
            rw [he, hd]
            rcases h1 with h1 | h1 <;> simp [h9, h1]
          unfold natA
          rw [if_pos e]
          exact natural_yes (tx l) w hp' (by rw [tx_size]; exact h9) (by
            rcases h1 with h1 | h1
            · exact .inl (by rw [tx_size]; omega)
            · exact .inr fun e => h1 ((hz hp').2 e)) ((all_dig l).1 hd)
        · have e : natOk l = false := by
            unfold natOk
            rw [Bool.eq_false_iff.2 hd]
            simp
          unfold natA
          rw [if_neg (by rw [e]; decide)]
          refine natural_no _ w (by rw [tx_size]; exact hl) (.inr (.inr (.inr ?_)))
          apply Classical.byContradiction
          intro hn
          refine hd ((all_dig l).2 fun i hi => ?_)
          apply Classical.byContradiction
          intro hh
          exact hn ⟨i, hi, by omega⟩
      · have hh : 1 < l.length ∧ l.head? = some 48 := by
          constructor
          · apply Classical.byContradiction; intro h; exact h1 (.inl (by omega))
          · apply Classical.byContradiction; intro h; exact h1 (.inr h)
        have e : natOk l = false := by
          unfold natOk
          rw [hh.2, decide_eq_false (show ¬ l.length ≤ 1 by omega)]
          simp
        unfold natA
        rw [if_neg (by rw [e]; decide)]
        exact natural_no _ w (by rw [tx_size]; exact hl) (.inr (.inr (.inl ⟨by rw [tx_size]; exact hh.1, (hz hp').1 hh.2⟩)))
    · have e : natOk l = false := by
        unfold natOk
        rw [decide_eq_false h9]
        simp
      unfold natA
      rw [if_neg (by rw [e]; decide)]
      exact natural_no _ w (by rw [tx_size]; exact hl) (.inr (.inl (by rw [tx_size]; omega)))
/-- The number that a word writes, if it does. -/
def intOk (l : List UInt8) : Bool := if l.head? = some 45 then natOk l.tail && numv l.tail != 0 else natOk l
def intV (l : List UInt8) : Int := if l.head? = some 45 then -(numv l.tail : Int) else (numv l : Int)
def intA (l : List UInt8) : Value := if intOk l then .tuple #[.int .i64 (intV l), .bool true] else .tuple #[.int .i64 0, .bool false]
theorem numv_ok {l : List UInt8} (h : natOk l = true) : numv l < 1000000000 := by
  simp only [natOk, Bool.and_eq_true, decide_eq_true_eq] at h
  have h1 := numv_lt l.length l rfl fun c hc => by
    have := List.all_eq_true.1 h.2 c hc
    simp only [isDig, Bool.and_eq_true, decide_eq_true_eq] at this
    exact this.2
  exact Nat.lt_of_lt_of_le h1 (Nat.pow_le_pow_right (n := 10) (by decide) h.1.1.2)
set_option maxHeartbeats 2000000 in
theorem Int_any (l : List UInt8) (w : World) (hl : l.length ≤ 1000000) : Calls Tryd.prog 30 #[.string (tx l)] w fun e w' => e = .returned (intA l) ∧ w' = w := by
  have HP := Lib.hid fun w => Tryd.strings_CutPrefix (tx l) ⟨#[45]⟩ w
  by_cases hm : l.head? = some 45
  · obtain ⟨r, rfl⟩ : ∃ r, l = 45 :: r := by
      cases l with
      | nil => simp at hm
      | cons c r => simp at hm; subst hm; exact ⟨r, rfl⟩
    have e1 : Lib.trimPrefix (tx (45 :: r)).data.toList (⟨#[45]⟩ : ByteArray).data.toList = r := by
      simp [tx, Lib.trimPrefix, Lib.hasPrefix]
    have e2 : Lib.hasPrefix (tx (45 :: r)).data.toList (⟨#[45]⟩ : ByteArray).data.toList = true := by
      simp [tx, Lib.hasPrefix]
    have HP' : Hid (∀ w, Calls Tryd.prog 35 #[.string (tx (45 :: r)), .string ⟨#[45]⟩] w fun e w' => e = .returned (.tuple #[.string (tx r), .bool true]) ∧ w' = w) := by
      show ∀ w, _
      intro w
      have := HP.out w
      rw [e1, e2] at this
      exact this
    have HN := Lib.hid fun w => natural_any r w (by simp at hl; omega)
    clear HP e1 e2 hm
    cases hk : natOk r with
    | true =>
      have hb := numv_ok hk
      by_cases hz : numv r = 0
      · have g : ((numv r : Int) == 0) = true := by rw [hz]; rfl
        have eA : natA r = .tuple #[.int .i64 (numv r : Nat), .bool true] := by unfold natA; rw [if_pos hk]
        have eR : intA (45 :: r) = .tuple #[.int .i64 0, .bool false] := by simp [intA, intOk, hz]
        rw [eR]
        have HN' := Lib.hid fun w => eA ▸ HN.out w
        clear HN eA eR hz hk
        go_enter Tryd.func30, Tryd.ntmps30
        go_wp2_with fail
        refine (HP'.out _).mono ?_
        rintro e w1 ⟨rfl, rfl⟩
        go_wp2_with fail
        refine (HN'.out _).mono ?_
        rintro e w1 ⟨rfl, rfl⟩
        go_wp2
        go_ret2
        exact ⟨rfl, rfl⟩
      · have g : ((numv r : Int) == 0) = false := by rw [beq_eq_false_iff_ne]; omega
        have eA : natA r = .tuple #[.int .i64 (numv r : Nat), .bool true] := by unfold natA; rw [if_pos hk]
        have eR : intA (45 :: r) = .tuple #[.int .i64 (-(numv r : Int)), .bool true] := by simp [intA, intOk, intV, hk, hz]
        rw [eR]
        have HN' := Lib.hid fun w => eA ▸ HN.out w
        clear HN eA eR hz hk
        go_enter Tryd.func30, Tryd.ntmps30
        go_wp2_with fail
        refine (HP'.out _).mono ?_
        rintro e w1 ⟨rfl, rfl⟩
        go_wp2_with fail
        refine (HN'.out _).mono ?_
        rintro e w1 ⟨rfl, rfl⟩
        go_wp2
        go_ret2
        exact ⟨rfl, rfl⟩
    | false =>
      have eA : natA r = .tuple #[.int .i64 0, .bool false] := by unfold natA; rw [hk]; rfl
      have eR : intA (45 :: r) = .tuple #[.int .i64 0, .bool false] := by simp [intA, intOk, hk]
      rw [eR]
      have HN' := Lib.hid fun w => eA ▸ HN.out w
      clear HN eA eR hk
      go_enter Tryd.func30, Tryd.ntmps30
      go_wp2_with fail
      refine (HP'.out _).mono ?_
      rintro e w1 ⟨rfl, rfl⟩
      go_wp2_with fail
      refine (HN'.out _).mono ?_
      rintro e w1 ⟨rfl, rfl⟩
      go_wp2
      go_ret2
      exact ⟨rfl, rfl⟩
  · have e2 : Lib.hasPrefix (tx l).data.toList (⟨#[45]⟩ : ByteArray).data.toList = false := by
      cases l with
      | nil => simp [tx, Lib.hasPrefix]
      | cons c r =>
        have : c ≠ 45 := by simpa using hm
        show List.isPrefixOf [45] (c :: r) = false
        simp [List.isPrefixOf, Ne.symm this]
    have e1 : Lib.trimPrefix (tx l).data.toList (⟨#[45]⟩ : ByteArray).data.toList = l := by
      simp only [Lib.trimPrefix, e2]; rfl
    have HP' : Hid (∀ w, Calls Tryd.prog 35 #[.string (tx l), .string ⟨#[45]⟩] w fun e w' => e = .returned (.tuple #[.string (tx l), .bool false]) ∧ w' = w) := by
      show ∀ w, _
      intro w
      have := HP.out w
      rw [e1, e2] at this
      exact this
    have HN := Lib.hid fun w => natural_any l w hl
    clear HP e1 e2
    cases hk : natOk l with
    | true =>
      have hb := numv_ok hk
      have eA : natA l = .tuple #[.int .i64 (numv l : Nat), .bool true] := by unfold natA; rw [if_pos hk]
      have eR : intA l = .tuple #[.int .i64 (numv l : Nat), .bool true] := by simp [intA, intOk, intV, hk, hm]
      rw [eR]
      have HN' := Lib.hid fun w => eA ▸ HN.out w
      clear HN eA eR hk hm
      go_enter Tryd.func30, Tryd.ntmps30
      go_wp2_with fail
      refine (HP'.out _).mono ?_
      rintro e w1 ⟨rfl, rfl⟩
      go_wp2_with fail
      refine (HN'.out _).mono ?_
      rintro e w1 ⟨rfl, rfl⟩
      go_wp2
      go_ret2
      exact ⟨rfl, rfl⟩
    | false =>
      have eA : natA l = .tuple #[.int .i64 0, .bool false] := by unfold natA; rw [hk]; rfl
      have eR : intA l = .tuple #[.int .i64 0, .bool false] := by simp [intA, intOk, hk, hm]
      rw [eR]
      have HN' := Lib.hid fun w => eA ▸ HN.out w
      clear HN eA eR hk hm
      go_enter Tryd.func30, Tryd.ntmps30
      go_wp2_with fail
      refine (HP'.out _).mono ?_
      rintro e w1 ⟨rfl, rfl⟩
      go_wp2_with fail
      refine (HN'.out _).mono ?_
      rintro e w1 ⟨rfl, rfl⟩
      go_wp2
      go_ret2
      exact ⟨rfl, rfl⟩
end Go.Proofs.YthcgbchgfdkhiaaDoor
