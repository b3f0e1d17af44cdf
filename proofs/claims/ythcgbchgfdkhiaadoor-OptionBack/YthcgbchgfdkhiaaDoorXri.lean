/- parquetref6.Int: the document's number of a word. -/
import Derived.Test.YthcgbchgfdkhiaaDoorXin
namespace Go.Proofs.YthcgbchgfdkhiaaDoor
set_option linter.unusedSimpArgs false
set_option linter.unusedVariables false
open Go.RowKit
set_option maxRecDepth 100000
theorem numv_in (s : ByteArray) (hs : s.size ≤ 9) (hd : ∀ i (h : i < s.size), 48 ≤ s[i].toNat ∧ s[i].toNat ≤ 57) : ∀ k, k ≤ s.size → numv (s.data.toList.take k) < 1000000000 := by
  intro k hk
  have h := numv_lt k (s.data.toList.take k) (by rw [List.length_take, dl_len]; omega) fun c hc => by
    obtain ⟨i, hi, e⟩ := List.mem_iff_getElem.1 (List.mem_of_mem_take hc)
    rw [dl_len] at hi
    have := (hd i hi).2
    have e2 : s[i] = c := by rw [← e]; rfl
    rw [← e2]; exact this
  exact Nat.lt_of_lt_of_le h (Nat.pow_le_pow_right (n := 10) (by decide) (show k ≤ 9 by omega))
set_option maxHeartbeats 4000000 in
theorem rneg_yes (s t : ByteArray) (w : World) (hs : s.size = t.size + 1) (g0 : s[0].toNat = 45) (hX : s.extract 1 (t.size + 1) = t) (h0 : 0 < t.size) (h9 : t.size ≤ 9) (h1 : t[0].toNat ≠ 48) (hd : ∀ i (h : i < t.size), 48 ≤ t[i].toNat ∧ t[i].toNat ≤ 57) :
    Calls Tryd.prog 16 #[.string s] w fun e w' => e = .returned (.tuple #[.int .i64 (-(numv t.data.toList : Int)), .bool true]) ∧ w' = w := by
  have HL := Lib.hid (numv_in t h9 hd)
  have HD := Lib.hid hd
  have g1 : ((s[0].toNat : Int) == 45) = true := by rw [g0]; rfl
  have g2 : ¬ ((t.size : Int)) < 1 := by omega
  have g3 : ¬ (9 : Int) < (t.size : Int) := by omega
  have g4 : ((t[0].toNat : Int) == 48) = false := by rw [beq_eq_false_iff_ne]; omega
  clear hd g0 h1
  go_enter Tryd.func16, Tryd.ntmps16
  go_wp2_with fail
  go_loop [5, 6] (fun n i => ∃ k : Nat, k ≤ t.size ∧ i = .int .i64 k ∧ n = .int .i64 (numv (t.data.toList.take k) : Nat)) (fun _ i => t.size - (intOf i).toNat)
  case atStart => exact ⟨0, Nat.zero_le _, rfl, rfl⟩
  case round =>
    obtain ⟨k, hk, rfl, rfl⟩ := hrel
    have hy := HL.out k hk
    by_cases hlt : k < t.size
    · have h2 := (HD.out k hlt).1
      have h3 := (HD.out k hlt).2
      have e := numv_snoc (t.data.toList.take k) t[k]
      rw [← dl_take t k hlt] at e
      have HE := Lib.hid e
      clear e
      generalize numv (t.data.toList.take k) = y at *
      have g5 : ¬ (t[k].toNat : Int) < 48 := by omega
      have g6 : ¬ (57 : Int) < (t[k].toNat : Int) := by omega
      go_wp2
      go_round
      case rel => exact ⟨k + 1, by omega, by go_num, vint_eq (by rw [HE.out]; omega)⟩
      case measure => simp [intOf]; omega
    · obtain rfl : k = t.size := by omega
      have e : t.data.toList.take t.size = t.data.toList := by rw [← dl_len, List.take_length]
      rw [e] at hy ⊢
      obtain ⟨y, hyq⟩ : ∃ y, numv t.data.toList = y := ⟨_, rfl⟩
      rw [hyq] at hy ⊢
      have HY := Lib.hid hyq
      clear hyq e
      go_wp2
      go_ret2
      exact ⟨by rw [HY.out]; rfl, rfl⟩
set_option maxHeartbeats 4000000 in
theorem rneg_no (s t : ByteArray) (w : World) (hs : s.size = t.size + 1) (hl : t.size ≤ 1000000) (g0 : s[0].toNat = 45) (hX : s.extract 1 (t.size + 1) = t) (h : t.size = 0 ∨ 9 < t.size ∨ (∃ h : 0 < t.size, t[0].toNat = 48) ∨ ∃ i, ∃ h : i < t.size, t[i].toNat < 48 ∨ 57 < t[i].toNat) :
    Calls Tryd.prog 16 #[.string s] w fun e w' => e = .returned (.tuple #[.int .i64 0, .bool false]) ∧ w' = w := by
  have g1 : ((s[0].toNat : Int) == 45) = true := by rw [g0]; rfl
  clear g0
  by_cases h0 : t.size = 0
  · have g2 : ((t.size : Int)) < 1 := by omega
    clear h h0
    go_enter Tryd.func16, Tryd.ntmps16
    go_wp2_with fail
    go_ret2
    exact ⟨rfl, rfl⟩
  · have g2 : ¬ ((t.size : Int)) < 1 := by omega
    have hp : 0 < t.size := by omega
    by_cases h9 : 9 < t.size
    · have g3 : (9 : Int) < (t.size : Int) := by omega
      clear h h0
      go_enter Tryd.func16, Tryd.ntmps16
      go_wp2_with fail
      go_ret2
      exact ⟨rfl, rfl⟩
    · have g3 : ¬ (9 : Int) < (t.size : Int) := by omega
      by_cases h1 : t[0].toNat = 48
      · have g4 : ((t[0].toNat : Int) == 48) = true := by rw [h1]; rfl
        have g5 : (1 : Int) < (t.size : Int) + 1 := by omega
        clear h h0 h1
        go_enter Tryd.func16, Tryd.ntmps16
        go_wp2_with fail
        go_ret2
        exact ⟨rfl, rfl⟩
      · have g4 : ((t[0].toNat : Int) == 48) = false := by rw [beq_eq_false_iff_ne]; omega
        have hbad : ∃ i, ∃ h : i < t.size, t[i].toNat < 48 ∨ 57 < t[i].toNat := by
          rcases h with h | h | ⟨_, h⟩ | h
          · exact absurd h h0
          · exact absurd h h9
          · exact absurd h h1
          · exact h
        obtain ⟨j, hj, hjb⟩ := hbad
        have HJ := Lib.hid hjb
        clear h h0 h1 hjb
        go_enter Tryd.func16, Tryd.ntmps16
        go_wp2_with fail
        go_loop [5, 6] (fun n i => ∃ k : Nat, k ≤ j ∧ i = .int .i64 k ∧ ∃ m : Int, n = .int .i64 m) (fun _ i => t.size - (intOf i).toNat)
        case atStart => exact ⟨0, Nat.zero_le _, rfl, 0, rfl⟩
        case round =>
          obtain ⟨k, hk, rfl, m, rfl⟩ := hrel
          have hlt : k < t.size := by omega
          by_cases h3 : t[k].toNat < 48
          · have g5 : (t[k].toNat : Int) < 48 := by omega
            go_wp2
            go_ret2
            exact ⟨rfl, rfl⟩
          · by_cases h4 : 57 < t[k].toNat
            · have g5 : ¬ (t[k].toNat : Int) < 48 := by omega
              have g6 : (57 : Int) < (t[k].toNat : Int) := by omega
              go_wp2
              go_ret2
              exact ⟨rfl, rfl⟩
            · have g5 : ¬ (t[k].toNat : Int) < 48 := by omega
              have g6 : ¬ (57 : Int) < (t[k].toNat : Int) := by omega
              have hkj : k < j := by
                rcases Nat.lt_or_ge k j with h | h
                · exact h
                · obtain rfl : k = j := by omega
                  rcases HJ.out with h | h
                  · exact absurd h h3
                  · exact absurd h h4
              go_wp2
              go_round
              case rel => exact ⟨k + 1, by omega, by go_num, _, rfl⟩
              case measure => simp [intOf]; omega
set_option maxHeartbeats 4000000 in
theorem rpos_yes (s : ByteArray) (w : World) (h0 : 0 < s.size) (h9 : s.size ≤ 9) (g0 : s[0].toNat ≠ 45) (h1 : s.size = 1 ∨ s[0].toNat ≠ 48) (hd : ∀ i (h : i < s.size), 48 ≤ s[i].toNat ∧ s[i].toNat ≤ 57) :
    Calls Tryd.prog 16 #[.string s] w fun e w' => e = .returned (.tuple #[.int .i64 (numv s.data.toList : Int), .bool true]) ∧ w' = w := by
  have HL := Lib.hid (numv_in s h9 hd)
  have HD := Lib.hid hd
  have g1 : ((s[0].toNat : Int) == 45) = false := by rw [beq_eq_false_iff_ne]; omega
  have g2 : ¬ ((s.size : Int)) < 1 := by omega
  have g3 : ¬ (9 : Int) < (s.size : Int) := by omega
  clear hd g0
  by_cases h4 : s[0].toNat = 48
  · have g4 : ((s[0].toNat : Int) == 48) = true := by rw [h4]; rfl
    have g5 : ¬ (1 : Int) < (s.size : Int) := by omega
    clear h1 h4
    go_enter Tryd.func16, Tryd.ntmps16
    go_wp2_with fail
    go_loop [5, 6] (fun n i => ∃ k : Nat, k ≤ s.size ∧ i = .int .i64 k ∧ n = .int .i64 (numv (s.data.toList.take k) : Nat)) (fun _ i => s.size - (intOf i).toNat)
    case atStart => exact ⟨0, Nat.zero_le _, rfl, rfl⟩
    case round =>
      obtain ⟨k, hk, rfl, rfl⟩ := hrel
      have hy := HL.out k hk
      by_cases hlt : k < s.size
      · have h2 := (HD.out k hlt).1
        have h3 := (HD.out k hlt).2
        have e := numv_snoc (s.data.toList.take k) s[k]
        rw [← dl_take s k hlt] at e
        have HE := Lib.hid e
        clear e
        generalize numv (s.data.toList.take k) = y at *
        have g5 : ¬ (s[k].toNat : Int) < 48 := by omega
        have g6 : ¬ (57 : Int) < (s[k].toNat : Int) := by omega
        go_wp2
        go_round
        case rel => exact ⟨k + 1, by omega, by go_num, vint_eq (by rw [HE.out]; omega)⟩
        case measure => simp [intOf]; omega
      · obtain rfl : k = s.size := by omega
        have e : s.data.toList.take s.size = s.data.toList := by rw [← dl_len, List.take_length]
        rw [e] at hy ⊢
        obtain ⟨y, hyq⟩ : ∃ y, numv s.data.toList = y := ⟨_, rfl⟩
        rw [hyq] at hy ⊢
        have HY := Lib.hid hyq
        clear hyq e
        go_wp2
        go_ret2
        exact ⟨by rw [HY.out]; rfl, rfl⟩
  · have g4 : ((s[0].toNat : Int) == 48) = false := by rw [beq_eq_false_iff_ne]; omega
    clear h1 h4
    go_enter Tryd.func16, Tryd.ntmps16
    go_wp2_with fail
    go_loop [5, 6] (fun n i => ∃ k : Nat, k ≤ s.size ∧ i = .int .i64 k ∧ n = .int .i64 (numv (s.data.toList.take k) : Nat)) (fun _ i => s.size - (intOf i).toNat)
    case atStart => exact ⟨0, Nat.zero_le _, rfl, rfl⟩
    case round =>
      obtain ⟨k, hk, rfl, rfl⟩ := hrel
      have hy := HL.out k hk
      by_cases hlt : k < s.size
      · have h2 := (HD.out k hlt).1
        have h3 := (HD.out k hlt).2
        have e := numv_snoc (s.data.toList.take k) s[k]
        rw [← dl_take s k hlt] at e
        have HE := Lib.hid e
        clear e
        generalize numv (s.data.toList.take k) = y at *
        have g5 : ¬ (s[k].toNat : Int) < 48 := by omega
        have g6 : ¬ (57 : Int) < (s[k].toNat : Int) := by omega
        go_wp2
        go_round
        case rel => exact ⟨k + 1, by omega, by go_num, vint_eq (by rw [HE.out]; omega)⟩
        case measure => simp [intOf]; omega
      · obtain rfl : k = s.size := by omega
        have e : s.data.toList.take s.size = s.data.toList := by rw [← dl_len, List.take_length]
        rw [e] at hy ⊢
        obtain ⟨y, hyq⟩ : ∃ y, numv s.data.toList = y := ⟨_, rfl⟩
        rw [hyq] at hy ⊢
        have HY := Lib.hid hyq
        clear hyq e
        go_wp2
        go_ret2
        exact ⟨by rw [HY.out]; rfl, rfl⟩
set_option maxHeartbeats 4000000 in
theorem rpos_no (s : ByteArray) (w : World) (hl : s.size ≤ 1000000) (g0 : ∀ h : 0 < s.size, s[0].toNat ≠ 45) (h : s.size = 0 ∨ 9 < s.size ∨ (∃ h : 1 < s.size, s[0].toNat = 48) ∨ ∃ i, ∃ h : i < s.size, s[i].toNat < 48 ∨ 57 < s[i].toNat) :
    Calls Tryd.prog 16 #[.string s] w fun e w' => e = .returned (.tuple #[.int .i64 0, .bool false]) ∧ w' = w := by
  by_cases h0 : s.size = 0
  · have g2 : ((s.size : Int)) < 1 := by omega
    have g3 : ¬ (0 : Int) < (s.size : Int) := by omega
    clear h h0 g0
    go_enter Tryd.func16, Tryd.ntmps16
    go_wp2_with fail
    go_ret2
    exact ⟨rfl, rfl⟩
  · have hp : 0 < s.size := by omega
    have g0 := g0 hp
    have g1 : ((s[0].toNat : Int) == 45) = false := by rw [beq_eq_false_iff_ne]; omega
    have g2 : ¬ ((s.size : Int)) < 1 := by omega
    clear g0
    by_cases h9 : 9 < s.size
    · have g3 : (9 : Int) < (s.size : Int) := by omega
      clear h h0
      go_enter Tryd.func16, Tryd.ntmps16
      go_wp2_with fail
      go_ret2
      exact ⟨rfl, rfl⟩
    · have g3 : ¬ (9 : Int) < (s.size : Int) := by omega
      by_cases h1 : 1 < s.size ∧ s[0].toNat = 48
      · have g4 : ((s[0].toNat : Int) == 48) = true := by rw [h1.2]; rfl
        have g5 : (1 : Int) < (s.size : Int) := by omega
        clear h h0 h1
        go_enter Tryd.func16, Tryd.ntmps16
        go_wp2_with fail
        go_ret2
        exact ⟨rfl, rfl⟩
      · have hbad : ∃ i, ∃ h : i < s.size, s[i].toNat < 48 ∨ 57 < s[i].toNat := by
          rcases h with h | h | ⟨a, h⟩ | h
          · exact absurd h h0
          · exact absurd h h9
          · exact absurd ⟨a, h⟩ h1
          · exact h
        obtain ⟨j, hj, hjb⟩ := hbad
        have HJ := Lib.hid hjb
        clear h h0 hjb
        by_cases h4 : s[0].toNat = 48
        · have g4 : ((s[0].toNat : Int) == 48) = true := by rw [h4]; rfl
          have g5 : ¬ (1 : Int) < (s.size : Int) := by
            intro hh; exact h1 ⟨by omega, h4⟩
          clear h1 h4
          go_enter Tryd.func16, Tryd.ntmps16
          go_wp2_with fail
          go_loop [5, 6] (fun n i => ∃ k : Nat, k ≤ j ∧ i = .int .i64 k ∧ ∃ m : Int, n = .int .i64 m) (fun _ i => s.size - (intOf i).toNat)
          case atStart => exact ⟨0, Nat.zero_le _, rfl, 0, rfl⟩
          case round =>
            obtain ⟨k, hk, rfl, m, rfl⟩ := hrel
            have hlt : k < s.size := by omega
            by_cases h3 : s[k].toNat < 48
            · have g5 : (s[k].toNat : Int) < 48 := by omega
              go_wp2
              go_ret2
              exact ⟨rfl, rfl⟩
            · by_cases h4 : 57 < s[k].toNat
              · have g5 : ¬ (s[k].toNat : Int) < 48 := by omega
                have g6 : (57 : Int) < (s[k].toNat : Int) := by omega
                go_wp2
                go_ret2
                exact ⟨rfl, rfl⟩
              · have g5 : ¬ (s[k].toNat : Int) < 48 := by omega
                have g6 : ¬ (57 : Int) < (s[k].toNat : Int) := by omega
                have hkj : k < j := by
                  rcases Nat.lt_or_ge k j with h | h
                  · exact h
                  · obtain rfl : k = j := by omega
                    rcases HJ.out with h | h
                    · exact absurd h h3
                    · exact absurd h h4
                go_wp2
                go_round
                case rel => exact ⟨k + 1, by omega, by go_num, _, rfl⟩
                case measure => simp [intOf]; omega
        · have g4 : ((s[0].toNat : Int) == 48) = false := by rw [beq_eq_false_iff_ne]; omega
          clear h1 h4
          go_enter Tryd.func16, Tryd.ntmps16
          go_wp2_with fail
          go_loop [5, 6] (fun n i => ∃ k : Nat, k ≤ j ∧ i = .int .i64 k ∧ ∃ m : Int, n = .int .i64 m) (fun _ i => s.size - (intOf i).toNat)
          case atStart => exact ⟨0, Nat.zero_le _, rfl, 0, rfl⟩
          case round =>
            obtain ⟨k, hk, rfl, m, rfl⟩ := hrel
            have hlt : k < s.size := by omega
            by_cases h3 : s[k].toNat < 48
            · have g5 : (s[k].toNat : Int) < 48 := by omega
              go_wp2
              go_ret2
              exact ⟨rfl, rfl⟩
            · by_cases h4 : 57 < s[k].toNat
              · have g5 : ¬ (s[k].toNat : Int) < 48 := by omega
                have g6 : (57 : Int) < (s[k].toNat : Int) := by omega
                go_wp2
                go_ret2
                exact ⟨rfl, rfl⟩
              · have g5 : ¬ (s[k].toNat : Int) < 48 := by omega
                have g6 : ¬ (57 : Int) < (s[k].toNat : Int) := by omega
                have hkj : k < j := by
                  rcases Nat.lt_or_ge k j with h | h
                  · exact h
                  · obtain rfl : k = j := by omega
                    rcases HJ.out with h | h
                    · exact absurd h h3
                    · exact absurd h h4
                go_wp2
                go_round
                case rel => exact ⟨k + 1, by omega, by go_num, _, rfl⟩
                case measure => simp [intOf]; omega
theorem natOk_iff (l : List UInt8) : natOk l = true ↔ 0 < l.length ∧ l.length ≤ 9 ∧ (l.length ≤ 1 ∨ l.head? ≠ some 48) ∧ l.all isDig = true := by
  unfold natOk
  cases l with
  | nil => simp
  | cons c r => simp [and_assoc]
theorem bad_dig {l : List UInt8} (h : ¬ l.all isDig = true) : ∃ i, ∃ h : i < (tx l).size, (tx l)[i].toNat < 48 ∨ 57 < (tx l)[i].toNat := by
  apply Classical.byContradiction
  intro hn
  refine h ((all_dig l).2 fun i hi => ?_)
  apply Classical.byContradiction
  intro hh
  exact hn ⟨i, hi, by omega⟩
theorem head_at {l : List UInt8} (h : 0 < (tx l).size) (c : UInt8) : l.head? = some c ↔ (tx l)[0].toNat = c.toNat := by
  rw [tx_get]
  cases l with
  | nil => simp [tx_size] at h
  | cons d r =>
    simp only [List.head?_cons, Option.some.injEq, List.getElem_cons_zero]
    exact ⟨fun e => by rw [e], fun e => UInt8.toNat_inj.1 e⟩
theorem nat_zero {l : List UInt8} (h : natOk l = true) (h0 : numv l = 0) : l.head? = some 48 := by
  obtain ⟨h1, _, h3, h4⟩ := (natOk_iff l).1 h
  have key : ∀ (m : List UInt8) (k : Nat), 0 < k → 0 < m.foldl (fun n c => n * 10 + (c.toNat - 48)) k := by
    intro m
    induction m with
    | nil => intro k hk; exact hk
    | cons c r ih => intro k hk; exact ih _ (by show 0 < k * 10 + _; omega)
  cases l with
  | nil => simp at h1
  | cons c r =>
    have hc := List.all_eq_true.1 h4 c (List.mem_cons_self ..)
    simp only [isDig, Bool.and_eq_true, decide_eq_true_eq] at hc
    simp only [List.head?_cons, Option.some.injEq]
    apply UInt8.toNat_inj.1
    show c.toNat = 48
    apply Classical.byContradiction
    intro hne
    have := key r (0 * 10 + (c.toNat - 48)) (by omega)
    unfold numv at h0
    rw [List.foldl_cons] at h0
    omega
theorem rInt_any (l : List UInt8) (w : World) (hl : l.length ≤ 1000000) : Calls Tryd.prog 16 #[.string (tx l)] w fun e w' => e = .returned (intA l) ∧ w' = w := by
  by_cases hm : l.head? = some 45
  · obtain ⟨r, rfl⟩ : ∃ r, l = 45 :: r := by
      cases l with
      | nil => simp at hm
      | cons c r => simp at hm; subst hm; exact ⟨r, rfl⟩
    have hsz : (tx (45 :: r)).size = (tx r).size + 1 := by rw [tx_size, tx_size]; rfl
    have hX : (tx (45 :: r)).extract 1 ((tx r).size + 1) = tx r := by rw [tx_extract, tx_size]; simp
    have hr : (tx r).size = r.length := tx_size r
    by_cases hk : natOk r = true ∧ numv r ≠ 0
    · obtain ⟨h1, h2, h3, h4⟩ := (natOk_iff r).1 hk.1
      have hp : 0 < (tx r).size := by omega
      have hne : (tx r)[0].toNat ≠ 48 := by
        intro e
        have hh := (head_at hp 48).2 e
        rcases h3 with h3 | h3
        · cases r with
          | nil => simp at h1
          | cons c q =>
            have : q = [] := List.eq_nil_of_length_eq_zero (by simp at h3; simpa using h3)
            subst this
            simp only [List.head?_cons, Option.some.injEq] at hh
            subst hh
            exact hk.2 rfl
        · exact h3 hh
      have eR : intA (45 :: r) = .tuple #[.int .i64 (-(numv (tx r).data.toList : Int)), .bool true] := by
        show intA (45 :: r) = .tuple #[.int .i64 (-(numv r : Int)), .bool true]
        simp [intA, intOk, intV, hk.1, hk.2]
      rw [eR]
      exact rneg_yes (tx (45 :: r)) (tx r) w hsz rfl hX hp (by omega) hne ((all_dig r).1 h4)
    · have eR : intA (45 :: r) = .tuple #[.int .i64 0, .bool false] := by
        have : intOk (45 :: r) = false := by
          unfold intOk
          rw [if_pos List.head?_cons]
          show (natOk r && numv r != 0) = false
          cases e : natOk r with
          | false => rfl
          | true =>
            have : numv r = 0 := by
              apply Classical.byContradiction; intro h; exact hk ⟨e, h⟩
            rw [this]; rfl
        unfold intA; rw [this]; rfl
      rw [eR]
      refine rneg_no (tx (45 :: r)) (tx r) w hsz (by simp at hl; omega) rfl hX ?_
      apply Classical.byContradiction
      intro hn
      simp only [not_or] at hn
      obtain ⟨n1, n2, n3, n4⟩ := hn
      have hp : 0 < (tx r).size := by omega
      have hh : r.head? ≠ some 48 := fun e => n3 ⟨hp, (head_at hp 48).1 e⟩
      have hk' : natOk r = true := (natOk_iff r).2 ⟨by omega, by omega, .inr hh, Classical.byContradiction fun h => n4 (bad_dig h)⟩
      exact hk ⟨hk', fun e => hh (nat_zero hk' e)⟩
  · have hr : (tx l).size = l.length := tx_size l
    have g0 : ∀ h : 0 < (tx l).size, (tx l)[0].toNat ≠ 45 := fun h e => hm ((head_at h 45).2 e)
    by_cases hk : natOk l = true
    · obtain ⟨h1, h2, h3, h4⟩ := (natOk_iff l).1 hk
      have hp : 0 < (tx l).size := by omega
      have eR : intA l = .tuple #[.int .i64 (numv (tx l).data.toList : Int), .bool true] := by
        show intA l = .tuple #[.int .i64 (numv l : Int), .bool true]
        simp [intA, intOk, intV, hk, hm]
      rw [eR]
      exact rpos_yes (tx l) w hp (by omega) (g0 hp) (by
        rcases h3 with h3 | h3
        · exact .inl (by omega)
        · exact .inr fun e => h3 ((head_at hp 48).2 e)) ((all_dig l).1 h4)
    · have eR : intA l = .tuple #[.int .i64 0, .bool false] := by
        have : intOk l = false := by unfold intOk; rw [if_neg hm]; simpa using hk
        unfold intA; rw [this]; rfl
      rw [eR]
      refine rpos_no (tx l) w (by omega) g0 ?_
      apply Classical.byContradiction
      intro hn
      simp only [not_or] at hn
      obtain ⟨n1, n2, n3, n4⟩ := hn
      refine hk ((natOk_iff l).2 ⟨by omega, by omega, ?_, Classical.byContradiction fun h => n4 (bad_dig h)⟩)
      rcases Nat.lt_or_ge 1 l.length with h | h
      · exact .inr fun e => n3 ⟨by omega, (head_at (by omega) 48).1 e⟩
      · exact .inl h
end Go.Proofs.YthcgbchgfdkhiaaDoor
