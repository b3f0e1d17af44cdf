/- wide.plainDigits, wide.fromDigits, wide.Parse. -/
import Derived.Test.YtcfncekphdkphaaTpl
import Derived.Test.YtcfncekphdkphaaTxt
namespace Go.Proofs.Ytcfncekphdkphaa
open Go.RowKit
set_option maxRecDepth 100000
set_option maxHeartbeats 400000 in
set_option maxRecDepth 100000 in
theorem plainDigits_yes (s : ByteArray) (w : World) (hs : s.size ≤ 400) (h0 : 0 < s.size) (hd : ∀ i (h : i < s.size), 48 ≤ s[i].toNat ∧ s[i].toNat ≤ 57) (h1 : s[0].toNat ≠ 48) :
    Calls Try.prog 97 #[.string s] w fun e w' => e = .returned (.bool true) ∧ w' = w := by
  have HD := Lib.hid hd
  have hz : ((s.size : Int) == 0) = false := by rw [beq_eq_false_iff_ne]; omega
  have hb : ((s[0].toNat : Int) == 48) = false := by rw [beq_eq_false_iff_ne]; omega
  clear hd h1
  go_enter Try.func97, Try.ntmps97
  go_wp2
  go_loop [14] (fun i => ∃ k : Nat, k ≤ s.size ∧ i = .int .i64 k) (fun i => s.size - (intOf i).toNat)
  case atStart => exact ⟨0, Nat.zero_le _, rfl⟩
  case round =>
    obtain ⟨k, hk, rfl⟩ := hrel
    by_cases hlt : k < s.size
    · have h2 := (HD.out k hlt).1
      have h3 := (HD.out k hlt).2
      have g2 : ¬ (s[k].toNat : Int) < 48 := by omega
      have g3 : ¬ (57 : Int) < (s[k].toNat : Int) := by omega
      go_wp2
      go_round
      case rel => exact ⟨k + 1, by omega, by go_num⟩
      case measure => simp [intOf]; omega
    · go_wp2
      go_ret
      exact ⟨rfl, rfl⟩
theorem plainDigits_no (s : ByteArray) (w : World) (hs : s.size ≤ 500) (h : s.size = 0 ∨ (∃ h : 0 < s.size, s[0].toNat = 48) ∨ ∃ i, ∃ h : i < s.size, s[i].toNat < 48 ∨ 57 < s[i].toNat) :
    Calls Try.prog 97 #[.string s] w fun e w' => e = .returned (.bool false) ∧ w' = w := by
  by_cases h0 : s.size = 0
  · have hz : ((s.size : Int) == 0) = true := by rw [beq_iff_eq]; omega
    clear h
    go_enter Try.func97, Try.ntmps97
    go_wp2
    go_ret
    exact ⟨rfl, rfl⟩
  · have h0' : 0 < s.size := by omega
    have hz : ((s.size : Int) == 0) = false := by rw [beq_eq_false_iff_ne]; omega
    by_cases h1 : s[0].toNat = 48
    · have hb : ((s[0].toNat : Int) == 48) = true := by rw [beq_iff_eq]; omega
      clear h h0
      go_enter Try.func97, Try.ntmps97
      go_wp2
      go_ret
      exact ⟨rfl, rfl⟩
    · have hb : ((s[0].toNat : Int) == 48) = false := by rw [beq_eq_false_iff_ne]; omega
      have hbad : ∃ i, ∃ h : i < s.size, s[i].toNat < 48 ∨ 57 < s[i].toNat := by
        rcases h with h | ⟨_, h⟩ | h
        · exact absurd h h0
        · exact absurd h h1
        · exact h
      obtain ⟨j, hj, hjb⟩ := hbad
      have HJ := Lib.hid hjb
      clear h h0 h1 hjb
      go_enter Try.func97, Try.ntmps97
      go_wp2
      go_loop [14] (fun i => ∃ k : Nat, k ≤ j ∧ i = .int .i64 k) (fun i => s.size - (intOf i).toNat)
      case atStart => exact ⟨0, Nat.zero_le _, rfl⟩
      case round =>
        obtain ⟨k, hk, rfl⟩ := hrel
        have hlt : k < s.size := by omega
        by_cases h2 : s[k].toNat < 48
        · have g2 : (s[k].toNat : Int) < 48 := by omega
          go_wp2
          go_ret
          exact ⟨rfl, rfl⟩
        · by_cases h3 : 57 < s[k].toNat
          · have g2 : ¬ (s[k].toNat : Int) < 48 := by omega
            have g3 : (57 : Int) < (s[k].toNat : Int) := by omega
            go_wp2
            go_ret
            exact ⟨rfl, rfl⟩
          · have g2 : ¬ (s[k].toNat : Int) < 48 := by omega
            have g3 : ¬ (57 : Int) < (s[k].toNat : Int) := by omega
            have hkj : k < j := by
              rcases Nat.lt_or_ge k j with h | h
              · exact h
              · obtain rfl : k = j := by omega
                rcases HJ.out with h | h
                · exact absurd h h2
                · exact absurd h h3
            go_wp2
            go_round
            case rel => exact ⟨k + 1, by omega, by go_num⟩
            case measure => simp [intOf]; omega
/-- The digits of a text. -/
def dg (s : ByteArray) : List Nat := s.data.toList.map fun c => c.toNat - 48
def Digits (s : ByteArray) : Prop := ∀ i (h : i < s.size), 48 ≤ s[i].toNat ∧ s[i].toNat ≤ 57
theorem dg_length (s : ByteArray) : (dg s).length = s.size := by simp [dg]
theorem dg_get (s : ByteArray) (i : Nat) (h : i < s.size) : (dg s)[i]? = some (s[i].toNat - 48) := by
  simp [dg, h]
  rfl
theorem dg_take_succ (s : ByteArray) (i : Nat) (h : i < s.size) : (dg s).take (i + 1) = (dg s).take i ++ [s[i].toNat - 48] := by
  rw [List.take_add_one, dg_get s i h]; rfl
theorem dg_le (s : ByteArray) (h : Digits s) : ∀ d ∈ dg s, d ≤ 9 := by
  intro d hd
  obtain ⟨i, hi⟩ := List.mem_iff_getElem?.1 hd
  have hlt : i < s.size := by
    have := (List.getElem?_eq_some_iff.1 hi).1
    rwa [dg_length] at this
  rw [dg_get s i hlt] at hi
  have := h i hlt
  simp at hi
  omega
set_option maxHeartbeats 1000000 in
set_option maxRecDepth 100000 in
theorem fromDigits_yes (s : ByteArray) (w : World) (hs : s.size ≤ 400) (hd : Digits s) (hv : val (dg s) < bb ^ 32) :
    Calls Try.prog 98 #[.string s] w fun e w' => e = .returned (.tuple #[.agg (wc (val (dg s))).toArray, .bool true]) ∧ Below w.heap.size w w' := by
  have HD := Lib.hid hd
  have HV := Lib.hid hv
  clear hd hv
  have b1 := (Blk.new w (wc 0) 23 rfl).old (.cells (wc 0).toArray 23)
  have b2 := Blk.new (w.alloc (.cells (wc 0).toArray 23)) (wc 0) 23 (b := w.heap.size + 1) (by simp)
  have hb : Below w.heap.size w ((w.alloc (.cells (wc 0).toArray 23)).alloc (.cells (wc 0).toArray 23)) := ((Below.refl _ _).alloc (Nat.le_refl _) _).alloc (by simp) _
  go_enter Try.func98, Try.ntmps98
  go_wp2_with (first | (with_reducible refine alA2 rfl rfl ?_) | (with_reducible refine alA rfl rfl ?_) | (with_reducible refine bdA0 rfl rfl ?_) | (with_reducible refine stA rfl rfl rfl rfl b2 ?_))
  go_loopg [0, 5] s.size (fun g a0 a5 wr => ∃ (r : ByteArray) (X : Nat), r.size = g ∧ r.size ≤ 400 ∧ a0 = .string r ∧ a5 = .bool true ∧ Digits r ∧ X * 10 ^ r.size + val (dg r) = val (dg s) ∧ Below w.heap.size w wr ∧ Blk wr w.heap.size (wc 0) 23 ∧ Blk wr (w.heap.size + 1) (wc X) 23)
  case atStart => exact ⟨s, 0, rfl, hs, rfl, rfl, HD.out, by omega, below_row hb (by omega) _, b1.rowOther _ (by omega), b2.row _⟩
  case round =>
    clear hb b1 b2
    obtain ⟨r, X, hg, hr, rfl, rfl, hdr, hval, hb, b1, b2⟩ := hrel
    subst hg
    have HDr := Lib.hid hdr
    have HVal := Lib.hid hval
    clear hdr hval
    have hXv : X * 10 ^ r.size ≤ val (dg s) := by have := HVal.out; omega
    have HX : Hid (X < bb ^ 32) := by
      show X < bb ^ 32
      have h1 : X ≤ X * 10 ^ r.size := Nat.le_mul_of_pos_right X (Nat.pow_pos (by decide))
      have := HV.out
      omega
    clear hXv
    by_cases h0 : 0 < r.size
    · have h0' : (0 : Int) < (r.size : Int) := by omega
      obtain ⟨t, ht⟩ : ∃ t : Nat, min (r.size : Int) 9 = (t : Int) := ⟨min r.size 9, by omega⟩
      have ht9 : t ≤ 9 := by omega
      have htr : t ≤ r.size := by omega
      have ht1 : 0 < t := by omega
      have HT := Lib.hid ht
      clear ht
      go_wp2_with (first | (with_reducible refine bmin rfl rfl rfl ?_))
      rw [HT.out]
      go_loopw [7, 8, 18] (fun a7 a8 a18 wx => wx = wr ∧ ∃ i : Nat, i ≤ t ∧ a18 = .int .i64 i ∧ a7 = .int .u32 (val ((dg r).take i) : Nat) ∧ a8 = .int .u32 ((10 ^ i : Nat) : Int)) (fun _ _ a18 _ => t - (intOf a18).toNat)
      case atStart => exact ⟨rfl, 0, Nat.zero_le _, rfl, rfl, rfl⟩
      case round =>
        obtain ⟨rfl, i, hi, rfl, rfl, rfl⟩ := hrel
        have hyl : val ((dg r).take i) < 10 ^ i := by
          have h1 := val_lt ((dg r).take i) (fun d hd => dg_le r HDr.out d (List.mem_of_mem_take hd))
          rwa [List.length_take, dg_length, Nat.min_eq_left (by omega)] at h1
        by_cases hlt : i < t
        · have hir : i < r.size := by omega
          have hz8 : 10 ^ i ≤ 100000000 := Nat.pow_le_pow_right (n := 10) (by decide) (show i ≤ 8 by omega)
          have hdi := HDr.out i hir
          have hsn := val_snoc ((dg r).take i) (r[i].toNat - 48)
          rw [← dg_take_succ r i hir] at hsn
          have HSN := Lib.hid hsn
          have HPW : Hid (10 ^ (i + 1) = 10 ^ i * 10) := Nat.pow_succ ..
          clear hsn
          obtain ⟨c, hc⟩ : ∃ c : Nat, r[i].toNat = c := ⟨_, rfl⟩
          have HC := Lib.hid hc
          rw [hc] at hdi HSN
          have hcl := hdi.1
          have hcu := hdi.2
          clear hdi hc
          have hci : (r[i].toNat : Int) = (c : Int) := by rw [HC.out]
          generalize val ((dg r).take i) = y at *
          generalize hzz : 10 ^ i = z at *
          clear hzz
          have hy8 : y ≤ 99999999 := by omega
          clear hyl
          go_wp2
          go_roundw
          case rel => exact ⟨trivial, i + 1, by omega, by go_num, int_eq (by rw [HSN.out]; omega), int_eq (by rw [HPW.out]; omega)⟩
          case measure => simp [intOf]; omega
        · obtain rfl : i = t := by omega
          have hz9 : 10 ^ i ≤ 1000000000 := Nat.pow_le_pow_right (n := 10) (by decide) ht9
          have hap : val (dg r) = val ((dg r).take i) * 10 ^ (r.size - i) + val ((dg r).drop i) := by
            conv => lhs; rw [← List.take_append_drop i (dg r), val_append, List.length_drop, dg_length]
          have htot : (X * 10 ^ i + val ((dg r).take i)) * 10 ^ (r.size - i) + val ((dg r).drop i) = val (dg s) := by
            have := HVal.out
            have hp : 10 ^ r.size = 10 ^ i * 10 ^ (r.size - i) := by rw [← Nat.pow_add]; congr 1; omega
            rw [hap, hp, ← Nat.mul_assoc] at this
            rw [Nat.add_mul]
            omega
          have HTot := Lib.hid htot
          have HXn : Hid (X * 10 ^ i + val ((dg r).take i) < bb ^ 32) := by
            show X * 10 ^ i + val ((dg r).take i) < bb ^ 32
            have h1 := Nat.le_mul_of_pos_right (X * 10 ^ i + val ((dg r).take i)) (show 0 < 10 ^ (r.size - i) from Nat.pow_pos (by decide))
            have := HV.out
            omega
          clear hap htot
          obtain ⟨y, hy⟩ : ∃ y, val ((dg r).take i) = y := ⟨_, rfl⟩
          obtain ⟨z, hz⟩ : ∃ z, 10 ^ i = z := ⟨_, rfl⟩
          rw [hy, hz] at hyl HTot HXn
          rw [hy, hz]
          rw [hz] at hz9
          clear hy hz
          go_wp2_with (first | (with_reducible refine ldA rfl rfl rfl b2 ?_))
          refine (timesPlus_yes X z y _ HX.out (by omega) (by omega) HXn.out).mono ?_
          rintro e w1 ⟨rfl, hb1⟩
          replace b1 := b1.call hb1
          replace b2 := b2.call hb1
          replace hb := bthen hb hb1
          clear hb1
          have htr' : (i : Int) ≤ (r.size : Int) := by omega
          generalize hXX : X * z + y = X1 at *
          clear hXX
          go_wp2_with (first | (with_reducible refine stA rfl rfl rfl rfl b2 ?_))
          go_roundg (r.size - i)
          case measure => omega
          case rel =>
            refine ⟨r.extract i r.size, X1, ?_, ?_, rfl, rfl, ?_, ?_, below_row hb (by omega) _, b1.rowOther _ (by omega), b2.row _⟩
            · simp
            · simp; omega
            · intro j hj
              have hj' : i + j < r.size := by simp at hj; omega
              have := HDr.out (i + j) hj'
              rw [ByteArray.getElem_extract]
              exact this
            · rw [show (r.extract i r.size).size = r.size - i by simp, show dg (r.extract i r.size) = (dg r).drop i by simp [dg, ByteArray.data_extract]; rw [List.take_of_length_le (by simp)]]
              exact HTot.out
    · have hr0 : r.size = 0 := by omega
      have hz : ¬ (0 : Int) < (r.size : Int) := by omega
      have HE : Hid (X = val (dg s)) := by
        show X = val (dg s)
        have h1 : dg r = [] := List.eq_nil_of_length_eq_zero (by rw [dg_length]; exact hr0)
        have := HVal.out
        rw [hr0, h1, val_nil] at this
        omega
      clear hr0
      go_wp2_with (first | (with_reducible refine ldA rfl rfl rfl b2 ?_) | (with_reducible refine stA rfl rfl rfl rfl b1 ?_))
      refine ret_ct (v := .bool true) (cs := wc X) rfl rfl rfl rfl (whole23 _) (b1.row _) ⟨?_, below_row hb (Nat.le_refl _) _⟩
      rw [HE.out]
theorem ne_zero_text {s : ByteArray} (h0 : 0 < s.size) (h : s[0].toNat ≠ 48 ∨ s.size ≠ 1) : (s.toList == [48]) = false := by
  rw [beq_eq_false_iff_ne, ByteArray.toList_eq]
  intro e
  have h1 : s.size = 1 := by have := congrArg List.length e; simpa using this
  rcases h with h | h
  · apply h
    have h2 : s.data.toList[0]? = some 48 := by rw [e]; rfl
    have h3 : s.data.toList[0]? = some s[0] := by simp [h0]; rfl
    rw [h3] at h2
    rw [Option.some.inj h2]; rfl
  · exact h h1
set_option maxHeartbeats 1000000 in
set_option maxRecDepth 100000 in
theorem Parse_pos (s : ByteArray) (w : World) (hs : s.size ≤ 400) (h0 : 0 < s.size) (hd : Digits s) (h1 : s[0].toNat ≠ 48) (hv : val (dg s) < bb ^ 32) :
    Calls Try.prog 55 #[.string s] w fun e w' => e = .returned (.tuple #[.agg (mk (val (dg s) : Nat)).toArray, .bool true]) ∧ Below w.heap.size w w' := by
  have HD := Lib.hid hd
  have HV := Lib.hid hv
  have H1 := Lib.hid h1
  have HR0 := Lib.hid h0
  have HRs := Lib.hid hs
  have hd0 := hd 0 h0
  have h45 : ((s[0].toNat : Int) == 45) = false := by rw [beq_eq_false_iff_ne]; omega
  have h400 : ¬ (400 : Int) < (s.size : Int) := by omega
  have h0' : (0 : Int) < (s.size : Int) := by omega
  have hne := ne_zero_text h0 (.inl h1)
  clear hd hv h1 hd0
  have b1 := Blk.new w (wd false 0) 25 rfl
  have hb : Below w.heap.size w (w.alloc (.cells (wd false 0).toArray 25)) := (Below.refl _ _).alloc (Nat.le_refl _) _
  go_enter Try.func55, Try.ntmps55
  go_wp2_with (first | (with_reducible refine alW rfl rfl ?_))
  refine (plainDigits_yes s _ HRs.out HR0.out HD.out H1.out).mono ?_
  rintro e w1 ⟨rfl, rfl⟩
  go_wp2_with fail
  refine (fromDigits_yes s _ HRs.out HD.out HV.out).mono ?_
  rintro e w1 ⟨rfl, hb1⟩
  have a3 := Blk.new w1 (wc 0) 23 rfl
  have hsz : w.heap.size < w1.heap.size := (b1.call hb1).lt
  have d1 := ((b1.call hb1).old (.cells (wc 0).toArray 23)).rowOther (g := w1.heap.size) (wc (val (dg s))).toArray (by omega)
  have d3 := a3.row (wc (val (dg s)))
  have hb' := below_row ((bthen hb hb1).alloc (Nat.le_of_lt hsz) (.cells (wc 0).toArray 23)) (g := w1.heap.size) (by omega) (wc (val (dg s))).toArray
  go_wp2_with (first | (with_reducible refine alA rfl rfl ?_) | (with_reducible refine stA rfl rfl rfl rfl a3 ?_) | (with_reducible refine ldA rfl rfl rfl d3 ?_))
  refine (fitting_yes false (val (dg s)) _ HV.out).mono ?_
  rintro e w2 ⟨rfl, hb2⟩
  have f1 := d1.call hb2
  go_wp2_with (first | (with_reducible refine stM rfl rfl rfl rfl f1 (wd_length _ _) ?_))
  exact ret_ct (v := .bool true) rfl rfl rfl rfl (wholeM _) (f1.row _) ⟨rfl, below_row (bthen hb' hb2) (Nat.le_refl _) _⟩
set_option maxHeartbeats 1000000 in
set_option maxRecDepth 100000 in
theorem Parse_neg (s r : ByteArray) (w : World) (hs : s.size ≤ 400) (h0 : 0 < s.size) (h45 : s[0].toNat = 45) (hr : s.extract 1 s.size = r) (hr0 : 0 < r.size) (hd : Digits r) (h1 : r[0].toNat ≠ 48) (hv : val (dg r) < bb ^ 32) :
    Calls Try.prog 55 #[.string s] w fun e w' => e = .returned (.tuple #[.agg (mk (-(val (dg r) : Nat))).toArray, .bool true]) ∧ Below w.heap.size w w' := by
  have hrs : r.size = s.size - 1 := by rw [← hr]; simp
  have HD := Lib.hid hd
  have HV := Lib.hid hv
  have H1 := Lib.hid h1
  have HR0 := Lib.hid hr0
  have HRs : Hid (r.size ≤ 400) := by
    show r.size ≤ 400
    omega
  have HR := Lib.hid hr
  have h45' : ((s[0].toNat : Int) == 45) = true := by rw [beq_iff_eq]; omega
  have h400 : ¬ (400 : Int) < (s.size : Int) := by omega
  have h0' : (0 : Int) < (s.size : Int) := by omega
  have hne := ne_zero_text h0 (.inl (by omega))
  clear hd hv h1 hr h45 hrs
  have b1 := Blk.new w (wd false 0) 25 rfl
  have hb : Below w.heap.size w (w.alloc (.cells (wd false 0).toArray 25)) := (Below.refl _ _).alloc (Nat.le_refl _) _
  go_enter Try.func55, Try.ntmps55
  go_wp2_with (first | (with_reducible refine alW rfl rfl ?_))
  rw [HR.out]
  refine (plainDigits_yes r _ HRs.out HR0.out HD.out H1.out).mono ?_
  rintro e w1 ⟨rfl, rfl⟩
  go_wp2_with fail
  refine (fromDigits_yes r _ HRs.out HD.out HV.out).mono ?_
  rintro e w1 ⟨rfl, hb1⟩
  have a3 := Blk.new w1 (wc 0) 23 rfl
  have hsz : w.heap.size < w1.heap.size := (b1.call hb1).lt
  have d1 := ((b1.call hb1).old (.cells (wc 0).toArray 23)).rowOther (g := w1.heap.size) (wc (val (dg r))).toArray (by omega)
  have d3 := a3.row (wc (val (dg r)))
  have hb' := below_row ((bthen hb hb1).alloc (Nat.le_of_lt hsz) (.cells (wc 0).toArray 23)) (g := w1.heap.size) (by omega) (wc (val (dg r))).toArray
  go_wp2_with (first | (with_reducible refine alA rfl rfl ?_) | (with_reducible refine stA rfl rfl rfl rfl a3 ?_) | (with_reducible refine ldA rfl rfl rfl d3 ?_))
  refine (fitting_yes true (val (dg r)) _ HV.out).mono ?_
  rintro e w2 ⟨rfl, hb2⟩
  have f1 := d1.call hb2
  go_wp2_with (first | (with_reducible refine stM rfl rfl rfl rfl f1 (wd_length _ _) ?_))
  exact ret_ct (v := .bool true) rfl rfl rfl rfl (wholeM _) (f1.row _) ⟨rfl, below_row (bthen hb' hb2) (Nat.le_refl _) _⟩
set_option maxHeartbeats 1000000 in
set_option maxRecDepth 100000 in
theorem Parse_zero (s : ByteArray) (w : World) (hs : s.toList = [48]) :
    Calls Try.prog 55 #[.string s] w fun e w' => e = .returned (.tuple #[.agg (mk 0).toArray, .bool true]) ∧ Below w.heap.size w w' := by
  have hne : (s.toList == [48]) = true := by rw [beq_iff_eq]; exact hs
  have h1 : s.size = 1 := by rw [ByteArray.toList_eq] at hs; have := congrArg List.length hs; simpa using this
  have h400 : ¬ (400 : Int) < (s.size : Int) := by omega
  clear hs h1
  have b1 := Blk.new w (wd false 0) 25 rfl
  have hb : Below w.heap.size w (w.alloc (.cells (wd false 0).toArray 25)) := (Below.refl _ _).alloc (Nat.le_refl _) _
  go_enter Try.func55, Try.ntmps55
  go_wp2_with (first | (with_reducible refine alW rfl rfl ?_) | (with_reducible refine bdW0 rfl rfl ?_) | (with_reducible refine stW rfl rfl rfl rfl b1 ?_))
  exact ret_ct (v := .bool true) rfl rfl rfl rfl (whole25 _ _) (b1.row _) ⟨rfl, below_row hb (Nat.le_refl _) _⟩
/-- No sign ahead, and no plain digits. -/
theorem Parse_bad (s : ByteArray) (w : World) (hs : s.size ≤ 400) (hz : (s.toList == [48]) = false) (h45 : ∀ h : 0 < s.size, s[0].toNat ≠ 45) (hb0 : s.size = 0 ∨ (∃ h : 0 < s.size, s[0].toNat = 48) ∨ ∃ i, ∃ h : i < s.size, s[i].toNat < 48 ∨ 57 < s[i].toNat) :
    Calls Try.prog 55 #[.string s] w fun e w' => e = .returned (.tuple #[.agg (mk 0).toArray, .bool false]) ∧ Below w.heap.size w w' := by
  have h400 : ¬ (400 : Int) < (s.size : Int) := by omega
  have HB := Lib.hid hb0
  have b1 := Blk.new w (wd false 0) 25 rfl
  have hb : Below w.heap.size w (w.alloc (.cells (wd false 0).toArray 25)) := (Below.refl _ _).alloc (Nat.le_refl _) _
  clear hb0
  by_cases h0 : 0 < s.size
  · have h0' : (0 : Int) < (s.size : Int) := by omega
    have h45' : ((s[0].toNat : Int) == 45) = false := by rw [beq_eq_false_iff_ne]; have := h45 h0; omega
    clear h45
    go_enter Try.func55, Try.ntmps55
    go_wp2_with (first | (with_reducible refine alW rfl rfl ?_))
    refine (plainDigits_no s _ (by omega) HB.out).mono ?_
    rintro e w1 ⟨rfl, rfl⟩
    go_wp2_with (first | (with_reducible refine bdW0 rfl rfl ?_) | (with_reducible refine stW rfl rfl rfl rfl b1 ?_))
    exact ret_ct (v := .bool false) rfl rfl rfl rfl (whole25 _ _) (b1.row _) ⟨rfl, below_row hb (Nat.le_refl _) _⟩
  · have h0' : ¬ (0 : Int) < (s.size : Int) := by omega
    clear h45
    go_enter Try.func55, Try.ntmps55
    go_wp2_with (first | (with_reducible refine alW rfl rfl ?_))
    refine (plainDigits_no s _ (by omega) HB.out).mono ?_
    rintro e w1 ⟨rfl, rfl⟩
    go_wp2_with (first | (with_reducible refine bdW0 rfl rfl ?_) | (with_reducible refine stW rfl rfl rfl rfl b1 ?_))
    exact ret_ct (v := .bool false) rfl rfl rfl rfl (whole25 _ _) (b1.row _) ⟨rfl, below_row hb (Nat.le_refl _) _⟩
/-- A sign ahead, and no plain digits behind it. -/
theorem Parse_badneg (s r : ByteArray) (w : World) (hs : s.size ≤ 400) (h0 : 0 < s.size) (h45 : s[0].toNat = 45) (hr : s.extract 1 s.size = r) (hb0 : r.size = 0 ∨ (∃ h : 0 < r.size, r[0].toNat = 48) ∨ ∃ i, ∃ h : i < r.size, r[i].toNat < 48 ∨ 57 < r[i].toNat) :
    Calls Try.prog 55 #[.string s] w fun e w' => e = .returned (.tuple #[.agg (mk 0).toArray, .bool false]) ∧ Below w.heap.size w w' := by
  have h400 : ¬ (400 : Int) < (s.size : Int) := by omega
  have hrs : r.size = s.size - 1 := by rw [← hr]; simp
  have HRs : Hid (r.size ≤ 500) := by
    show r.size ≤ 500
    omega
  have HB := Lib.hid hb0
  have HR := Lib.hid hr
  have b1 := Blk.new w (wd false 0) 25 rfl
  have hb : Below w.heap.size w (w.alloc (.cells (wd false 0).toArray 25)) := (Below.refl _ _).alloc (Nat.le_refl _) _
  have h0' : (0 : Int) < (s.size : Int) := by omega
  have h45' : ((s[0].toNat : Int) == 45) = true := by rw [beq_iff_eq]; omega
  have hne := ne_zero_text h0 (.inl (by omega))
  clear hb0 hr h45 hrs
  go_enter Try.func55, Try.ntmps55
  go_wp2_with (first | (with_reducible refine alW rfl rfl ?_))
  rw [HR.out]
  refine (plainDigits_no r _ HRs.out HB.out).mono ?_
  rintro e w1 ⟨rfl, rfl⟩
  go_wp2_with (first | (with_reducible refine bdW0 rfl rfl ?_) | (with_reducible refine stW rfl rfl rfl rfl b1 ?_))
  exact ret_ct (v := .bool false) rfl rfl rfl rfl (whole25 _ _) (b1.row _) ⟨rfl, below_row hb (Nat.le_refl _) _⟩
end Go.Proofs.Ytcfncekphdkphaa
