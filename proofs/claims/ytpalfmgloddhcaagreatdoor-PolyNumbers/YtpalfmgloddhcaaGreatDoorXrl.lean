/- parquetref6.Lines: the document's lines of a text. -/
import Derived.Test.YtpalfmgloddhcaaGreatDoorXrw
import Derived.Test.YtpalfmgloddhcaaGreatDoorXln
namespace Go.Proofs.YtpalfmgloddhcaaGreatDoor
set_option linter.unusedSimpArgs false
set_option linter.unusedVariables false
open Go.RowKit
set_option maxRecDepth 100000
/-- The words of one line, as a line if there are any. -/
def lrow (n : Nat) (A : List UInt8) : List (Nat × List (List UInt8)) := if wrds (ahead [35] A) = [] then [] else [(n, wrds (ahead [35] A))]
theorem lns_at (n : Nat) (A T : List UInt8) (h : ∀ x ∈ A, x ∉ ([10] : List UInt8)) : lns n (A ++ 10 :: T) = lrow n A ++ lns (n + 1) T := by
  rw [lns_step, (ahead_at [10] T (by decide) A h).1, (ahead_at [10] T (by decide) A h).2]; rfl
theorem lns_end (n : Nat) (A : List UInt8) (h : ∀ x ∈ A, x ∉ ([10] : List UInt8)) : lns n A = lrow n A ++ lns (n + 1) [] := by
  rw [lns_step, (ahead_all [10] A h).1, (ahead_all [10] A h).2]; rfl
theorem drop_mid (l : List UInt8) (f i : Nat) (hf : f ≤ i) (hi : i ≤ l.length) : l.drop f = (l.take i).drop f ++ l.drop i := by
  conv => lhs; rw [← List.take_append_drop i l]
  rw [List.drop_append_of_le_length (by simp; omega)]
set_option maxHeartbeats 8000000 in
theorem rLines_any (l : List UInt8) (w : World) (hl : l.length ≤ 1000000) :
    Calls Tryz.prog 42 #[.string (tx l)] w fun e w' => ∃ v n, e = .returned (.tuple #[v, .int .i64 n]) ∧ Lnv w' w.heap.size v (lns 1 l) ∧ Below w.heap.size w w' := by
  have hsz := tx_size l
  go_enter Tryz.func42, Tryz.ntmps42
  go_wp2_with fail
  go_loopw [4, 5, 6, 7] (fun o a5 a6 a7 wr => ∃ (i f n : Nat) (L : List (Nat × List (List UInt8))), i ≤ l.length + 1 ∧ f ≤ l.length + 1 ∧ n ≤ i ∧ L.length ≤ n ∧ a7 = .int .i64 (i : Int) ∧ a5 = .int .i64 (f : Int) ∧ a6 = .int .i64 (n : Int) ∧ L ++ lns (n + 1) (l.drop f) = lns 1 l ∧
      (i ≤ l.length → f ≤ i ∧ ∀ x ∈ (l.take i).drop f, x ∉ ([10] : List UInt8)) ∧ (l.length < i → l.length ≤ f) ∧ Lnv wr w.heap.size o L ∧ Below w.heap.size w wr) (fun _ _ _ j _ => l.length + 1 - (intOf j).toNat)
  case atStart => exact ⟨0, 0, 0, [], by omega, by omega, by omega, by simp, rfl, rfl, rfl, rfl, fun _ => ⟨by omega, by simp⟩, fun h => by omega, ⟨[], World.ownsRow_nil _ _ _ _, rfl⟩, Below.refl _ _⟩
  case round =>
    obtain ⟨i, f, n, L, hi, hf, hni, hLn, rfl, rfl, rfl, hw, hin, hout, hown, hb⟩ := hrel
    have HO := Lib.hid hown
    have HOUT := Lib.hid hout
    clear hown hout
    by_cases hle : i ≤ l.length
    · obtain ⟨hfi, hA10⟩ := hin hle
      have hmid := drop_mid l f i hfi hle
      obtain ⟨A, hA⟩ : ∃ A, (l.take i).drop f = A := ⟨_, rfl⟩
      rw [hA] at hmid hA10
      clear hin
      by_cases hlt : i < l.length
      · obtain ⟨c, hd, HG, HT⟩ : ∃ c, l.drop i = c :: l.drop (i + 1) ∧ Hid (∀ h : i < (tx l).size, (tx l)[i] = c) ∧ (l.take (i + 1)).drop f = A ++ [c] :=
          ⟨l[i]'hlt, drop_cons l i hlt, fun _ => tx_get l i _, by
            rw [List.take_add_one, List.getElem?_eq_getElem hlt, List.drop_append_of_le_length (by simp; omega), hA]; rfl⟩
        have hs : i < (tx l).size := by rw [tx_size]; exact hlt
        have c2 : (i : Int) < (l.length : Int) := by omega
        have c1 : ((i : Int) == (l.length : Int)) = false := by rw [beq_eq_false_iff_ne]; omega
        rw [hd] at hmid
        by_cases h10 : c = 10
        · subst h10
          have d1 : ((tx l)[i].toNat : Int) = 10 := by rw [HG.out hs]; rfl
          rw [hmid, lns_at _ _ _ hA10] at hw
          have HW := Lib.hid hw
          have hnt : True := trivial
          clear hd HG HT hmid
          have HX : Hid ((tx l).extract f i = tx A) := by
            show (tx l).extract f i = tx A
            rw [tx_extract, hA]
          have hAl : A.length ≤ 1000000 := by rw [← hA]; simp; omega
          have HA := Lib.hid hA
          clear hA hnt hA10 hw
          have k2 : IntKind.i64.wrap ((n : Int) + 1) = (n : Int) + 1 := by rw [IntKind.wrap_i64]; omega
          have k3 : IntKind.i64.wrap ((i : Int) + 1) = (i : Int) + 1 := by rw [IntKind.wrap_i64]; omega
          have k4 : (0 : Int) ≤ (f : Int) := by omega
          have k5 : (f : Int) ≤ (i : Int) := by omega
          have k6 : (i : Int) ≤ (l.length : Int) := by omega
          go_wp2_with fail
          rw [HX.out]
          refine (rwords_any A _ hAl).mono ?_
          rintro e w2 ⟨x, rfl, hx, h2⟩
          have HO3 := Lib.hid (HO.out.below h2)
          have hb3 := bthen hb h2
          obtain ⟨ws, hws⟩ : ∃ ws, wrds (ahead [35] A) = ws := ⟨_, rfl⟩
          have HR : Hid (lrow (n + 1) A = if ws = [] then [] else [(n + 1, ws)]) := by
            show lrow (n + 1) A = _
            unfold lrow; rw [hws]
          rw [hws] at hx
          clear hws HO h2
          obtain ⟨xa, xc, rfl⟩ := owns_shape hx
          have HXO := Lib.hid (owns_mono hx hb.size)
          clear hx hb
          by_cases ha : ws = []
          · have g1 : ¬ (0 : Int) < (ws.length : Int) := by rw [ha]; decide
            have H0 := Lib.hid ha
            clear ha
            go_wp2_with fail
            go_roundw
            case rel => exact ⟨i + 1, i + 1, n + 1, L, by omega, by omega, by omega, by omega, by go_num, by go_num, by go_num, by rw [← HW.out, HR.out, if_pos H0.out, List.nil_append], fun _ => ⟨Nat.le_refl _, by simp [List.drop_of_length_le]⟩, fun _ => by omega, HO3.out, hb3⟩
            case measure => simp [intOf]; omega
          · have g1 : (0 : Int) < (ws.length : Int) := by have := List.length_pos_iff.2 ha; omega
            have HN := Lib.hid ha
            clear ha
            have hB := hb3.size
            obtain ⟨cs, hcs, hlw⟩ := HO3.out
            have HC := Lib.hid hcs
            have HL := Lib.hid hlw
            clear hcs hlw HO3
            go_wp2_with (first | (at_builtin; refine app_line rfl rfl rfl rfl (HC.out.alloc _) (Blk.new _ _ _ rfl) rfl rfl (by omega) (by simp; omega) ?_; intro v' w3 hown3 h3 hin; have HO4 := Lib.hid hown3; have HIN := Lib.hid hin; clear hown3 hin))
            go_roundw
            case rel =>
              refine ⟨i + 1, i + 1, n + 1, L ++ [(n + 1, ws)], by omega, by omega, by omega, by simp; omega, by go_num, by go_num, by go_num, by rw [← HW.out, HR.out, if_neg HN.out, List.append_assoc], fun _ => ⟨Nat.le_refl _, by simp [List.drop_of_length_le]⟩, fun _ => by omega, ⟨cs ++ [.int .i64 ((n + 1 : Nat) : Int), .slice xa ws.length xc], ?_, ?_⟩, (hb3.alloc hB _).trans h3⟩
              · have := HO4.out
                simpa using this
              · exact Lws.snoc (HIN.out _ _ _ (HXO.out.alloc _)) (Lws.mono (fun x m xs h => HIN.out _ _ _ (h.alloc _)) HL.out)
            case measure => simp [intOf]; omega
        · have d1 : ¬ ((tx l)[i].toNat : Int) = 10 := by
            rw [HG.out hs]
            intro h
            exact h10 (UInt8.toNat_inj.1 (by show c.toNat = 10; omega))
          have HT' := Lib.hid HT
          have HA10 := Lib.hid hA10
          have HW := Lib.hid hw
          clear hd HG HT hmid hA hA10 hw
          go_wp2_with fail
          go_roundw
          case rel => exact ⟨i + 1, f, n, L, by omega, hf, by omega, hLn, by go_num, rfl, rfl, HW.out, fun _ => ⟨by omega, by
            rw [HT'.out]
            intro x hx
            rcases List.mem_append.1 hx with hx | hx
            · exact HA10.out x hx
            · simp only [List.mem_cons, List.not_mem_nil, or_false] at hx ⊢
              subst hx; exact h10⟩, fun h => by omega, HO.out, hb⟩
          case measure => simp [intOf]; omega
      · have c2 : ¬ (i : Int) < (l.length : Int) := by omega
        have c1 : ((i : Int) == (l.length : Int)) = true := by rw [beq_iff_eq]; omega
        have hil : i = l.length := by omega
        by_cases he : f = i
        · subst he
          have c3 : ((f : Int) == (f : Int)) = true := by rw [beq_iff_eq]
          have HW := Lib.hid hw
          have HI := Lib.hid hil
          clear hw hmid hA hA10 hfi hil
          go_wp2_with fail
          go_roundw
          case rel => exact ⟨f + 1, f, n, L, by have := HI.out; omega, hf, by omega, hLn, by go_num, rfl, rfl, HW.out, fun h => by have := HI.out; omega, fun _ => by have := HI.out; omega, HO.out, hb⟩
          case measure => simp [intOf]; omega
        · have c3 : ((f : Int) == (i : Int)) = false := by rw [beq_eq_false_iff_ne]; omega
          rw [hmid, List.drop_of_length_le (show l.length ≤ i by omega), List.append_nil, lns_end _ _ hA10, ← List.drop_of_length_le (show l.length ≤ i + 1 by omega)] at hw
          have HW := Lib.hid hw
          have hnt : True := trivial
          clear hmid he hil
          have HX : Hid ((tx l).extract f i = tx A) := by
            show (tx l).extract f i = tx A
            rw [tx_extract, hA]
          have hAl : A.length ≤ 1000000 := by rw [← hA]; simp; omega
          have HA := Lib.hid hA
          clear hA hnt hA10 hw
          have k2 : IntKind.i64.wrap ((n : Int) + 1) = (n : Int) + 1 := by rw [IntKind.wrap_i64]; omega
          have k3 : IntKind.i64.wrap ((i : Int) + 1) = (i : Int) + 1 := by rw [IntKind.wrap_i64]; omega
          have k4 : (0 : Int) ≤ (f : Int) := by omega
          have k5 : (f : Int) ≤ (i : Int) := by omega
          have k6 : (i : Int) ≤ (l.length : Int) := by omega
          go_wp2_with fail
          rw [HX.out]
          refine (rwords_any A _ hAl).mono ?_
          rintro e w2 ⟨x, rfl, hx, h2⟩
          have HO3 := Lib.hid (HO.out.below h2)
          have hb3 := bthen hb h2
          obtain ⟨ws, hws⟩ : ∃ ws, wrds (ahead [35] A) = ws := ⟨_, rfl⟩
          have HR : Hid (lrow (n + 1) A = if ws = [] then [] else [(n + 1, ws)]) := by
            show lrow (n + 1) A = _
            unfold lrow; rw [hws]
          rw [hws] at hx
          clear hws HO h2
          obtain ⟨xa, xc, rfl⟩ := owns_shape hx
          have HXO := Lib.hid (owns_mono hx hb.size)
          clear hx hb
          by_cases ha : ws = []
          · have g1 : ¬ (0 : Int) < (ws.length : Int) := by rw [ha]; decide
            have H0 := Lib.hid ha
            clear ha
            go_wp2_with fail
            go_roundw
            case rel => exact ⟨i + 1, i + 1, n + 1, L, by omega, by omega, by omega, by omega, by go_num, by go_num, by go_num, by rw [← HW.out, HR.out, if_pos H0.out, List.nil_append], fun _ => ⟨Nat.le_refl _, by simp [List.drop_of_length_le]⟩, fun _ => by omega, HO3.out, hb3⟩
            case measure => simp [intOf]; omega
          · have g1 : (0 : Int) < (ws.length : Int) := by have := List.length_pos_iff.2 ha; omega
            have HN := Lib.hid ha
            clear ha
            have hB := hb3.size
            obtain ⟨cs, hcs, hlw⟩ := HO3.out
            have HC := Lib.hid hcs
            have HL := Lib.hid hlw
            clear hcs hlw HO3
            go_wp2_with (first | (at_builtin; refine app_line rfl rfl rfl rfl (HC.out.alloc _) (Blk.new _ _ _ rfl) rfl rfl (by omega) (by simp; omega) ?_; intro v' w3 hown3 h3 hin; have HO4 := Lib.hid hown3; have HIN := Lib.hid hin; clear hown3 hin))
            go_roundw
            case rel =>
              refine ⟨i + 1, i + 1, n + 1, L ++ [(n + 1, ws)], by omega, by omega, by omega, by simp; omega, by go_num, by go_num, by go_num, by rw [← HW.out, HR.out, if_neg HN.out, List.append_assoc], fun _ => ⟨Nat.le_refl _, by simp [List.drop_of_length_le]⟩, fun _ => by omega, ⟨cs ++ [.int .i64 ((n + 1 : Nat) : Int), .slice xa ws.length xc], ?_, ?_⟩, (hb3.alloc hB _).trans h3⟩
              · have := HO4.out
                simpa using this
              · exact Lws.snoc (HIN.out _ _ _ (HXO.out.alloc _)) (Lws.mono (fun x m xs h => HIN.out _ _ _ (h.alloc _)) HL.out)
            case measure => simp [intOf]; omega
    · have e := hw
      rw [List.drop_of_length_le (HOUT.out (by omega)), lns_nil, List.append_nil] at e
      have HE := Lib.hid e
      have c1 : ¬ (i : Int) ≤ (l.length : Int) := by omega
      clear e hw hin
      go_wp2_with fail
      go_ret2
      exact ⟨_, ⟨_, rfl⟩, by rw [← HE.out]; exact HO.out, hb⟩
end Go.Proofs.YtpalfmgloddhcaaGreatDoor
