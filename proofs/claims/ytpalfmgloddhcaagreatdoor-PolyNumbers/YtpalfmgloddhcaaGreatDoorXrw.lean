/- parquetref6.words: the document's words of a line. -/
import Derived.Test.YtpalfmgloddhcaaGreatDoorXwd
namespace Go.Proofs.YtpalfmgloddhcaaGreatDoor
set_option linter.unusedSimpArgs false
set_option linter.unusedVariables false
open Go.RowKit
set_option maxRecDepth 100000
def one (p : List UInt8) : List (List UInt8) := if p = [] then [] else [p]
/-- The words of what follows behind the beginning of a word. -/
def wr2 (pend : List UInt8) : List UInt8 → List (List UInt8)
  | [] => one pend
  | c :: r => if c = 35 then one pend else if c ∈ bl then one pend ++ wr2 [] r else wr2 (pend ++ [c]) r
theorem wrds_one (p : List UInt8) (h : ∀ x ∈ p, x ∉ bl) : wrds p = one p := by
  unfold wrds one
  rw [splits_all bl p h]
  cases p <;> simp
theorem wr2_eq : ∀ (l pend : List UInt8), (∀ x ∈ pend, x ∉ bl) → wr2 pend l = wrds (pend ++ ahead [35] l)
  | [], pend, h => by rw [wr2, ahead, List.append_nil, wrds_one pend h]
  | c :: r, pend, h => by
    unfold wr2 ahead
    by_cases h1 : c = 35
    · rw [if_pos h1, if_pos (by simp [h1]), List.append_nil, wrds_one pend h]
    · rw [if_neg h1, if_neg (show ¬ c ∈ ([35] : List UInt8) by simpa using h1)]
      by_cases h2 : c ∈ bl
      · rw [if_pos h2, wr2_eq r [] (by simp), List.nil_append]
        unfold wrds one
        rw [splits_at bl (ahead [35] r) h2 pend h]
        cases pend <;> simp
      · rw [if_neg h2, wr2_eq r (pend ++ [c]) (by
          intro x hx
          rcases List.mem_append.1 hx with hx | hx
          · exact h x hx
          · simp only [List.mem_cons, List.not_mem_nil, or_false] at hx
            subst hx; exact h2), List.append_assoc]
        rfl
theorem ext_one (l : List UInt8) (i : Nat) (h : i < l.length) : (tx l).extract i (i + 1) = tx [l[i]] := by
  rw [tx_extract, List.take_add_one, List.getElem?_eq_getElem h, List.drop_append_of_le_length (by simp; omega), List.drop_take]
  simp
theorem ext_snoc (l p : List UInt8) (f i : Nat) (hf : f ≤ i) (h : i < l.length) (e : (tx l).extract f i = tx p) : (tx l).extract f (i + 1) = tx (p ++ [l[i]]) := by
  rw [tx_extract] at e ⊢
  have e' : (l.take i).drop f = p := by
    have := congrArg (fun x : ByteArray => x.data.toList) e
    simpa [tx] using this
  rw [List.take_add_one, List.getElem?_eq_getElem h, List.drop_append_of_le_length (by simp; omega), e']
  rfl
theorem drop_cons (l : List UInt8) (i : Nat) (h : i < l.length) : l.drop i = l[i] :: l.drop (i + 1) := (List.getElem_cons_drop h).symm
/-- Where the word that has begun stands. -/
def From (l : List UInt8) (i : Nat) (p : List UInt8) (v : Value) : Prop := (v = .int .i64 (-1) ∧ p = []) ∨ ∃ f : Nat, v = .int .i64 (f : Int) ∧ f < i ∧ p ≠ [] ∧ (tx l).extract f i = tx p ∧ i ≤ l.length
theorem one_len (p : List UInt8) : (one p).length ≤ 1 := by unfold one; split <;> simp
theorem wr2_len : ∀ (l p : List UInt8), (wr2 p l).length ≤ l.length + 1
  | [], p => one_len p
  | c :: r, p => by
    have h1 := one_len p
    have h2 := wr2_len r []
    have h3 := wr2_len r (p ++ [c])
    unfold wr2
    split
    · simp; omega
    · split
      · simp; omega
      · simp; omega
set_option maxHeartbeats 8000000 in
theorem rwords_any (l : List UInt8) (w : World) (hl : l.length ≤ 1000000) :
    Calls Tryz.prog 76 #[.string (tx l)] w fun e w' => ∃ v, e = .returned v ∧ w'.ownsRow w.heap.size 9 1 v (wrds (ahead [35] l)).length (strs (wrds (ahead [35] l))) ∧ Below w.heap.size w w' := by
  have hW := wr2_eq l [] (by simp)
  rw [List.nil_append] at hW
  rw [← hW]
  have hln := wr2_len l []
  clear hW
  have hsz := tx_size l
  obtain ⟨W, hW⟩ : ∃ W, wr2 [] l = W := ⟨_, rfl⟩
  rw [hW] at hln ⊢
  have HW0 := Lib.hid hW
  clear hW
  go_enter Tryz.func76, Tryz.ntmps76
  go_wp2_with fail
  go_loopw [3, 4, 5] (fun o f j wr => ∃ (i : Nat) (ws : List (List UInt8)) (p : List UInt8), i ≤ l.length + 1 ∧ j = .int .i64 (i : Int) ∧ (l.length < i → p = []) ∧ ws ++ wr2 p (l.drop i) = W ∧ From l i p f ∧ wr.ownsRow w.heap.size 9 1 o ws.length (strs ws) ∧ Below w.heap.size w wr) (fun _ _ j _ => l.length + 1 - (intOf j).toNat)
  case atStart => exact ⟨0, [], [], by omega, rfl, fun _ => rfl, HW0.out, .inl ⟨rfl, rfl⟩, World.ownsRow_nil _ _ _ _, Below.refl _ _⟩
  case round =>
    obtain ⟨i, ws, p, hi, rfl, hp, hw, hf, hown, hb⟩ := hrel
    have HO := Lib.hid hown
    clear hown
    have hwl : ws.length ≤ l.length + 1 := by
      have := congrArg List.length hw
      rw [List.length_append] at this
      omega
    have hB := hb.size
    by_cases hle : i ≤ l.length
    · by_cases hlt : i < l.length
      · obtain ⟨c, hd, HX1, HX2, HG⟩ : ∃ c, l.drop i = c :: l.drop (i + 1) ∧ Hid ((tx l).extract i (i + 1) = tx [c]) ∧ Hid (∀ f p, f ≤ i → (tx l).extract f i = tx p → (tx l).extract f (i + 1) = tx (p ++ [c])) ∧ Hid (∀ h : i < (tx l).size, (tx l)[i] = c) :=
          ⟨l[i]'hlt, drop_cons l i hlt, ext_one l i hlt, fun f p hf e => ext_snoc l p f i hf hlt e, fun _ => tx_get l i _⟩
        rw [hd, wr2] at hw
        have hs : i < (tx l).size := by rw [tx_size]; exact hlt
        have c1 : ((i : Int) == (l.length : Int)) = false := by rw [beq_eq_false_iff_ne]; omega
        have c2 : (i : Int) < (l.length : Int) := by omega
        have ci : ∀ d : UInt8, c ≠ d → (((tx l)[i].toNat : Int) == (d.toNat : Int)) = false := by
          intro d hd
          rw [beq_eq_false_iff_ne, HG.out hs]
          intro h
          exact hd (UInt8.toNat_inj.1 (by omega))
        have cy : ∀ d : UInt8, c = d → (((tx l)[i].toNat : Int) == (d.toNat : Int)) = true := by
          intro d hd
          rw [beq_iff_eq, HG.out hs, hd]
        clear hd
        by_cases h1 : c = 35
        · rw [if_pos h1] at hw
          have d1 : (((tx l)[i].toNat : Int) == 35) = true := cy 35 h1
          have HW := Lib.hid hw
          clear hw hp ci cy h1
          rcases hf with ⟨rfl, rfl⟩ | ⟨f, rfl, hfi, hpne, hex, _⟩
          · have gf : ¬ (0 : Int) ≤ (-1 : Int) := by decide
            go_wp2_with fail
            go_ret
            have e := HW.out
            rw [show one [] = ([] : List (List UInt8)) from rfl, List.append_nil] at e
            exact ⟨_, rfl, by rw [← e]; exact HO.out, hb⟩
          · have gf : (0 : Int) ≤ (f : Int) := by omega
            have gf2 : (f : Int) ≤ (i : Int) := by omega
            have HPN := Lib.hid hpne
            clear hpne
            go_wp2_with (first | (at_builtin; refine app_str rfl rfl rfl rfl (HO.out.alloc _) (Blk.new _ _ _ rfl) (by omega) (by simp; omega) ?_; intro v' w3 hown3 h3; have HO4 := Lib.hid hown3; clear hown3))
            go_ret
            have e := HW.out
            rw [show one p = [p] from if_neg HPN.out] at e
            exact ⟨_, rfl, by rw [← e]; simpa [strs] using HO4.out, (hb.alloc hB _).trans h3⟩
        · have d1 : (((tx l)[i].toNat : Int) == 35) = false := ci 35 h1
          rw [if_neg h1] at hw
          by_cases h2 : c ∈ bl
          · rw [if_pos h2, ← List.append_assoc] at hw
            rw [List.append_assoc] at hw
            rcases (show c = 32 ∨ c = 9 ∨ c = 13 by simpa [bl] using h2) with h3 | h3 | h3
            · have d2 : (((tx l)[i].toNat : Int) == 32) = true := cy 32 h3
              clear ci cy h1 h2 h3
              have HW := Lib.hid hw
              clear hw hp
              rcases hf with ⟨rfl, rfl⟩ | ⟨f, rfl, hfi, hpne, hex, _⟩
              · have gf : ¬ (0 : Int) ≤ (-1 : Int) := by decide
                go_wp2_with fail
                go_roundw
                case rel => exact ⟨i + 1, ws, [], by omega, by go_num, fun _ => rfl, HW.out, .inl ⟨rfl, rfl⟩, HO.out, hb⟩
                case measure => simp [intOf]; omega
              · have gf : (0 : Int) ≤ (f : Int) := by omega
                have gf2 : (f : Int) ≤ (i : Int) := by omega
                have HPN := Lib.hid hpne
                clear hpne
                go_wp2_with (first | (at_builtin; refine app_str rfl rfl rfl rfl (HO.out.alloc _) (Blk.new _ _ _ rfl) (by omega) (by simp; omega) ?_; intro v' w3 hown3 h3; have HO4 := Lib.hid hown3; clear hown3))
                go_roundw
                case rel => exact ⟨i + 1, ws ++ [p], [], by omega, by go_num, fun _ => rfl, by rw [← HW.out, show one p = [p] from if_neg HPN.out, List.append_assoc], .inl ⟨rfl, rfl⟩, by simpa [strs] using HO4.out, (hb.alloc hB _).trans h3⟩
                case measure => simp [intOf]; omega
            · have d2 : (((tx l)[i].toNat : Int) == 32) = false := ci 32 (by rw [h3]; decide)
              have d3 : (((tx l)[i].toNat : Int) == 9) = true := cy 9 h3
              clear ci cy h1 h2 h3
              have HW := Lib.hid hw
              clear hw hp
              rcases hf with ⟨rfl, rfl⟩ | ⟨f, rfl, hfi, hpne, hex, _⟩
              · have gf : ¬ (0 : Int) ≤ (-1 : Int) := by decide
                go_wp2_with fail
                go_roundw
                case rel => exact ⟨i + 1, ws, [], by omega, by go_num, fun _ => rfl, HW.out, .inl ⟨rfl, rfl⟩, HO.out, hb⟩
                case measure => simp [intOf]; omega
              · have gf : (0 : Int) ≤ (f : Int) := by omega
                have gf2 : (f : Int) ≤ (i : Int) := by omega
                have HPN := Lib.hid hpne
                clear hpne
                go_wp2_with (first | (at_builtin; refine app_str rfl rfl rfl rfl (HO.out.alloc _) (Blk.new _ _ _ rfl) (by omega) (by simp; omega) ?_; intro v' w3 hown3 h3; have HO4 := Lib.hid hown3; clear hown3))
                go_roundw
                case rel => exact ⟨i + 1, ws ++ [p], [], by omega, by go_num, fun _ => rfl, by rw [← HW.out, show one p = [p] from if_neg HPN.out, List.append_assoc], .inl ⟨rfl, rfl⟩, by simpa [strs] using HO4.out, (hb.alloc hB _).trans h3⟩
                case measure => simp [intOf]; omega
            · have d2 : (((tx l)[i].toNat : Int) == 32) = false := ci 32 (by rw [h3]; decide)
              have d3 : (((tx l)[i].toNat : Int) == 9) = false := ci 9 (by rw [h3]; decide)
              have d4 : (((tx l)[i].toNat : Int) == 13) = true := cy 13 h3
              clear ci cy h1 h2 h3
              have HW := Lib.hid hw
              clear hw hp
              rcases hf with ⟨rfl, rfl⟩ | ⟨f, rfl, hfi, hpne, hex, _⟩
              · have gf : ¬ (0 : Int) ≤ (-1 : Int) := by decide
                go_wp2_with fail
                go_roundw
                case rel => exact ⟨i + 1, ws, [], by omega, by go_num, fun _ => rfl, HW.out, .inl ⟨rfl, rfl⟩, HO.out, hb⟩
                case measure => simp [intOf]; omega
              · have gf : (0 : Int) ≤ (f : Int) := by omega
                have gf2 : (f : Int) ≤ (i : Int) := by omega
                have HPN := Lib.hid hpne
                clear hpne
                go_wp2_with (first | (at_builtin; refine app_str rfl rfl rfl rfl (HO.out.alloc _) (Blk.new _ _ _ rfl) (by omega) (by simp; omega) ?_; intro v' w3 hown3 h3; have HO4 := Lib.hid hown3; clear hown3))
                go_roundw
                case rel => exact ⟨i + 1, ws ++ [p], [], by omega, by go_num, fun _ => rfl, by rw [← HW.out, show one p = [p] from if_neg HPN.out, List.append_assoc], .inl ⟨rfl, rfl⟩, by simpa [strs] using HO4.out, (hb.alloc hB _).trans h3⟩
                case measure => simp [intOf]; omega
          · rw [if_neg h2] at hw
            have hn : c ≠ 32 ∧ c ≠ 9 ∧ c ≠ 13 := by
              refine ⟨fun h => h2 (by rw [h]; decide), fun h => h2 (by rw [h]; decide), fun h => h2 (by rw [h]; decide)⟩
            have d2 : (((tx l)[i].toNat : Int) == 32) = false := ci 32 hn.1
            have d3 : (((tx l)[i].toNat : Int) == 9) = false := ci 9 hn.2.1
            have d4 : (((tx l)[i].toNat : Int) == 13) = false := ci 13 hn.2.2
            have HW := Lib.hid hw
            clear ci cy h1 h2 hn hw hp
            rcases hf with ⟨rfl, rfl⟩ | ⟨f, rfl, hfi, hpne, hex, _⟩
            · have gf : (-1 : Int) < 0 := by decide
              go_wp2_with fail
              go_roundw
              case rel => exact ⟨i + 1, ws, [c], by omega, by go_num, fun h => by omega, HW.out, .inr ⟨i, rfl, by omega, by simp, HX1.out, by omega⟩, HO.out, hb⟩
              case measure => simp [intOf]; omega
            · have gf : ¬ (f : Int) < 0 := by omega
              have HE := Lib.hid hex
              clear hex hpne
              go_wp2_with fail
              go_roundw
              case rel => exact ⟨i + 1, ws, p ++ [c], by omega, by go_num, fun h => by omega, HW.out, .inr ⟨f, rfl, by omega, by simp, HX2.out f p (by omega) HE.out, by omega⟩, HO.out, hb⟩
              case measure => simp [intOf]; omega
      · obtain rfl : i = l.length := by omega
        rw [List.drop_length] at hw
        have HW := Lib.hid hw
        have HPP := Lib.hid hp
        have c1 : ((l.length : Int) == (l.length : Int)) = true := by rw [beq_iff_eq]
        have c2 : ¬ (l.length : Int) < (l.length : Int) := by omega
        clear hw hp
        rcases hf with ⟨rfl, rfl⟩ | ⟨f, rfl, hfi, hpne, hex, _⟩
        · have gf : ¬ (0 : Int) ≤ (-1 : Int) := by decide
          go_wp2_with fail
          go_roundw
          case rel => exact ⟨l.length + 1, ws, [], by omega, by go_num, fun _ => rfl, by rw [List.drop_of_length_le (by omega)]; exact HW.out, .inl ⟨rfl, rfl⟩, HO.out, hb⟩
          case measure => simp [intOf]
        · have gf : (0 : Int) ≤ (f : Int) := by omega
          have gf2 : (f : Int) ≤ (l.length : Int) := by omega
          have HPN := Lib.hid hpne
          clear hpne
          go_wp2_with (first | (at_builtin; refine app_str rfl rfl rfl rfl (HO.out.alloc _) (Blk.new _ _ _ rfl) (by omega) (by simp; omega) ?_; intro v' w3 hown3 h3; have HO4 := Lib.hid hown3; clear hown3))
          go_roundw
          case rel => exact ⟨l.length + 1, ws ++ [p], [], by omega, by go_num, fun _ => rfl, by rw [List.drop_of_length_le (by omega), ← HW.out, show wr2 p [] = [p] from if_neg HPN.out, List.append_assoc]; rfl, .inl ⟨rfl, rfl⟩, by simpa [strs] using HO4.out, (hb.alloc hB _).trans h3⟩
          case measure => simp [intOf]
    · have e := hw
      rw [hp (by omega), List.drop_of_length_le (by omega), show wr2 [] [] = [] from rfl, List.append_nil] at e
      have HE := Lib.hid e
      have c1 : ¬ (i : Int) ≤ (l.length : Int) := by omega
      clear e hw hp hf
      go_wp2_with fail
      go_ret
      exact ⟨_, rfl, by rw [← HE.out]; exact HO.out, hb⟩
end Go.Proofs.YtpalfmgloddhcaaGreatDoor
