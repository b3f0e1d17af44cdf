/- option.word: a letter and numbers with commas between. -/
import Derived.Test.YthcgbchgfdkhiaaDoorZnv
import Derived.Deep.RegionWith
namespace Go.Proofs.YthcgbchgfdkhiaaDoor
set_option linter.unusedSimpArgs false
set_option linter.unusedVariables false
open Go.RowKit
set_option maxRecDepth 100000
theorem joinTail_le (s : UInt8) (n : Nat) : ∀ ws : List (List UInt8), (∀ w ∈ ws, w.length ≤ n) → (Lib.joinTail [s] ws).length ≤ ws.length * (n + 1)
  | [], _ => Nat.zero_le _
  | w :: r, h => by
    have h1 := joinTail_le s n r fun x hx => h x (List.mem_cons_of_mem _ hx)
    have h2 := h w (List.mem_cons_self ..)
    have e : (w :: r).length * (n + 1) = r.length * (n + 1) + (n + 1) := by rw [List.length_cons, Nat.succ_mul]
    rw [e]
    unfold Lib.joinTail at h1 ⊢
    rw [List.map_cons, List.flatten_cons, List.length_append, List.length_append]
    simp only [List.length_cons, List.length_nil] at h1 ⊢
    omega
theorem join_le (s : UInt8) (n : Nat) (ws : List (List UInt8)) (h : ∀ w ∈ ws, w.length ≤ n) : (Lib.join ws [s]).length ≤ ws.length * (n + 1) := by
  cases ws with
  | nil => exact Nat.zero_le _
  | cons w r =>
    have h1 := joinTail_le s n r fun x hx => h x (List.mem_cons_of_mem _ hx)
    have h2 := h w (List.mem_cons_self ..)
    have e : (w :: r).length * (n + 1) = r.length * (n + 1) + (n + 1) := by rw [List.length_cons, Nat.succ_mul]
    rw [e, Lib.join_cons, List.length_append]
    omega
theorem txL (u : List UInt8) : (tx u).data.toList = u := rfl
theorem Join_any (ws : List (List UInt8)) (s : UInt8) (v : Value) (w : World) (hne : ws ≠ []) (hv : RdS w v ws) (hN : ws.length ≤ 1000) (hlen : (Lib.join ws [s]).length ≤ 1000000) :
    Calls Tryd.prog 22 #[v, .string ⟨#[s]⟩] w fun e w' => e = .returned (.string (tx (Lib.join ws [s]))) ∧ Below w.heap.size w w' := by
  obtain ⟨g, o, c, rfl, hc, hcell⟩ : ∃ g o c, v = .slice (some ⟨g, o, none⟩) ws.length c ∧ ws.length ≤ c ∧ ∀ (j : Nat) u, ws[j]? = some u → w.cell? ⟨g, o + j, none⟩ = some (.string (tx u)) := by
    rcases hv with ⟨h, _⟩ | h
    · exact absurd h hne
    · exact h
  have hg : g < w.heap.size := by
    obtain ⟨u, r, rfl⟩ := List.exists_cons_of_ne_nil hne
    exact World.block_lt_of_cell? w _ (hcell 0 u rfl)
  have e1 : (ws.map tx).map (·.data.toList) = ws := by
    rw [List.map_map]
    conv => rhs; rw [← List.map_id ws]
    rfl
  have := Tryd.strings_Join g o c (ws.map tx) ⟨#[s]⟩ w (fun j x hx => by
    obtain ⟨u, hu, rfl⟩ := List.getElem?_eq_some_iff.1 hx |> fun ⟨hj, e⟩ => (⟨ws[j]'(by simpa using hj), List.getElem?_eq_getElem (by simpa using hj), by rw [← e]; simp⟩ : ∃ u, ws[j]? = some u ∧ tx u = x)
    exact hcell j u hu) hg (by simp; omega) (by simpa using hc) (by rw [e1]; show (Lib.join ws [s]).length ≤ _; omega)
  rw [e1, List.length_map] at this
  exact this
/-- The text of a word. -/
def wtx (c : UInt8) (xs : List Int) : List UInt8 := c :: Lib.join (xs.map numA) [44]
theorem wtx_len (c : UInt8) (xs : List Int) : (wtx c xs).length ≤ 21 * xs.length + 1 := by
  have := join_le 44 20 (xs.map numA) (by intro u hu; obtain ⟨x, _, rfl⟩ := List.mem_map.1 hu; exact numA_len x)
  unfold wtx
  rw [List.length_cons]
  rw [List.length_map] at this
  omega
set_option maxHeartbeats 4000000 in
theorem word_any (c : UInt8) (xs : List Int) (g o cap : Nat) (w : World) (hne : xs ≠ []) (hN : xs.length ≤ 10) (hx : ∀ x ∈ xs, i64ok x) (hc : ∀ (i : Nat) x, xs[i]? = some x → w.cell? ⟨g, o + i, none⟩ = some (.int .i64 x)) (hT : Env w) :
    Calls Tryd.prog 21 #[.string ⟨#[c]⟩, .slice (some ⟨g, o, none⟩) xs.length cap] w fun e w' => e = .returned (.string (tx (wtx c xs))) ∧ Below w.heap.size w w' := by
  have HC := Lib.hid hc
  have HX := Lib.hid hx
  have HT := Lib.hid hT
  clear hc hx hT
  go_enter Tryd.func21, Tryd.ntmps21
  go_wp2_with fail
  go_loopw [5, 10] (fun v j wr => ∃ i : Nat, i ≤ xs.length ∧ j = .int .i64 (i : Int) ∧ wr.ownsRow w.heap.size 9 1 v i (strs ((xs.take i).map numA)) ∧ Below w.heap.size w wr) (fun _ j _ => xs.length - (intOf j).toNat)
  case atStart => exact ⟨0, Nat.zero_le _, rfl, World.ownsRow_nil _ _ _ _, Below.refl _ _⟩
  case round =>
    obtain ⟨i, hi, rfl, ho, hb⟩ := hrel
    have HO := Lib.hid ho
    clear ho
    by_cases hlt : i < xs.length
    · obtain ⟨x, hxi⟩ : ∃ x, xs[i]? = some x := ⟨_, List.getElem?_eq_getElem hlt⟩
      have c1 := cell_below hb (HC.out i x hxi)
      have HN := Lib.hid (Itoa_all x (HX.out x (List.mem_of_getElem? hxi)) wr (HT.out.below hb))
      have htk : (xs.take (i + 1)).map numA = (xs.take i).map numA ++ [numA x] := by rw [List.take_add_one, hxi]; simp
      have HTK := Lib.hid htk
      clear hxi htk
      go_wp2_with fail
      refine HN.out.mono ?_
      rintro e w1 ⟨rfl, h1⟩
      have HO1 := Lib.hid (owns_below HO.out h1)
      have hb1 := bthen hb h1
      have hbs := hb1.size
      clear HO h1 hb c1
      go_wp2_with (first | (at_builtin; refine app_str rfl rfl rfl rfl (HO1.out.alloc _) (Blk.new _ _ _ rfl) (by omega) (by simp; omega) ?_; intro v' w3 hown3 h3; have HO4 := Lib.hid hown3; have H3 := Lib.hid h3; clear hown3 h3))
      go_roundw
      case rel =>
        have b3 := (hb1.alloc hbs (.cells #[.string (tx (numA x))] 9)).trans H3.out
        refine ⟨i + 1, by omega, by go_num, ?_, b3⟩
        rw [HTK.out]
        have := HO4.out
        simpa [strs] using this
      case measure => simp [intOf]; omega
    · obtain rfl : i = xs.length := by omega
      have HO2 := HO.out
      rw [List.take_length] at HO2
      have hrd : RdS wr _ (xs.map numA) := RdS.of_owns (by rw [List.length_map]; exact HO2)
      have hjl := join_le 44 20 (xs.map numA) (by intro u hu; obtain ⟨x, _, rfl⟩ := List.mem_map.1 hu; exact numA_len x)
      rw [List.length_map] at hjl
      have HW := Lib.hid (Join_any (xs.map numA) 44 _ wr (by simpa using hne) hrd (by rw [List.length_map]; omega) (by omega))
      have HBB := Lib.hid hb
      have hs9 : ¬ (9223372036854775807 : Nat) < 1 + (Lib.join (xs.map numA) [44]).length := by omega
      have hs8 := tx_size (Lib.join (xs.map numA) [44])
      have hs7 : ¬ (9223372036854775807 : Nat) < 1 + (tx (Lib.join (xs.map numA) [44])).size := by omega
      clear HO2 hrd hb HO
      go_wp2_with fail
      refine HW.out.mono ?_
      rintro e w1 ⟨rfl, k2⟩
      have K2 := Lib.hid (bthen HBB.out k2)
      clear k2
      go_wp2
      go_ret
      exact ⟨by rw [show wtx c xs = [c] ++ Lib.join (xs.map numA) [44] from rfl, ← tx_app]; rfl, K2.out⟩
end Go.Proofs.YthcgbchgfdkhiaaDoor
