/- A slice of strings among the arguments is read. -/
import Derived.Test.YthcgbchgfdkhiaaDoorXrd
import Derived.Test.YthcgbchgfdkhiaaDoorPst
import Derived.WalkKit
import Derived.ProofKit
import Derived.OpenShut
import Derived.Deep.Slices
import Derived.Deep.Strs
namespace Go.Proofs.YthcgbchgfdkhiaaDoor
set_option linter.unusedSimpArgs false
set_option linter.unusedVariables false
open Go.ChangeShapes Go.WideShapes Go.ChangeAt Go.RowKit Go.Deep
theorem spot_no {a : Addr} {w : World} {v : Value} (h : w.cell? a = some v) : a.spot = none := by
  unfold World.cell? at h
  split at h
  · split at h
    · cases h
    · rename_i hs
      simpa using hs
  · cases h
theorem add_at (b o j : Nat) : (⟨b, o, none⟩ : Addr).add j = ⟨b, o + j, none⟩ := by
  unfold Addr.add
  split
  · rename_i h; rw [h]; rfl
  · rfl
theorem list_of {α : Type} {p : Nat → α → Prop} : ∀ (m : Nat), (∀ i, i < m → ∃ L, p i L) → ∃ M : List α, M.length = m ∧ ∀ (i : Nat) x, M[i]? = some x → p i x
  | 0, _ => ⟨[], rfl, fun i x h => by simp at h⟩
  | m + 1, h => by
    obtain ⟨M, hM, hp⟩ := list_of m fun i hi => h i (by omega)
    obtain ⟨L, hL⟩ := h m (by omega)
    refine ⟨M ++ [L], by simp [hM], fun i x hx => ?_⟩
    by_cases e : i < m
    · rw [List.getElem?_append_left (by omega)] at hx
      exact hp i x hx
    · have hi : i < (M ++ [L]).length := (List.getElem?_eq_some_iff.1 hx).1
      have e2 : i = m := by simp at hi; omega
      subst e2
      rw [List.getElem?_append_right (by omega), hM, Nat.sub_self] at hx
      simp at hx
      subst hx; exact hL
section
variable {H : Type} {enc : TypeId × Value → H}
theorem open_words {W : World} {fuel : Nat} {x : Value} {d : DataW H × List MemPlace} (h : DataW.trod enc Tryd.prog W 0 (fun _ => true) true fuel 22 [x] = some d) :
    ∃ ws : List (List UInt8), RdS W x ws ∧ ws.length ≤ maxLen ∧ ∀ u ∈ ws, u.length ≤ maxLen := by
  rcases open_strings Tryd.underlying22 Tryd.underlying9 (by kernel_rfl) h with ⟨h0, _⟩ | ⟨a, len, cap, ss, hcs, _, hl, hm, hsl, _, hc, hmx⟩
  · simp only [List.cons.injEq, and_true] at h0
    exact ⟨[], .inl ⟨rfl, none, 0, h0⟩, Nat.zero_le _, by simp⟩
  · simp only [List.cons.injEq, and_true] at hcs
    simp only [if_true] at hsl
    have hlen : ((ss.take len).map fun s => s.data.toList).length = len := by simp; omega
    refine ⟨(ss.take len).map fun s => s.data.toList, ?_, by rw [hlen]; omega, ?_⟩
    · by_cases h0 : len = 0
      · subst h0
        exact .inl ⟨by simp, some a, cap, hcs⟩
      · have hsp := spot_no (hc 0 (by omega))
        obtain ⟨ab, ao, az⟩ := a
        have hz : az = none := by
          unfold Addr.add at hsp
          split at hsp
          · exact hsp
          · rename_i h; exact absurd rfl h
        subst hz
        refine .inr ⟨ab, ao, cap, by rw [hlen]; exact hcs, by rw [hlen]; exact hl, fun j u hu => ?_⟩
        have hj : j < len := by
          have := (List.getElem?_eq_some_iff.1 hu).1
          rw [hlen] at this; exact this
        have h1 := hc j (by omega)
        rw [add_at] at h1
        rw [h1]
        have hjs : j < ss.length := by omega
        simp only [List.getElem?_map, List.getElem?_take, hj, if_true, List.getElem?_eq_getElem hjs, Option.map_some, Option.some.injEq] at hu
        subst hu
        rw [List.getD, List.getElem?_eq_getElem hjs]
        rfl
    · intro u hu
      obtain ⟨s, hs, rfl⟩ := List.mem_map.1 hu
      have := hmx s (List.mem_of_mem_take hs)
      show s.data.toList.length ≤ maxLen
      rw [Array.length_toList]
      exact this
end
end Go.Proofs.YthcgbchgfdkhiaaDoor
