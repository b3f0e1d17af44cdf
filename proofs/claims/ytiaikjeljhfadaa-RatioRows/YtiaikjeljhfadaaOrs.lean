/- A slice among the arguments, of elements of many cells: read, and laid again. -/
import Derived.Test.YtiaikjeljhfadaaReq
import Derived.Test.YtiaikjeljhfadaaMem
import Derived.Deep.Slices
namespace Go.Proofs.Ytiaikjeljhfadaa
set_option linter.unusedSimpArgs false
set_option linter.unusedVariables false
open Go.ChangeShapes Go.WideShapes Go.ChangeAt Go.RowKit Go.Deep
theorem choose_rows {p : Nat → List Value → Prop} : ∀ (m : Nat), (∀ i, i < m → ∃ L, p i L) → ∃ F : Nat → List Value, ∀ i, i < m → p i (F i)
  | 0, _ => ⟨fun _ => [], fun i hi => absurd hi (by omega)⟩
  | m + 1, h => by
    obtain ⟨F, hF⟩ := choose_rows m fun i hi => h i (by omega)
    obtain ⟨L, hL⟩ := h m (by omega)
    refine ⟨fun i => if i = m then L else F i, fun i hi => ?_⟩
    by_cases e : i = m
    · subst e; simpa using hL
    · simp only [e, if_false]; exact hF i (by omega)
theorem spot_of {a : Addr} {w : World} {v : Value} (h : w.cell? a = some v) : a.spot = none ∧ a.block < w.heap.size := by
  unfold World.cell? at h
  split at h
  · rename_i hh
    split at h
    · cases h
    · rename_i hs
      exact ⟨by simpa using hs, by have := (Array.getElem?_eq_some_iff.1 hh).1; simpa using this⟩
  · cases h
theorem add_plain' (b o j : Nat) : (⟨b, o, none⟩ : Addr).add j = ⟨b, o + j, none⟩ := by
  unfold Addr.add
  split
  · rename_i h; rw [h]; rfl
  · rfl
section
variable {H : Type} {enc : TypeId × Value → H} {P : Program}
theorem open_rows {t e : TypeId} {k n0 : Nat} {Q : List Value → Prop} (ht : P.underlying t = some (.slice e)) (hk : P.cellsOf e = k) (hk0 : 0 < k)
    (law : ∀ {W : World} {base : Nat} {sp : Nat → Bool} {held : Bool} {fuel : Nat} {L : List Value} {d : DataW H} {ps : List MemPlace}, DataW.trod enc P W base sp held fuel e L = some (d, ps) →
      Q L ∧ ps = [] ∧ ∀ W' base' sp' held', DataW.trod enc P W' base' sp' held' n0 e L = some (d, []))
    {W : World} {r : Reach} {b0 : Nat} {v : Value} {d : DataW H} {ps : List MemPlace} (hval : Value.okWide P W r b0 t v) (hd : DataW.Trod enc P W 0 (fun _ => true) true t v d ps) :
    (v = .slice none 0 0 ∧ ps = [] ∧ ∀ W' base' sp' held', DataW.Trod enc P W' base' sp' held' t v d []) ∨
    ∃ (a : Addr) (len cap : Nat) (L : Nat → List Value), v = .slice (some a) len cap ∧ len ≤ cap ∧ cap ≤ maxLen ∧ (0 < len → a.spot = none ∧ a.block < W.heap.size) ∧
      (∀ i, i < len → Q (L i) ∧ (L i).length = k ∧ W.rangeAt a.block (a.off + i * k) (L i)) ∧
      ∀ (W' : World) (sp' : Nat → Bool), Below W.heap.size W W' → (∀ p ∈ ps, sp' p.block = true) → DataW.Trod enc P W' 0 sp' true t v d ps := by
  obtain ⟨a0, len0, cap0, rfl⟩ := okWide_slice ht hval
  obtain ⟨fuel, hf⟩ := hd
  simp only [Value.cells] at hf
  rcases open_slice ht hf with ⟨hcs, hx⟩ | ⟨a, len, cap, m, n, D, Pl, hcs, hb, hl, hm, hmm, hx, hi⟩
  · left
    simp at hcs
    obtain ⟨rfl, rfl, rfl⟩ := hcs
    obtain ⟨rfl, rfl⟩ := Prod.mk.inj hx
    exact ⟨rfl, rfl, fun _ _ _ _ => shut_slice_nil ht⟩
  · right
    simp at hcs
    obtain ⟨rfl, rfl, rfl⟩ := hcs
    simp only [if_true] at hmm
    have hmm2 := hmm.symm
    subst hmm2
    clear hmm
    obtain ⟨rfl, rfl⟩ := Prod.mk.inj hx
    rw [hk] at hi
    obtain ⟨L, hL⟩ := choose_rows (p := fun i L => W.cells? 0 (a.add (i * k)) k = some L ∧ DataW.trod enc P W 0 (fun _ => true) true n e L = some (D i, Pl i)) cap0 hi
    have hcell : ∀ i, i < cap0 → ∀ j, j < k → W.cell? ((a.add (i * k)).add j) = (L i)[j]? := fun i hi j hj => (World.cells?_some (hL i hi).1).2.2 j hj
    have hlen : ∀ i, i < cap0 → (L i).length = k := fun i hi => (World.cells?_some (hL i hi).1).2.1
    have hsp : 0 < cap0 → a.spot = none ∧ a.block < W.heap.size := fun hc => by
      have h := hcell 0 hc 0 hk0
      rw [List.getElem?_eq_getElem (by rw [hlen 0 hc]; exact hk0), Nat.zero_mul] at h
      exact spot_of h
    refine ⟨a, len0, cap0, L, rfl, hl, hm, fun h0 => hsp (by omega), fun i hi => ?_, fun W' sp' hW hps => ?_⟩
    · refine ⟨(law (hL i (by omega)).2).1, hlen i (by omega), fun j u hu => ?_⟩
      obtain ⟨h1, h2⟩ := hsp (by omega)
      have hj : j < k := by have := (List.getElem?_eq_some_iff.1 hu).1; rw [hlen i (by omega)] at this; exact this
      have h := hcell i (by omega) j hj
      rw [hu] at h
      obtain ⟨ab, ao, az⟩ := a
      subst h1
      rw [add_plain', add_plain'] at h
      exact h
    · by_cases h0 : cap0 = 0
      · subst h0
        obtain rfl : len0 = 0 := by omega
        refine ⟨1, ?_⟩
        rw [DataW.trod_step]
        unfold DataW.trodStep
        simp only [Value.cells, ht]
        simp [MemPlace.row]
      · obtain ⟨h1, h2⟩ := hsp (by omega)
        have hs : sp' a.block = true := by
          have hmem : MemPlace.cell a.block (a.off + 0) ∈ MemPlace.row a (cap0 * P.cellsOf e) := List.mem_map.2 ⟨0, List.mem_range.2 (by rw [hk]; exact Nat.mul_pos (by omega) hk0), rfl⟩
          exact hps _ (List.mem_append_left _ hmem)
        refine shut_slice_whole ht (Nat.zero_le _) hl hm hs D Pl fun i hic => ⟨L i, n0, ?_, ?_⟩
        · rw [hk]
          obtain ⟨ab, ao, az⟩ := a
          subst h1
          have hc := (hL i hic).1
          unfold World.cells? at hc ⊢
          rw [if_pos (Nat.zero_le _)] at hc ⊢
          rw [← hc]
          congr 1
          funext j
          rw [add_plain', add_plain']
          exact hW.cell (p := ⟨ab, ao + i * k + j, none⟩) h2
        · have := (law (hL i hic).2).2
          rw [this.1]; exact this.2 _ _ _ _
end
end Go.Proofs.Ytiaikjeljhfadaa
