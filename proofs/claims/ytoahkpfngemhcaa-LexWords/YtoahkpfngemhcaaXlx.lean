/- LexWords answers true of every words and blanks. No conditions. -/
import Derived.Test.YtoahkpfngemhcaaXlw
import Derived.Test.YtoahkpfngemhcaaXem
import Derived.Test.YtoahkpfngemhcaaPst
import Derived.Test.YtoahkpfngemhcaaRows
import Derived.WalkKit
import Derived.ProofKit
import Derived.OpenShut
import Derived.Carry
import Derived.SliceStrings
import Derived.Deep.Slices
namespace Go.Proofs.Ytoahkpfngemhcaa
set_option linter.unusedSimpArgs false
set_option linter.unusedVariables false
open Go.ChangeShapes Go.WideShapes Go.ChangeAt Go.RowKit Go.Deep
theorem spot_no {a : Addr} {w : World} {v : Value} (h : w.cell? a = some v) : a.spot = none := by
  unfold World.cell? at h
  split at h
  · split at h
    · cases h
    · rename_i hs
      simpa using hs
  · cases h
theorem add_at (b o j : Nat) : (⟨b, o, none⟩ : Addr).add j = ⟨b, o + j, none⟩ := by
  unfold Addr.add
  split
  · rename_i h; rw [h]; rfl
  · rfl
theorem list_of {α : Type} {p : Nat → α → Prop} : ∀ (m : Nat), (∀ i, i < m → ∃ L, p i L) → ∃ M : List α, M.length = m ∧ ∀ (i : Nat) x, M[i]? = some x → p i x
  | 0, _ => ⟨[], rfl, fun i x h => by simp at h⟩
  | m + 1, h => by
    obtain ⟨M, hM, hp⟩ := list_of m fun i hi => h i (by omega)
    obtain ⟨L, hL⟩ := h m (by omega)
    refine ⟨M ++ [L], by simp [hM], fun i x hx => ?_⟩
    by_cases e : i < m
    · rw [List.getElem?_append_left (by omega)] at hx
      exact hp i x hx
    · have hi : i < (M ++ [L]).length := (List.getElem?_eq_some_iff.1 hx).1
      have e2 : i = m := by simp at hi; omega
      subst e2
      rw [List.getElem?_append_right (by omega), hM, Nat.sub_self] at hx
      simp at hx
      subst hx; exact hL
section
variable {H : Type} {enc : TypeId × Value → H}
theorem open_words {W : World} {fuel : Nat} {x : Value} {d : DataW H × List MemPlace} (h : DataW.trod enc Try.prog W 0 (fun _ => true) true fuel 33 [x] = some d) :
    ∃ ws : List (List UInt8), RdS W x ws ∧ ws.length ≤ maxLen ∧ ∀ u ∈ ws, u.length ≤ maxLen := by
  rcases open_strings Try.underlying33 Try.underlying9 (by kernel_rfl) h with ⟨h0, _⟩ | ⟨a, len, cap, ss, hcs, _, hl, hm, hsl, _, hc, hmx⟩
  · simp only [List.cons.injEq, and_true] at h0
    exact ⟨[], .inl ⟨rfl, none, 0, h0⟩, Nat.zero_le _, by simp⟩
  · simp only [List.cons.injEq, and_true] at hcs
    simp only [if_true] at hsl
    have hlen : ((ss.take len).map fun s => s.data.toList).length = len := by simp; omega
    refine ⟨(ss.take len).map fun s => s.data.toList, ?_, by rw [hlen]; omega, ?_⟩
    · by_cases h0 : len = 0
      · subst h0
        exact .inl ⟨by simp, some a, cap, hcs⟩
      · have hsp := spot_no (hc 0 (by omega))
        obtain ⟨ab, ao, az⟩ := a
        have hz : az = none := by
          unfold Addr.add at hsp
          split at hsp
          · exact hsp
          · rename_i h; exact absurd rfl h
        subst hz
        refine .inr ⟨ab, ao, cap, by rw [hlen]; exact hcs, by rw [hlen]; exact hl, fun j u hu => ?_⟩
        have hj : j < len := by
          have := (List.getElem?_eq_some_iff.1 hu).1
          rw [hlen] at this; exact this
        have h1 := hc j (by omega)
        rw [add_at] at h1
        rw [h1]
        have hjs : j < ss.length := by omega
        simp only [List.getElem?_map, List.getElem?_take, hj, if_true, List.getElem?_eq_getElem hjs, Option.map_some, Option.some.injEq] at hu
        subst hu
        rw [List.getD, List.getElem?_eq_getElem hjs]
        rfl
    · intro u hu
      obtain ⟨s, hs, rfl⟩ := List.mem_map.1 hu
      have := hmx s (List.mem_of_mem_take hs)
      show s.data.toList.length ≤ maxLen
      rw [Array.length_toList]
      exact this
theorem open_rws {W : World} {r : Reach} {b0 : Nat} {v : Value} {d : DataW H} {ps : List MemPlace} (hval : Value.okWide Try.prog W r b0 31 v) (hd : DataW.Trod enc Try.prog W 0 (fun _ => true) true 31 v d ps) :
    ∃ M : List (List (List UInt8)), RdM W v M ∧ M.length ≤ maxLen ∧ ∀ ws ∈ M, ws.length ≤ maxLen ∧ ∀ u ∈ ws, u.length ≤ maxLen := by
  obtain ⟨a0, len0, cap0, rfl⟩ := okWide_slice Try.underlying31 hval
  obtain ⟨fuel, hf⟩ := hd
  simp only [Value.cells] at hf
  rcases open_slice1 Try.underlying31 (by kernel_rfl) hf with ⟨h0, _⟩ | ⟨a, len, cap, m, n, V, D, Pl, hcs, _, hl, hm, hmm, _, hi⟩
  · simp only [List.cons.injEq, and_true] at h0
    exact ⟨[], .inl ⟨rfl, none, 0, h0⟩, Nat.zero_le _, by simp⟩
  · simp only [List.cons.injEq, and_true] at hcs
    simp only [if_true] at hmm
    subst hmm
    obtain ⟨M, hM, hp⟩ := list_of (p := fun i (ws : List (List UInt8)) => W.cell? (a.add i) = some (V i) ∧ RdS W (V i) ws ∧ ws.length ≤ maxLen ∧ ∀ u ∈ ws, u.length ≤ maxLen) len fun i hil => by
      obtain ⟨h1, h2⟩ := hi i (by omega)
      obtain ⟨ws, k1, k2, k3⟩ := open_words h2
      exact ⟨ws, h1, k1, k2, k3⟩
    refine ⟨M, ?_, by omega, fun ws hws => ?_⟩
    · by_cases h0 : len = 0
      · subst h0
        exact .inl ⟨List.eq_nil_of_length_eq_zero hM, some a, m, hcs⟩
      · have hsp := spot_no (hi 0 (by omega)).1
        obtain ⟨ab, ao, az⟩ := a
        have hz : az = none := by
          unfold Addr.add at hsp
          split at hsp
          · exact hsp
          · rename_i h; exact absurd rfl h
        subst hz
        refine .inr ⟨ab, ao, m, by rw [hM]; exact hcs, by omega, fun i ws hws => ?_⟩
        obtain ⟨h1, h2, _⟩ := hp i ws hws
        rw [add_at] at h1
        exact ⟨V i, h1, h2⟩
    · obtain ⟨i, hi'⟩ := List.getElem?_of_mem hws
      exact (hp i ws hi').2.2
end
theorem lwords_all {v0 : Value} {w0 : World} (h : ∃ M : List (List (List UInt8)), RdM w0 v0 M ∧ M.length ≤ maxLen ∧ ∀ ws ∈ M, ws.length ≤ maxLen ∧ ∀ u ∈ ws, u.length ≤ maxLen) (a : Int) (ha : (Lit.int .u8 a).wf = true) (mark : Bool) (w : World) (e : w0 = w := by rfl) :
    Calls Try.prog 4 #[v0, .int .u8 a, .bool mark] w fun e w' => e = .returned (.bool true) ∧ Below w.heap.size w w' := by
  subst e
  obtain ⟨M, h1, h2, h3⟩ := h
  obtain ⟨n, rfl, hn⟩ := u8_nat ha
  exact lwords_walk v0 M n hn mark w0 h1 h2 h3
end Go.Proofs.Ytoahkpfngemhcaa
namespace Go.Proofs.Ytoahkpfngemhcaa.lexWords
open Go.ChangeShapes Go.WideShapes Go.ChangeAt Go.RowKit
set_option linter.unusedVariables false
theorem own : ownKnob Try.prog.godebug = none := by kernel_rfl
theorem laid : laidOutB Try.prog = true := by kernel_rfl
set_option maxRecDepth 100000 in
theorem lifted (os : Os) (started : os.Started) (H : Type) (enc : TypeId × Value → H) :
    ReturnsInHanded {} Try.checked os 4 .any (Rows.lexWordsSpec.pre6 enc Try.prog Try.f4 Rows.lexWordsRow.domain false) (Rows.lexWordsSpec.post enc Try.prog Try.f4 false true false false) := by
  refine returnsInHanded_of_change (C := Try.checked) own started (by kernel_rfl) Try.func4
    (ChangeSpec.witness6 (enc := enc) (C := Try.checked) false ⟨#[], #[.slice none 0 0, .int .u8 0, .bool false], []⟩ 8 (by kernel_rfl) (by kernel_rfl) (by kernel_rfl) (by kernel_rfl)) ?_
  intro W base args ds gs before hval0 hW hcnd _
  have hval : ∀ (j : Nat) t v, Try.f4.params[j]? = some t → args[j]? = some v → Value.okWide Try.prog W .any base t v := hval0
  have hW' := hW
  obtain ⟨p, q, hA0, hV, rfl, hfz, hnd⟩ := hW
  have hA : DataW.TrodAll enc Try.prog W 0 (fun _ => true) true Try.f4.params.toList args.toList ds p := hA0
  rw [Try.params4] at hA hval
  obtain ⟨v0, vs0, d0, ds0, p0, q0, hargs, rfl, rfl, h0, r0⟩ := trodAll_cons hA
  obtain ⟨v1, vs1, d1, ds1, p1, q1, rfl, rfl, rfl, h1, r1⟩ := trodAll_cons r0
  obtain ⟨v2, vs2, d2, ds2, p2, q2, rfl, rfl, rfl, h2, r2⟩ := trodAll_cons r1
  obtain ⟨rfl, rfl, rfl⟩ := trodAll_nil r2
  obtain rfl : args = #[v0, v1, v2] := by cases args; simp_all
  obtain ⟨rfl, rfl⟩ := trodVars_none hV
  have rd0 := open_rws (hval 0 31 v0 rfl rfl) h0
  obtain ⟨a1, rfl, rfl, rfl, w1⟩ := open_int Try.underlying5 (hval 1 5 v1 rfl rfl) h1
  obtain ⟨a2, rfl, rfl, rfl⟩ := open_bool Try.underlying4 (hval 2 4 v2 rfl rfl) h2
  clear hA0 hval0
  have hlt := hW'.lt
  refine (lwords_all rd0 a1 w1 a2 W).mono fun e W' ⟨he, hg⟩ => ?_
  subst he
  exact ⟨_, rfl, post_of_below (pa := p0 ++ []) (pv := []) hW' (fun _ _ _ => (trodAll_cons_mk (shut_bool Try.underlying4 _) trodAll_mk0)) (fun sp hs => (trodAll_cons_mk (Go.WideElems.Trod_stays laid (by kernel_rfl) (of_decide_eq_true (by kernel_rfl)) h0 (fun x hx => hg.same (hlt x (by simp [hx]))) (fun x hx => hs x (by simp [hx]))) (trodAll_cons_mk (shut_int Try.underlying5 w1) (trodAll_cons_mk (shut_bool Try.underlying4 _) trodAll_mk0)))) (fun _ _ => rfl) (by simp)
    hg (ok_one (by kernel_rfl) rfl (okWide_bool_mk Try.underlying4 _))⟩
theorem over : Rows.lexWordsRow.holds Try.pinned (OpenSpec.ofChange Rows.lexWordsSpec) :=
  OpenClaim.holds_of_wide 4 Try.f4 rfl rfl rfl rfl rfl rfl rfl ⟨rfl, rfl, rfl, rfl, rfl⟩ rfl rfl rfl rfl rfl (by kernel_rfl) Try.func4 (by kernel_rfl)
    (of_decide_eq_true (by kernel_rfl)) (by unfold Func.isWrapper; first | (rw [if_pos (by decide +kernel)]; kernel_rfl) | (rw [if_neg (by decide +kernel)]; exact ⟨rfl, rfl⟩))
    (fun os started H enc _ => lifted os started H enc)
end Go.Proofs.Ytoahkpfngemhcaa.lexWords
namespace Go.Proofs.Ytoahkpfngemhcaa
theorem lexWords_holds : Rows.LexWordsSaid := lexWords.over
#print axioms lexWords_holds
end Go.Proofs.Ytoahkpfngemhcaa
