/- Options, rows of words among the arguments are read. -/
import Derived.Test.YthcgbchgfdkhiaaDoorXos
import Derived.Test.YthcgbchgfdkhiaaDoorZpr
namespace Go.Proofs.YthcgbchgfdkhiaaDoor
set_option linter.unusedSimpArgs false
set_option linter.unusedVariables false
open Go.ChangeShapes Go.WideShapes Go.ChangeAt Go.RowKit Go.Deep
set_option maxRecDepth 100000
theorem i64_of {a : Int} (h : (Lit.int .i64 a).wf = true) : i64ok a := by
  simp only [Lit.wf, Bool.and_eq_true, decide_eq_true_eq] at h
  exact h
section
variable {H : Type} {enc : TypeId × Value → H}
theorem open_size {W : World} {base : Nat} {sp : Nat → Bool} {held : Bool} {fuel : Nat} {L : List Value} {d : DataW H} {ps : List MemPlace} (h : DataW.trod enc Tryd.prog W base sp held fuel 40 L = some (d, ps)) :
    ∃ x y z : Int, L = [.int .i64 x, .int .i64 y, .int .i64 z] ∧ z3ok (x, y, z) := by
  obtain ⟨y0, y1, y2, n, hx, hl, h0, h1, h2⟩ := trod_struct3 Tryd.underlying40 h
  have c3 : Tryd.prog.cellsOf 3 = 1 := by kernel_rfl
  have c40 : Tryd.prog.cellsOf 40 = 3 := by kernel_rfl
  rw [c40] at hl
  match L, hl with
  | [a, b, c], _ =>
    simp only [c3] at h0 h1 h2
    obtain ⟨x, e0, _, w0⟩ := DataW.trod_int Tryd.underlying3 h0
    obtain ⟨y, e1, _, w1⟩ := DataW.trod_int Tryd.underlying3 h1
    obtain ⟨z, e2, _, w2⟩ := DataW.trod_int Tryd.underlying3 h2
    have f0 : a = .int .i64 x := by simpa using e0
    have f1 : b = .int .i64 y := by simpa using e1
    have f2 : c = .int .i64 z := by simpa using e2
    exact ⟨x, y, z, by rw [f0, f1, f2], i64_of w0, i64_of w1, i64_of w2⟩
theorem open_sizes {W : World} {fuel : Nat} {x : Value} {d : DataW H × List MemPlace} (h : DataW.trod enc Tryd.prog W 0 (fun _ => true) true fuel 23 [x] = some d) :
    ∃ Z : List (Int × Int × Int), RdZ W x Z ∧ Z.length ≤ maxLen ∧ ∀ p ∈ Z, z3ok p := by
  have c40 : Tryd.prog.cellsOf 40 = 3 := by kernel_rfl
  rcases open_slice Tryd.underlying23 h with ⟨h0, _⟩ | ⟨a, len, cap, m, n, D, Pl, hcs, _, hl, hm, hmm, _, hi⟩
  · simp only [List.cons.injEq, and_true] at h0
    exact ⟨[], .inl ⟨rfl, none, 0, h0⟩, Nat.zero_le _, by simp⟩
  · simp only [List.cons.injEq, and_true] at hcs
    simp only [if_true] at hmm
    subst hmm
    rw [c40] at hi
    obtain ⟨Z, hZ, hp⟩ := list_of (p := fun i (p : Int × Int × Int) => W.cell? (a.add (i * 3)) = some (.int .i64 p.1) ∧ W.cell? ((a.add (i * 3)).add 1) = some (.int .i64 p.2.1) ∧ W.cell? ((a.add (i * 3)).add 2) = some (.int .i64 p.2.2) ∧ z3ok p) len fun i hil => by
      obtain ⟨L, h1, h2⟩ := hi i (by omega)
      obtain ⟨x, y, z, rfl, hz⟩ := open_size h2
      have hc := (World.cells?_some h1).2.2
      have k0 := hc 0 (by omega)
      rw [show (a.add (i * 3)).add 0 = a.add (i * 3) by simp [Addr.add]] at k0
      exact ⟨(x, y, z), k0, hc 1 (by omega), hc 2 (by omega), hz⟩
    refine ⟨Z, ?_, by omega, fun p hp' => ?_⟩
    · by_cases h0 : len = 0
      · subst h0
        exact .inl ⟨List.eq_nil_of_length_eq_zero hZ, some a, m, hcs⟩
      · obtain ⟨p0, hp0⟩ : ∃ p0, Z[0]? = some p0 := ⟨_, List.getElem?_eq_getElem (by omega)⟩
        have hsp := spot_no (hp 0 p0 hp0).1
        obtain ⟨ab, ao, az⟩ := a
        have hz : az = none := by
          unfold Addr.add at hsp
          split at hsp
          · exact hsp
          · rename_i h; exact absurd rfl h
        subst hz
        refine .inr ⟨ab, ao, m, by rw [hZ]; exact hcs, by omega, fun i p hi' => ?_⟩
        obtain ⟨h1, h2, h3, _⟩ := hp i p hi'
        rw [add_at] at h1 h2 h3
        rw [add_at] at h2 h3
        exact ⟨h1, h2, h3⟩
    · obtain ⟨i, hi'⟩ := List.getElem?_of_mem hp'
      exact (hp i p hi').2.2.2
theorem open_opts {W : World} {r : Reach} {b0 : Nat} {v : Value} {d : DataW H} {ps : List MemPlace} (hval : Value.okWide Tryd.prog W r b0 25 v) (hd : DataW.Trod enc Tryd.prog W 0 (fun _ => true) true 25 v d ps) :
    ∃ (h c : Int) (zv : Value) (Z : List (Int × Int × Int)), v = .agg #[.int .i64 h, .int .i64 c, zv] ∧ RdZ W zv Z ∧ Z.length ≤ maxLen ∧ (∀ p ∈ Z, z3ok p) ∧ i64ok h ∧ i64ok c := by
  simp only [Value.okWide, Tryd.underlying25] at hval
  obtain ⟨cs, rfl, hcs, _⟩ := hval
  obtain ⟨fuel, hf⟩ := hd
  obtain ⟨y0, y1, y2, n, hx, hl, h0, h1, h2⟩ := trod_struct3 Tryd.underlying25 hf
  have c3 : Tryd.prog.cellsOf 3 = 1 := by kernel_rfl
  have c23 : Tryd.prog.cellsOf 23 = 1 := by kernel_rfl
  have c25 : Tryd.prog.cellsOf 25 = 3 := by kernel_rfl
  simp only [Value.cells] at hl h0 h1 h2
  rw [c25] at hl
  obtain ⟨L, hL⟩ : ∃ L, cs.toList = L := ⟨_, rfl⟩
  rw [hL] at hl h0 h1 h2
  match L, hl with
  | [a, b, e], _ =>
    simp only [c3, c23] at h0 h1 h2
    obtain ⟨h, e0, _, w0⟩ := DataW.trod_int Tryd.underlying3 h0
    obtain ⟨c, e1, _, w1⟩ := DataW.trod_int Tryd.underlying3 h1
    have f0 : a = .int .i64 h := by simpa using e0
    have f1 : b = .int .i64 c := by simpa using e1
    have h2' : DataW.trod enc Tryd.prog W 0 (fun _ => true) true n 23 [e] = some y2 := by simpa using h2
    obtain ⟨Z, k1, k2, k3⟩ := open_sizes h2'
    exact ⟨h, c, e, Z, by rw [← f0, ← f1]; exact congrArg Value.agg (by rw [← Array.toArray_toList (xs := cs), hL]), k1, k2, k3, i64_of w0, i64_of w1⟩
theorem open_wordsV {W : World} {r : Reach} {b0 : Nat} {v : Value} {d : DataW H} {ps : List MemPlace} (hval : Value.okWide Tryd.prog W r b0 22 v) (hd : DataW.Trod enc Tryd.prog W 0 (fun _ => true) true 22 v d ps) :
    ∃ ws : List (List UInt8), RdS W v ws ∧ ws.length ≤ maxLen ∧ ∀ u ∈ ws, u.length ≤ maxLen := by
  obtain ⟨a0, len0, cap0, rfl⟩ := okWide_slice Tryd.underlying22 hval
  obtain ⟨fuel, hf⟩ := hd
  simp only [Value.cells] at hf
  exact open_words hf
end
end Go.Proofs.YthcgbchgfdkhiaaDoor
