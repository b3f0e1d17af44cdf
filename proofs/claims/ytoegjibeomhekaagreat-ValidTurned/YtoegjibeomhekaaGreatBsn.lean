/- A slice written out, of elements of any number of cells: what it holds. -/
import Derived.Test.YtoegjibeomhekaaGreatMem
import Derived.WalkKit
namespace Go.Proofs.YtoegjibeomhekaaGreat
set_option linter.unusedSimpArgs false
set_option linter.unusedVariables false
/-- Rows behind one another (under a name). -/
def jn (Ps : List (List Value)) : List Value := Ps.flatten
theorem flat_get (n : Nat) : ∀ (Ps : List (List Value)) (k : Nat) (P : List Value) (j : Nat) (v : Value), (∀ P ∈ Ps, P.length = n) → Ps[k]? = some P → P[j]? = some v → Ps.flatten[k * n + j]? = some v
  | [], k, P, j, v, _, h, _ => by simp at h
  | X :: Ps, 0, P, j, v, hl, h, hj => by
    have e : X = P := by simpa using h
    subst e
    have := (List.getElem?_eq_some_iff.1 hj).1
    rw [List.flatten_cons, show 0 * n + j = j by omega, List.getElem?_append_left this]; exact hj
  | X :: Ps, k + 1, P, j, v, hl, h, hj => by
    have e : X.length = n := hl X (by simp)
    rw [List.flatten_cons, List.getElem?_append_right (by rw [e, Nat.add_mul]; omega), e, show (k + 1) * n + j - n = k * n + j by rw [Nat.add_mul]; omega]
    exact flat_get n Ps k P j v (fun Q hQ => hl Q (by simp [hQ])) (by simpa using h) hj
theorem set_run (off : Nat) : ∀ (P : List Value) (j0 : Nat) (pre mid tail : List Value), pre.length = off + j0 → mid.length = P.length →
    (P.zipIdx j0).foldl (fun cs (x : Value × Nat) => cs.setIfInBounds (off + x.2) x.1) (pre ++ (mid ++ tail)).toArray = (pre ++ (P ++ tail)).toArray
  | [], j0, pre, mid, tail, h, hm => by
    have : mid = [] := List.eq_nil_of_length_eq_zero (by simpa using hm)
    subst this; rfl
  | c :: P, j0, pre, m :: mid, tail, h, hm => by
    have hm' : mid.length = P.length := by simpa using hm
    rw [List.zipIdx_cons, List.foldl_cons]
    have e : ((pre ++ (m :: mid ++ tail)).toArray.setIfInBounds (off + j0) c) = ((pre ++ [c]) ++ (mid ++ tail)).toArray := by
      rw [List.setIfInBounds_toArray, ← h]
      simp
    show List.foldl _ ((pre ++ (m :: mid ++ tail)).toArray.setIfInBounds (off + j0) c) _ = _
    rw [e, set_run off P (j0 + 1) (pre ++ [c]) mid tail (by simp [h]; omega) hm']
    simp
  | c :: P, j0, pre, [], tail, h, hm => by simp at hm
theorem fill_rows (size : Nat) : ∀ (Ps : List (List Value)) (k : Nat) (pre rest : List Value), (∀ P ∈ Ps, P.length = size) → pre.length = k * size → rest.length = Ps.length * size →
    Instr.fill (fun i => some (i * size, size)) (pre ++ rest).toArray ((Ps.zipIdx k).map fun x => (x.2, .agg x.1.toArray)) = some (pre ++ Ps.flatten).toArray
  | [], k, pre, rest, hl, hp, hr => by
    have : rest = [] := List.eq_nil_of_length_eq_zero (by simpa using hr)
    subst this; rfl
  | P :: Ps, k, pre, rest, hl, hp, hr => by
    have hP : P.length = size := hl P (by simp)
    rw [List.length_cons, Nat.add_mul, Nat.one_mul] at hr
    have hr2 : rest = rest.take size ++ rest.drop size := (List.take_append_drop _ _).symm
    have ht : (rest.take size).length = P.length := by rw [List.length_take, hP]; omega
    rw [List.zipIdx_cons, List.map_cons]
    unfold Instr.fill
    simp only [Value.cells, List.size_toArray, hP, ne_eq, not_true_eq_false, decide_false, Bool.false_or, List.length_append]
    rw [if_neg (by simp; omega)]
    have hs := set_run (k * size) P 0 pre (rest.take size) (rest.drop size) (by omega) ht
    rw [← hr2] at hs
    rw [← Array.foldl_toList, Array.toList_zipIdx]
    have hs' : List.foldl (fun cs (x : Value × Nat) => match x with | (c, j) => cs.setIfInBounds (k * size + j) c) (pre ++ rest).toArray P.zipIdx = (pre ++ (P ++ rest.drop size)).toArray := hs
    show Instr.fill _ (List.foldl (fun cs (x : Value × Nat) => match x with | (c, j) => cs.setIfInBounds (k * size + j) c) (pre ++ rest).toArray P.zipIdx) _ = _
    rw [hs']
    have := fill_rows size Ps (k + 1) (pre ++ P) (rest.drop size) (fun Q hQ => hl Q (by simp [hQ])) (by rw [List.length_append, hp, hP, Nat.add_mul]; omega) (by rw [List.length_drop]; omega)
    rw [List.append_assoc] at this
    rw [this, List.flatten_cons, List.append_assoc]
theorem run_bs {P : Program} (w : World) {t e : TypeId} {i : TypeInfo} {size : Nat} {z : Value} (ht : P.underlying t = some (.slice e)) (hi : P.info? e = some i) (hsz : i.size = size) (hz : i.zero = some z) {Ps : List (List Value)} (hl : ∀ P ∈ Ps, P.length = size) (h0 : Ps.length * size ≠ 0) (hm : Ps.length * size ≤ 16777216) :
    (Instr.buildSlice t Ps.length ((Ps.zipIdx 0).map fun x => (x.2, .agg x.1.toArray)).toArray).run P w = .ok (.slice (some ⟨w.heap.size, 0, none⟩) Ps.length Ps.length) (w.alloc (.cells (jn Ps).toArray e)) := by
  subst hsz
  have hf := fill_rows i.size Ps 0 [] (((Array.range (Ps.length * i.size)).map (z.cells[· % z.cells.size]!)).toList) hl (by simp) (by simp)
  simp only [List.nil_append, Array.toArray_toList] at hf
  simp [Instr.buildSlice, run_underlying ht, sizeOf, typeInfo, zeroValue, hi, hz, hf, newRow, newObj, h0, show ¬ (16777216 < Ps.length * i.size) by omega, jn]
  rfl
end Go.Proofs.YtoegjibeomhekaaGreat
