/- A point among the arguments: read, and laid again. -/
import Derived.Test.YtoegjibeomhekaaGreatReq
import Derived.Test.YtoegjibeomhekaaGreatPst
namespace Go.Proofs.YtoegjibeomhekaaGreat
set_option linter.unusedSimpArgs false
set_option linter.unusedVariables false
open Go.ChangeShapes Go.WideShapes Go.ChangeAt Go.RowKit
set_option maxRecDepth 100000
section
variable {H : Type} {enc : TypeId × Value → H}
/-- A point that is handed in: what it is, and that it reads so in every world. -/
theorem open_point {W : World} {base : Nat} {sp : Nat → Bool} {held : Bool} {r : Reach} {b0 : Nat} {v : Value} {d : DataW H} {ps : List MemPlace} (hval : Value.okWide Tryz.prog W r b0 47 v) (hd : DataW.Trod enc Tryz.prog W base sp held 47 v d ps) :
    ∃ (s : Bool) (N : Nat) (t : Bool) (M : Nat) (s' : Bool) (N' : Nat) (t' : Bool) (M' : Nat), v = .agg (rr s N t M ++ rr s' N' t' M').toArray ∧ N < bb ^ 32 ∧ M < bb ^ 32 ∧ N' < bb ^ 32 ∧ M' < bb ^ 32 ∧ ps = [] ∧ ∀ W' base' sp' held', DataW.Trod enc Tryz.prog W' base' sp' held' 47 v d [] := by
  simp only [Value.okWide, Tryz.underlying47] at hval
  obtain ⟨cs, rfl, hcs, _⟩ := hval
  obtain ⟨fuel, hf⟩ := hd
  simp only [Value.cells] at hf
  obtain ⟨y0, y1, n, hx, hl, hb, ha⟩ := trod_struct2 Tryz.underlying47 hf
  have c45 : Tryz.prog.cellsOf 45 = 66 := by kernel_rfl
  have c66 : Tryz.prog.cellsOf 47 = 132 := by kernel_rfl
  rw [c66] at hl
  simp only [c45, List.drop_zero] at hb ha
  obtain ⟨s, N, t, M, e0, hN, hM, hp0, sh0⟩ := rat_cells (d := y0.1) (ps := y0.2) hb
  obtain ⟨s', N', t', M', e1, hN', hM', hp1, sh1⟩ := rat_cells (d := y1.1) (ps := y1.2) ha
  have hall : cs.toList = rr s N t M ++ rr s' N' t' M' := by
    have h1 : cs.toList = cs.toList.take 66 ++ cs.toList.drop 66 := (List.take_append_drop 66 _).symm
    have h2 : (cs.toList.drop 66).take 66 = cs.toList.drop 66 := List.take_of_length_le (by simp at hl ⊢; omega)
    rw [h2] at e1
    rw [h1, e0, e1]
  have hcs' : cs = (rr s N t M ++ rr s' N' t' M').toArray := by rw [← hall, Array.toArray_toList]
  subst hcs'
  refine ⟨s, N, t, M, s', N', t', M', rfl, hN, hM, hN', hM', ?_, fun W' b' sp' h' => ⟨5, ?_⟩⟩
  · rw [(Prod.mk.inj hx).2, hp0, hp1]; rfl
  · simp only [Value.cells]
    have hs := trod_struct2_mk (enc := enc) (P := Tryz.prog) (w := W') (base := b') (spare := sp') (held := h') (n := 4) (y0 := (y0.1, [])) (y1 := (y1.1, [])) Tryz.underlying47 (cs := (rr s N t M ++ rr s' N' t' M')) (by rw [List.length_append, rr_length, rr_length, c66])
      (by simp only [c45, List.drop_zero]; exact sh0 _ _ _ _) (by simp only [c45]; exact sh1 _ _ _ _)
    rw [(Prod.mk.inj hx).1]
    exact hs
end
end Go.Proofs.YtoegjibeomhekaaGreat
