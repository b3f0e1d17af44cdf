/- A Wide among the arguments: read, and laid again. -/
import Derived.Test.YtoegjibeomhekaaGreatArr
import Derived.WalkKit
import Derived.ProofKit
import Derived.OpenShut
namespace Go.Proofs.YtoegjibeomhekaaGreat
set_option linter.unusedSimpArgs false
set_option linter.unusedVariables false
open Go.ChangeShapes Go.WideShapes Go.ChangeAt Go.RowKit
set_option maxRecDepth 100000
theorem of_words : ∀ us : List Int, (∀ a ∈ us, 0 ≤ a ∧ a ≤ 4294967295) → ∃ N, N < bb ^ us.length ∧ ∀ i (h : i < us.length), (dig N i : Int) = us[i]
  | [], _ => ⟨0, by simp, fun i h => absurd h (by simp)⟩
  | a :: us, h => by
    obtain ⟨M, hM, hd⟩ := of_words us fun x hx => h x (List.mem_cons_of_mem _ hx)
    have ha := h a (List.mem_cons_self ..)
    have hb := bb_eq
    have hlt : a.toNat < bb := by omega
    refine ⟨a.toNat + bb * M, ?_, ?_⟩
    · rw [List.length_cons, Nat.pow_succ, Nat.mul_comm _ bb]
      have : bb * (M + 1) ≤ bb * bb ^ us.length := Nat.mul_le_mul_left _ hM
      rw [Nat.mul_add, Nat.mul_one] at this
      omega
    · intro i hi
      cases i with
      | zero =>
        rw [List.getElem_cons_zero, dig, Nat.pow_zero, Nat.div_one, Nat.add_mul_mod_self_left, Nat.mod_eq_of_lt hlt]
        omega
      | succ i =>
        rw [List.getElem_cons_succ, ← hd i (by simpa using hi), dig, dig, Nat.pow_succ, Nat.mul_comm _ bb, ← Nat.div_div_eq_div_mul, Nat.add_mul_div_left _ _ bb_pos, Nat.div_eq_of_lt hlt, Nat.zero_add]
theorem wc_of (us : List Int) (hl : us.length = 32) (h : ∀ a ∈ us, 0 ≤ a ∧ a ≤ 4294967295) : ∃ N, N < bb ^ 32 ∧ us.map (Value.int .u32) = wc N := by
  obtain ⟨N, hN, hd⟩ := of_words us h
  rw [hl] at hN
  refine ⟨N, hN, ?_⟩
  apply List.ext_getElem?
  intro i
  by_cases hi : i < 32
  · rw [wc_get N i hi, List.getElem?_map, List.getElem?_eq_getElem (by omega), Option.map_some, ← hd i (by omega)]
  · rw [List.getElem?_eq_none (by simp; omega), List.getElem?_eq_none (by rw [wc_length]; omega)]
section
variable {H : Type} {enc : TypeId × Value → H}
theorem words_open {W : World} {base : Nat} {sp : Nat → Bool} {held : Bool} {m : Nat} {f : Nat → List Value} : ∀ (L : List Nat) (ys : List (DataW H × List MemPlace)),
    L.mapM (fun i => DataW.trod enc Tryz.prog W base sp held m 27 (f i)) = some ys →
    ∃ us : List Int, ys = us.map (fun a => (.lit (.int .u32 a), [])) ∧ (∀ a ∈ us, (Lit.int .u32 a).wf = true) ∧ L.map f = us.map fun a => [.int .u32 a]
  | [], ys, h => by
    simp at h
    subst h
    exact ⟨[], rfl, fun a h => absurd h (by simp), rfl⟩
  | i :: L, ys, h => by
    rw [List.mapM_cons] at h
    simp only [bind, Option.bind_eq_some_iff, pure, Option.some.injEq] at h
    obtain ⟨y, hy, zs, hzs, rfl⟩ := h
    obtain ⟨us, rfl, hw, hf⟩ := words_open L zs hzs
    obtain ⟨a, ea, rfl, wa⟩ := DataW.trod_int Tryz.underlying27 hy
    refine ⟨a :: us, rfl, fun x hx => ?_, by rw [List.map_cons, List.map_cons, hf, ea]⟩
    rcases List.mem_cons.1 hx with rfl | hx
    · exact wa
    · exact hw x hx
theorem words_shut {W : World} {base : Nat} {sp : Nat → Bool} {held : Bool} {m : Nat} {f : Nat → List Value} : ∀ (L : List Nat) (us : List Int),
    (∀ a ∈ us, (Lit.int .u32 a).wf = true) → L.map f = us.map (fun a => [.int .u32 a]) →
    L.mapM (fun i => DataW.trod enc Tryz.prog W base sp held (m + 1) 27 (f i)) = some (us.map (fun a => ((.lit (.int .u32 a) : DataW H), [])))
  | [], us, _, h => by
    cases us with
    | nil => rfl
    | cons a us => simp at h
  | i :: L, us, hw, h => by
    cases us with
    | nil => simp at h
    | cons a us =>
      rw [List.map_cons, List.map_cons] at h
      obtain ⟨h1, h2⟩ := List.cons.inj h
      rw [List.mapM_cons, words_shut L us (fun x hx => hw x (List.mem_cons_of_mem _ hx)) h2, h1, trod_int_mk m Tryz.underlying27 (hw a (List.mem_cons_self ..))]
      rfl
theorem map_take : ∀ (cs : List Value) (us : List Int), (List.range cs.length).map (fun i => (cs.drop (i * 1)).take 1) = us.map (fun a => [Value.int .u32 a]) → cs = us.map (Value.int .u32)
  | cs, us, h => by
    have hl : cs.length = us.length := by simpa using congrArg List.length h
    apply List.ext_getElem (by simpa using hl)
    intro i h1 h2
    have := congrArg (fun l => l[i]?) h
    simp [h1, hl ▸ h1, List.take_one, List.head?_drop] at this
    simpa using this
/-- A Wide that is handed in: what it is, and that it reads so in every world. -/
theorem open_wide {W : World} {base : Nat} {sp : Nat → Bool} {held : Bool} {r : Reach} {b0 : Nat} {v : Value} {d : DataW H} {ps : List MemPlace} (hval : Value.okWide Tryz.prog W r b0 43 v) (hd : DataW.Trod enc Tryz.prog W base sp held 43 v d ps) :
    ∃ (s : Bool) (N : Nat), v = .agg (wd s N).toArray ∧ N < bb ^ 32 ∧ ps = [] ∧ ∀ W' base' sp' held', DataW.Trod enc Tryz.prog W' base' sp' held' 43 v d [] := by
  simp only [Value.okWide, Tryz.underlying43] at hval
  obtain ⟨cs, rfl, hcs, _⟩ := hval
  obtain ⟨fuel, hf⟩ := hd
  obtain ⟨y0, y1, n, hx, hl, hb, ha⟩ := trod_struct2 Tryz.underlying43 hf
  have c4 : Tryz.prog.cellsOf 4 = 1 := by kernel_rfl
  have c22 : Tryz.prog.cellsOf 27 = 1 := by kernel_rfl
  have c23 : Tryz.prog.cellsOf 41 = 32 := by kernel_rfl
  have c25 : Tryz.prog.cellsOf 43 = 33 := by kernel_rfl
  simp only [Value.cells] at hl hb ha
  rw [c25] at hl
  simp only [c4, c23, List.drop_zero] at hb ha
  obtain ⟨s, es, rfl⟩ := DataW.trod_bool Tryz.underlying4 hb
  cases n with
  | zero => simp [DataW.trod] at ha
  | succ m =>
    rw [DataW.trod_step] at ha
    unfold DataW.trodStep at ha
    simp only [Tryz.underlying41, c23, c22] at ha
    have hw : ((cs.toList.drop 1).take 32).length = 32 := by simp at hl ⊢; omega
    rw [if_pos hw] at ha
    simp only [Option.map_eq_some_iff] at ha
    obtain ⟨ys, hy, e1⟩ := ha
    obtain ⟨us, rfl, hu, hm⟩ := words_open _ ys hy
    have hm' := map_take ((cs.toList.drop 1).take 32) us (by rw [hw]; exact hm)
    have hul : us.length = 32 := by simpa using (congrArg List.length hm).symm
    obtain ⟨N, hN, eN⟩ := wc_of us hul fun a ha => by
      have h := hu a ha
      simp only [Lit.wf, Bool.and_eq_true, decide_eq_true_eq] at h
      exact h
    rw [eN] at hm'
    have hall : cs.toList = wd s N := by
      have h1 : cs.toList = cs.toList.take 1 ++ cs.toList.drop 1 := (List.take_append_drop 1 _).symm
      have h2 : (cs.toList.drop 1).take 32 = cs.toList.drop 1 := List.take_of_length_le (by simp at hl ⊢; omega)
      rw [h2] at hm'
      rw [h1, es, hm']; rfl
    have hcs' : cs = (wd s N).toArray := by rw [← hall, Array.toArray_toList]
    subst hcs'
    have hy1 : y1.2 = [] := by
      rw [← e1]
      simp [List.flatMap_eq_nil_iff]
    refine ⟨s, N, rfl, hN, ?_, ?_⟩
    · rw [(Prod.mk.inj hx).2, hy1]; rfl
    · intro W' base' sp' held'
      refine ⟨2 + 1, ?_⟩
      have hs := trod_struct2_mk (enc := enc) (P := Tryz.prog) (w := W') (base := base') (spare := sp') (held := held') (n := 2) (y0 := (.lit (.bool s), [])) (y1 := y1) Tryz.underlying43 (cs := (wd s N)) (by rw [wd_length, c25])
        (by simp only [c4, List.drop_zero]; rw [show (wd s N).take 1 = [.bool s] from rfl]; simp [DataW.trod, Tryz.underlying4]) (by
          simp only [c23]
          rw [DataW.trod_step]
          unfold DataW.trodStep
          simp only [Tryz.underlying41, c23, c22]
          rw [if_pos (by simpa using hw), words_shut (m := 0) _ us hu (by simpa using hm), Option.map_some, e1])
      rw [hy1] at hs
      rw [(Prod.mk.inj hx).1]
      exact hs
end
end Go.Proofs.YtoegjibeomhekaaGreat
