/- Joined of: Vto Vtx. -/
import Derived.Test.YtoegjibeomhekaaGreatVpu
import Derived.Test.YtoegjibeomhekaaGreatOpp
import Derived.WalkKit
import Derived.ProofKit
import Derived.OpenShut
import Derived.Deep.Slices
import Derived.Deep.Strs
import Derived.Test.YtoegjibeomhekaaGreatVtw2
import Derived.Test.YtoegjibeomhekaaGreatPst
import Derived.Test.YtoegjibeomhekaaGreatRows
import Derived.Carry
import Derived.SliceStrings
/- A drawing among the arguments is read. -/
namespace Go.Proofs.YtoegjibeomhekaaGreat
set_option linter.unusedSimpArgs false
set_option linter.unusedVariables false
open Go.ChangeShapes Go.WideShapes Go.ChangeAt Go.RowKit Go.Deep
set_option maxRecDepth 100000
theorem vspot_no {a : Addr} {w : World} {v : Value} (h : w.cell? a = some v) : a.spot = none := by
  unfold World.cell? at h
  split at h
  · split at h
    · cases h
    · rename_i hs
      simpa using hs
  · cases h
theorem vadd_at (b o j : Nat) : (⟨b, o, none⟩ : Addr).add j = ⟨b, o + j, none⟩ := by
  unfold Addr.add
  split
  · rename_i h; rw [h]; rfl
  · rfl
theorem vlist_of {α : Type} {p : Nat → α → Prop} : ∀ (m : Nat), (∀ i, i < m → ∃ L, p i L) → ∃ M : List α, M.length = m ∧ ∀ (i : Nat) x, M[i]? = some x → p i x
  | 0, _ => ⟨[], rfl, fun i x h => by simp at h⟩
  | m + 1, h => by
    obtain ⟨M, hM, hp⟩ := vlist_of m fun i hi => h i (by omega)
    obtain ⟨L, hL⟩ := h m (by omega)
    refine ⟨M ++ [L], by simp [hM], fun i x hx => ?_⟩
    by_cases e : i < m
    · rw [List.getElem?_append_left (by omega)] at hx
      exact hp i x hx
    · have hi : i < (M ++ [L]).length := (List.getElem?_eq_some_iff.1 hx).1
      have e2 : i = m := by simp at hi; omega
      subst e2
      rw [List.getElem?_append_right (by omega), hM, Nat.sub_self] at hx
      simp at hx
      subst hx; exact hL
def z3b (p : I3) : Prop := (-9223372036854775808 ≤ p.1 ∧ p.1 ≤ 9223372036854775807) ∧ (-9223372036854775808 ≤ p.2.1 ∧ p.2.1 ≤ 9223372036854775807) ∧ (-9223372036854775808 ≤ p.2.2 ∧ p.2.2 ≤ 9223372036854775807)
theorem vi64_of {a : Int} (h : (Lit.int .i64 a).wf = true) : -9223372036854775808 ≤ a ∧ a ≤ 9223372036854775807 := by
  simp only [Lit.wf, Bool.and_eq_true, decide_eq_true_eq] at h
  exact h
section
variable {H : Type} {enc : TypeId × Value → H}
theorem open_vert {W : World} {base : Nat} {sp : Nat → Bool} {held : Bool} {fuel : Nat} {L : List Value} {d : DataW H} {ps : List MemPlace} (h : DataW.trod enc Tryz.prog W base sp held fuel 31 L = some (d, ps)) :
    ∃ x y z : Int, L = [.int .i64 x, .int .i64 y, .int .i64 z] ∧ z3b (x, y, z) := by
  obtain ⟨y0, y1, y2, n, hx, hl, h0, h1, h2⟩ := trod_struct3 Tryz.underlying31 h
  have c3 : Tryz.prog.cellsOf 3 = 1 := by kernel_rfl
  have c40 : Tryz.prog.cellsOf 31 = 3 := by kernel_rfl
  rw [c40] at hl
  match L, hl with
  | [a, b, c], _ =>
    simp only [c3] at h0 h1 h2
    obtain ⟨x, e0, _, w0⟩ := DataW.trod_int Tryz.underlying3 h0
    obtain ⟨y, e1, _, w1⟩ := DataW.trod_int Tryz.underlying3 h1
    obtain ⟨z, e2, _, w2⟩ := DataW.trod_int Tryz.underlying3 h2
    have f0 : a = .int .i64 x := by simpa using e0
    have f1 : b = .int .i64 y := by simpa using e1
    have f2 : c = .int .i64 z := by simpa using e2
    exact ⟨x, y, z, by rw [f0, f1, f2], vi64_of w0, vi64_of w1, vi64_of w2⟩
theorem open_verts {W : World} {fuel : Nat} {x : Value} {d : DataW H × List MemPlace} (h : DataW.trod enc Tryz.prog W 0 (fun _ => true) true fuel 22 [x] = some d) :
    ∃ Z : List I3, RdT W x Z ∧ Z.length ≤ maxLen ∧ ∀ p ∈ Z, z3b p := by
  have c40 : Tryz.prog.cellsOf 31 = 3 := by kernel_rfl
  rcases open_slice Tryz.underlying22 h with ⟨h0, _⟩ | ⟨a, len, cap, m, n, D, Pl, hcs, _, hl, hm, hmm, _, hi⟩
  · simp only [List.cons.injEq, and_true] at h0
    exact ⟨[], .inl ⟨rfl, none, 0, h0⟩, Nat.zero_le _, by simp⟩
  · simp only [List.cons.injEq, and_true] at hcs
    simp only [if_true] at hmm
    subst hmm
    rw [c40] at hi
    obtain ⟨Z, hZ, hp⟩ := vlist_of (p := fun i (p : I3) => W.cell? (a.add (i * 3)) = some (.int .i64 p.1) ∧ W.cell? ((a.add (i * 3)).add 1) = some (.int .i64 p.2.1) ∧ W.cell? ((a.add (i * 3)).add 2) = some (.int .i64 p.2.2) ∧ z3b p) len fun i hil => by
      obtain ⟨L, h1, h2⟩ := hi i (by omega)
      obtain ⟨x, y, z, rfl, hz⟩ := open_vert h2
      have hc := (World.cells?_some h1).2.2
      have k0 := hc 0 (by omega)
      rw [show (a.add (i * 3)).add 0 = a.add (i * 3) by simp [Addr.add]] at k0
      exact ⟨(x, y, z), k0, hc 1 (by omega), hc 2 (by omega), hz⟩
    refine ⟨Z, ?_, by omega, fun p hp' => ?_⟩
    · by_cases h0 : len = 0
      · subst h0
        exact .inl ⟨List.eq_nil_of_length_eq_zero hZ, some a, m, hcs⟩
      · obtain ⟨p0, hp0⟩ : ∃ p0, Z[0]? = some p0 := ⟨_, List.getElem?_eq_getElem (by omega)⟩
        have hsp := vspot_no (hp 0 p0 hp0).1
        obtain ⟨ab, ao, az⟩ := a
        have hz : az = none := by
          unfold Addr.add at hsp
          split at hsp
          · exact hsp
          · rename_i h; exact absurd rfl h
        subst hz
        refine .inr ⟨ab, ao, m, by rw [hZ]; exact hcs, by omega, fun i p hi' => ?_⟩
        obtain ⟨h1, h2, h3, _⟩ := hp i p hi'
        rw [vadd_at] at h1 h2 h3
        rw [vadd_at] at h2 h3
        exact ⟨h1, h2, h3⟩
    · obtain ⟨i, hi'⟩ := List.getElem?_of_mem hp'
      exact (hp i p hi').2.2.2
theorem open_seg {W : World} {base : Nat} {sp : Nat → Bool} {held : Bool} {fuel : Nat} {L : List Value} {d : DataW H} {ps : List MemPlace} (h : DataW.trod enc Tryz.prog W base sp held fuel 33 L = some (d, ps)) :
    ∃ x y z : Int, L = [.int .i64 x, .int .i64 y, .int .i64 z] ∧ z3b (x, y, z) := by
  obtain ⟨y0, y1, y2, n, hx, hl, h0, h1, h2⟩ := trod_struct3 Tryz.underlying33 h
  have c3 : Tryz.prog.cellsOf 3 = 1 := by kernel_rfl
  have c40 : Tryz.prog.cellsOf 33 = 3 := by kernel_rfl
  rw [c40] at hl
  match L, hl with
  | [a, b, c], _ =>
    simp only [c3] at h0 h1 h2
    obtain ⟨x, e0, _, w0⟩ := DataW.trod_int Tryz.underlying3 h0
    obtain ⟨y, e1, _, w1⟩ := DataW.trod_int Tryz.underlying3 h1
    obtain ⟨z, e2, _, w2⟩ := DataW.trod_int Tryz.underlying3 h2
    have f0 : a = .int .i64 x := by simpa using e0
    have f1 : b = .int .i64 y := by simpa using e1
    have f2 : c = .int .i64 z := by simpa using e2
    exact ⟨x, y, z, by rw [f0, f1, f2], vi64_of w0, vi64_of w1, vi64_of w2⟩
theorem open_segs {W : World} {fuel : Nat} {x : Value} {d : DataW H × List MemPlace} (h : DataW.trod enc Tryz.prog W 0 (fun _ => true) true fuel 23 [x] = some d) :
    ∃ Z : List I3, RdT W x Z ∧ Z.length ≤ maxLen ∧ ∀ p ∈ Z, z3b p := by
  have c40 : Tryz.prog.cellsOf 33 = 3 := by kernel_rfl
  rcases open_slice Tryz.underlying23 h with ⟨h0, _⟩ | ⟨a, len, cap, m, n, D, Pl, hcs, _, hl, hm, hmm, _, hi⟩
  · simp only [List.cons.injEq, and_true] at h0
    exact ⟨[], .inl ⟨rfl, none, 0, h0⟩, Nat.zero_le _, by simp⟩
  · simp only [List.cons.injEq, and_true] at hcs
    simp only [if_true] at hmm
    subst hmm
    rw [c40] at hi
    obtain ⟨Z, hZ, hp⟩ := vlist_of (p := fun i (p : I3) => W.cell? (a.add (i * 3)) = some (.int .i64 p.1) ∧ W.cell? ((a.add (i * 3)).add 1) = some (.int .i64 p.2.1) ∧ W.cell? ((a.add (i * 3)).add 2) = some (.int .i64 p.2.2) ∧ z3b p) len fun i hil => by
      obtain ⟨L, h1, h2⟩ := hi i (by omega)
      obtain ⟨x, y, z, rfl, hz⟩ := open_seg h2
      have hc := (World.cells?_some h1).2.2
      have k0 := hc 0 (by omega)
      rw [show (a.add (i * 3)).add 0 = a.add (i * 3) by simp [Addr.add]] at k0
      exact ⟨(x, y, z), k0, hc 1 (by omega), hc 2 (by omega), hz⟩
    refine ⟨Z, ?_, by omega, fun p hp' => ?_⟩
    · by_cases h0 : len = 0
      · subst h0
        exact .inl ⟨List.eq_nil_of_length_eq_zero hZ, some a, m, hcs⟩
      · obtain ⟨p0, hp0⟩ : ∃ p0, Z[0]? = some p0 := ⟨_, List.getElem?_eq_getElem (by omega)⟩
        have hsp := vspot_no (hp 0 p0 hp0).1
        obtain ⟨ab, ao, az⟩ := a
        have hz : az = none := by
          unfold Addr.add at hsp
          split at hsp
          · exact hsp
          · rename_i h; exact absurd rfl h
        subst hz
        refine .inr ⟨ab, ao, m, by rw [hZ]; exact hcs, by omega, fun i p hi' => ?_⟩
        obtain ⟨h1, h2, h3, _⟩ := hp i p hi'
        rw [vadd_at] at h1 h2 h3
        rw [vadd_at] at h2 h3
        exact ⟨h1, h2, h3⟩
    · obtain ⟨i, hi'⟩ := List.getElem?_of_mem hp'
      exact (hp i p hi').2.2.2
theorem point_cells {W : World} {base : Nat} {sp : Nat → Bool} {held : Bool} {fuel : Nat} {L : List Value} {d : DataW H} {ps : List MemPlace} (hf : DataW.trod enc Tryz.prog W base sp held fuel 47 L = some (d, ps)) :
    L.length = 132 ∧ ∃ p : Hp, p.1 = L ∧ HpOk p := by
  obtain ⟨y0, y1, n, hx, hl, hb, ha⟩ := trod_struct2 Tryz.underlying47 hf
  have c45 : Tryz.prog.cellsOf 45 = 66 := by kernel_rfl
  have c66 : Tryz.prog.cellsOf 47 = 132 := by kernel_rfl
  rw [c66] at hl
  simp only [c45, List.drop_zero] at hb ha
  obtain ⟨s, N, t, M, e0, hN, hM, hp0, sh0⟩ := rat_cells (d := y0.1) (ps := y0.2) hb
  obtain ⟨s', N', t', M', e1, hN', hM', hp1, sh1⟩ := rat_cells (d := y1.1) (ps := y1.2) ha
  have hall : L = rr s N t M ++ rr s' N' t' M' := by
    have h1 : L = L.take 66 ++ L.drop 66 := (List.take_append_drop 66 _).symm
    have h2 : (L.drop 66).take 66 = L.drop 66 := List.take_of_length_le (by simp at hl ⊢; omega)
    rw [h2] at e1
    rw [h1, e0, e1]
  refine ⟨hl, ?_⟩
  rcases isp_cases s t hN hM s' t' hN' hM' with h | ⟨x, y, e, g, h⟩
  · exact ⟨(L, none), rfl, rr s N t M, rr s' N' t' M', hall, rc_rr _ _ _ _, rc_rr _ _ _ _, .inr ⟨rfl, h⟩⟩
  · exact ⟨(L, some (x, y)), rfl, fq x, fq y, hall.trans e, rc_q _, rc_q _, .inl ⟨x, y, rfl, rfl, rfl, g, h⟩⟩
theorem open_points {W : World} {fuel : Nat} {x : Value} {d : DataW H × List MemPlace} (h : DataW.trod enc Tryz.prog W 0 (fun _ => true) true fuel 24 [x] = some d) :
    ∃ Z : List Hp, RdP W x Z ∧ Z.length ≤ maxLen ∧ ∀ p ∈ Z, HpOk p := by
  have c40 : Tryz.prog.cellsOf 47 = 132 := by kernel_rfl
  rcases open_slice Tryz.underlying24 h with ⟨h0, _⟩ | ⟨a, len, cap, m, n, D, Pl, hcs, _, hl, hm, hmm, _, hi⟩
  · simp only [List.cons.injEq, and_true] at h0
    exact ⟨[], .inl ⟨rfl, none, 0, h0⟩, Nat.zero_le _, by simp⟩
  · simp only [List.cons.injEq, and_true] at hcs
    simp only [if_true] at hmm
    subst hmm
    rw [c40] at hi
    obtain ⟨Z, hZ, hp⟩ := vlist_of (p := fun i (p : Hp) => (∀ j v, p.1[j]? = some v → W.cell? ((a.add (i * 132)).add j) = some v) ∧ HpOk p ∧ p.1.length = 132) len fun i hil => by
      obtain ⟨L, h1, h2⟩ := hi i (by omega)
      obtain ⟨hl', p, e, hok⟩ := point_cells h2
      have hc := (World.cells?_some h1).2.2
      refine ⟨p, fun j v hv => ?_, hok, by rw [e]; exact hl'⟩
      rw [e] at hv
      have := hc j (by have := (List.getElem?_eq_some_iff.1 hv).1; omega)
      rw [this]; exact hv
    refine ⟨Z, ?_, by omega, fun p hp' => ?_⟩
    · by_cases h0 : len = 0
      · subst h0
        exact .inl ⟨List.eq_nil_of_length_eq_zero hZ, some a, m, hcs⟩
      · obtain ⟨p0, hp0⟩ : ∃ p0, Z[0]? = some p0 := ⟨_, List.getElem?_eq_getElem (by omega)⟩
        obtain ⟨q1, _, q3⟩ := hp 0 p0 hp0
        obtain ⟨v0, hv0⟩ : ∃ v0, p0.1[0]? = some v0 := ⟨_, List.getElem?_eq_getElem (by omega)⟩
        have hc0 := q1 0 v0 hv0
        have hsp := vspot_no hc0
        obtain ⟨ab, ao, az⟩ := a
        have hz : az = none := by
          simpa [Addr.add] using hsp
        subst hz
        have hlt : ab < W.heap.size := by
          rw [vadd_at, vadd_at] at hc0
          exact World.block_lt_of_cell? W _ hc0
        refine .inr ⟨ab, ao, m, by rw [hZ]; exact hcs, by omega, hlt, fun i p hi' j v hv => ?_⟩
        obtain ⟨h1, _, _⟩ := hp i p hi'
        have := h1 j v hv
        rw [vadd_at, vadd_at] at this
        exact this
    · obtain ⟨i, hi'⟩ := List.getElem?_of_mem hp'
      exact (hp i p hi').2.1
theorem open_drawing {W : World} {r : Reach} {b0 : Nat} {v : Value} {d : DataW H} {ps : List MemPlace} (hval : Value.okWide Tryz.prog W r b0 26 v) (hd : DataW.Trod enc Tryz.prog W 0 (fun _ => true) true 26 v d ps) :
    ∃ (a b c : Value) (V S : List I3) (P : List Hp), v = .agg #[a, b, c] ∧ RdT W a V ∧ RdT W b S ∧ RdP W c P ∧ V.length ≤ maxLen ∧ S.length ≤ maxLen ∧ P.length ≤ maxLen ∧ (∀ p ∈ V, z3b p) ∧ (∀ p ∈ S, z3b p) ∧ ∀ p ∈ P, HpOk p := by
  simp only [Value.okWide, Tryz.underlying26] at hval
  obtain ⟨cs, rfl, hcs, _⟩ := hval
  obtain ⟨fuel, hf⟩ := hd
  obtain ⟨y0, y1, y2, n, hx, hl, h0, h1, h2⟩ := trod_struct3 Tryz.underlying26 hf
  have c1 : Tryz.prog.cellsOf 22 = 1 := by kernel_rfl
  have c2 : Tryz.prog.cellsOf 23 = 1 := by kernel_rfl
  have c3 : Tryz.prog.cellsOf 24 = 1 := by kernel_rfl
  have c25 : Tryz.prog.cellsOf 26 = 3 := by kernel_rfl
  simp only [Value.cells] at hl h0 h1 h2
  rw [c25] at hl
  obtain ⟨L, hL⟩ : ∃ L, cs.toList = L := ⟨_, rfl⟩
  rw [hL] at hl h0 h1 h2
  match L, hl with
  | [a, b, e], _ =>
    simp only [c1, c2, c3] at h0 h1 h2
    have h0' : DataW.trod enc Tryz.prog W 0 (fun _ => true) true n 22 [a] = some y0 := by simpa using h0
    have h1' : DataW.trod enc Tryz.prog W 0 (fun _ => true) true n 23 [b] = some y1 := by simpa using h1
    have h2' : DataW.trod enc Tryz.prog W 0 (fun _ => true) true n 24 [e] = some y2 := by simpa using h2
    obtain ⟨V, k1, k2, k3⟩ := open_verts h0'
    obtain ⟨S, l1, l2, l3⟩ := open_segs h1'
    obtain ⟨P, m1, m2, m3⟩ := open_points h2'
    exact ⟨a, b, e, V, S, P, congrArg Value.agg (by rw [← Array.toArray_toList (xs := cs), hL]), k1, l1, m1, k2, l2, m2, k3, l3, m3⟩
end
end Go.Proofs.YtoegjibeomhekaaGreat

/- ValidTurned answers true of every drawing, of every two numbers. No conditions. -/
namespace Go.Proofs.YtoegjibeomhekaaGreat
set_option linter.unusedVariables false
open Go.RowKit
theorem u8_t {a : Int} (h : (Lit.int .u8 a).wf = true) : 0 ≤ a ∧ a ≤ 255 := by
  simp only [Lit.wf, Bool.and_eq_true, decide_eq_true_eq] at h
  exact h
theorem u32_t {a : Int} (h : (Lit.int .u32 a).wf = true) : 0 ≤ a ∧ a ≤ 4294967295 := by
  simp only [Lit.wf, Bool.and_eq_true, decide_eq_true_eq] at h
  exact h
theorem turned_all {v0 : Value} {w0 : World} (h0 : ∃ (a b c : Value) (V S : List I3) (P : List Hp), v0 = .agg #[a, b, c] ∧ RdT w0 a V ∧ RdT w0 b S ∧ RdP w0 c P ∧ V.length ≤ maxLen ∧ S.length ≤ maxLen ∧ P.length ≤ maxLen ∧ (∀ p ∈ V, z3b p) ∧ (∀ p ∈ S, z3b p) ∧ ∀ p ∈ P, HpOk p)
    (B : Int) (w1 : (Lit.int .u8 B).wf = true) (K : Int) (w2 : (Lit.int .u32 K).wf = true) (w : World) (e : w0 = w := by rfl) :
    Calls Tryz.prog 3 #[v0, .int .u8 B, .int .u32 K] w fun e w' => e = .returned (.bool true) ∧ Below w.heap.size w w' := by
  subst e
  obtain ⟨a, b, c, V, S, P, rfl, hV, hS, hP, _, _, _, zV, _, hok⟩ := h0
  obtain ⟨va, vc, rfl⟩ := hV.shape
  obtain ⟨sa, sc, rfl⟩ := hS.shape
  obtain ⟨ta, tc, rfl⟩ := hP.shape
  exact turned_walk B K (u8_t w1) (u32_t w2) w0 ⟨hV, hS, hP⟩ hok (fun p hp => ⟨(zV p hp).1, (zV p hp).2.1⟩)
end Go.Proofs.YtoegjibeomhekaaGreat
namespace Go.Proofs.YtoegjibeomhekaaGreat.validTurned
open Go.ChangeShapes Go.WideShapes Go.ChangeAt Go.RowKit
set_option linter.unusedVariables false
theorem own : ownKnob Tryz.prog.godebug = none := by kernel_rfl
theorem laid : laidOutB Tryz.prog = true := by kernel_rfl
set_option maxRecDepth 100000 in
theorem lifted (os : Os) (started : os.Started) (H : Type) (enc : TypeId × Value → H) :
    ReturnsInHanded {} Tryz.checked os 3 .any (Rows.validTurnedSpec.pre6 enc Tryz.prog Tryz.f3 Rows.validTurnedRow.domain false) (Rows.validTurnedSpec.post enc Tryz.prog Tryz.f3 false true false false) := by
  refine returnsInHanded_of_change (C := Tryz.checked) own started (by kernel_rfl) Tryz.func3
    (ChangeSpec.witness6 (enc := enc) (C := Tryz.checked) false ⟨#[], #[.agg #[.slice none 0 0, .slice none 0 0, .slice none 0 0], .int .u8 0, .int .u32 0], []⟩ 8 (by kernel_rfl) (by kernel_rfl) (by kernel_rfl) (by kernel_rfl)) ?_
  intro W base args ds gs before hval0 hW hcnd _
  have hval : ∀ (j : Nat) t v, Tryz.f3.params[j]? = some t → args[j]? = some v → Value.okWide Tryz.prog W .any base t v := hval0
  have hW' := hW
  obtain ⟨p, q, hA0, hV, rfl, hfz, hnd⟩ := hW
  have hA : DataW.TrodAll enc Tryz.prog W 0 (fun _ => true) true Tryz.f3.params.toList args.toList ds p := hA0
  rw [Tryz.params3] at hA hval
  obtain ⟨v0, vs0, d0, ds0, p0, q0, hargs, rfl, rfl, h0, r0⟩ := trodAll_cons hA
  obtain ⟨v1, vs1, d1, ds1, p1, q1, rfl, rfl, rfl, h1, r1⟩ := trodAll_cons r0
  obtain ⟨v2, vs2, d2, ds2, p2, q2, rfl, rfl, rfl, h2, r2⟩ := trodAll_cons r1
  obtain ⟨rfl, rfl, rfl⟩ := trodAll_nil r2
  obtain rfl : args = #[v0, v1, v2] := by cases args; simp_all
  obtain ⟨rfl, rfl⟩ := trodVars_none hV
  have rd0 := open_drawing (hval 0 26 v0 rfl rfl) h0
  obtain ⟨a1, rfl, rfl, rfl, w1⟩ := open_int Tryz.underlying5 (hval 1 5 v1 rfl rfl) h1
  obtain ⟨a2, rfl, rfl, rfl, w2⟩ := open_int Tryz.underlying27 (hval 2 27 v2 rfl rfl) h2
  clear hA0 hval0
  have hlt := hW'.lt
  refine (turned_all rd0 a1 w1 a2 w2 W).mono fun e W' ⟨he, hg⟩ => ?_
  subst he
  exact ⟨_, rfl, post_of_below (pa := p0 ++ []) (pv := []) hW' (fun _ _ _ => (trodAll_cons_mk (shut_bool Tryz.underlying4 _) trodAll_mk0)) (fun sp hs => (trodAll_cons_mk (Go.WideElems.Trod_stays laid (by kernel_rfl) (of_decide_eq_true (by kernel_rfl)) h0 (fun x hx => hg.same (hlt x (by simp [hx]))) (fun x hx => hs x (by simp [hx]))) (trodAll_cons_mk (shut_int Tryz.underlying5 w1) (trodAll_cons_mk (shut_int Tryz.underlying27 w2) trodAll_mk0)))) (fun _ _ => rfl) (by simp)
    hg (ok_one (by kernel_rfl) rfl (okWide_bool_mk Tryz.underlying4 _))⟩
theorem over : Rows.validTurnedRow.holds Tryz.pinned (OpenSpec.ofChange Rows.validTurnedSpec) :=
  OpenClaim.holds_of_wide 3 Tryz.f3 rfl rfl rfl rfl rfl rfl rfl ⟨rfl, rfl, rfl, rfl, rfl⟩ rfl rfl rfl rfl rfl (by kernel_rfl) Tryz.func3 (by kernel_rfl)
    (of_decide_eq_true (by kernel_rfl)) (by unfold Func.isWrapper; first | (rw [if_pos (by decide +kernel)]; kernel_rfl) | (rw [if_neg (by decide +kernel)]; exact ⟨rfl, rfl⟩))
    (fun os started H enc _ => lifted os started H enc)
end Go.Proofs.YtoegjibeomhekaaGreat.validTurned
namespace Go.Proofs.YtoegjibeomhekaaGreat
theorem validTurned_holds : Rows.ValidTurnedSaid := validTurned.over
#print axioms validTurned_holds
end Go.Proofs.YtoegjibeomhekaaGreat
