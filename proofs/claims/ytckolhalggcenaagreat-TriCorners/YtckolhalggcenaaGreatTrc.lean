/- Joined of: Tra Trb Trx Trc. -/
import Derived.Test.YtckolhalggcenaaGreatPnq
import Derived.Test.YtckolhalggcenaaGreatBsn
import Derived.Test.YtckolhalggcenaaGreatRcm
import Derived.BigQuiet
import Derived.Deep.QuietTactic
/- Triangles in memory: sides, corners, triangles, three corners. -/
namespace Go.Proofs.YtckolhalggcenaaGreat
set_option linter.unusedSimpArgs false
set_option linter.unusedVariables false
open Go.RowKit
set_option maxRecDepth 100000
/-- The parts lie one behind the other. -/
def Fits (places : Nat → Option (Nat × Nat)) : Nat → Nat → List (List Value) → Prop
  | _, _, [] => True
  | k, o, P :: Ps => places k = some (o, P.length) ∧ Fits places (k + 1) (o + P.length) Ps
theorem fill_seq (places : Nat → Option (Nat × Nat)) : ∀ (Ps : List (List Value)) (k : Nat) (pre rest : List Value), Fits places k pre.length Ps → rest.length = Ps.flatten.length →
    Instr.fill places (pre ++ rest).toArray ((Ps.zipIdx k).map fun x => (x.2, .agg x.1.toArray)) = some (pre ++ Ps.flatten).toArray
  | [], k, pre, rest, _, hr => by
    have : rest = [] := List.eq_nil_of_length_eq_zero (by simpa using hr)
    subst this; rfl
  | P :: Ps, k, pre, rest, ⟨hp, hf⟩, hr => by
    rw [List.flatten_cons, List.length_append] at hr
    have hr2 : rest = rest.take P.length ++ rest.drop P.length := (List.take_append_drop _ _).symm
    have ht : (rest.take P.length).length = P.length := by rw [List.length_take]; omega
    rw [List.zipIdx_cons, List.map_cons]
    unfold Instr.fill
    simp only [hp, Value.cells, List.size_toArray, ne_eq, not_true_eq_false, decide_false, Bool.false_or, List.length_append]
    rw [if_neg (by simp; omega)]
    have hs := set_run pre.length P 0 pre (rest.take P.length) (rest.drop P.length) (by omega) ht
    rw [← hr2] at hs
    rw [← Array.foldl_toList, Array.toList_zipIdx]
    have hs' : List.foldl (fun cs (x : Value × Nat) => match x with | (c, j) => cs.setIfInBounds (pre.length + j) c) (pre ++ rest).toArray P.zipIdx = (pre ++ (P ++ rest.drop P.length)).toArray := hs
    show Instr.fill _ (List.foldl (fun cs (x : Value × Nat) => match x with | (c, j) => cs.setIfInBounds (pre.length + j) c) (pre ++ rest).toArray P.zipIdx) _ = _
    rw [hs']
    have := fill_seq places Ps (k + 1) (pre ++ P) (rest.drop P.length) (by rw [List.length_append]; exact hf) (by rw [List.length_drop]; omega)
    rw [List.append_assoc] at this
    rw [this, List.flatten_cons, List.append_assoc]
theorem built_s {t : TypeId} {n : Nat} {places : List (Nat × Nat)} (hu : Tryz.prog.underlying t = some (.struct (Tryz.prog.fieldsOf t))) (hz : (Tryz.prog.info? t).map (fun i => i.zero.map (·.cells.size)) = some (some n))
    (hp : (Tryz.prog.fieldsOf t).toList.mapM (fun f => (Tryz.prog.info? f.type).map fun i => (f.offset, i.size)) = some places) {Ps : List (List Value)} (hf : Fits (places.toArray[·]?) 0 0 Ps) (hl : n = Ps.flatten.length) :
    Tryz.prog.built t ((Ps.zipIdx 0).map fun x => (x.2, .agg x.1.toArray)) = some Ps.flatten.toArray := by
  unfold Program.built
  cases hi : Tryz.prog.info? t with
  | none => rw [hi] at hz; cases hz
  | some it =>
    rw [hi] at hz
    simp only [Option.map_some, Option.some.injEq] at hz
    cases hzz : it.zero with
    | none => rw [hzz] at hz; cases hz
    | some z =>
      rw [hzz] at hz
      simp only [Option.map_some, Option.some.injEq] at hz
      simp only [hu, hp, hzz]
      have := fill_seq (places.toArray[·]?) Ps 0 [] z.cells.toList hf (by rw [Array.length_toList]; omega)
      rw [List.nil_append, List.nil_append, Array.toArray_toList] at this
      exact this
theorem built_a {t e : TypeId} {len n k : Nat} (hu : Tryz.prog.underlying t = some (.array len e)) (hz : (Tryz.prog.info? t).map (fun i => i.zero.map (·.cells.size)) = some (some n)) (he : (Tryz.prog.info? e).map (·.size) = some k) {Ps : List (List Value)} (hk : ∀ P ∈ Ps, P.length = k) (hl : n = Ps.length * k) :
    Tryz.prog.built t ((Ps.zipIdx 0).map fun x => (x.2, .agg x.1.toArray)) = some Ps.flatten.toArray := by
  unfold Program.built
  cases hi : Tryz.prog.info? t with
  | none => rw [hi] at hz; cases hz
  | some it =>
    rw [hi] at hz
    simp only [Option.map_some, Option.some.injEq] at hz
    cases hzz : it.zero with
    | none => rw [hzz] at hz; cases hz
    | some z =>
      rw [hzz] at hz
      simp only [Option.map_some, Option.some.injEq] at hz
      cases hie : Tryz.prog.info? e with
      | none => rw [hie] at he; cases he
      | some ie =>
        rw [hie] at he
        simp only [Option.map_some, Option.some.injEq] at he
        simp only [hu, hzz, hie, he]
        have := fill_rows k Ps 0 [] z.cells.toList hk (by simp) (by rw [Array.length_toList]; omega)
        rw [List.nil_append, List.nil_append, Array.toArray_toList] at this
        exact this
/-- The cells of a point, whatever they are. -/
structure Pc (P : List Value) : Prop where
  len : P.length = 132
  one : ∀ v ∈ P, v.oneCell' = true
theorem pc_of {A B : List Value} (h : Rc A) (h' : Rc B) : Pc (A ++ B) := ⟨pt_len h h', pt_one h h'⟩
theorem pc_q (x y : Rat) : Pc (fq x ++ fq y) := pc_of (rc_q x) (rc_q y)
theorem pc_0 : Pc p0 := pc_of (rc_rr _ _ _ _) (rc_rr _ _ _ _)
def sdc (P Q : List Value) : List Value := P ++ Q
def cnc (P Q R : List Value) : List Value := sdc P Q ++ R
def c3c (C D E : List Value) : List Value := [C, D, E].flatten
theorem c3_eq (C D E : List Value) : c3c C D E = C ++ (D ++ E) := by simp [c3c]
theorem sizeSd : (Tryz.prog.info? 51).map (·.size) = some 264 := by kernel_rfl
theorem sizeCn : (Tryz.prog.info? 53).map (·.size) = some 396 := by kernel_rfl
theorem sizeTr : (Tryz.prog.info? 55).map (·.size) = some 396 := by kernel_rfl
theorem sizeC3 : (Tryz.prog.info? 84).map (·.size) = some 1188 := by kernel_rfl
section
variable {P Q R : List Value} (hP : Pc P) (hQ : Pc Q) (hR : Pc R)
include hP
theorem Pc.whole : Whole Tryz.prog 29 P.length := by rw [hP.len]; exact ⟨_, Tryz.underlying29, rfl, sizeP⟩
include hQ
theorem sd_len : (sdc P Q).length = 264 := by unfold sdc; rw [List.length_append, hP.len, hQ.len]
theorem wholeSd : Whole Tryz.prog 51 (sdc P Q).length := by rw [sd_len hP hQ]; exact ⟨_, Tryz.underlying51, rfl, sizeSd⟩
include hR
theorem cn_len : (cnc P Q R).length = 396 := by unfold cnc; rw [List.length_append, sd_len hP hQ, hR.len]
theorem cn_one : ∀ v ∈ cnc P Q R, v.oneCell' = true := fun v hv => by
  unfold cnc sdc at hv
  simp only [List.mem_append] at hv
  rcases hv with (h | h) | h
  · exact hP.one v h
  · exact hQ.one v h
  · exact hR.one v h
theorem wholeCn : Whole Tryz.prog 53 (cnc P Q R).length := by rw [cn_len hP hQ hR]; exact ⟨_, Tryz.underlying53, rfl, sizeCn⟩
theorem wholeTr : Whole Tryz.prog 55 (cnc P Q R).length := by rw [cn_len hP hQ hR]; exact ⟨_, Tryz.underlying55, rfl, sizeTr⟩
theorem wholeC3 : Whole Tryz.prog 84 (c3c (cnc P Q R) (cnc Q R P) (cnc R P Q)).length := by
  rw [c3_eq, List.length_append, List.length_append, cn_len hP hQ hR, cn_len hQ hR hP, cn_len hR hP hQ]; exact ⟨_, Tryz.underlying84, rfl, sizeC3⟩
theorem c3_len : (c3c (cnc P Q R) (cnc Q R P) (cnc R P Q)).length = 1188 := by
  rw [c3_eq, List.length_append, List.length_append, cn_len hP hQ hR, cn_len hQ hR hP, cn_len hR hP hQ]
theorem c3_one : ∀ v ∈ c3c (cnc P Q R) (cnc Q R P) (cnc R P Q), v.oneCell' = true := fun v hv => by
  rw [c3_eq] at hv
  simp only [List.mem_append] at hv
  rcases hv with h | h | h
  · exact cn_one hP hQ hR v h
  · exact cn_one hQ hR hP v h
  · exact cn_one hR hP hQ v h
omit hR in
theorem builtSd : Tryz.prog.built 51 [(0, .agg P.toArray), (1, .agg Q.toArray)] = some (sdc P Q).toArray := by
  have := built_s (t := 51) (n := 264) (places := [(0, 132), (132, 132)]) (by kernel_rfl) (by kernel_rfl) (by kernel_rfl) (Ps := [P, Q]) ⟨by rw [hP.len]; rfl, by rw [hP.len, hQ.len]; rfl, trivial⟩ (by simp [hP.len, hQ.len])
  simpa [sdc] using this
theorem builtCn : Tryz.prog.built 53 [(0, .agg (sdc P Q).toArray), (1, .agg R.toArray)] = some (cnc P Q R).toArray := by
  have h := sd_len hP hQ
  have := built_s (t := 53) (n := 396) (places := [(0, 264), (264, 132)]) (by kernel_rfl) (by kernel_rfl) (by kernel_rfl) (Ps := [sdc P Q, R]) ⟨by rw [h]; rfl, by rw [h, hR.len]; rfl, trivial⟩ (by simp [h, hR.len])
  simpa [cnc] using this
theorem builtTr : Tryz.prog.built 55 [(0, .agg (cnc P Q R).toArray)] = some (cnc P Q R).toArray := by
  have h := cn_len hP hQ hR
  have := built_s (t := 55) (n := 396) (places := [(0, 396)]) (by kernel_rfl) (by kernel_rfl) (by kernel_rfl) (Ps := [cnc P Q R]) ⟨by rw [h]; rfl, trivial⟩ (by simp [h])
  simpa using this
theorem builtC3 : Tryz.prog.built 84 [(0, .agg (cnc P Q R).toArray), (1, .agg (cnc Q R P).toArray), (2, .agg (cnc R P Q).toArray)] = some (c3c (cnc P Q R) (cnc Q R P) (cnc R P Q)).toArray := by
  have := built_a (t := 84) (e := 53) (len := 3) (n := 1188) (k := 396) (by kernel_rfl) (by kernel_rfl) sizeCn (Ps := [cnc P Q R, cnc Q R P, cnc R P Q]) (fun X hX => by
    simp only [List.mem_cons, List.not_mem_nil, or_false] at hX
    rcases hX with rfl | rfl | rfl
    · exact cn_len hP hQ hR
    · exact cn_len hQ hR hP
    · exact cn_len hR hP hQ) (by simp)
  exact this
end
theorem zeroCn : (Tryz.prog.info? 53).map (·.zero) = some (some (.agg (cnc p0 p0 p0).toArray)) := by kernel_rfl
theorem zeroTr : (Tryz.prog.info? 55).map (·.zero) = some (some (.agg (cnc p0 p0 p0).toArray)) := by kernel_rfl
theorem zeroC3 : (Tryz.prog.info? 84).map (·.zero) = some (some (.agg (c3c (cnc p0 p0 p0) (cnc p0 p0 p0) (cnc p0 p0 p0)).toArray)) := by kernel_rfl
theorem part_at {L cs : List Value} {f n : Nat} (h : Part L f cs) (e : f = n) : Part L n cs := e ▸ h
section
variable {P Q R : List Value}
theorem part_l {L L' : List Value} {f : Nat} {cs : List Value} (h : Part L f cs) : Part (L ++ L') f cs := fun j v hv => by
  have := h j v hv
  rw [List.getElem?_append_left (List.getElem?_eq_some_iff.1 this).1]; exact this
theorem part_r {L L' : List Value} {f n : Nat} {cs : List Value} (h : Part L' f cs) (hl : L.length = n) : Part (L ++ L') (n + f) cs := fun j v hv => by
  rw [List.getElem?_append_right (by omega), hl, show n + f + j - n = f + j by omega]; exact h j v hv
theorem sd_p : Part (sdc P Q) 0 P := part_l (part_all _)
theorem sd_q (hP : Pc P) : Part (sdc P Q) 132 Q := part_r (f := 0) (part_all _) hP.len
theorem cn_s : Part (cnc P Q R) 0 (sdc P Q) := part_l (part_all _)
theorem cn_p : Part (cnc P Q R) 0 P := part_l sd_p
theorem cn_q (hP : Pc P) : Part (cnc P Q R) 132 Q := part_l (sd_q hP)
theorem cn_r (hP : Pc P) (hQ : Pc Q) : Part (cnc P Q R) 264 R := part_r (f := 0) (part_all _) (sd_len hP hQ)
end
section
variable {ops : Array Oper} {rest : List Oper} {o : Oper} {a : Act} {w : World} {Q' : Exit → Act → World → Prop} {P Q R : List Value}
theorem bd_1 {t : TypeId} {p : Operand} {X cs : List Value} (hgd : o.guard = none) (ho : o.op = .build t #[(0, p)]) (hp : a.eval p = .agg X.toArray) (hb : Tryz.prog.built t [(0, .agg X.toArray)] = some cs.toArray)
    (hr : wpList Tryz.prog ops Q' rest (a.put o.dst (.agg cs.toArray)) w) : wpList Tryz.prog ops Q' (o :: rest) a w :=
  wpList_plain hgd fun K hK => by
    have := hK _ _ hr
    unfold Oper.wp execOp
    simp only [ho, Sem.run_bind]
    rw [show Array.map (fun x : Nat × Operand => (x.fst, a.eval x.snd)) #[(0, p)] = #[(0, .agg X.toArray)] by simp [hp], run_build w t _ _ hb]
    exact this
theorem bd_2 {t : TypeId} {p q : Operand} {X Y cs : List Value} (hgd : o.guard = none) (ho : o.op = .build t #[(0, p), (1, q)]) (hp : a.eval p = .agg X.toArray) (hq : a.eval q = .agg Y.toArray) (hb : Tryz.prog.built t [(0, .agg X.toArray), (1, .agg Y.toArray)] = some cs.toArray)
    (hr : wpList Tryz.prog ops Q' rest (a.put o.dst (.agg cs.toArray)) w) : wpList Tryz.prog ops Q' (o :: rest) a w :=
  wpList_plain hgd fun K hK => by
    have := hK _ _ hr
    unfold Oper.wp execOp
    simp only [ho, Sem.run_bind]
    rw [show Array.map (fun x : Nat × Operand => (x.fst, a.eval x.snd)) #[(0, p), (1, q)] = #[(0, .agg X.toArray), (1, .agg Y.toArray)] by simp [hp, hq], run_build w t _ _ hb]
    exact this
theorem bdSd {p q : Operand} (hgd : o.guard = none) (ho : o.op = .build 51 #[(0, p), (1, q)]) (hp : a.eval p = .agg P.toArray) (hq : a.eval q = .agg Q.toArray) (hP : Pc P) (hQ : Pc Q)
    (hr : wpList Tryz.prog ops Q' rest (a.put o.dst (.agg (sdc P Q).toArray)) w) : wpList Tryz.prog ops Q' (o :: rest) a w := bd_2 hgd ho hp hq (builtSd hP hQ) hr
theorem bdCn {p q : Operand} (hgd : o.guard = none) (ho : o.op = .build 53 #[(0, p), (1, q)]) (hp : a.eval p = .agg (sdc P Q).toArray) (hq : a.eval q = .agg R.toArray) (hP : Pc P) (hQ : Pc Q) (hR : Pc R)
    (hr : wpList Tryz.prog ops Q' rest (a.put o.dst (.agg (cnc P Q R).toArray)) w) : wpList Tryz.prog ops Q' (o :: rest) a w := bd_2 hgd ho hp hq (builtCn hP hQ hR) hr
theorem bdTr {p : Operand} (hgd : o.guard = none) (ho : o.op = .build 55 #[(0, p)]) (hp : a.eval p = .agg (cnc P Q R).toArray) (hP : Pc P) (hQ : Pc Q) (hR : Pc R)
    (hr : wpList Tryz.prog ops Q' rest (a.put o.dst (.agg (cnc P Q R).toArray)) w) : wpList Tryz.prog ops Q' (o :: rest) a w := bd_1 hgd ho hp (builtTr hP hQ hR) hr
theorem alCn (hgd : o.guard = none) (ho : o.op = .alloc 53)
    (hr : wpList Tryz.prog ops Q' rest (a.put o.dst (.pointer (some ⟨w.heap.size, 0, none⟩))) (w.alloc (.cells (cnc p0 p0 p0).toArray 53))) : wpList Tryz.prog ops Q' (o :: rest) a w := al_blk hgd ho zeroCn hr
theorem alTr (hgd : o.guard = none) (ho : o.op = .alloc 55)
    (hr : wpList Tryz.prog ops Q' rest (a.put o.dst (.pointer (some ⟨w.heap.size, 0, none⟩))) (w.alloc (.cells (cnc p0 p0 p0).toArray 55))) : wpList Tryz.prog ops Q' (o :: rest) a w := al_blk hgd ho zeroTr hr
theorem stCn {t : TypeId} {x y : Operand} {b : Nat} {cs : List Value} (hgd : o.guard = none) (ho : o.op = .store 53 x y) (hx : a.eval x = .pointer (some ⟨b, 0, none⟩)) (hy : a.eval y = .agg (cnc P Q R).toArray) (h : Blk w b cs t) (hl : cs.length = 396) (hP : Pc P) (hQ : Pc Q) (hR : Pc R)
    (hr : wpList Tryz.prog ops Q' rest (a.put o.dst undef) (w.setRow b (cnc P Q R).toArray)) : wpList Tryz.prog ops Q' (o :: rest) a w :=
  st_blk hgd ho hx hy h (by rw [hl, cn_len hP hQ hR]) (by rw [cn_len hP hQ hR]; exact sizeCn) (cn_one hP hQ hR) hr
theorem stTr {t : TypeId} {x y : Operand} {b : Nat} {cs : List Value} (hgd : o.guard = none) (ho : o.op = .store 55 x y) (hx : a.eval x = .pointer (some ⟨b, 0, none⟩)) (hy : a.eval y = .agg (cnc P Q R).toArray) (h : Blk w b cs t) (hl : cs.length = 396) (hP : Pc P) (hQ : Pc Q) (hR : Pc R)
    (hr : wpList Tryz.prog ops Q' rest (a.put o.dst undef) (w.setRow b (cnc P Q R).toArray)) : wpList Tryz.prog ops Q' (o :: rest) a w :=
  st_blk hgd ho hx hy h (by rw [hl, cn_len hP hQ hR]) (by rw [cn_len hP hQ hR]; exact sizeTr) (cn_one hP hQ hR) hr
end
theorem cn0_len : (cnc p0 p0 p0).length = 396 := cn_len pc_0 pc_0 pc_0
theorem cnc_whole {P Q R : List Value} (hP : Pc P) (hQ : Pc Q) (hR : Pc R) (t : TypeId) (h : Whole Tryz.prog t 396) : Whole Tryz.prog t (cnc P Q R).length := by rw [cn_len hP hQ hR]; exact h
end Go.Proofs.YtckolhalggcenaaGreat

/- The methods of triangles. -/
namespace Go.Proofs.YtckolhalggcenaaGreat
set_option linter.unusedSimpArgs false
set_option linter.unusedVariables false
open Go.RowKit
set_option maxRecDepth 100000
section
variable {P Q R : List Value} (hP : Pc P) (hQ : Pc Q) (hR : Pc R)
include hP hQ hR
set_option maxHeartbeats 2000000 in
theorem triangleOf_w : Tl 17 #[vl P, vl Q, vl R] (vl (cnc P Q R)) := fun w => by
  unfold vl
  have HP := Lib.hid hP
  have HQ := Lib.hid hQ
  have HR := Lib.hid hR
  clear hP hQ hR
  have b3 := ((((Blk.new w (P) 29 rfl).old (.cells (Q).toArray 29)).old (.cells (R).toArray 29)).old (.cells (cnc p0 p0 p0).toArray 55))
  have b4 := (((Blk.new (w.alloc (.cells (P).toArray 29)) (Q) 29 (b := w.heap.size + 1) (by simp)).old (.cells (R).toArray 29)).old (.cells (cnc p0 p0 p0).toArray 55))
  have b5 := ((Blk.new ((w.alloc (.cells (P).toArray 29)).alloc (.cells (Q).toArray 29)) (R) 29 (b := w.heap.size + 1 + 1) (by simp)).old (.cells (cnc p0 p0 p0).toArray 55))
  have b6 := (Blk.new (((w.alloc (.cells (P).toArray 29)).alloc (.cells (Q).toArray 29)).alloc (.cells (R).toArray 29)) (cnc p0 p0 p0) 55 (b := w.heap.size + 1 + 1 + 1) (by simp))
  have hb : Below w.heap.size w ((((w.alloc (.cells (P).toArray 29)).alloc (.cells (Q).toArray 29)).alloc (.cells (R).toArray 29)).alloc (.cells (cnc p0 p0 p0).toArray 55)) := (((((Below.refl _ _).alloc (Nat.le_refl _) _).alloc (by simp <;> omega) _).alloc (by simp <;> omega) _).alloc (by simp <;> omega) _)
  have hk : ((((w.alloc (.cells (P).toArray 29)).alloc (.cells (Q).toArray 29)).alloc (.cells (R).toArray 29)).alloc (.cells (cnc p0 p0 p0).toArray 55)).heap.size = w.heap.size + 1 + 1 + 1 + 1 := by simp
  have c6 := Blk.new (((w.alloc (.cells (P).toArray 29)).alloc (.cells (Q).toArray 29)).alloc (.cells (R).toArray 29)) (cnc p0 p0 p0) 55 rfl
  go_enter Tryz.func17, Tryz.ntmps17
  go_wp2_with (first | (with_reducible refine alTr rfl rfl ?_) | (with_reducible refine ldP rfl rfl rfl b3 (part_all _) HP.out.whole ?_) | (with_reducible refine ldP rfl rfl rfl b4 (part_all _) HQ.out.whole ?_) | (with_reducible refine ldP rfl rfl rfl b5 (part_all _) HR.out.whole ?_) | (with_reducible refine bdSd rfl rfl rfl rfl HP.out HQ.out ?_) | (with_reducible refine bdCn rfl rfl rfl rfl HP.out HQ.out HR.out ?_) | (with_reducible refine bdTr rfl rfl rfl HP.out HQ.out HR.out ?_) | (with_reducible refine stTr rfl rfl rfl rfl c6 cn0_len HP.out HQ.out HR.out ?_))
  exact ret_c (cs := cnc P Q R) rfl rfl rfl (wholeTr HP.out HQ.out HR.out) (c6.row _) ⟨rfl, below_row hb (by simp <;> omega) _⟩
set_option maxHeartbeats 2000000 in
theorem next_w : Tl 62 #[vl (cnc P Q R)] (vl (cnc Q R P)) := fun w => by
  unfold vl
  have HP := Lib.hid hP
  have HQ := Lib.hid hQ
  have HR := Lib.hid hR
  clear hP hQ hR
  have b1 := ((Blk.new w (cnc P Q R) 53 rfl).old (.cells (cnc p0 p0 p0).toArray 53))
  have b2 := (Blk.new (w.alloc (.cells (cnc P Q R).toArray 53)) (cnc p0 p0 p0) 53 (b := w.heap.size + 1) (by simp))
  have hb : Below w.heap.size w ((w.alloc (.cells (cnc P Q R).toArray 53)).alloc (.cells (cnc p0 p0 p0).toArray 53)) := (((Below.refl _ _).alloc (Nat.le_refl _) _).alloc (by simp <;> omega) _)
  have hk : ((w.alloc (.cells (cnc P Q R).toArray 53)).alloc (.cells (cnc p0 p0 p0).toArray 53)).heap.size = w.heap.size + 1 + 1 := by simp
  go_enter Tryz.func62, Tryz.ntmps62
  go_wp2_with (first | (with_reducible refine alCn rfl rfl ?_) | (with_reducible refine ldP rfl rfl rfl b1 cn_p HP.out.whole ?_) | (with_reducible refine ldP rfl rfl rfl b1 (cn_q HP.out) HQ.out.whole ?_) | (with_reducible refine ldP rfl rfl rfl b1 (cn_r HP.out HQ.out) HR.out.whole ?_) | (with_reducible refine bdSd rfl rfl rfl rfl HQ.out HR.out ?_) | (with_reducible refine bdCn rfl rfl rfl rfl HQ.out HR.out HP.out ?_) | (with_reducible refine stCn rfl rfl rfl rfl b2 cn0_len HQ.out HR.out HP.out ?_))
  exact ret_c (cs := cnc Q R P) rfl rfl rfl (wholeCn HQ.out HR.out HP.out) (b2.row _) ⟨rfl, below_row hb (by omega) _⟩
set_option maxHeartbeats 2000000 in
theorem area2_w {X : List Value} {ok : Bool} (hX : Rc X) (T : Tl 48 #[vl P, vl Q, vl R] (.tuple #[vl X, .bool ok])) : Tl 28 #[vl (cnc P Q R)] (vl X) := by
  intro w
  unfold vl at *
  have HT := Lib.hid T
  have HX := Lib.hid hX
  clear T hX
  unfold Tl at HT
  have HP := Lib.hid hP
  have HQ := Lib.hid hQ
  have HR := Lib.hid hR
  clear hP hQ hR
  have b1 := ((Blk.new w (cnc P Q R) 53 rfl).old (.cells (rr false 0 false 0).toArray 27))
  have b2 := (Blk.new (w.alloc (.cells (cnc P Q R).toArray 53)) (rr false 0 false 0) 27 (b := w.heap.size + 1) (by simp))
  have hb : Below w.heap.size w ((w.alloc (.cells (cnc P Q R).toArray 53)).alloc (.cells (rr false 0 false 0).toArray 27)) := (((Below.refl _ _).alloc (Nat.le_refl _) _).alloc (by simp <;> omega) _)
  have hk : ((w.alloc (.cells (cnc P Q R).toArray 53)).alloc (.cells (rr false 0 false 0).toArray 27)).heap.size = w.heap.size + 1 + 1 := by simp
  go_enter Tryz.func28, Tryz.ntmps28
  go_wp2_with (first | (with_reducible refine alR rfl rfl ?_) | (with_reducible refine ldP rfl rfl rfl b1 cn_p HP.out.whole ?_) | (with_reducible refine ldP rfl rfl rfl b1 (cn_q HP.out) HQ.out.whole ?_) | (with_reducible refine ldP rfl rfl rfl b1 (cn_r HP.out HQ.out) HR.out.whole ?_))
  try rw [show (w.alloc (.cells (cnc P Q R).toArray 53)).heap.size = w.heap.size + 1 by simp]
  refine (HT.out _).mono ?_
  rintro e w1 ⟨rfl, h1⟩
  replace b2 := b2.call h1
  replace hb := bthen hb h1
  clear h1
  have f := Blk.new w1 (rr false 0 false 0) 27 rfl
  have b3 := laid_n w1 (rr false 0 false 0) (X) 27
  replace b2 := laid_o b2 (rr false 0 false 0) (X) 27
  replace hb := laid_b hb (rr false 0 false 0) (X) 27
  go_wp2_with (first | (with_reducible refine alR rfl rfl ?_) | (with_reducible refine stQ rfl rfl rfl rfl f (rr_length _ _ _ _) HX.out ?_) | (with_reducible refine ldA' rfl rfl rfl b3 HX.out ?_) | (with_reducible refine stQ rfl rfl rfl rfl b2 (rr_length _ _ _ _) HX.out ?_))
  clear f
  generalize (w1.alloc (.cells (rr false 0 false 0).toArray 27)).setRow w1.heap.size (X).toArray = W at *
  generalize w1.heap.size = pl_b3 at *
  exact ret_c (cs := X) rfl rfl rfl HX.out.whole (b2.row _) ⟨rfl, below_row hb (by omega) _⟩
set_option maxHeartbeats 2000000 in
theorem tdot_w {X : List Value} {ok : Bool} (hX : Rc X) (T : Tl 53 #[vl P, vl Q, vl R] (.tuple #[vl X, .bool ok])) : Tl 34 #[vl (cnc P Q R)] (vl X) := by
  intro w
  unfold vl at *
  have HT := Lib.hid T
  have HX := Lib.hid hX
  clear T hX
  unfold Tl at HT
  have HP := Lib.hid hP
  have HQ := Lib.hid hQ
  have HR := Lib.hid hR
  clear hP hQ hR
  have b1 := ((Blk.new w (cnc P Q R) 53 rfl).old (.cells (rr false 0 false 0).toArray 27))
  have b2 := (Blk.new (w.alloc (.cells (cnc P Q R).toArray 53)) (rr false 0 false 0) 27 (b := w.heap.size + 1) (by simp))
  have hb : Below w.heap.size w ((w.alloc (.cells (cnc P Q R).toArray 53)).alloc (.cells (rr false 0 false 0).toArray 27)) := (((Below.refl _ _).alloc (Nat.le_refl _) _).alloc (by simp <;> omega) _)
  have hk : ((w.alloc (.cells (cnc P Q R).toArray 53)).alloc (.cells (rr false 0 false 0).toArray 27)).heap.size = w.heap.size + 1 + 1 := by simp
  go_enter Tryz.func34, Tryz.ntmps34
  go_wp2_with (first | (with_reducible refine alR rfl rfl ?_) | (with_reducible refine ldP rfl rfl rfl b1 cn_p HP.out.whole ?_) | (with_reducible refine ldP rfl rfl rfl b1 (cn_q HP.out) HQ.out.whole ?_) | (with_reducible refine ldP rfl rfl rfl b1 (cn_r HP.out HQ.out) HR.out.whole ?_))
  try rw [show (w.alloc (.cells (cnc P Q R).toArray 53)).heap.size = w.heap.size + 1 by simp]
  refine (HT.out _).mono ?_
  rintro e w1 ⟨rfl, h1⟩
  replace b2 := b2.call h1
  replace hb := bthen hb h1
  clear h1
  have f := Blk.new w1 (rr false 0 false 0) 27 rfl
  have b3 := laid_n w1 (rr false 0 false 0) (X) 27
  replace b2 := laid_o b2 (rr false 0 false 0) (X) 27
  replace hb := laid_b hb (rr false 0 false 0) (X) 27
  go_wp2_with (first | (with_reducible refine alR rfl rfl ?_) | (with_reducible refine stQ rfl rfl rfl rfl f (rr_length _ _ _ _) HX.out ?_) | (with_reducible refine ldA' rfl rfl rfl b3 HX.out ?_) | (with_reducible refine stQ rfl rfl rfl rfl b2 (rr_length _ _ _ _) HX.out ?_))
  clear f
  generalize (w1.alloc (.cells (rr false 0 false 0).toArray 27)).setRow w1.heap.size (X).toArray = W at *
  generalize w1.heap.size = pl_b3 at *
  exact ret_c (cs := X) rfl rfl rfl HX.out.whole (b2.row _) ⟨rfl, below_row hb (by omega) _⟩
omit hR in
set_option maxHeartbeats 2000000 in
theorem tfar_w {X : List Value} {ok : Bool} (hX : Rc X) (T : Tl 65 #[vl P, vl Q] (.tuple #[vl X, .bool ok])) : Tl 47 #[vl (sdc P Q)] (vl X) := by
  intro w
  unfold vl at *
  have HT := Lib.hid T
  have HX := Lib.hid hX
  clear T hX
  unfold Tl at HT
  have HP := Lib.hid hP
  have HQ := Lib.hid hQ
  clear hP hQ
  have b1 := ((Blk.new w (sdc P Q) 51 rfl).old (.cells (rr false 0 false 0).toArray 27))
  have b2 := (Blk.new (w.alloc (.cells (sdc P Q).toArray 51)) (rr false 0 false 0) 27 (b := w.heap.size + 1) (by simp))
  have hb : Below w.heap.size w ((w.alloc (.cells (sdc P Q).toArray 51)).alloc (.cells (rr false 0 false 0).toArray 27)) := (((Below.refl _ _).alloc (Nat.le_refl _) _).alloc (by simp <;> omega) _)
  have hk : ((w.alloc (.cells (sdc P Q).toArray 51)).alloc (.cells (rr false 0 false 0).toArray 27)).heap.size = w.heap.size + 1 + 1 := by simp
  go_enter Tryz.func47, Tryz.ntmps47
  go_wp2_with (first | (with_reducible refine alR rfl rfl ?_) | (with_reducible refine ldP rfl rfl rfl b1 sd_p HP.out.whole ?_) | (with_reducible refine ldP rfl rfl rfl b1 (sd_q HP.out) HQ.out.whole ?_))
  try rw [show (w.alloc (.cells (sdc P Q).toArray 51)).heap.size = w.heap.size + 1 by simp]
  refine (HT.out _).mono ?_
  rintro e w1 ⟨rfl, h1⟩
  replace b2 := b2.call h1
  replace hb := bthen hb h1
  clear h1
  have f := Blk.new w1 (rr false 0 false 0) 27 rfl
  have b3 := laid_n w1 (rr false 0 false 0) (X) 27
  replace b2 := laid_o b2 (rr false 0 false 0) (X) 27
  replace hb := laid_b hb (rr false 0 false 0) (X) 27
  go_wp2_with (first | (with_reducible refine alR rfl rfl ?_) | (with_reducible refine stQ rfl rfl rfl rfl f (rr_length _ _ _ _) HX.out ?_) | (with_reducible refine ldA' rfl rfl rfl b3 HX.out ?_) | (with_reducible refine stQ rfl rfl rfl rfl b2 (rr_length _ _ _ _) HX.out ?_))
  clear f
  generalize (w1.alloc (.cells (rr false 0 false 0).toArray 27)).setRow w1.heap.size (X).toArray = W at *
  generalize w1.heap.size = pl_b3 at *
  exact ret_c (cs := X) rfl rfl rfl HX.out.whole (b2.row _) ⟨rfl, below_row hb (by omega) _⟩
set_option maxHeartbeats 2000000 in
theorem tturn_w {c : Int} {ok : Bool} (T : Tl 64 #[vl P, vl Q, vl R] (.tuple #[.int .i64 c, .bool ok])) : Tl 46 #[vl (sdc P Q), vl R] (.int .i64 c) := by
  intro w
  unfold vl at *
  have HT := Lib.hid T
  clear T
  unfold Tl at HT
  have HP := Lib.hid hP
  have HQ := Lib.hid hQ
  have HR := Lib.hid hR
  clear hP hQ hR
  have b2 := ((Blk.new w (sdc P Q) 51 rfl).old (.cells (R).toArray 29))
  have b3 := (Blk.new (w.alloc (.cells (sdc P Q).toArray 51)) (R) 29 (b := w.heap.size + 1) (by simp))
  have hb : Below w.heap.size w ((w.alloc (.cells (sdc P Q).toArray 51)).alloc (.cells (R).toArray 29)) := (((Below.refl _ _).alloc (Nat.le_refl _) _).alloc (by simp <;> omega) _)
  have hk : ((w.alloc (.cells (sdc P Q).toArray 51)).alloc (.cells (R).toArray 29)).heap.size = w.heap.size + 1 + 1 := by simp
  go_enter Tryz.func46, Tryz.ntmps46
  go_wp2_with (first | (with_reducible refine ldP rfl rfl rfl b2 sd_p HP.out.whole ?_) | (with_reducible refine ldP rfl rfl rfl b2 (sd_q HP.out) HQ.out.whole ?_) | (with_reducible refine ldP rfl rfl rfl b3 (part_all _) HR.out.whole ?_))
  refine (HT.out _).mono ?_
  rintro e w1 ⟨rfl, h1⟩
  replace hb := bthen hb h1
  clear h1
  go_wp2
  go_ret
  exact ⟨rfl, hb⟩
set_option maxHeartbeats 2000000 in
theorem tleft_w {c : Int} {b : Bool} (hc : (c == 1) = b) (T : Tl 46 #[vl (sdc P Q), vl R] (.int .i64 c)) : Tl 25 #[vl (cnc P Q R)] (.bool b) := by
  intro w
  subst hc
  unfold vl at *
  have HT := Lib.hid T
  clear T
  unfold Tl at HT
  have HP := Lib.hid hP
  have HQ := Lib.hid hQ
  have HR := Lib.hid hR
  clear hP hQ hR
  have b1 := (Blk.new w (cnc P Q R) 53 rfl)
  have hb : Below w.heap.size w (w.alloc (.cells (cnc P Q R).toArray 53)) := ((Below.refl _ _).alloc (Nat.le_refl _) _)
  have hk : (w.alloc (.cells (cnc P Q R).toArray 53)).heap.size = w.heap.size + 1 := by simp
  go_enter Tryz.func25, Tryz.ntmps25
  go_wp2_with (first | (with_reducible refine ldP rfl rfl rfl b1 cn_s (wholeSd HP.out HQ.out) ?_) | (with_reducible refine ldP rfl rfl rfl b1 (cn_r HP.out HQ.out) HR.out.whole ?_))
  refine (HT.out _).mono ?_
  rintro e w1 ⟨rfl, h1⟩
  replace hb := bthen hb h1
  clear h1
  go_wp2
  go_ret
  exact ⟨rfl, hb⟩
end
set_option maxHeartbeats 2000000 in
theorem tzero_w : Tl 36 #[] (vl (fr 0 1)) := fun w => by
  have T := Of_q (n := 0) (d := 1) (by decide) (by decide) (by decide)
  rw [show vq (Rat.divInt 0 1) = .agg (fr 0 1).toArray from rfl] at T
  have HT := Lib.hid T
  unfold Tl at HT
  unfold vl
  clear T
  have b0 := (Blk.new w (rr false 0 false 0) 27 rfl)
  have hb : Below w.heap.size w (w.alloc (.cells (rr false 0 false 0).toArray 27)) := ((Below.refl _ _).alloc (Nat.le_refl _) _)
  have hk : (w.alloc (.cells (rr false 0 false 0).toArray 27)).heap.size = w.heap.size + 1 := by simp
  go_enter Tryz.func36, Tryz.ntmps36
  go_wp2_with (first | (with_reducible refine alR rfl rfl ?_))
  refine (HT.out _).mono ?_
  rintro e w1 ⟨rfl, h1⟩
  replace b0 := b0.call h1
  replace hb := bthen hb h1
  clear h1
  have f := Blk.new w1 (rr false 0 false 0) 27 rfl
  have b1 := laid_n w1 (rr false 0 false 0) (fr 0 1) 27
  replace b0 := laid_o b0 (rr false 0 false 0) (fr 0 1) 27
  replace hb := laid_b hb (rr false 0 false 0) (fr 0 1) 27
  go_wp2_with (first | (with_reducible refine alR rfl rfl ?_) | (with_reducible refine stQ rfl rfl rfl rfl f (rr_length _ _ _ _) (rc_fr 0 1) ?_) | (with_reducible refine ldA' rfl rfl rfl b1 (rc_fr 0 1) ?_) | (with_reducible refine stQ rfl rfl rfl rfl b0 (rr_length _ _ _ _) (rc_fr 0 1) ?_))
  clear f
  generalize (w1.alloc (.cells (rr false 0 false 0).toArray 27)).setRow w1.heap.size (fr 0 1).toArray = W at *
  generalize w1.heap.size = pl_b1 at *
  exact ret_c (cs := fr 0 1) rfl rfl rfl (rc_fr 0 1).whole (b0.row _) ⟨rfl, below_row hb (by omega) _⟩
set_option maxHeartbeats 2000000 in
theorem above_w {A B : List Value} {c : Int} {b : Bool} {ok : Bool} (hA : Rc A) (hB : Rc B) (hc : decide (0 < c) = b) (T : Tl 63 #[vl A, vl B] (.tuple #[.int .i64 c, .bool ok])) : Tl 45 #[vl A, vl B] (.bool b) := by
  intro w
  subst hc
  unfold vl at *
  have HT := Lib.hid T
  have HA := Lib.hid hA
  have HB := Lib.hid hB
  clear T hA hB
  unfold Tl at HT
  have b2 := ((Blk.new w (A) 27 rfl).old (.cells (B).toArray 27))
  have b3 := (Blk.new (w.alloc (.cells (A).toArray 27)) (B) 27 (b := w.heap.size + 1) (by simp))
  have hb : Below w.heap.size w ((w.alloc (.cells (A).toArray 27)).alloc (.cells (B).toArray 27)) := (((Below.refl _ _).alloc (Nat.le_refl _) _).alloc (by simp <;> omega) _)
  have hk : ((w.alloc (.cells (A).toArray 27)).alloc (.cells (B).toArray 27)).heap.size = w.heap.size + 1 + 1 := by simp
  go_enter Tryz.func45, Tryz.ntmps45
  go_wp2_with (first | (with_reducible refine ldA' rfl rfl rfl b2 HA.out ?_) | (with_reducible refine ldA' rfl rfl rfl b3 HB.out ?_))
  refine (HT.out _).mono ?_
  rintro e w1 ⟨rfl, h1⟩
  replace hb := bthen hb h1
  clear h1
  go_wp2
  go_ret
  exact ⟨rfl, hb⟩
end Go.Proofs.YtckolhalggcenaaGreat

/- An element of an array of structs, by its place; a field of a struct. -/
namespace Go.Proofs.YtckolhalggcenaaGreat
set_option linter.unusedSimpArgs false
set_option linter.unusedVariables false
open Go.RowKit
set_option maxRecDepth 100000
section
variable {ops : Array Oper} {rest : List Oper} {o : Oper} {a : Act} {w : World} {Q' : Exit → Act → World → Prop}
theorem alC3 (hgd : o.guard = none) (ho : o.op = .alloc 84)
    (hr : wpList Tryz.prog ops Q' rest (a.put o.dst (.pointer (some ⟨w.heap.size, 0, none⟩))) (w.alloc (.cells (c3c (cnc p0 p0 p0) (cnc p0 p0 p0) (cnc p0 p0 p0)).toArray 84))) : wpList Tryz.prog ops Q' (o :: rest) a w := al_blk hgd ho zeroC3 hr
end
theorem c30_len : (c3c (cnc p0 p0 p0) (cnc p0 p0 p0) (cnc p0 p0 p0)).length = 1188 := c3_len pc_0 pc_0 pc_0
theorem run_ix {t e : TypeId} {len k n : Nat} {cs X : List Value} {fs : Array Field} (hu : Tryz.prog.underlying t = some (.array len e)) (he : Tryz.prog.underlying e = some (.struct fs)) (hk : (Tryz.prog.info? e).map (·.size) = some k) (hn : n < len) (hX : (cs.drop (n * k)).take k = X) (w : World) :
    (Instr.index t (.agg cs.toArray) (.int .i64 (n : Int))).run Tryz.prog w = .ok (.agg X.toArray) w := by
  subst hX
  cases hi : Tryz.prog.info? e with
  | none => rw [hi] at hk; cases hk
  | some ie =>
    rw [hi] at hk
    simp only [Option.map_some, Option.some.injEq] at hk
    have h1 : (0 : Int) ≤ (n : Int) ∧ (n : Int) < (len : Int) := by omega
    simp [Instr.index, asIntOf, run_underlying hu, part, isAgg, run_underlying he, sizeOf, typeInfo, hi, hk, h1, go_sem]
    intro h
    omega
theorem run_fd {t : TypeId} {k off : Nat} {cs X : List Value} {fs gs : Array Field} {f : Field} {i : Nat} (hu : Tryz.prog.underlying t = some (.struct fs)) (hf : fs[i]? = some f) (he : Tryz.prog.underlying f.type = some (.struct gs)) (hk : (Tryz.prog.info? f.type).map (·.size) = some k) (ho : f.offset = off) (hX : (cs.drop off).take k = X) (w : World) :
    (Instr.field t (.agg cs.toArray) i).run Tryz.prog w = .ok (.agg X.toArray) w := by
  subst hX
  subst ho
  cases hi : Tryz.prog.info? f.type with
  | none => rw [hi] at hk; cases hk
  | some ie =>
    rw [hi] at hk
    simp only [Option.map_some, Option.some.injEq] at hk
    simp [Instr.field, run_underlying hu, hf, part, isAgg, run_underlying he, sizeOf, typeInfo, hi, hk, asAgg, go_sem]
section
variable {P Q R : List Value} (hP : Pc P) (hQ : Pc Q) (hR : Pc R)
include hP hQ hR
theorem ix0 (w : World) : (Instr.index 84 (.agg (c3c (cnc P Q R) (cnc Q R P) (cnc R P Q)).toArray) (.int .i64 0)).run Tryz.prog w = .ok (.agg (cnc P Q R).toArray) w :=
  run_ix (len := 3) (e := 53) (k := 396) (n := 0) (fs := Tryz.prog.fieldsOf 53) (by kernel_rfl) (by kernel_rfl) sizeCn (by decide) (by
    rw [c3_eq, Nat.zero_mul, List.drop_zero, List.take_left' (cn_len hP hQ hR)]) w
theorem ix1 (w : World) : (Instr.index 84 (.agg (c3c (cnc P Q R) (cnc Q R P) (cnc R P Q)).toArray) (.int .i64 1)).run Tryz.prog w = .ok (.agg (cnc Q R P).toArray) w :=
  run_ix (len := 3) (e := 53) (k := 396) (n := 1) (fs := Tryz.prog.fieldsOf 53) (by kernel_rfl) (by kernel_rfl) sizeCn (by decide) (by
    rw [c3_eq, Nat.one_mul, List.drop_left' (cn_len hP hQ hR), List.take_left' (cn_len hQ hR hP)]) w
theorem ix2 (w : World) : (Instr.index 84 (.agg (c3c (cnc P Q R) (cnc Q R P) (cnc R P Q)).toArray) (.int .i64 2)).run Tryz.prog w = .ok (.agg (cnc R P Q).toArray) w :=
  run_ix (len := 3) (e := 53) (k := 396) (n := 2) (fs := Tryz.prog.fieldsOf 53) (by kernel_rfl) (by kernel_rfl) sizeCn (by decide) (by
    rw [c3_eq, ← List.append_assoc, List.drop_left' (by rw [List.length_append, cn_len hP hQ hR, cn_len hQ hR hP]), List.take_of_length_le (by rw [cn_len hR hP hQ]; decide)]) w
theorem fd_cn (w : World) : (Instr.field 55 (.agg (cnc P Q R).toArray) 0).run Tryz.prog w = .ok (.agg (cnc P Q R).toArray) w := by
  obtain ⟨f, hf, ht, ho⟩ : ∃ f, (Tryz.prog.fieldsOf 55)[0]? = some f ∧ f.type = 53 ∧ f.offset = 0 := ⟨_, rfl, by kernel_rfl, by kernel_rfl⟩
  exact run_fd (fs := Tryz.prog.fieldsOf 55) (gs := Tryz.prog.fieldsOf 53) (k := 396) (off := 0) (by kernel_rfl) hf (by rw [ht]; kernel_rfl) (by rw [ht]; exact sizeCn) ho (by
    rw [List.drop_zero, List.take_of_length_le (by rw [cn_len hP hQ hR]; decide)]) w
end
end Go.Proofs.YtckolhalggcenaaGreat

/- Triangles: three corners, tangents. -/
namespace Go.Proofs.YtckolhalggcenaaGreat
set_option linter.unusedSimpArgs false
set_option linter.unusedVariables false
open Go.RowKit
set_option maxRecDepth 100000
section
variable {P Q R : List Value} (hP : Pc P) (hQ : Pc Q) (hR : Pc R)
include hP hQ hR
set_option maxHeartbeats 4000000 in
theorem corners_w : Tl 44 #[vl (cnc P Q R)] (vl (c3c (cnc P Q R) (cnc Q R P) (cnc R P Q))) := fun w => by
  have T1 := next_w hP hQ hR
  have T2 := next_w hQ hR hP
  unfold vl at *
  have HT1 := Lib.hid T1
  have HT2 := Lib.hid T2
  clear T1 T2
  unfold Tl at HT1 HT2
  have HP := Lib.hid hP
  have HQ := Lib.hid hQ
  have HR := Lib.hid hR
  clear hP hQ hR
  have b1 := ((Blk.new w (cnc P Q R) 55 rfl).old (.cells (c3c (cnc p0 p0 p0) (cnc p0 p0 p0) (cnc p0 p0 p0)).toArray 84))
  have b2 := (Blk.new (w.alloc (.cells (cnc P Q R).toArray 55)) (c3c (cnc p0 p0 p0) (cnc p0 p0 p0) (cnc p0 p0 p0)) 84 (b := w.heap.size + 1) (by simp))
  have hb : Below w.heap.size w ((w.alloc (.cells (cnc P Q R).toArray 55)).alloc (.cells (c3c (cnc p0 p0 p0) (cnc p0 p0 p0) (cnc p0 p0 p0)).toArray 84)) := (((Below.refl _ _).alloc (Nat.le_refl _) _).alloc (by simp <;> omega) _)
  have hk : ((w.alloc (.cells (cnc P Q R).toArray 55)).alloc (.cells (c3c (cnc p0 p0 p0) (cnc p0 p0 p0) (cnc p0 p0 p0)).toArray 84)).heap.size = w.heap.size + 1 + 1 := by simp
  go_enter Tryz.func44, Tryz.ntmps44
  go_wp2_with (first | (with_reducible refine alC3 rfl rfl ?_) | (with_reducible refine ldP rfl rfl rfl b1 (part_all _) (wholeCn HP.out HQ.out HR.out) ?_))
  try rw [show (w.alloc (.cells (cnc P Q R).toArray 55)).heap.size = w.heap.size + 1 by simp]
  refine (HT1.out _).mono ?_
  rintro e w1 ⟨rfl, h1⟩
  replace b1 := b1.call h1
  replace b2 := b2.call h1
  replace hb := bthen hb h1
  clear h1
  have f := Blk.new w1 (cnc p0 p0 p0) 53 rfl
  have b3 := f.row (cnc Q R P)
  have l1 := b1.lt
  have l2 := b2.lt
  replace b1 := (b1.old (.cells (cnc p0 p0 p0).toArray 53)).rowOther (g := w1.heap.size) (cnc Q R P).toArray (by omega)
  replace b2 := (b2.old (.cells (cnc p0 p0 p0).toArray 53)).rowOther (g := w1.heap.size) (cnc Q R P).toArray (by omega)
  replace hb := below_row (hb.alloc hb.size (.cells (cnc p0 p0 p0).toArray 53)) (g := w1.heap.size) hb.size (cnc Q R P).toArray
  go_wp2_with (first | (with_reducible refine alCn rfl rfl ?_) | (with_reducible refine stCn rfl rfl rfl rfl f cn0_len HQ.out HR.out HP.out ?_))
  clear f
  generalize (w1.alloc (.cells (cnc p0 p0 p0).toArray 53)).setRow w1.heap.size (cnc Q R P).toArray = W at *
  generalize w1.heap.size = pl_b3 at *
  refine rg_start [w.heap.size + 1] (by kernel_rfl) (fun hS => ?_)
  replace hb := hb.drew
  replace b2 := b2.drew
  refine rg_take 0 rfl (by kernel_rfl) (by kernel_rfl) (by kernel_rfl) (by rfl) hS (v := ?_) ?_ ?_
  rotate_left
  · (intro w' hS'; go_simp <;> try with_reducible rfl)
  try simp only [Act.put, List.setIfInBounds_toArray, List.set_cons_zero, List.set_cons_succ]
  refine rg_ldP 1 rfl (by kernel_rfl) (by kernel_rfl) (by kernel_rfl) (by rfl) hS rfl rfl b1 (by simp <;> omega) (part_all _) (wholeCn HP.out HQ.out HR.out) ?_
  try simp only [Act.put, List.setIfInBounds_toArray, List.set_cons_zero, List.set_cons_succ]
  refine rg_ldP 2 rfl (by kernel_rfl) (by kernel_rfl) (by kernel_rfl) (by rfl) hS rfl rfl b3 (by simp <;> omega) (part_all _) (wholeCn HQ.out HR.out HP.out) ?_
  try simp only [Act.put, List.setIfInBounds_toArray, List.set_cons_zero, List.set_cons_succ]
  refine rg_ldP 3 rfl (by kernel_rfl) (by kernel_rfl) (by kernel_rfl) (by rfl) hS rfl rfl b3 (by simp <;> omega) (part_all _) (wholeCn HQ.out HR.out HP.out) ?_
  try simp only [Act.put, List.setIfInBounds_toArray, List.set_cons_zero, List.set_cons_succ]
  refine rg_eff 4 rfl (by kernel_rfl) (by rfl) (fun K hK => ?_)
  go_simp
  refine (HT2.out _).mono ?_
  rintro e w1 ⟨rfl, h1⟩
  refine hK _ _ (hS.call h1) (fun hS => ?_)
  clear hK K
  replace b2 := b2.call h1
  replace hb := bthen hb h1
  clear h1
  try simp only [Act.put, List.setIfInBounds_toArray, List.set_cons_zero, List.set_cons_succ]
  refine rg_build 5 rfl (by kernel_rfl) (by kernel_rfl) (by kernel_rfl) (by rfl) hS rfl (builtC3 HP.out HQ.out HR.out) (by simp [Act.eval]) ?_
  try simp only [Act.put, List.setIfInBounds_toArray, List.set_cons_zero, List.set_cons_succ]
  refine rg_eff 6 rfl (by kernel_rfl) (by rfl) (fun K hK => ?_)
  refine wp_st (vs := c3c (cnc P Q R) (cnc Q R P) (cnc R P Q)) rfl rfl rfl b2 (by rw [c30_len, c3_len HP.out HQ.out HR.out]) (wholeC3 HP.out HQ.out HR.out) (c3_one HP.out HQ.out HR.out) ?_
  refine hK _ _ (hS.row (.inl (by simp)) _) (fun hS => ?_)
  clear hK K
  try simp only [Act.put, List.setIfInBounds_toArray, List.set_cons_zero, List.set_cons_succ]
  refine rg_done (by kernel_rfl) ?_
  go_wp2
  exact ret_c (cs := c3c (cnc P Q R) (cnc Q R P) (cnc R P Q)) rfl rfl rfl (wholeC3 HP.out HQ.out HR.out) (b2.row _) ⟨rfl, below_row hb (by omega) _⟩
end
end Go.Proofs.YtckolhalggcenaaGreat
