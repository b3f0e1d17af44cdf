/- PointOrders answers true of every three points. No conditions. -/
import Derived.Test.YtiaikjeljhfadaaPow
namespace Go.Proofs.Ytiaikjeljhfadaa
set_option linter.unusedSimpArgs false
set_option linter.unusedVariables false
open Go.RowKit
theorem cq_spec (x u : Rat) : (x < u ∧ cq x u = -1) ∨ (x = u ∧ cq x u = 0) ∨ (u < x ∧ cq x u = 1) := by
  unfold cq
  by_cases h : x < u
  · exact .inl ⟨h, by rw [if_pos h]⟩
  · by_cases h2 : u < x
    · exact .inr (.inr ⟨h2, by rw [if_neg h, if_pos h2]⟩)
    · exact .inr (.inl ⟨by grind, by rw [if_neg h, if_neg h2]⟩)
theorem cp_spec (x y u v : Rat) : ((x < u ∨ (x = u ∧ y < v)) ∧ cp x y u v = -1) ∨ ((x = u ∧ y = v) ∧ cp x y u v = 0) ∨ ((u < x ∨ (x = u ∧ v < y)) ∧ cp x y u v = 1) := by
  unfold cp
  rcases cq_spec x u with ⟨h, e⟩ | ⟨h, e⟩ | ⟨h, e⟩
  · rw [e]; exact .inl ⟨.inl h, if_neg (by decide)⟩
  · rw [e]
    rcases cq_spec y v with ⟨h', e'⟩ | ⟨h', e'⟩ | ⟨h', e'⟩
    · rw [e']; exact .inl ⟨.inr ⟨h, h'⟩, by decide⟩
    · rw [e']; exact .inr (.inl ⟨⟨h, h'⟩, by decide⟩)
    · rw [e']; exact .inr (.inr ⟨.inr ⟨h, h'⟩, by decide⟩)
  · rw [e]; exact .inr (.inr ⟨.inl h, if_neg (by decide)⟩)
/-- A point that may be reckoned with, or one that may not. -/
def Pk (A B : List Value) : Prop := Tl 56 #[vl (A ++ B)] (.bool false) ∨ ∃ x y, A ++ B = fq x ++ fq y ∧ Gd x y
theorem pk_rr (s : Bool) {N : Nat} (t : Bool) {M : Nat} (hN : N < bb ^ 32) (hM : M < bb ^ 32) (s' : Bool) {N' : Nat} (t' : Bool) {M' : Nat} (hN' : N' < bb ^ 32) (hM' : M' < bb ^ 32) : Pk (rr s N t M) (rr s' N' t' M') := by
  rcases isp_cases s t hN hM s' t' hN' hM' with h | ⟨x, y, e, h, _⟩
  · exact .inl h
  · exact .inr ⟨x, y, e, h⟩
theorem pk_is {A B : List Value} (h : Pk A B) : ∃ s, Tl 56 #[vl (A ++ B)] (.bool s) := by
  rcases h with h | ⟨x, y, e, h⟩
  · exact ⟨false, h⟩
  · rw [e]; exact ⟨true, Isp_q h⟩
theorem cmp_ex {A B C D : List Value} (hA : Rc A) (hB : Rc B) (hC : Rc C) (hD : Rc D) (h : Pk A B) (h' : Pk C D) : ∃ x r, Tl 63 #[vl (A ++ B), vl (C ++ D)] (.tuple #[.int .i64 x, .bool r]) := by
  rcases h with h | ⟨x, y, e, h⟩
  · obtain ⟨s, hs⟩ := pk_is h'
    exact ⟨0, false, Cmpp_bad hA hB hC hD h hs rfl⟩
  · rcases h' with h' | ⟨u, v, e', h'⟩
    · have := Isp_q h
      unfold vp at this
      rw [← e] at this
      exact ⟨0, false, Cmpp_bad hA hB hC hD this h' rfl⟩
    · rw [e, e']
      exact ⟨_, true, Cmpp_q h h'⟩
theorem pord_walk (s0 : Bool) (N0 : Nat) (t0 : Bool) (M0 : Nat) (u0 : Bool) (K0 : Nat) (x0 : Bool) (L0 : Nat) (hN0 : N0 < bb ^ 32) (hM0 : M0 < bb ^ 32) (hK0 : K0 < bb ^ 32) (hL0 : L0 < bb ^ 32)
    (s1 : Bool) (N1 : Nat) (t1 : Bool) (M1 : Nat) (u1 : Bool) (K1 : Nat) (x1 : Bool) (L1 : Nat) (hN1 : N1 < bb ^ 32) (hM1 : M1 < bb ^ 32) (hK1 : K1 < bb ^ 32) (hL1 : L1 < bb ^ 32)
    (s2 : Bool) (N2 : Nat) (t2 : Bool) (M2 : Nat) (u2 : Bool) (K2 : Nat) (x2 : Bool) (L2 : Nat) (hN2 : N2 < bb ^ 32) (hM2 : M2 < bb ^ 32) (hK2 : K2 < bb ^ 32) (hL2 : L2 < bb ^ 32) (w : World) :
    Calls Try.prog 11 #[.agg (rr s0 N0 t0 M0 ++ rr u0 K0 x0 L0).toArray, .agg (rr s1 N1 t1 M1 ++ rr u1 K1 x1 L1).toArray, .agg (rr s2 N2 t2 M2 ++ rr u2 K2 x2 L2).toArray] w fun e w' => e = .returned (.bool true) ∧ Below w.heap.size w w' := by
  have pa := pk_rr s0 t0 hN0 hM0 u0 x0 hK0 hL0
  have pb := pk_rr s1 t1 hN1 hM1 u1 x1 hK1 hL1
  have pc := pk_rr s2 t2 hN2 hM2 u2 x2 hK2 hL2
  have ra := rc_rr s0 N0 t0 M0
  have ra' := rc_rr u0 K0 x0 L0
  have rb := rc_rr s1 N1 t1 M1
  have rb' := rc_rr u1 K1 x1 L1
  have rc := rc_rr s2 N2 t2 M2
  have rc' := rc_rr u2 K2 x2 L2
  generalize rr s0 N0 t0 M0 = A at *
  generalize rr u0 K0 x0 L0 = B at *
  generalize rr s1 N1 t1 M1 = C at *
  generalize rr u1 K1 x1 L1 = D at *
  generalize rr s2 N2 t2 M2 = E at *
  generalize rr u2 K2 x2 L2 = F at *
  show Calls Try.prog 11 #[vl (A ++ B), vl (C ++ D), vl (E ++ F)] w _
  obtain ⟨z, r3, C3⟩ := cmp_ex rb rb' rc rc' pb pc
  obtain ⟨w0, r4, C4⟩ := cmp_ex ra ra' rc rc' pa pc
  rcases pa with ha | ⟨ax, ay, ea, ha⟩
  · obtain ⟨s, hs⟩ := pk_is pb
    exact pord_a ra ra' rb rb' rc rc' (Cmpp_bad ra ra' rb rb' ha hs rfl) (Cmpp_bad rb rb' ra ra' hs ha (by simp)) C3 C4 ha w
  have Ia := Isp_q ha
  unfold vp at Ia
  rw [← ea] at Ia
  rcases pb with hb | ⟨bx, by', eb, hb⟩
  · exact pord_b ra ra' rb rb' rc rc' (Cmpp_bad ra ra' rb rb' Ia hb rfl) (Cmpp_bad rb rb' ra ra' hb Ia rfl) C3 C4 Ia hb w
  have Ib := Isp_q hb
  unfold vp at Ib
  rw [← eb] at Ib
  have C1 := Cmpp_q ha hb
  have C2 := Cmpp_q hb ha
  rcases pc with hc | ⟨cx, cy, ec, hc⟩
  · unfold vp at C1 C2
    rw [← ea, ← eb] at C1 C2
    exact pord_c ra ra' rb rb' rc rc' C1 C2 (Cmpp_bad rb rb' rc rc' Ib hc rfl) C4 Ia Ib hc w
  have C3' := Cmpp_q hb hc
  have C4' := Cmpp_q ha hc
  rw [ea, eb, ec]
  refine pord_good (rc_q cx) (rc_q cy) (ha.1.f2 (by omega)) (ha.2.f2 (by omega)) (hb.1.f2 (by omega)) (hb.2.f2 (by omega)) C1 C2 C3' C4' rfl ?_ w
  clear C1 C2 C3 C4 C3' C4' ea eb ec ha hb hc Ia Ib ra ra' rb rb' rc rc'
  rcases cp_spec ax ay bx by' with ⟨h, e⟩ | ⟨h, e⟩ | ⟨h, e⟩
  · refine .inr (.inr ⟨e, ?_, decide_eq_false (by grind), ?_⟩)
    · rcases cp_spec bx by' ax ay with ⟨h', e'⟩ | ⟨h', e'⟩ | ⟨h', e'⟩
      · exfalso; grind
      · exfalso; grind
      · exact e'
    · rcases cp_spec bx by' cx cy with ⟨h', e'⟩ | ⟨h', e'⟩ | ⟨h', e'⟩
      · refine .inr (.inr ⟨e', ?_⟩)
        rcases cp_spec ax ay cx cy with ⟨h2, e2⟩ | ⟨h2, e2⟩ | ⟨h2, e2⟩
        · exact e2
        · exfalso; grind
        · exfalso; grind
      · exact .inl e'
      · exact .inr (.inl e')
  · obtain ⟨rfl, rfl⟩ := h
    exact .inr (.inl ⟨e, e, decide_eq_true ⟨rfl, rfl⟩⟩)
  · refine .inl ⟨e, ?_, decide_eq_false (by grind)⟩
    rcases cp_spec bx by' ax ay with ⟨h', e'⟩ | ⟨h', e'⟩ | ⟨h', e'⟩
    · exact e'
    · exfalso; grind
    · exfalso; grind
end Go.Proofs.Ytiaikjeljhfadaa
namespace Go.Proofs.Ytiaikjeljhfadaa.pointOrders
open Go.ChangeShapes Go.WideShapes Go.ChangeAt Go.RowKit
set_option linter.unusedVariables false
theorem own : ownKnob Try.prog.godebug = none := by kernel_rfl
set_option maxRecDepth 100000 in
theorem lifted (os : Os) (started : os.Started) (H : Type) (enc : TypeId × Value → H) :
    ReturnsInHanded {} Try.checked os 11 .any (Rows.pointOrdersSpec.pre6 enc Try.prog Try.f11 Rows.pointOrdersRow.domain false) (Rows.pointOrdersSpec.post enc Try.prog Try.f11 false true false false) := by
  refine returnsInHanded_of_change (C := Try.checked) own started (by kernel_rfl) Try.func11
    (ChangeSpec.witness6 (enc := enc) (C := Try.checked) false ⟨#[], #[.agg p0.toArray, .agg p0.toArray, .agg p0.toArray], []⟩ 11 (by kernel_rfl) (by kernel_rfl) (by kernel_rfl) (by kernel_rfl)) ?_
  intro W base args ds gs before hval0 hW hcnd _
  have hval : ∀ (j : Nat) t v, Try.f11.params[j]? = some t → args[j]? = some v → Value.okWide Try.prog W .any base t v := hval0
  have hW' := hW
  obtain ⟨p, q, hA0, hV, rfl, hfz, hnd⟩ := hW
  have hA : DataW.TrodAll enc Try.prog W 0 (fun _ => true) true Try.f11.params.toList args.toList ds p := hA0
  rw [Try.params11] at hA hval
  obtain ⟨v0, vs0, d0, ds0, p0, q0, hargs, rfl, rfl, h0, r0⟩ := trodAll_cons hA
  obtain ⟨v1, vs1, d1, ds1, p1, q1, rfl, rfl, rfl, h1, r1⟩ := trodAll_cons r0
  obtain ⟨v2, vs2, d2, ds2, p2, q2, rfl, rfl, rfl, h2, r2⟩ := trodAll_cons r1
  obtain ⟨rfl, rfl, rfl⟩ := trodAll_nil r2
  obtain rfl : args = #[v0, v1, v2] := by cases args; simp_all
  obtain ⟨rfl, rfl⟩ := trodVars_none hV
  obtain ⟨s0, N0, t0, M0, u0, K0, x0, L0, rfl, hN0, hM0, hK0, hL0, rfl, hsh0⟩ := open_point (hval 0 66 v0 rfl rfl) h0
  obtain ⟨s1, N1, t1, M1, u1, K1, x1, L1, rfl, hN1, hM1, hK1, hL1, rfl, hsh1⟩ := open_point (hval 1 66 v1 rfl rfl) h1
  obtain ⟨s2, N2, t2, M2, u2, K2, x2, L2, rfl, hN2, hM2, hK2, hL2, rfl, hsh2⟩ := open_point (hval 2 66 v2 rfl rfl) h2
  clear hA0 hval0
  simp only [List.append_nil] at hW'
  refine (pord_walk s0 N0 t0 M0 u0 K0 x0 L0 hN0 hM0 hK0 hL0 s1 N1 t1 M1 u1 K1 x1 L1 hN1 hM1 hK1 hL1 s2 N2 t2 M2 u2 K2 x2 L2 hN2 hM2 hK2 hL2 W).mono fun e W' ⟨he, hg⟩ => ?_
  subst he
  exact ⟨_, rfl, post_of_below (pa := []) (pv := []) hW' (fun _ _ _ => (trodAll_cons_mk (shut_bool Try.underlying4 _) trodAll_mk0)) (fun sp _ => (trodAll_cons_mk (hsh0 _ _ _ _) (trodAll_cons_mk (hsh1 _ _ _ _) (trodAll_cons_mk (hsh2 _ _ _ _) trodAll_mk0)))) (fun _ _ => rfl) rfl
    hg (ok_one (by kernel_rfl) rfl (okWide_bool_mk Try.underlying4 _))⟩
theorem over : Rows.pointOrdersRow.holds Try.pinned (OpenSpec.ofChange Rows.pointOrdersSpec) :=
  OpenClaim.holds_of_wide 11 Try.f11 rfl rfl rfl rfl rfl rfl rfl ⟨rfl, rfl, rfl, rfl, rfl⟩ rfl rfl rfl rfl rfl (by kernel_rfl) Try.func11 (by kernel_rfl)
    (of_decide_eq_true (by kernel_rfl)) (by unfold Func.isWrapper; first | (rw [if_pos (by decide +kernel)]; kernel_rfl) | (rw [if_neg (by decide +kernel)]; exact ⟨rfl, rfl⟩))
    (fun os started H enc _ => lifted os started H enc)
end Go.Proofs.Ytiaikjeljhfadaa.pointOrders
namespace Go.Proofs.Ytiaikjeljhfadaa
theorem pointOrders_holds : Rows.PointOrdersSaid := pointOrders.over
#print axioms pointOrders_holds
end Go.Proofs.Ytiaikjeljhfadaa
