/- WideLaws answers true of every three Wides, and leaves them as they are. No conditions. -/
import Derived.Test.YtcfncekphdkphaaKno
import Derived.Test.YtcfncekphdkphaaLam
import Derived.Test.YtcfncekphdkphaaOpn
import Derived.Test.YtcfncekphdkphaaPst
import Derived.Test.YtcfncekphdkphaaRows
import Derived.WalkKit
import Derived.ProofKit
import Derived.OpenShut
namespace Go.Proofs.Ytcfncekphdkphaa.wideLaws
open Go.ChangeShapes Go.WideShapes Go.ChangeAt Go.RowKit
set_option linter.unusedVariables false
theorem own : ownKnob Try.prog.godebug = none := by kernel_rfl
set_option maxRecDepth 100000 in
theorem lifted (os : Os) (started : os.Started) (H : Type) (enc : TypeId × Value → H) :
    ReturnsInHanded {} Try.checked os 4 .any (Rows.wideLawsSpec.pre6 enc Try.prog Try.f4 Rows.wideLawsRow.domain false) (Rows.wideLawsSpec.post enc Try.prog Try.f4 false true false false) := by
  refine returnsInHanded_of_change (C := Try.checked) own started (by kernel_rfl) Try.func4
    (ChangeSpec.witness6 (enc := enc) (C := Try.checked) false ⟨#[], #[.agg (wd false 0).toArray, .agg (wd false 0).toArray, .agg (wd false 0).toArray], []⟩ 4 (by kernel_rfl) (by kernel_rfl) (by kernel_rfl) (by kernel_rfl)) ?_
  intro W base args ds gs before hval0 hW hcnd _
  have hval : ∀ (j : Nat) t v, Try.f4.params[j]? = some t → args[j]? = some v → Value.okWide Try.prog W .any base t v := hval0
  have hW' := hW
  obtain ⟨p, q, hA0, hV, rfl, hfz, hnd⟩ := hW
  have hA : DataW.TrodAll enc Try.prog W 0 (fun _ => true) true Try.f4.params.toList args.toList ds p := hA0
  rw [Try.params4] at hA hval
  obtain ⟨v0, vs0, d0, ds0, p0, q0, hargs, rfl, rfl, h0, r0⟩ := trodAll_cons hA
  obtain ⟨v1, vs1, d1, ds1, p1, q1, rfl, rfl, rfl, h1, r1⟩ := trodAll_cons r0
  obtain ⟨v2, vs2, d2, ds2, p2, q2, rfl, rfl, rfl, h2, r2⟩ := trodAll_cons r1
  obtain ⟨rfl, rfl, rfl⟩ := trodAll_nil r2
  obtain rfl : args = #[v0, v1, v2] := by cases args; simp_all
  obtain ⟨rfl, rfl⟩ := trodVars_none hV
  obtain ⟨s0, N0, rfl, hN0, rfl, hsh0⟩ := open_wide (hval 0 25 v0 rfl rfl) h0
  obtain ⟨s1, N1, rfl, hN1, rfl, hsh1⟩ := open_wide (hval 1 25 v1 rfl rfl) h1
  obtain ⟨s2, N2, rfl, hN2, rfl, hsh2⟩ := open_wide (hval 2 25 v2 rfl rfl) h2
  clear hA0 hval0
  simp only [List.append_nil] at hW'
  refine (laws_walk known_any (fun hx hy hz lx ly lz w => laws_main known_any hx hy hz lx ly lz w) s0 N0 hN0 s1 N1 hN1 s2 N2 hN2 W).mono fun e W' ⟨he, hg⟩ => ?_
  subst he
  exact ⟨_, rfl, post_of_below (pa := []) (pv := []) hW' (fun _ _ _ => (trodAll_cons_mk (shut_bool Try.underlying4 _) trodAll_mk0)) (fun sp _ => (trodAll_cons_mk (hsh0 _ _ _ _) (trodAll_cons_mk (hsh1 _ _ _ _) (trodAll_cons_mk (hsh2 _ _ _ _) trodAll_mk0)))) (fun _ _ => rfl) rfl
    hg (ok_one (by kernel_rfl) rfl (okWide_bool_mk Try.underlying4 _))⟩
theorem over : Rows.wideLawsRow.holds Try.pinned (OpenSpec.ofChange Rows.wideLawsSpec) :=
  OpenClaim.holds_of_wide 4 Try.f4 rfl rfl rfl rfl rfl rfl rfl ⟨rfl, rfl, rfl, rfl, rfl⟩ rfl rfl rfl rfl rfl (by kernel_rfl) Try.func4 (by kernel_rfl)
    (of_decide_eq_true (by kernel_rfl)) (by unfold Func.isWrapper; first | (rw [if_pos (by decide +kernel)]; kernel_rfl) | (rw [if_neg (by decide +kernel)]; exact ⟨rfl, rfl⟩))
    (fun os started H enc _ => lifted os started H enc)
end Go.Proofs.Ytcfncekphdkphaa.wideLaws
namespace Go.Proofs.Ytcfncekphdkphaa
theorem wideLaws_holds : Rows.WideLawsSaid := wideLaws.over
#print axioms wideLaws_holds
end Go.Proofs.Ytcfncekphdkphaa
