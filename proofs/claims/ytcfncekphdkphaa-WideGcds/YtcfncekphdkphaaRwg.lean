/- WideGcds answers true of every two Wides, and leaves them as they are. No conditions. -/
import Derived.Test.YtcfncekphdkphaaKno
import Derived.Test.YtcfncekphdkphaaGcw
import Derived.Test.YtcfncekphdkphaaOpn
import Derived.Test.YtcfncekphdkphaaPst
import Derived.Test.YtcfncekphdkphaaRows
import Derived.WalkKit
import Derived.ProofKit
import Derived.OpenShut
namespace Go.Proofs.Ytcfncekphdkphaa
open Go.RowKit
theorem gcds_walk (s : Bool) (N : Nat) (hN : N < bb ^ 32) (t : Bool) (M : Nat) (hM : M < bb ^ 32) (w : World) :
    Calls Try.prog 6 #[.agg (wd s N).toArray, .agg (wd t M).toArray] w fun e w' => e = .returned (.bool true) ∧ Below w.heap.size w w' := by
  rcases wide_cases s hN with h | ⟨x, hx, h⟩
  · rw [h]; exact gcds_na known_any _ w
  · rw [h]
    rcases wide_cases t hM with h2 | ⟨y, hy, h2⟩
    · rw [h2]; exact gcds_nb known_any hx w
    · rw [h2]; exact gcds_yes known_any hx hy w
end Go.Proofs.Ytcfncekphdkphaa
namespace Go.Proofs.Ytcfncekphdkphaa.wideGcds
open Go.ChangeShapes Go.WideShapes Go.ChangeAt Go.RowKit
set_option linter.unusedVariables false
theorem own : ownKnob Try.prog.godebug = none := by kernel_rfl
set_option maxRecDepth 100000 in
theorem lifted (os : Os) (started : os.Started) (H : Type) (enc : TypeId × Value → H) :
    ReturnsInHanded {} Try.checked os 6 .any (Rows.wideGcdsSpec.pre6 enc Try.prog Try.f6 Rows.wideGcdsRow.domain false) (Rows.wideGcdsSpec.post enc Try.prog Try.f6 false true false false) := by
  refine returnsInHanded_of_change (C := Try.checked) own started (by kernel_rfl) Try.func6
    (ChangeSpec.witness6 (enc := enc) (C := Try.checked) false ⟨#[], #[.agg (wd false 0).toArray, .agg (wd false 0).toArray], []⟩ 6 (by kernel_rfl) (by kernel_rfl) (by kernel_rfl) (by kernel_rfl)) ?_
  intro W base args ds gs before hval0 hW hcnd _
  have hval : ∀ (j : Nat) t v, Try.f6.params[j]? = some t → args[j]? = some v → Value.okWide Try.prog W .any base t v := hval0
  have hW' := hW
  obtain ⟨p, q, hA0, hV, rfl, hfz, hnd⟩ := hW
  have hA : DataW.TrodAll enc Try.prog W 0 (fun _ => true) true Try.f6.params.toList args.toList ds p := hA0
  rw [Try.params6] at hA hval
  obtain ⟨v0, vs0, d0, ds0, p0, q0, hargs, rfl, rfl, h0, r0⟩ := trodAll_cons hA
  obtain ⟨v1, vs1, d1, ds1, p1, q1, rfl, rfl, rfl, h1, r1⟩ := trodAll_cons r0
  obtain ⟨rfl, rfl, rfl⟩ := trodAll_nil r1
  obtain rfl : args = #[v0, v1] := by cases args; simp_all
  obtain ⟨rfl, rfl⟩ := trodVars_none hV
  obtain ⟨s0, N0, rfl, hN0, rfl, hsh0⟩ := open_wide (hval 0 25 v0 rfl rfl) h0
  obtain ⟨s1, N1, rfl, hN1, rfl, hsh1⟩ := open_wide (hval 1 25 v1 rfl rfl) h1
  clear hA0 hval0
  simp only [List.append_nil] at hW'
  refine (gcds_walk s0 N0 hN0 s1 N1 hN1 W).mono fun e W' ⟨he, hg⟩ => ?_
  subst he
  exact ⟨_, rfl, post_of_below (pa := []) (pv := []) hW' (fun _ _ _ => (trodAll_cons_mk (shut_bool Try.underlying4 _) trodAll_mk0)) (fun sp _ => (trodAll_cons_mk (hsh0 _ _ _ _) (trodAll_cons_mk (hsh1 _ _ _ _) trodAll_mk0))) (fun _ _ => rfl) rfl
    hg (ok_one (by kernel_rfl) rfl (okWide_bool_mk Try.underlying4 _))⟩
theorem over : Rows.wideGcdsRow.holds Try.pinned (OpenSpec.ofChange Rows.wideGcdsSpec) :=
  OpenClaim.holds_of_wide 6 Try.f6 rfl rfl rfl rfl rfl rfl rfl ⟨rfl, rfl, rfl, rfl, rfl⟩ rfl rfl rfl rfl rfl (by kernel_rfl) Try.func6 (by kernel_rfl)
    (of_decide_eq_true (by kernel_rfl)) (by unfold Func.isWrapper; first | (rw [if_pos (by decide +kernel)]; kernel_rfl) | (rw [if_neg (by decide +kernel)]; exact ⟨rfl, rfl⟩))
    (fun os started H enc _ => lifted os started H enc)
end Go.Proofs.Ytcfncekphdkphaa.wideGcds
namespace Go.Proofs.Ytcfncekphdkphaa
theorem wideGcds_holds : Rows.WideGcdsSaid := wideGcds.over
#print axioms wideGcds_holds
end Go.Proofs.Ytcfncekphdkphaa
