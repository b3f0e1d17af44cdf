/- LexTells answers true of every two texts. No conditions. -/
import Derived.Test.YtoahkpfngemhcaaXkn
import Derived.Test.YtoahkpfngemhcaaXrl
import Derived.Test.YtoahkpfngemhcaaXri
import Derived.Test.YtoahkpfngemhcaaXsm
import Derived.Test.YtoahkpfngemhcaaPst
import Derived.Test.YtoahkpfngemhcaaRows
import Derived.WalkKit
import Derived.ProofKit
import Derived.OpenShut
namespace Go.Proofs.Ytoahkpfngemhcaa
set_option linter.unusedSimpArgs false
set_option linter.unusedVariables false
open Go.RowKit
set_option maxRecDepth 100000
theorem lnsOf_in : ∀ (l : List (List UInt8)) (n : Nat) p, p ∈ lnsOf n l → ∃ r ∈ l, p.2 = wrds (ahead [35] r)
  | [], _, _, h => by simp [lnsOf] at h
  | row :: t, n, p, h => by
    unfold lnsOf at h
    rcases List.mem_append.1 h with h | h
    · split at h
      · simp at h
      · simp only [List.mem_cons, List.not_mem_nil, or_false] at h
        subst h
        exact ⟨row, List.mem_cons_self .., rfl⟩
    · obtain ⟨r, hr, e⟩ := lnsOf_in t (n + 1) p h
      exact ⟨r, List.mem_cons_of_mem _ hr, e⟩
theorem splits_part (p : List UInt8) : ∀ (l r : List UInt8), r ∈ splits p l → r.length ≤ l.length
  | [], r, h => by simp [splits] at h; subst h; simp
  | c :: l, r, h => by
    unfold splits at h
    split at h
    · rcases List.mem_cons.1 h with rfl | h
      · simp
      · have := splits_part p l r h; simp; omega
    · split at h
      · simp only [List.mem_cons, List.not_mem_nil, or_false] at h
        subst h; simp
      · rename_i x y he
        rcases List.mem_cons.1 h with rfl | h
        · have := splits_part p l x (by rw [he]; exact List.mem_cons_self ..); simp; omega
        · have := splits_part p l r (by rw [he]; exact List.mem_cons_of_mem _ h); simp; omega
theorem lns_words (n : Nat) (l : List UInt8) : ∀ p ∈ lns n l, p.2.length ≤ l.length + 1 := by
  intro p hp
  obtain ⟨r, hr, e⟩ := lnsOf_in _ _ _ hp
  have h1 := splits_part _ _ _ hr
  have h2 := ahead_le [35] r
  have h3 := wrds_len (ahead [35] r)
  rw [e]; omega
theorem intA_shape (l : List UInt8) : ∃ (n : Int) (b : Bool), intA l = .tuple #[.int .i64 n, .bool b] := by
  unfold intA; split <;> exact ⟨_, _, rfl⟩
set_option maxHeartbeats 4000000 in
theorem ltells_walk (s u : ByteArray) (w : World) :
    Calls Try.prog 3 #[.string s, .string u] w fun e w' => e = .returned (.bool true) ∧ Below w.heap.size w w' := by
  have HK := Lib.hid fun w => known6_any w
  by_cases h1 : 600 < s.size
  · have g1 : (600 : Int) < (s.size : Int) := by omega
    go_enter Try.func3, Try.ntmps3
    go_wp2_with fail
    refine (HK.out _).mono ?_
    rintro e w1 ⟨rfl, hb⟩
    go_wp2_with fail
    go_ret
    exact ⟨rfl, hb⟩
  · have g1 : ¬ (600 : Int) < (s.size : Int) := by omega
    by_cases h2 : 40 < u.size
    · have g2 : (40 : Int) < (u.size : Int) := by omega
      go_enter Try.func3, Try.ntmps3
      go_wp2_with fail
      refine (HK.out _).mono ?_
      rintro e w1 ⟨rfl, hb⟩
      go_wp2_with fail
      go_ret
      exact ⟨rfl, hb⟩
    · have g2 : ¬ (40 : Int) < (u.size : Int) := by omega
      obtain ⟨l, rfl⟩ : ∃ l, s = tx l := ⟨s.data.toList, rfl⟩
      obtain ⟨m, rfl⟩ : ∃ m, u = tx m := ⟨u.data.toList, rfl⟩
      have hl : l.length ≤ 600 := by rw [tx_size] at h1; omega
      have hm : m.length ≤ 40 := by rw [tx_size] at h2; omega
      have HL := Lib.hid fun w => Lines_any l w (by omega)
      have HR := Lib.hid fun w => rLines_any l w (by omega)
      obtain ⟨n, b, hn⟩ := intA_shape m
      have HI := Lib.hid fun w => hn ▸ Int_any m w (by omega)
      have HJ := Lib.hid fun w => hn ▸ rInt_any m w (by omega)
      have h3 : (lns 1 l).length ≤ 1000000 := by have := lns_len 1 l; omega
      have h4 : ∀ p ∈ lns 1 l, p.2.length ≤ 1000000 := fun p hp => by have := lns_words 1 l p hp; omega
      obtain ⟨L, hL⟩ : ∃ L, lns 1 l = L := ⟨_, rfl⟩
      rw [hL] at HL HR h3 h4
      have H4 := Lib.hid h4
      clear h1 h2 hn hL h4
      go_enter Try.func3, Try.ntmps3
      go_wp2_with fail
      refine (HK.out _).mono ?_
      rintro e w1 ⟨rfl, hb⟩
      go_wp2_with fail
      refine (HR.out _).mono ?_
      rintro e w2 ⟨v, k, rfl, hv, hb2⟩
      have HV := Lib.hid hv.rd
      replace hb := bthen hb hb2
      clear hv hb2
      go_wp2_with fail
      refine (HI.out _).mono ?_
      rintro e w3 ⟨rfl, rfl⟩
      go_wp2_with fail
      refine (HJ.out _).mono ?_
      rintro e w3 ⟨rfl, rfl⟩
      go_wp2_with fail
      refine (HL.out _).mono ?_
      rintro e w3 ⟨x, rfl, hx, hb3⟩
      have HX := Lib.hid hx.rd
      have HV2 := Lib.hid (HV.out.below hb3)
      replace hb := bthen hb hb3
      clear hx hb3 HV
      go_wp2_with fail
      refine (same_any x v L _ h3 H4.out HX.out HV2.out).mono ?_
      rintro e w4 ⟨rfl, hb4⟩
      replace hb := bthen hb hb4
      go_wp2
      go_ret
      exact ⟨rfl, hb⟩
end Go.Proofs.Ytoahkpfngemhcaa
namespace Go.Proofs.Ytoahkpfngemhcaa.lexTells
open Go.ChangeShapes Go.WideShapes Go.ChangeAt Go.RowKit
set_option linter.unusedVariables false
theorem own : ownKnob Try.prog.godebug = none := by kernel_rfl
set_option maxRecDepth 100000 in
theorem lifted (os : Os) (started : os.Started) (H : Type) (enc : TypeId × Value → H) :
    ReturnsInHanded {} Try.checked os 3 .any (Rows.lexTellsSpec.pre6 enc Try.prog Try.f3 Rows.lexTellsRow.domain false) (Rows.lexTellsSpec.post enc Try.prog Try.f3 false true false false) := by
  refine returnsInHanded_of_change (C := Try.checked) own started (by kernel_rfl) Try.func3
    (ChangeSpec.witness6 (enc := enc) (C := Try.checked) false ⟨#[], #[.string ⟨#[]⟩, .string ⟨#[]⟩], []⟩ 8 (by kernel_rfl) (by kernel_rfl) (by kernel_rfl) (by kernel_rfl)) ?_
  intro W base args ds gs before hval0 hW hcnd _
  have hval : ∀ (j : Nat) t v, Try.f3.params[j]? = some t → args[j]? = some v → Value.okWide Try.prog W .any base t v := hval0
  have hW' := hW
  obtain ⟨p, q, hA0, hV, rfl, hfz, hnd⟩ := hW
  have hA : DataW.TrodAll enc Try.prog W 0 (fun _ => true) true Try.f3.params.toList args.toList ds p := hA0
  rw [Try.params3] at hA hval
  obtain ⟨v0, vs0, d0, ds0, p0, q0, hargs, rfl, rfl, h0, r0⟩ := trodAll_cons hA
  obtain ⟨v1, vs1, d1, ds1, p1, q1, rfl, rfl, rfl, h1, r1⟩ := trodAll_cons r0
  obtain ⟨rfl, rfl, rfl⟩ := trodAll_nil r1
  obtain rfl : args = #[v0, v1] := by cases args; simp_all
  obtain ⟨rfl, rfl⟩ := trodVars_none hV
  obtain ⟨s0, rfl, rfl, rfl, w0⟩ := Go.ChangeMaps.open_string Try.underlying9 (hval 0 9 v0 rfl rfl) h0
  obtain ⟨s1, rfl, rfl, rfl, w1⟩ := Go.ChangeMaps.open_string Try.underlying9 (hval 1 9 v1 rfl rfl) h1
  clear hA0 hval0
  simp only [List.append_nil] at hW'
  refine (ltells_walk s0 s1 W).mono fun e W' ⟨he, hg⟩ => ?_
  subst he
  exact ⟨_, rfl, post_of_below (pa := []) (pv := []) hW' (fun _ _ _ => (trodAll_cons_mk (shut_bool Try.underlying4 _) trodAll_mk0)) (fun sp _ => (trodAll_cons_mk (Go.ChangeMaps.shut_string Try.underlying9 w0) (trodAll_cons_mk (Go.ChangeMaps.shut_string Try.underlying9 w1) trodAll_mk0))) (fun _ _ => rfl) rfl
    hg (ok_one (by kernel_rfl) rfl (okWide_bool_mk Try.underlying4 _))⟩
theorem over : Rows.lexTellsRow.holds Try.pinned (OpenSpec.ofChange Rows.lexTellsSpec) :=
  OpenClaim.holds_of_wide 3 Try.f3 rfl rfl rfl rfl rfl rfl rfl ⟨rfl, rfl, rfl, rfl, rfl⟩ rfl rfl rfl rfl rfl (by kernel_rfl) Try.func3 (by kernel_rfl)
    (of_decide_eq_true (by kernel_rfl)) (by unfold Func.isWrapper; first | (rw [if_pos (by decide +kernel)]; kernel_rfl) | (rw [if_neg (by decide +kernel)]; exact ⟨rfl, rfl⟩))
    (fun os started H enc _ => lifted os started H enc)
end Go.Proofs.Ytoahkpfngemhcaa.lexTells
namespace Go.Proofs.Ytoahkpfngemhcaa
theorem lexTells_holds : Rows.LexTellsSaid := lexTells.over
#print axioms lexTells_holds
end Go.Proofs.Ytoahkpfngemhcaa
