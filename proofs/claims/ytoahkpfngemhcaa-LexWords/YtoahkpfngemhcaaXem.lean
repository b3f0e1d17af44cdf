/- LexEmpty answers true of every two numbers. No conditions. -/
import Derived.Test.YtoahkpfngemhcaaXkn
import Derived.Test.YtoahkpfngemhcaaPst
import Derived.Test.YtoahkpfngemhcaaRows
import Derived.WalkKit
import Derived.ProofKit
import Derived.OpenShut
namespace Go.Proofs.Ytoahkpfngemhcaa
set_option linter.unusedSimpArgs false
set_option linter.unusedVariables false
open Go.RowKit
set_option maxRecDepth 100000
/-- The lines without a word. -/
def epc : Nat → List UInt8
  | 0 => [10]
  | 1 => [32, 32, 10]
  | 2 => [35, 32, 119, 111, 114, 100, 115, 10]
  | _ => [9, 35, 13, 10]
def epcs (m : Nat) : Nat → List UInt8
  | 0 => []
  | k + 1 => epcs m k ++ epc ((m + k) % 4)
theorem epc_len : ∀ i, (epc i).length ≤ 8
  | 0 => by decide
  | 1 => by decide
  | 2 => by decide
  | n + 3 => by show ([9, 35, 13, 10] : List UInt8).length ≤ 8; decide
theorem epcs_len (m : Nat) : ∀ k, (epcs m k).length ≤ 8 * k
  | 0 => Nat.le_refl _
  | k + 1 => by
    have h1 := epcs_len m k
    have h2 := epc_len ((m + k) % 4)
    simp only [epcs, List.length_append]
    omega
theorem lns_row (n : Nat) (a t : List UInt8) (ha : ∀ c ∈ a, c ∉ ([10] : List UInt8)) (hw : wrds (ahead [35] a) = []) : lns n (a ++ 10 :: t) = lns (n + 1) t := by
  rw [lns_step, (ahead_at [10] t (by decide) a ha).1, (ahead_at [10] t (by decide) a ha).2, if_pos hw, List.nil_append]
theorem lns_epc (n : Nat) (t : List UInt8) : ∀ i, lns n (epc i ++ t) = lns (n + 1) t
  | 0 => lns_row n [] t (by decide) (by decide)
  | 1 => lns_row n [32, 32] t (by decide) (by decide)
  | 2 => lns_row n [35, 32, 119, 111, 114, 100, 115] t (by decide) (by decide)
  | _ + 3 => lns_row n [9, 35, 13] t (by decide) (by decide)
theorem lns_epcs (m n : Nat) : ∀ (k : Nat) (t : List UInt8), lns n (epcs m k ++ t) = lns (n + k) t
  | 0, t => rfl
  | k + 1, t => by
    rw [epcs, List.append_assoc, lns_epcs m n k, lns_epc]
    rfl
theorem u8_nat {a : Int} (h : (Lit.int .u8 a).wf = true) : ∃ n : Nat, a = (n : Int) ∧ n ≤ 255 := by
  simp only [Lit.wf, Bool.and_eq_true, decide_eq_true_eq] at h
  have h1 : 0 ≤ a := h.1
  have h2 : a ≤ 255 := h.2
  exact ⟨a.toNat, by omega, by omega⟩
theorem pcs_le (m k : Nat) : (epcs m k).length ≤ 8 * k := epcs_len m k
set_option maxHeartbeats 4000000 in
theorem lempty_walk (n m : Nat) (hn : n ≤ 255) (hm : m ≤ 255) (w : World) :
    Calls Try.prog 6 #[.int .u8 (n : Int), .int .u8 (m : Int)] w fun e w' => e = .returned (.bool true) ∧ Below w.heap.size w w' := by
  have HK := Lib.hid fun w => known6_any w
  obtain ⟨K, hK⟩ : ∃ K, n % 30 = K := ⟨_, rfl⟩
  have hK1 : K < 30 := by omega
  have hKi : (n : Int).tmod 30 = (K : Int) := by rw [← hK]; rfl
  go_enter Try.func6, Try.ntmps6
  go_wp2_with fail
  refine (HK.out _).mono ?_
  rintro e w1 ⟨rfl, hb⟩
  go_wp2_with fail
  go_loop [5, 6] (fun s i => ∃ k : Nat, k ≤ K ∧ i = .int .i64 k ∧ s = .string (tx (epcs m k))) (fun _ i => K - (intOf i).toNat)
  case atStart => exact ⟨0, Nat.zero_le _, rfl, rfl⟩
  case round =>
    obtain ⟨k, hk, rfl, rfl⟩ := hrel
    by_cases hlt : k < K
    · have hl := epcs_len m k
      have hs := tx_size (epcs m k)
      have hs9 : ¬ (9223372036854775807 : Nat) < (tx (epcs m k)).size + 8 := by omega
      have hq := epc_len ((m + k) % 4)
      have hs2 := tx_size (epc ((m + k) % 4))
      have hs8 : ¬ (9223372036854775807 : Nat) < (tx (epcs m k)).size + (tx (epc ((m + k) % 4))).size := by omega
      have hix : ∀ w, Sem.run Try.prog (Instr.index 39 (Value.agg #[Value.string { data := #[10] }, Value.string { data := #[32, 32, 10] }, Value.string { data := #[35, 32, 119, 111, 114, 100, 115, 10] }, Value.string { data := #[9, 35, 13, 10] }]) (Value.int IntKind.i64 (((m : Int) + (k : Int)) % 4))) w = .ok (.string (tx (epc ((m + k) % 4)))) w := by
        intro w
        have e : ((m : Int) + (k : Int)) % 4 = (((m + k) % 4 : Nat) : Int) := by omega
        rw [e]
        have h4 : (m + k) % 4 < 4 := Nat.mod_lt _ (by decide)
        generalize (m + k) % 4 = q at h4
        rcases (show q = 0 ∨ q = 1 ∨ q = 2 ∨ q = 3 by omega) with rfl | rfl | rfl | rfl
        all_goals with_unfolding_all rfl
      have HE : Hid (tx (epcs m (k + 1)) = tx (epcs m k) ++ tx (epc ((m + k) % 4))) := by
        show _ = _
        rw [tx_app]; rfl
      clear hs9
      go_wp2_with fail
      go_round
      case rel => exact ⟨k + 1, by omega, by go_num, by rw [HE.out]⟩
      case measure => simp [intOf]; omega
    · obtain rfl : k = K := by omega
      have hl := pcs_le m k
      have hs := tx_size (epcs m k)
      have hs9 : ¬ (9223372036854775807 : Nat) < (tx (epcs m k)).size + 3 := by omega
      have HX : Hid (tx (epcs m k) ++ ⟨#[120, 32, 121]⟩ = tx (epcs m k ++ [120, 32, 121])) := tx_app (epcs m k) [120, 32, 121]
      have e1 : lns 1 (epcs m k ++ [120, 32, 121]) = [(1 + k, [[120], [121]])] := by rw [lns_epcs]; rfl
      have e2 : lns 1 (epcs m k) = [] := by
        have := lns_epcs m 1 k []
        rw [List.append_nil] at this
        rw [this]; rfl
      have HL1 := Lib.hid fun w => e1 ▸ Lines_any (epcs m k ++ [120, 32, 121]) w (by simp; omega)
      have HL2 := Lib.hid fun w => e2 ▸ Lines_any (epcs m k) w (by omega)
      clear e1 e2 hlt
      go_wp2_with fail
      rw [HX.out]
      refine (HL1.out _).mono ?_
      rintro e w2 ⟨v, rfl, ⟨cs, h1, x1, r1, rfl, k1, rfl⟩, hb2⟩
      obtain ⟨g, cap, rfl, hcap, _, gl, hc⟩ := owns_cells h1 (by simp)
      have c0 := hc 0 _ rfl
      have c1 := hc 1 _ rfl
      obtain ⟨g1, cap1, rfl, hcap1, _, gl1, hd⟩ := owns_cells k1 (by decide)
      have d0 := hd 0 _ rfl
      clear h1 hc k1 hd HL1
      go_wp2_with fail
      refine (HL2.out _).mono ?_
      rintro e w3 ⟨v, rfl, ⟨cs, h1, h2⟩, hb3⟩
      have h0 : cs = [] := h2
      obtain ⟨xa, xc, rfl⟩ := owns_shape h1
      replace c0 := (hb3.cell (p := ⟨g, 0, none⟩) gl).trans c0
      replace c1 := (hb3.cell (p := ⟨g, 1, none⟩) gl).trans c1
      replace d0 := (hb3.cell (p := ⟨g1, 0, none⟩) gl1).trans d0
      have t1 : (tx [120]).toList = [120] := tx_toList _
      have k9 : ((1 + k : Nat) : Int) = (k : Int) + 1 := by omega
      rw [k9] at c0
      replace hb := bthen (bthen hb hb2) hb3
      clear HL2 h1 h2 h0 hb2 hb3 gl gl1
      go_wp2_with fail
      go_ret
      exact ⟨rfl, hb⟩
theorem lempty_all (a : Int) (ha : (Lit.int .u8 a).wf = true) (b : Int) (hb : (Lit.int .u8 b).wf = true) (w : World) :
    Calls Try.prog 6 #[.int .u8 a, .int .u8 b] w fun e w' => e = .returned (.bool true) ∧ Below w.heap.size w w' := by
  obtain ⟨n, rfl, hn⟩ := u8_nat ha
  obtain ⟨m, rfl, hm⟩ := u8_nat hb
  exact lempty_walk n m hn hm w
end Go.Proofs.Ytoahkpfngemhcaa
namespace Go.Proofs.Ytoahkpfngemhcaa.lexEmpty
open Go.ChangeShapes Go.WideShapes Go.ChangeAt Go.RowKit
set_option linter.unusedVariables false
theorem own : ownKnob Try.prog.godebug = none := by kernel_rfl
set_option maxRecDepth 100000 in
theorem lifted (os : Os) (started : os.Started) (H : Type) (enc : TypeId × Value → H) :
    ReturnsInHanded {} Try.checked os 6 .any (Rows.lexEmptySpec.pre6 enc Try.prog Try.f6 Rows.lexEmptyRow.domain false) (Rows.lexEmptySpec.post enc Try.prog Try.f6 false true false false) := by
  refine returnsInHanded_of_change (C := Try.checked) own started (by kernel_rfl) Try.func6
    (ChangeSpec.witness6 (enc := enc) (C := Try.checked) false ⟨#[], #[.int .u8 0, .int .u8 0], []⟩ 8 (by kernel_rfl) (by kernel_rfl) (by kernel_rfl) (by kernel_rfl)) ?_
  intro W base args ds gs before hval0 hW hcnd _
  have hval : ∀ (j : Nat) t v, Try.f6.params[j]? = some t → args[j]? = some v → Value.okWide Try.prog W .any base t v := hval0
  have hW' := hW
  obtain ⟨p, q, hA0, hV, rfl, hfz, hnd⟩ := hW
  have hA : DataW.TrodAll enc Try.prog W 0 (fun _ => true) true Try.f6.params.toList args.toList ds p := hA0
  rw [Try.params6] at hA hval
  obtain ⟨v0, vs0, d0, ds0, p0, q0, hargs, rfl, rfl, h0, r0⟩ := trodAll_cons hA
  obtain ⟨v1, vs1, d1, ds1, p1, q1, rfl, rfl, rfl, h1, r1⟩ := trodAll_cons r0
  obtain ⟨rfl, rfl, rfl⟩ := trodAll_nil r1
  obtain rfl : args = #[v0, v1] := by cases args; simp_all
  obtain ⟨rfl, rfl⟩ := trodVars_none hV
  obtain ⟨a0, rfl, rfl, rfl, w0⟩ := open_int Try.underlying5 (hval 0 5 v0 rfl rfl) h0
  obtain ⟨a1, rfl, rfl, rfl, w1⟩ := open_int Try.underlying5 (hval 1 5 v1 rfl rfl) h1
  clear hA0 hval0
  simp only [List.append_nil] at hW'
  refine (lempty_all a0 w0 a1 w1 W).mono fun e W' ⟨he, hg⟩ => ?_
  subst he
  exact ⟨_, rfl, post_of_below (pa := []) (pv := []) hW' (fun _ _ _ => (trodAll_cons_mk (shut_bool Try.underlying4 _) trodAll_mk0)) (fun sp _ => (trodAll_cons_mk (shut_int Try.underlying5 w0) (trodAll_cons_mk (shut_int Try.underlying5 w1) trodAll_mk0))) (fun _ _ => rfl) rfl
    hg (ok_one (by kernel_rfl) rfl (okWide_bool_mk Try.underlying4 _))⟩
theorem over : Rows.lexEmptyRow.holds Try.pinned (OpenSpec.ofChange Rows.lexEmptySpec) :=
  OpenClaim.holds_of_wide 6 Try.f6 rfl rfl rfl rfl rfl rfl rfl ⟨rfl, rfl, rfl, rfl, rfl⟩ rfl rfl rfl rfl rfl (by kernel_rfl) Try.func6 (by kernel_rfl)
    (of_decide_eq_true (by kernel_rfl)) (by unfold Func.isWrapper; first | (rw [if_pos (by decide +kernel)]; kernel_rfl) | (rw [if_neg (by decide +kernel)]; exact ⟨rfl, rfl⟩))
    (fun os started H enc _ => lifted os started H enc)
end Go.Proofs.Ytoahkpfngemhcaa.lexEmpty
namespace Go.Proofs.Ytoahkpfngemhcaa
theorem lexEmpty_holds : Rows.LexEmptySaid := lexEmpty.over
#print axioms lexEmpty_holds
end Go.Proofs.Ytoahkpfngemhcaa
