/- option.read: the numbers of a word go to their places. -/
import Derived.Test.YthcgbchgfdkhiaaDoorZsp
import Derived.Test.YthcgbchgfdkhiaaDoorXot
namespace Go.Proofs.YthcgbchgfdkhiaaDoor
set_option linter.unusedSimpArgs false
set_option linter.unusedVariables false
open Go.RowKit
set_option maxRecDepth 100000
/-- The cells cs, the numbers ns laid at the places os. -/
def putZ : List Value → List Nat → List Int → List Value
  | cs, o :: os, n :: ns => putZ (cs.set o (.int .i64 n)) os ns
  | cs, _, _ => cs
theorem putZ_len : ∀ (cs : List Value) (os : List Nat) (ns : List Int), (putZ cs os ns).length = cs.length
  | cs, [], _ => by unfold putZ; rfl
  | cs, _ :: _, [] => by unfold putZ; rfl
  | cs, o :: os, n :: ns => by rw [putZ, putZ_len]; simp
theorem putZ_nil (cs : List Value) (os : List Nat) : putZ cs os [] = cs := by cases os <;> rfl
theorem putZ_snoc : ∀ (cs : List Value) (os : List Nat) (ns : List Int) (n : Int) (o : Nat), os[ns.length]? = some o → putZ cs os (ns ++ [n]) = (putZ cs os ns).set o (.int .i64 n)
  | cs, [], ns, n, o, h => by simp at h
  | cs, a :: os, [], n, o, h => by
    have : a = o := by simpa using h
    subst this
    rw [List.nil_append, putZ, putZ_nil, putZ_nil]
  | cs, a :: os, m :: ns, n, o, h => by
    rw [List.cons_append, putZ, putZ, putZ_snoc _ os ns n o (by simpa using h)]
def nat1 (i : Nat) : Nat := i
set_option maxHeartbeats 4000000 in
theorem read_any (l : List UInt8) (g c b : Nat) (os : List Nat) (cs : List Value) (t : TypeId) (w : World) (hl : l.length ≤ 1000000) (hk : os.length ≤ 100) (hE : Env w) (hp : ∀ (i : Nat) o, os[i]? = some o → w.cell? ⟨g, i, none⟩ = some (.pointer (some ⟨b, o, none⟩)))
    (hgb : g ≠ b) (hB : Blk w b cs t) (ho : ∀ o ∈ os, o < cs.length) :
    Calls Tryd.prog 24 #[.string (tx l), .slice (some ⟨g, 0, none⟩) os.length c] w fun e w' => Oth b w w' ∧ ((e = .returned (.bool true) ∧ (splits [44] l).length = os.length ∧ (splits [44] l).all intOk = true ∧ Blk w' b (putZ cs os ((splits [44] l).map intV)) t) ∨
      (e = .returned (.bool false) ∧ ¬ ((splits [44] l).length = os.length ∧ (splits [44] l).all intOk = true) ∧ ∃ ns, Blk w' b (putZ cs os ns) t)) := by
  have HS := Lib.hid (SplitN_any 44 os.length l w hl hk hE)
  obtain ⟨P, hP⟩ : ∃ P, splits [44] l = P := ⟨_, rfl⟩
  rw [hP]
  have HP := Lib.hid hp
  have HO := Lib.hid ho
  have HPE := Lib.hid hP
  clear hP
  have hbl := hB.lt
  have k1 : IntKind.i64.wrap ((os.length : Int) + 1) = (os.length : Int) + 1 := by rw [IntKind.wrap_i64]; omega
  have hgl : os.length = 0 ∨ g < w.heap.size := by
    cases hos : os with
    | nil => exact .inl rfl
    | cons a r => exact .inr (World.block_lt_of_cell? w _ (hp 0 a (by rw [hos]; rfl)))
  clear hp ho hE
  go_enter Tryd.func24, Tryd.ntmps24
  go_wp2_with fail
  refine HS.out.mono ?_
  rintro e w1 ⟨cap, rfl, hcell, hb1⟩
  have HC := Lib.hid hcell
  replace hB := hB.call hb1
  have HB := Lib.hid hB
  have hsz := hb1.size
  clear hcell HS
  by_cases hlen : P.length = os.length
  · have e := pcs_eq 44 os.length l (by rw [HPE.out]; omega)
    rw [HPE.out] at e
    rw [e] at HC ⊢
    have g1 : ((P.length : Int) == (os.length : Int)) = true := by rw [hlen]; simp
    have hw1 : w.heap.size < w1.heap.size := by
      have hpos := splits_pos [44] l
      rw [HPE.out] at hpos
      exact World.block_lt_of_cell? w1 _ (HC.out 0 _ (List.getElem?_eq_getElem (by omega)))
    have hPl : ∀ u ∈ P, u.length ≤ 1000000 := fun u hu => by
      rw [← HPE.out] at hu
      exact Nat.le_trans (splits_part [44] l u hu) hl
    have HPL := Lib.hid hPl
    clear e hPl
    have hO1 := Oth.of (b := b) hb1
    have HO1 := Lib.hid hO1
    clear hO1 hb1 hB
    have hlen2 : P.length = os.length := hlen
    go_wp2_with fail
    go_loopw [22] (fun j wr => ∃ i : Nat, i ≤ os.length ∧ j = .int .i64 (i : Int) ∧ (P.take i).all intOk = true ∧ Blk wr b (putZ cs os ((P.take i).map intV)) t ∧ Oth b w1 wr) (fun j _ => os.length - (intOf j).toNat)
    case atStart => exact ⟨0, Nat.zero_le _, rfl, rfl, by rw [List.take_zero, List.map_nil, putZ_nil]; exact HB.out, Oth.refl _ _⟩
    case round =>
      obtain ⟨i, hi, rfl, ha, hB, hO⟩ := hrel
      have HA := Lib.hid ha
      clear ha
      by_cases hlt : i < os.length
      · obtain ⟨o, hoi⟩ : ∃ o, os[i]? = some o := ⟨_, List.getElem?_eq_getElem hlt⟩
        obtain ⟨u, hui⟩ : ∃ u, P[i]? = some u := ⟨_, List.getElem?_eq_getElem (by omega)⟩
        have hlt2 : (i : Int) < (P.length : Int) := by omega
        have c1 := hO.cell hgb ((HO1.out).cell hgb (HP.out i o hoi))
        have c2 := hO.cell (by omega) (HC.out i u hui)
        have hol := HO.out o (List.mem_of_getElem? hoi)
        have HI := Lib.hid (Int_any u wr (HPL.out u (List.mem_of_getElem? hui)))
        have HOI := Lib.hid hoi
        have HUI := Lib.hid hui
        clear hoi hui
        cases hu : intOk u
        · have e : intA u = .tuple #[.int .i64 0, .bool false] := by unfold intA; rw [hu]; rfl
          rw [e] at HI
          have E : Hid (¬ (P.length = os.length ∧ P.all intOk = true)) := fun h => by
            have := List.all_eq_true.1 h.2 u (List.mem_of_getElem? HUI.out)
            rw [hu] at this; cases this
          clear e hu
          go_wp2_with fail
          refine HI.out.mono ?_
          rintro e w2 ⟨rfl, rfl⟩
          go_wp2
          go_ret
          exact ⟨HO1.out.trans hO, .inr ⟨rfl, E.out, _, hB⟩⟩
        · have e : intA u = .tuple #[.int .i64 (intV u), .bool true] := by unfold intA; rw [hu]; rfl
          rw [e] at HI
          have HA2 : Hid ((P.take (i + 1)).all intOk = true) := by
            show _ = _
            rw [List.take_add_one, HUI.out, List.all_append, HA.out]; simp [hu]
          have HE2 : Hid ((P.take (i + 1)).map intV = (P.take i).map intV ++ [intV u]) := by
            show _ = _
            rw [List.take_add_one, HUI.out]; simp
          clear e hu
          have hlen3 : ((P.take i).map intV).length = i := by rw [List.length_map, List.length_take]; omega
          have hs := putZ_snoc cs os ((P.take i).map intV) (intV u) o (by rw [hlen3]; exact HOI.out)
          have hpl := putZ_len cs os ((P.take i).map intV)
          obtain ⟨v0, hv0⟩ : ∃ v0, (putZ cs os ((P.take i).map intV))[o]? = some v0 := ⟨_, List.getElem?_eq_getElem (by omega)⟩
          have c3 := hB.cell hv0
          have f3 := hB.frozen o
          have B2 := Lib.hid (hB.set o (.int .i64 (intV u)))
          have O2 := Lib.hid (hO.set o (.int .i64 (intV u)))
          have HSN := Lib.hid hs
          clear hs hpl hv0 hlen3 hB
          go_wp2_with fail
          refine HI.out.mono ?_
          rintro e w2 ⟨rfl, rfl⟩
          go_wp2_with fail
          go_roundw
          case rel => exact ⟨i + 1, by omega, by go_num, HA2.out, by rw [HE2.out, HSN.out]; exact B2.out, O2.out⟩
          case measure => simp [intOf]; omega
      · obtain rfl : os.length = i := by omega
        have ha := HA.out
        rw [← hlen2, List.take_length] at ha
        rw [← hlen2, List.take_length] at hB
        have HAA := Lib.hid ha
        clear ha
        go_wp2
        go_ret
        exact ⟨HO1.out.trans hO, .inl ⟨rfl, hlen2, HAA.out, hB⟩⟩
  · have g1 : (((pcs 44 os.length l).length : Int) == (os.length : Int)) = false := by
      rw [beq_eq_false_iff_ne]
      intro e
      rcases Nat.lt_or_ge os.length P.length with h | h
      · have := pcs_no 44 os.length l (by rw [HPE.out]; exact h); omega
      · have := pcs_eq 44 os.length l (by rw [HPE.out]; exact h); rw [this, HPE.out] at e; omega
    generalize (pcs 44 os.length l).length = q at g1
    clear HC
    go_wp2
    go_ret
    exact ⟨Oth.of hb1, .inr ⟨rfl, fun h => hlen h.1, [], by rw [putZ_nil]; exact HB.out⟩⟩
end Go.Proofs.YthcgbchgfdkhiaaDoor
