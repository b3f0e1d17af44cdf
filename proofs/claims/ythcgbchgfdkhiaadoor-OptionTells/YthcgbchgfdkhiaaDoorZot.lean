/- OptionTells: the walk. -/
import Derived.Test.YthcgbchgfdkhiaaDoorZkn
import Derived.Test.YthcgbchgfdkhiaaDoorZrq
namespace Go.Proofs.YthcgbchgfdkhiaaDoor
set_option linter.unusedSimpArgs false
set_option linter.unusedVariables false
open Go.RowKit
set_option maxRecDepth 100000
def valO : Option Opt → Opt
  | none => ⟨0, 0, []⟩
  | some o => o
theorem prs_len (l : List (List UInt8)) : (valO (prs l)).z.length ≤ 4 := by
  unfold prs
  cases parseL ⟨64, 4096, []⟩ l with
  | none => exact Nat.zero_le _
  | some o =>
    show (valO (if okO o = true then some o else none)).z.length ≤ 4
    by_cases h : okO o = true
    · rw [if_pos h]
      unfold okO opOk at h
      simp only [Bool.and_eq_true, decide_eq_true_eq] at h
      exact h.1.2
    · rw [if_neg h]; exact Nat.zero_le _
theorem Ans.reads {w : World} {B : Nat} {e : Ending} {r : Option Opt} (h : Ans w B e r) : ∃ a cp, e = .returned (.tuple #[.agg #[.int .i64 (valO r).h, .int .i64 (valO r).c, .slice a (valO r).z.length cp], .bool r.isSome]) ∧ RdZ w (.slice a (valO r).z.length cp) (valO r).z := by
  cases r with
  | none => exact ⟨none, 0, h, .inl ⟨rfl, none, 0, rfl⟩⟩
  | some o =>
    obtain ⟨zv, he, hown⟩ := h
    have hr := RdZ.of_owns hown
    obtain ⟨a, c, rfl⟩ := hr.shape
    exact ⟨a, c, he, hr⟩
set_option maxHeartbeats 8000000 in
theorem tells_walk (l : List (List UInt8)) (lv : Value) (h c : Int) (zv : Value) (Z : List (Int × Int × Int)) (w : World) (hv : RdS w lv l) (hl : l.length ≤ maxLen) (hu : ∀ u ∈ l, u.length ≤ maxLen) (hZ : RdZ w zv Z) (lZ : Z.length ≤ maxLen) (oz : ∀ p ∈ Z, z3ok p) (oh : i64ok h) (oc : i64ok c) (hE : Env w) :
    Calls Tryd.prog 3 #[lv, .agg #[.int .i64 h, .int .i64 c, zv]] w fun e w' => e = .returned (.bool true) ∧ Below w.heap.size w w' := by
  have hl63 : l.length ≤ 9223372036854775807 := hl
  have lZ63 : Z.length ≤ 9223372036854775807 := lZ
  have hsh : ∃ a c, lv = .slice a l.length c := by
    rcases hv with ⟨rfl, a, c, rfl⟩ | ⟨b, o, c, rfl, _⟩
    · exact ⟨a, c, rfl⟩
    · exact ⟨_, _, rfl⟩
  obtain ⟨sa, sc, rfl⟩ := hsh
  obtain ⟨za, zc, rfl⟩ := hZ.shape
  have hb0 : Below w.heap.size w (w.alloc (.cells #[.int .i64 h, .int .i64 c, .slice za Z.length zc] 25)) := (Below.refl _ _).alloc (Nat.le_refl _) _
  have B0 := Blk.new w [.int .i64 h, .int .i64 c, .slice za Z.length zc] 25 rfl
  have HK := Lib.hid (known8_any _ (hE.below hb0))
  have HV := Lib.hid hv
  have HU := Lib.hid hu
  have HZ := Lib.hid hZ
  have OZ := Lib.hid oz
  have OH := Lib.hid oh
  have OC := Lib.hid oc
  have HE := Lib.hid hE
  have HB0 := Lib.hid hb0
  have HBL := Lib.hid B0
  clear hv hu hZ oz oh oc hE hb0 B0 hl lZ
  go_enter Tryd.func3, Tryd.ntmps3
  go_wp2_with fail
  refine HK.out.mono ?_
  rintro e w1 ⟨rfl, h1⟩
  have hb1 := bthen HB0.out h1
  have B1 := HBL.out.call h1
  have c2 := B1.cell (i := 2) rfl
  have HB1 := Lib.hid hb1
  have HBL1 := Lib.hid B1
  clear HK h1 HB0 HBL hb1 B1
  by_cases g1 : 10 < l.length
  · have g1' : (10 : Int) < (l.length : Int) := by omega
    clear g1
    go_wp2_with fail
    go_ret
    exact ⟨rfl, HB1.out⟩
  · have g1' : ¬ (10 : Int) < (l.length : Int) := by omega
    by_cases g2 : 8 < Z.length
    · have g2' : (8 : Int) < (Z.length : Int) := by omega
      clear g2
      go_wp2_with fail
      go_ret
      exact ⟨rfl, HB1.out⟩
    · have g2' : ¬ (8 : Int) < (Z.length : Int) := by omega
      go_wp2_with fail
      clear c2
      go_loop [5] (fun j => ∃ i : Nat, i ≤ l.length ∧ j = .int .i64 (i : Int) ∧ ∀ u ∈ l.take i, u.length ≤ 40) (fun j => l.length - (intOf j).toNat)
      case atStart => exact ⟨0, Nat.zero_le _, rfl, by simp⟩
      case round =>
        obtain ⟨i, hi, rfl, ha⟩ := hrel
        have HA := Lib.hid ha
        clear ha
        by_cases hlt : i < l.length
        · obtain ⟨u, hui⟩ : ∃ u, l[i]? = some u := ⟨_, List.getElem?_eq_getElem hlt⟩
          obtain ⟨gb, go, rfl, hc⟩ : ∃ b o, sa = some ⟨b, o, none⟩ ∧ w.cell? ⟨b, o + i, none⟩ = some (.string (tx u)) := by
            rcases HV.out with ⟨e, _⟩ | ⟨b, o, c', e, _, hc⟩
            · rw [e] at hui; simp at hui
            · exact ⟨b, o, by injection e, hc i u hui⟩
          have c1 := cell_below HB1.out hc
          have zu := tx_size u
          have HUI := Lib.hid hui
          clear hui hc
          by_cases g3 : 40 < u.length
          · have g3' : (40 : Int) < (u.length : Int) := by omega
            clear g3
            go_wp2_with fail
            go_ret
            exact ⟨rfl, HB1.out⟩
          · have g3' : ¬ (40 : Int) < (u.length : Int) := by omega
            go_wp2_with fail
            go_round
            case rel => exact ⟨i + 1, by omega, by go_num, by
              rw [List.take_add_one, HUI.out]
              intro x hx
              rcases List.mem_append.1 hx with hx | hx
              · exact HA.out x hx
              · simp at hx; subst hx; omega⟩
            case measure => simp [intOf]; omega
        · obtain rfl : l.length = i := by omega
          have hal : ∀ u ∈ l, u.length ≤ 1000000 := fun u hx => by
            have h := HA.out
            rw [List.take_length] at h
            have := h u hx
            omega
          have HAL := Lib.hid hal
          have HP := Lib.hid (parse_any l _ w1 (HV.out.below HB1.out) (by omega) hal (HE.out.below HB1.out))
          have HPL := Lib.hid (prs_len l)
          obtain ⟨r, hr⟩ : ∃ r, prs l = r := ⟨_, rfl⟩
          rw [hr] at HP HPL
          have HR := Lib.hid hr
          clear hal hr
          go_wp2_with fail
          refine HP.out.mono ?_
          rintro e w2 ⟨h2, hA⟩
          obtain ⟨a1, cp1, rfl, rz1⟩ := hA.reads
          have hb2 := bthen HB1.out h2
          have B2 := HBL1.out.call h2
          have D1 := Blk.new w2 [.int .i64 (valO r).h, .int .i64 (valO r).c, .slice a1 (valO r).z.length cp1] 25 rfl
          have q2 : Below w2.heap.size w2 (w2.alloc (.cells #[.int .i64 (valO r).h, .int .i64 (valO r).c, .slice a1 (valO r).z.length cp1] 25)) := (Below.refl _ _).alloc (Nat.le_refl _) _
          have hb3 := bthen hb2 q2
          replace B2 := B2.call q2
          replace rz1 := rz1.below q2
          have HP2 := rparse_any l _ _ (HV.out.below hb3) (by omega) HAL.out
          rw [HR.out] at HP2
          have HP3 := Lib.hid HP2
          have HB3 := Lib.hid hb3
          have HB2L := Lib.hid B2
          have HD1 := Lib.hid D1
          have HRZ1 := Lib.hid rz1
          clear HP2 hb2 hb3 B2 D1 rz1 q2 h2 hA HP
          go_wp2_with fail
          generalize w2.alloc (.cells #[.int .i64 (valO r).h, .int .i64 (valO r).c, .slice a1 (valO r).z.length cp1] 25) = w3 at *
          refine HP3.out.mono ?_
          rintro e w4 ⟨h4, hA⟩
          obtain ⟨a2, cp2, rfl, rz2⟩ := hA.reads
          have D2 := Blk.new w4 [.int .i64 (valO r).h, .int .i64 (valO r).c, .slice a2 (valO r).z.length cp2] 25 rfl
          have q4 : Below w4.heap.size w4 (w4.alloc (.cells #[.int .i64 (valO r).h, .int .i64 (valO r).c, .slice a2 (valO r).z.length cp2] 25)) := (Below.refl _ _).alloc (Nat.le_refl _) _
          have q5 := bthen h4 q4
          have hb := bthen HB3.out q5
          have B5 := HB2L.out.call q5
          have D5 := HD1.out.call q5
          have rz3 := HRZ1.out.below q5
          have rz4 := rz2.below q4
          have hZ5 := HZ.out.below hb
          have HRZ3 := Lib.hid rz3
          have HRZ4 := Lib.hid rz4
          have HZ5 := Lib.hid hZ5
          have hE5 := HE.out.below hb
          clear HP3 h4 hA rz2 q4 q5 HB2L HD1 HRZ1 HB3 rz3 rz4 hZ5 HZ HB1
          go_wp2_with fail
          generalize w4.alloc (.cells #[.int .i64 (valO r).h, .int .i64 (valO r).c, .slice a2 (valO r).z.length cp2] 25) = w5 at *
          have gb : (r.isSome == r.isSome) = true := by simp
          refine rg_start [] (by kernel_rfl) (fun hS => ?_)
          replace hb := hb.drew
          replace hE5 := hE5.below ((Below.refl w5.heap.size w5).drew)
          refine rg_ld 0 rfl (by kernel_rfl) (by kernel_rfl) (by kernel_rfl) (by rfl) hS rfl rfl D5 (by simp <;> omega) wOp ?_
          try simp only [Act.put, List.setIfInBounds_toArray, List.set_cons_zero, List.set_cons_succ]
          refine rg_ld 1 rfl (by kernel_rfl) (by kernel_rfl) (by kernel_rfl) (by rfl) hS rfl rfl D2 (by simp <;> omega) wOp ?_
          try simp only [Act.put, List.setIfInBounds_toArray, List.set_cons_zero, List.set_cons_succ]
          refine rg_eff 2 rfl (by kernel_rfl) (by rfl) (fun K hK => ?_)
          go_simp
          refine (same_any _ _ _ _ (valO r).z _ (HRZ3.out.below ((Below.refl _ _).drew)) (HRZ4.out.below ((Below.refl _ _).drew)) (Nat.le_trans HPL.out (by decide))).mono ?_
          rintro e w1 ⟨rfl, h1⟩
          refine hK _ _ (hS.call h1) (fun hS => ?_)
          clear hK K
          replace hb := bthen hb h1
          replace hE5 := hE5.below h1
          have hZ6 := HZ5.out.below ((Below.refl w5.heap.size w5).drew.trans h1)
          clear h1
          try simp only [Act.put, List.setIfInBounds_toArray, List.set_cons_zero, List.set_cons_succ]
          refine rg_take 3 rfl (by kernel_rfl) (by kernel_rfl) (by kernel_rfl) (by rfl) hS (v := ?_) ?_ ?_
          rotate_left
          · (intro w' hS'; go_simp <;> try with_reducible rfl)
          try simp only [Act.put, List.setIfInBounds_toArray, List.set_cons_zero, List.set_cons_succ]
          refine rg_take 4 rfl (by kernel_rfl) (by kernel_rfl) (by kernel_rfl) (by rfl) hS (v := ?_) ?_ ?_
          rotate_left
          · (intro w' hS'; go_simp <;> try with_reducible rfl)
          try simp only [Act.put, List.setIfInBounds_toArray, List.set_cons_zero, List.set_cons_succ]
          refine rg_take 5 rfl (by kernel_rfl) (by kernel_rfl) (by kernel_rfl) (by rfl) hS (v := ?_) ?_ ?_
          rotate_left
          · (intro w' hS'; go_simp <;> try with_reducible rfl)
          try simp only [Act.put, List.setIfInBounds_toArray, List.set_cons_zero, List.set_cons_succ]
          refine rg_take 6 rfl (by kernel_rfl) (by kernel_rfl) (by kernel_rfl) (by rfl) hS (v := ?_) ?_ ?_
          rotate_left
          · (intro w' hS'; go_simp <;> try with_reducible rfl)
          try simp only [Act.put, List.setIfInBounds_toArray, List.set_cons_zero, List.set_cons_succ]
          refine rg_take 7 rfl (by kernel_rfl) (by kernel_rfl) (by kernel_rfl) (by rfl) hS (v := ?_) ?_ ?_
          rotate_left
          · (intro w' hS'; go_simp <;> try with_reducible rfl)
          try simp only [Act.put, List.setIfInBounds_toArray, List.set_cons_zero, List.set_cons_succ]
          refine rg_take 8 rfl (by kernel_rfl) (by kernel_rfl) (by kernel_rfl) (by rfl) hS (v := ?_) ?_ ?_
          rotate_left
          · (intro w' hS'; go_simp <;> try with_reducible rfl)
          try simp only [Act.put, List.setIfInBounds_toArray, List.set_cons_zero, List.set_cons_succ]
          refine rg_ld 9 rfl (by kernel_rfl) (by kernel_rfl) (by kernel_rfl) (by rfl) hS rfl rfl B5 (by simp <;> omega) wOp ?_
          try simp only [Act.put, List.setIfInBounds_toArray, List.set_cons_zero, List.set_cons_succ]
          refine rg_ld 11 rfl (by kernel_rfl) (by kernel_rfl) (by kernel_rfl) (by rfl) hS rfl rfl B5 (by simp <;> omega) wOp ?_
          try simp only [Act.put, List.setIfInBounds_toArray, List.set_cons_zero, List.set_cons_succ]
          refine rg_eff 10 rfl (by kernel_rfl) (by rfl) (fun K hK => ?_)
          go_simp
          refine (is_any h c za zc Z _ hZ6 (by omega)).mono ?_
          rintro e w1 ⟨rfl, h1⟩
          refine hK _ _ (hS.call h1) (fun hS => ?_)
          clear hK K
          replace hb := bthen hb h1
          replace hE5 := hE5.below h1
          replace hZ6 := hZ6.below h1
          clear h1
          try simp only [Act.put, List.setIfInBounds_toArray, List.set_cons_zero, List.set_cons_succ]
          refine rg_eff 12 rfl (by kernel_rfl) (by rfl) (fun K hK => ?_)
          go_simp
          refine (ris_any h c za zc Z _ hZ6 (by omega)).mono ?_
          rintro e w1 ⟨rfl, h1⟩
          refine hK _ _ (hS.call h1) (fun hS => ?_)
          clear hK K
          replace hb := bthen hb h1
          replace hE5 := hE5.below h1
          replace hZ6 := hZ6.below h1
          clear h1
          try simp only [Act.put, List.setIfInBounds_toArray, List.set_cons_zero, List.set_cons_succ]
          refine rg_take 13 rfl (by kernel_rfl) (by kernel_rfl) (by kernel_rfl) (by rfl) hS (v := ?_) ?_ ?_
          rotate_left
          · (intro w' hS'; go_simp <;> try with_reducible rfl)
          try simp only [Act.put, List.setIfInBounds_toArray, List.set_cons_zero, List.set_cons_succ]
          refine rg_take 14 rfl (by kernel_rfl) (by kernel_rfl) (by kernel_rfl) (by rfl) hS (v := ?_) ?_ ?_
          rotate_left
          · (intro w' hS'; go_simp <;> try with_reducible rfl)
          try simp only [Act.put, List.setIfInBounds_toArray, List.set_cons_zero, List.set_cons_succ]
          refine rg_take 15 rfl (by kernel_rfl) (by kernel_rfl) (by kernel_rfl) (by rfl) hS (v := ?_) ?_ ?_
          rotate_left
          · (intro w' hS'; go_simp <;> try with_reducible rfl)
          try simp only [Act.put, List.setIfInBounds_toArray, List.set_cons_zero, List.set_cons_succ]
          refine rg_ld 16 rfl (by kernel_rfl) (by kernel_rfl) (by kernel_rfl) (by rfl) hS rfl rfl B5 (by simp <;> omega) wOp ?_
          try simp only [Act.put, List.setIfInBounds_toArray, List.set_cons_zero, List.set_cons_succ]
          refine rg_ld 18 rfl (by kernel_rfl) (by kernel_rfl) (by kernel_rfl) (by rfl) hS rfl rfl B5 (by simp <;> omega) wOp ?_
          try simp only [Act.put, List.setIfInBounds_toArray, List.set_cons_zero, List.set_cons_succ]
          refine rg_eff 17 rfl (by kernel_rfl) (by rfl) (fun K hK => ?_)
          go_simp
          refine (print_any h c za zc Z _ hZ6 (by omega) OH.out OC.out OZ.out hE5).mono ?_
          rintro e w1 ⟨rfl, h1⟩
          refine hK _ _ (hS.call h1) (fun hS => ?_)
          clear hK K
          replace hb := bthen hb h1
          replace hE5 := hE5.below h1
          replace hZ6 := hZ6.below h1
          clear h1
          try simp only [Act.put, List.setIfInBounds_toArray, List.set_cons_zero, List.set_cons_succ]
          refine rg_eff 19 rfl (by kernel_rfl) (by rfl) (fun K hK => ?_)
          go_simp
          refine (rprint_any h c za zc Z _ hZ6 (by omega) OH.out OC.out OZ.out).mono ?_
          rintro e w1 ⟨rfl, h1⟩
          refine hK _ _ (hS.call h1) (fun hS => ?_)
          clear hK K
          replace hb := bthen hb h1
          clear h1
          try simp only [Act.put, List.setIfInBounds_toArray, List.set_cons_zero, List.set_cons_succ]
          refine rg_take 20 rfl (by kernel_rfl) (by kernel_rfl) (by kernel_rfl) (by rfl) hS (v := ?_) ?_ ?_
          rotate_left
          · (intro w' hS'; go_simp <;> try with_reducible rfl)
          try simp only [Act.put, List.setIfInBounds_toArray, List.set_cons_zero, List.set_cons_succ]
          refine rg_take 21 rfl (by kernel_rfl) (by kernel_rfl) (by kernel_rfl) (by rfl) hS (v := ?_) ?_ ?_
          rotate_left
          · (intro w' hS'; go_simp <;> try with_reducible rfl)
          try simp only [Act.put, List.setIfInBounds_toArray, List.set_cons_zero, List.set_cons_succ]
          refine rg_take 22 rfl (by kernel_rfl) (by kernel_rfl) (by kernel_rfl) (by rfl) hS (v := ?_) ?_ ?_
          rotate_left
          · (intro w' hS'; go_simp <;> try with_reducible rfl)
          try simp only [Act.put, List.setIfInBounds_toArray, List.set_cons_zero, List.set_cons_succ]
          refine rg_done (by kernel_rfl) ?_
          go_wp2
          go_ret
          exact ⟨rfl, hb⟩
end Go.Proofs.YthcgbchgfdkhiaaDoor
