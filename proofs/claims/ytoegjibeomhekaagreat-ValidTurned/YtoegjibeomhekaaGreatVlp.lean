/- Joined of: Vfo Vnu Vco Vfm Vbd Vtw Vlp. -/
import Derived.Test.YtoegjibeomhekaaGreatVpu
import Derived.Laws.MakeOwn
/- valid: counted, numbered. -/
namespace Go.Proofs.YtoegjibeomhekaaGreat
set_option linter.unusedSimpArgs false
set_option linter.unusedVariables false
open Go.RowKit
set_option maxRecDepth 100000
section
variable {va : Option Addr} {vc : Nat} {sa : Option Addr} {sc : Nat} {ha : Option Addr} {hc : Nat} {V S : List I3} {H : List Hp}
set_option maxHeartbeats 2000000 in
theorem counted_any (w : World) : Calls Tryz.prog 21 #[.agg #[.slice va V.length vc, .slice sa S.length sc, .slice ha H.length hc]] w fun e w' => e = .returned (.bool (vCntd V S H)) ∧ Below w.heap.size w w' := by
  have B1 := Blk.new w [.slice va V.length vc, .slice sa S.length sc, .slice ha H.length hc] 51 rfl
  have hb := bnew w (.cells #[.slice va V.length vc, .slice sa S.length sc, .slice ha H.length hc] 51)
  have c0 := B1.cell (i := 0) rfl
  have HA := Lib.hid (vam1n 1 16 V.length (w.alloc (.cells #[.slice va V.length vc, .slice sa S.length sc, .slice ha H.length hc] 51)))
  rw [show (w.alloc (.cells #[.slice va V.length vc, .slice sa S.length sc, .slice ha H.length hc] 51)).heap.size = w.heap.size + 1 by simp] at HA
  have B2 := B1.old (.cells #[.int .i64 (V.length : Int)] 3)
  have c1 := B2.cell (i := 1) rfl
  have c2 := B2.cell (i := 2) rfl
  replace hb := hb.alloc hb.size (.cells #[.int .i64 (V.length : Int)] 3)
  have HE : Hid (vCntd V S H = (vin 1 16 V.length && (decide (S.length ≤ 16) && decide (H.length ≤ 4)))) := rfl
  generalize vCntd V S H = r at *
  clear B1 B2
  cases h1 : vin 1 16 (V.length : Int)
  · rw [h1] at HA HE
    clear h1
    go_enter Tryz.func21, Tryz.ntmps21
    go_wp2_with fail
    refine HA.out.mono ?_
    rintro e w1 ⟨rfl, rfl⟩
    go_wp2
    go_ret
    exact ⟨by rw [HE.out]; rfl, hb⟩
  · rw [h1] at HA HE
    clear h1
    by_cases h2 : S.length ≤ 16
    · have g2 : (S.length : Int) ≤ 16 := by omega
      by_cases h3 : H.length ≤ 4
      · have g3 : (H.length : Int) ≤ 4 := by omega
        have HX : Hid (r = true) := by show _ = _; rw [HE.out]; simp [h2, h3]
        clear h2 h3
        go_enter Tryz.func21, Tryz.ntmps21
        go_wp2_with fail
        refine HA.out.mono ?_
        rintro e w1 ⟨rfl, rfl⟩
        go_wp2
        go_ret
        exact ⟨by rw [HX.out]; first | rfl | (simp; omega), hb⟩
      · have g3 : ¬ (H.length : Int) ≤ 4 := by omega
        have HX : Hid (r = false) := by show _ = _; rw [HE.out]; simp [h2, h3]
        clear h2 h3
        go_enter Tryz.func21, Tryz.ntmps21
        go_wp2_with fail
        refine HA.out.mono ?_
        rintro e w1 ⟨rfl, rfl⟩
        go_wp2
        go_ret
        exact ⟨by rw [HX.out]; first | rfl | (simp; omega), hb⟩
    · have g2 : ¬ (S.length : Int) ≤ 16 := by omega
      have HX : Hid (r = false) := by show _ = _; rw [HE.out]; simp [h2]
      clear h2
      go_enter Tryz.func21, Tryz.ntmps21
      go_wp2_with fail
      refine HA.out.mono ?_
      rintro e w1 ⟨rfl, rfl⟩
      go_wp2
      go_ret
      exact ⟨by rw [HX.out]; first | rfl | (simp; omega), hb⟩
end
end Go.Proofs.YtoegjibeomhekaaGreat

/- valid: numbered. -/
namespace Go.Proofs.YtoegjibeomhekaaGreat
set_option linter.unusedSimpArgs false
set_option linter.unusedVariables false
open Go.RowKit
set_option maxRecDepth 100000
section
variable {va : Option Addr} {vc : Nat} {sa : Option Addr} {sc : Nat} {ha : Option Addr} {hc : Nat} {V S : List I3} {H : List Hp}
set_option maxHeartbeats 8000000 in
theorem numbered_any (w : World) (hR : RdV w va vc sa sc ha hc V S H) (hv : V.length ≤ 1000) (hs : S.length ≤ 1000) : Calls Tryz.prog 22 #[.agg #[.slice va V.length vc, .slice sa S.length sc, .slice ha H.length hc]] w fun e w' => e = .returned (.bool (vNum V S)) ∧ Below w.heap.size w w' := by
  have B1 := Blk.new w [.slice va V.length vc, .slice sa S.length sc, .slice ha H.length hc] 51 rfl
  have hb := bnew w (.cells #[.slice va V.length vc, .slice sa S.length sc, .slice ha H.length hc] 51)
  have HR := Lib.hid (hR.below hb)
  have HL : Hid (V.length ≤ 1000 ∧ S.length ≤ 1000) := ⟨hv, hs⟩
  have kw : IntKind.i64.wrap ((V.length : Int) - 1) = (V.length : Int) - 1 := by rw [IntKind.wrap_i64]; omega
  have c0 := B1.cell (i := 0) rfl
  clear hR
  go_enter Tryz.func22, Tryz.ntmps22
  go_wp2_with fail
  generalize w.alloc (.cells #[.slice va V.length vc, .slice sa S.length sc, .slice ha H.length hc] 51) = W at *
  clear c0
  go_loopw [11] (fun j wr => ∃ i : Nat, i ≤ V.length ∧ j = .int .i64 (i : Int) ∧ (V.take i).all vMark = true ∧ Below W.heap.size W wr) (fun j _ => V.length - (intOf j).toNat)
  case atStart => exact ⟨0, Nat.zero_le _, rfl, rfl, Below.refl _ _⟩
  case round =>
    obtain ⟨i, hi, rfl, ha, hr⟩ := hrel
    have HA := Lib.hid ha
    clear ha
    by_cases hlt : i < V.length
    · obtain ⟨⟨x, y, m⟩, hx⟩ : ∃ p, V[i]? = some p := ⟨_, List.getElem?_eq_getElem hlt⟩
      obtain ⟨gv, ov, rfl, hcap, p1, p2, p3⟩ := HR.out.v.at hx
      replace p1 := vcell hr p1
      replace p2 := vcell hr p2
      replace p3 := vcell hr p3
      simp only at p1 p2 p3
      have HX := Lib.hid hx
      have BB := Blk.new wr [.int .i64 x, .int .i64 y, .int .i64 m] 31 rfl
      have q2 := BB.cell (i := 2) rfl
      have hr1 := hr.trans ((bnew wr (.cells #[.int .i64 x, .int .i64 y, .int .i64 m] 31)).mono hr.size)
      have HN := Lib.hid (vam1n 0 1000000 m (wr.alloc (.cells #[.int .i64 x, .int .i64 y, .int .i64 m] 31)))
      have hr2 := hr1.trans ((bnew (wr.alloc (.cells #[.int .i64 x, .int .i64 y, .int .i64 m] 31)) (.cells #[.int .i64 m] 3)).mono hr1.size)
      rw [show (wr.alloc (.cells #[Value.int .i64 x, .int .i64 y, .int .i64 m] 31)).heap.size = wr.heap.size + 1 by simp] at HN
      have HM : Hid (vMark (x, y, m) = vin 0 1000000 m) := rfl
      clear hx hr1
      cases hm : vin 0 1000000 m
      · rw [hm] at HN HM
        have E : Hid (vNum V S = false) := by show _ = _; unfold vNum; rw [all_no HX.out HM.out]; rfl
        clear hm
        go_wp2_with fail
        refine HN.out.mono ?_
        rintro e w1 ⟨rfl, rfl⟩
        go_wp2
        go_ret
        exact ⟨by rw [E.out]; rfl, bthen hb hr2⟩
      · rw [hm] at HN HM
        clear hm
        go_wp2_with fail
        refine HN.out.mono ?_
        rintro e w1 ⟨rfl, rfl⟩
        go_wp2_with fail
        go_roundw
        case rel => exact ⟨i + 1, by omega, by go_num, all_take HX.out HA.out HM.out, hr2⟩
        case measure => simp [intOf]; omega
    · obtain rfl : i = V.length := by omega
      have HVA : Hid (V.all vMark = true) := by have := HA.out; rwa [List.take_length] at this
      have c1 := (B1.call hr).cell (i := 1) rfl
      replace hb := bthen hb hr
      replace B1 := B1.call hr
      replace HR := Lib.hid (HR.out.below hr)
      clear HA hr
      go_wp2_with fail
      clear c1
      generalize wr = W at *
      go_loopw [25] (fun j wr => ∃ i : Nat, i ≤ S.length ∧ j = .int .i64 (i : Int) ∧ (S.take i).all (vEnd V.length) = true ∧ Below W.heap.size W wr) (fun j _ => S.length - (intOf j).toNat)
      case atStart => exact ⟨0, Nat.zero_le _, rfl, rfl, Below.refl _ _⟩
      case round =>
        obtain ⟨i, hi, rfl, ha, hr⟩ := hrel
        have HA := Lib.hid ha
        clear ha
        by_cases hlt : i < S.length
        · obtain ⟨⟨x, y, m⟩, hx⟩ : ∃ p, S[i]? = some p := ⟨_, List.getElem?_eq_getElem hlt⟩
          obtain ⟨gv, ov, rfl, hcap, p1, p2, p3⟩ := HR.out.s.at hx
          replace p1 := vcell hr p1
          replace p2 := vcell hr p2
          replace p3 := vcell hr p3
          simp only at p1 p2 p3
          have HX := Lib.hid hx
          have BB := Blk.new wr [.int .i64 x, .int .i64 y, .int .i64 m] 33 rfl
          have B2 := (B1.call hr).old (.cells #[.int .i64 x, .int .i64 y, .int .i64 m] 33)
          have hr1 := hr.trans ((bnew wr (.cells #[.int .i64 x, .int .i64 y, .int .i64 m] 33)).mono hr.size)
          have hsz : (wr.alloc (.cells #[Value.int .i64 x, .int .i64 y, .int .i64 m] 33)).heap.size = wr.heap.size + 1 := by simp
          have HM : Hid (vEnd V.length (x, y, m) = ((vin 0 ((V.length : Int) - 1) x && vin 0 ((V.length : Int) - 1) y) && (!decide (x = y) && vin 0 1000000 m))) := rfl
          generalize hW2 : wr.alloc (.cells #[Value.int .i64 x, .int .i64 y, .int .i64 m] 33) = W2 at *
          have HW2 := Lib.hid hW2
          have HN := Lib.hid (vam2n 0 ((V.length : Int) - 1) x y W2)
          have hr2 := hr1.trans ((bnew W2 (.cells #[.int .i64 x, .int .i64 y] 3)).mono hr1.size)
          have BB2 := BB.old (.cells #[.int .i64 x, .int .i64 y] 3)
          have hsz2 : (W2.alloc (.cells #[Value.int .i64 x, .int .i64 y] 3)).heap.size = wr.heap.size + 1 + 1 := by simp [hsz]
          have HN2 := Lib.hid (vam1n 0 1000000 m (W2.alloc (.cells #[Value.int .i64 x, .int .i64 y] 3)))
          have hr3 := hr2.trans ((bnew (W2.alloc (.cells #[Value.int .i64 x, .int .i64 y] 3)) (.cells #[.int .i64 m] 3)).mono hr2.size)
          rw [hsz2] at HN2
          rw [hsz] at HN
          have q0 := BB.cell (i := 0) rfl
          have q1 := BB.cell (i := 1) rfl
          have c0 := B2.cell (i := 0) rfl
          have r0 := BB2.cell (i := 0) rfl
          have r1 := BB2.cell (i := 1) rfl
          have r2 := BB2.cell (i := 2) rfl
          subst hW2
          clear hx hr1 B2 BB BB2 HW2 hsz
          cases h1 : (vin 0 ((V.length : Int) - 1) x && vin 0 ((V.length : Int) - 1) y)
          · rw [h1] at HN HM
            have E : Hid (vNum V S = false) := by show _ = _; unfold vNum; rw [all_no HX.out HM.out]; simp
            clear h1
            go_wp2_with fail
            refine HN.out.mono ?_
            rintro e w1 ⟨rfl, rfl⟩
            go_wp2
            go_ret
            exact ⟨by rw [E.out]; rfl, bthen hb hr2⟩
          · rw [h1] at HN HM
            clear h1
            by_cases h2 : x = y
            · have E : Hid (vNum V S = false) := by show _ = _; unfold vNum; rw [all_no HX.out (by rw [HM.out]; simp [h2])]; simp
              subst h2
              go_wp2_with fail
              refine HN.out.mono ?_
              rintro e w1 ⟨rfl, rfl⟩
              go_wp2
              go_ret
              exact ⟨by rw [E.out]; rfl, bthen hb hr2⟩
            · have g2 : (x == y) = false := by simp [h2]
              have HM2 : Hid (vEnd V.length (x, y, m) = vin 0 1000000 m) := by show _ = _; rw [HM.out]; simp [h2]
              clear HM
              cases h3 : vin 0 1000000 m
              · rw [h3] at HN2 HM2
                have E : Hid (vNum V S = false) := by show _ = _; unfold vNum; rw [all_no HX.out HM2.out]; simp
                clear h3
                go_wp2_with fail
                refine HN.out.mono ?_
                rintro e w1 ⟨rfl, rfl⟩
                go_wp2_with fail
                refine HN2.out.mono ?_
                rintro e w1 ⟨rfl, rfl⟩
                go_wp2
                go_ret
                exact ⟨by rw [E.out]; rfl, bthen hb hr3⟩
              · rw [h3] at HN2 HM2
                clear h3
                go_wp2_with fail
                refine HN.out.mono ?_
                rintro e w1 ⟨rfl, rfl⟩
                go_wp2_with fail
                refine HN2.out.mono ?_
                rintro e w1 ⟨rfl, rfl⟩
                go_wp2_with fail
                go_roundw
                case rel => exact ⟨i + 1, by omega, by go_num, all_take HX.out HA.out HM2.out, hr3⟩
                case measure => simp [intOf]; omega
        · obtain rfl : i = S.length := by omega
          have E : Hid (vNum V S = true) := by
            have := HA.out
            rw [List.take_length] at this
            show _ = _; unfold vNum; rw [HVA.out, this]; rfl
          go_wp2_with fail
          go_ret
          exact ⟨by rw [E.out]; rfl, bthen hb hr⟩
end
end Go.Proofs.YtoegjibeomhekaaGreat

/- slices.ContainsFunc over points: with isNone, with a stretch's has. -/
namespace Go.Proofs.YtoegjibeomhekaaGreat
set_option linter.unusedSimpArgs false
set_option linter.unusedVariables false
open Go.RowKit
set_option maxRecDepth 100000
set_option maxHeartbeats 2000000 in
theorem none_idx {ha : Option Addr} {hc : Nat} {H : List Hp}   (F : Hp → Bool) (w : World) (hR : RdP w (.slice ha H.length hc) H) (hl : H.length ≤ 1000) (hok : ∀ p ∈ H, HpOk p) (T : ∀ p ∈ H, ∀ w, Calls Tryz.prog 24 #[vl p.1] w fun e w' => e = .returned (.bool (F p)) ∧ Below w.heap.size w w') :
    Calls Tryz.prog 33 #[.slice ha H.length hc, .func (.func 24) #[] #[]] w fun e w' => (∃ r : Int, e = .returned (.int .i64 r) ∧ ((H.any F = true ∧ 0 ≤ r) ∨ (H.any F = false ∧ r = -1))) ∧ Below w.heap.size w w' := by
  have HR := Lib.hid hR
  have HT := Lib.hid T
  have HO := Lib.hid hok
  clear hR T hok
  go_enter Tryz.func33, Tryz.ntmps33
  go_wp2_with fail
  go_loopw [8] (fun j wr => ∃ i : Nat, i ≤ H.length ∧ j = .int .i64 (i : Int) ∧ (H.take i).any F = false ∧ Below w.heap.size w wr) (fun j _ => H.length - (intOf j).toNat)
  case atStart => exact ⟨0, Nat.zero_le _, rfl, rfl, Below.refl _ _⟩
  case round =>
    obtain ⟨i, hi, rfl, ha, hb⟩ := hrel
    have HA := Lib.hid ha
    clear ha
    by_cases hlt : i < H.length
    · obtain ⟨p, hx⟩ : ∃ p, H[i]? = some p := ⟨_, List.getElem?_eq_getElem hlt⟩
      have HX := Lib.hid hx
      have HTp := Lib.hid (HT.out p (List.mem_of_getElem? hx))
      obtain ⟨gv, ov, rfl, hcap, p1⟩ := (HR.out.below hb).at hx
      obtain ⟨A, B, e1, hA, hB, _⟩ := HO.out p (List.mem_of_getElem? hx)
      have r0 : wr.rangeAt gv (ov + i * 132) (A ++ B) := by rw [← e1]; exact p1
      unfold vl at HTp
      rw [e1] at HTp
      clear hx p1 e1 HT HO HR
      cases hf : F p
      · rw [hf] at HTp
        have HF := Lib.hid hf
        clear hf
        go_wp2_with (first | (with_reducible refine ldPr rfl rfl rfl r0 hA hB ?_))
        refine (HTp.out _).mono ?_
        rintro e w1 ⟨rfl, h1⟩
        replace hb := bthen hb h1
        clear r0 h1
        go_wp2_with fail
        go_roundw
        case rel => exact ⟨i + 1, by omega, by go_num, any_take HX.out HA.out HF.out, hb⟩
        case measure => simp [intOf]; omega
      · rw [hf] at HTp
        have HF : Hid (H.any F = true) := any_yes HX.out hf
        clear hf
        go_wp2_with (first | (with_reducible refine ldPr rfl rfl rfl r0 hA hB ?_))
        refine (HTp.out _).mono ?_
        rintro e w1 ⟨rfl, h1⟩
        replace hb := bthen hb h1
        clear r0 h1
        go_wp2_with fail
        go_ret
        exact ⟨⟨i, rfl, .inl ⟨HF.out, by omega⟩⟩, hb⟩
    · obtain rfl : i = H.length := by omega
      have HF := HA.out
      rw [List.take_length] at HF
      go_wp2_with fail
      go_ret
      exact ⟨⟨-1, rfl, .inr ⟨HF, rfl⟩⟩, hb⟩
set_option maxHeartbeats 1000000 in
theorem none_any {ha : Option Addr} {hc : Nat} {H : List Hp}   (F : Hp → Bool) (w : World) (hR : RdP w (.slice ha H.length hc) H) (hl : H.length ≤ 1000) (hok : ∀ p ∈ H, HpOk p) (T : ∀ p ∈ H, ∀ w, Calls Tryz.prog 24 #[vl p.1] w fun e w' => e = .returned (.bool (F p)) ∧ Below w.heap.size w w') :
    Calls Tryz.prog 23 #[.slice ha H.length hc, .func (.func 24) #[] #[]] w fun e w' => e = .returned (.bool (H.any F)) ∧ Below w.heap.size w w' := by
  have HI := Lib.hid (none_idx   F w hR hl hok T)
  clear hR hok T
  generalize H.any F = r at *
  go_enter Tryz.func23, Tryz.ntmps23
  go_wp2_with fail
  refine HI.out.mono ?_
  rintro e w1 ⟨⟨k, rfl, hk⟩, h1⟩
  rcases hk with ⟨rfl, hk⟩ | ⟨rfl, rfl⟩
  · go_wp2
    go_ret
    exact ⟨by first | rfl | (simp; omega), h1⟩
  · go_wp2
    go_ret
    exact ⟨by first | rfl | simp, h1⟩
set_option maxHeartbeats 2000000 in
theorem has_idx {ha : Option Addr} {hc : Nat} {H : List Hp} {s: Value} (F : Hp → Bool) (w : World) (hR : RdP w (.slice ha H.length hc) H) (hl : H.length ≤ 1000) (hok : ∀ p ∈ H, HpOk p) (T : ∀ p ∈ H, ∀ w, Calls Tryz.prog 30 #[s,vl p.1] w fun e w' => e = .returned (.bool (F p)) ∧ Below w.heap.size w w') :
    Calls Tryz.prog 33 #[.slice ha H.length hc, .func (.func 30) #[s] #[]] w fun e w' => (∃ r : Int, e = .returned (.int .i64 r) ∧ ((H.any F = true ∧ 0 ≤ r) ∨ (H.any F = false ∧ r = -1))) ∧ Below w.heap.size w w' := by
  have HR := Lib.hid hR
  have HT := Lib.hid T
  have HO := Lib.hid hok
  clear hR T hok
  go_enter Tryz.func33, Tryz.ntmps33
  go_wp2_with fail
  go_loopw [8] (fun j wr => ∃ i : Nat, i ≤ H.length ∧ j = .int .i64 (i : Int) ∧ (H.take i).any F = false ∧ Below w.heap.size w wr) (fun j _ => H.length - (intOf j).toNat)
  case atStart => exact ⟨0, Nat.zero_le _, rfl, rfl, Below.refl _ _⟩
  case round =>
    obtain ⟨i, hi, rfl, ha, hb⟩ := hrel
    have HA := Lib.hid ha
    clear ha
    by_cases hlt : i < H.length
    · obtain ⟨p, hx⟩ : ∃ p, H[i]? = some p := ⟨_, List.getElem?_eq_getElem hlt⟩
      have HX := Lib.hid hx
      have HTp := Lib.hid (HT.out p (List.mem_of_getElem? hx))
      obtain ⟨gv, ov, rfl, hcap, p1⟩ := (HR.out.below hb).at hx
      obtain ⟨A, B, e1, hA, hB, _⟩ := HO.out p (List.mem_of_getElem? hx)
      have r0 : wr.rangeAt gv (ov + i * 132) (A ++ B) := by rw [← e1]; exact p1
      unfold vl at HTp
      rw [e1] at HTp
      clear hx p1 e1 HT HO HR
      cases hf : F p
      · rw [hf] at HTp
        have HF := Lib.hid hf
        clear hf
        go_wp2_with (first | (with_reducible refine ldPr rfl rfl rfl r0 hA hB ?_))
        refine (HTp.out _).mono ?_
        rintro e w1 ⟨rfl, h1⟩
        replace hb := bthen hb h1
        clear r0 h1
        go_wp2_with fail
        go_roundw
        case rel => exact ⟨i + 1, by omega, by go_num, any_take HX.out HA.out HF.out, hb⟩
        case measure => simp [intOf]; omega
      · rw [hf] at HTp
        have HF : Hid (H.any F = true) := any_yes HX.out hf
        clear hf
        go_wp2_with (first | (with_reducible refine ldPr rfl rfl rfl r0 hA hB ?_))
        refine (HTp.out _).mono ?_
        rintro e w1 ⟨rfl, h1⟩
        replace hb := bthen hb h1
        clear r0 h1
        go_wp2_with fail
        go_ret
        exact ⟨⟨i, rfl, .inl ⟨HF.out, by omega⟩⟩, hb⟩
    · obtain rfl : i = H.length := by omega
      have HF := HA.out
      rw [List.take_length] at HF
      go_wp2_with fail
      go_ret
      exact ⟨⟨-1, rfl, .inr ⟨HF, rfl⟩⟩, hb⟩
set_option maxHeartbeats 1000000 in
theorem has_any {ha : Option Addr} {hc : Nat} {H : List Hp} {s: Value} (F : Hp → Bool) (w : World) (hR : RdP w (.slice ha H.length hc) H) (hl : H.length ≤ 1000) (hok : ∀ p ∈ H, HpOk p) (T : ∀ p ∈ H, ∀ w, Calls Tryz.prog 30 #[s,vl p.1] w fun e w' => e = .returned (.bool (F p)) ∧ Below w.heap.size w w') :
    Calls Tryz.prog 23 #[.slice ha H.length hc, .func (.func 30) #[s] #[]] w fun e w' => e = .returned (.bool (H.any F)) ∧ Below w.heap.size w w' := by
  have HI := Lib.hid (has_idx   F w hR hl hok T)
  clear hR hok T
  generalize H.any F = r at *
  go_enter Tryz.func23, Tryz.ntmps23
  go_wp2_with fail
  refine HI.out.mono ?_
  rintro e w1 ⟨⟨k, rfl, hk⟩, h1⟩
  rcases hk with ⟨rfl, hk⟩ | ⟨rfl, rfl⟩
  · go_wp2
    go_ret
    exact ⟨by first | rfl | (simp; omega), h1⟩
  · go_wp2
    go_ret
    exact ⟨by first | rfl | simp, h1⟩
theorem isNone_walk {A B : List Value} {b : Bool} (hA : Rc A) (hB : Rc B) (T : Tl 34 #[vl (A ++ B)] (.bool b)) : Tl 24 #[vl (A ++ B)] (.bool (!b)) := by
  intro w
  have HT := Lib.hid T
  unfold vl at *
  clear T
  have b1 := (Blk.new w (A ++ B) 47 rfl)
  have hb : Below w.heap.size w (w.alloc (.cells (A ++ B).toArray 47)) := ((Below.refl _ _).alloc (Nat.le_refl _) _)
  have hk : (w.alloc (.cells (A ++ B).toArray 47)).heap.size = w.heap.size + 1 := by simp
  go_enter Tryz.func24, Tryz.ntmps24
  go_wp2_with (first | (with_reducible refine ldPt rfl rfl rfl b1 hA hB ?_))
  refine (HT.out _).mono ?_
  rintro e w1 ⟨rfl, h1⟩
  replace hb := bthen hb h1
  clear h1
  go_wp2
  go_ret
  exact ⟨rfl, hb⟩
/-- Whether one of the points is none. -/
def vNone (p : Hp) : Bool := !p.2.isSome
theorem isNone_ok {p : Hp} (h : HpOk p) : Tl 24 #[vl p.1] (.bool (vNone p)) := by
  obtain ⟨A, B, e, hA, hB, h⟩ := h
  rw [e]
  rcases h with ⟨x, y, e2, _, _, _, T⟩ | ⟨e2, T⟩
  · have := isNone_walk hA hB T
    unfold vNone; rw [e2]; exact this
  · have := isNone_walk hA hB T
    unfold vNone; rw [e2]; exact this
end Go.Proofs.YtoegjibeomhekaaGreat

/- valid: formed. -/
namespace Go.Proofs.YtoegjibeomhekaaGreat
set_option linter.unusedSimpArgs false
set_option linter.unusedVariables false
open Go.RowKit
set_option maxRecDepth 100000
section
variable {va : Option Addr} {vc : Nat} {sa : Option Addr} {sc : Nat} {ha : Option Addr} {hc : Nat} {V S : List I3} {H : List Hp}
set_option maxHeartbeats 2000000 in
theorem formed_any (w : World) (hR : RdV w va vc sa sc ha hc V S H) (hv : V.length ≤ 1000) (hs : S.length ≤ 1000) (hh : H.length ≤ 1000) (hok : ∀ p ∈ H, HpOk p) : Calls Tryz.prog 12 #[.agg #[.slice va V.length vc, .slice sa S.length sc, .slice ha H.length hc]] w fun e w' => e = .returned (.bool (vForm V S H)) ∧ Below w.heap.size w w' := by
  have B1 := Blk.new w [.slice va V.length vc, .slice sa S.length sc, .slice ha H.length hc] 51 rfl
  have hb := bnew w (.cells #[.slice va V.length vc, .slice sa S.length sc, .slice ha H.length hc] 51)
  have HR := Lib.hid (hR.below hb)
  have HOK := Lib.hid hok
  have HE : Hid (vForm V S H = (vCntd V S H && (vNum V S && !(H.any vNone)))) := rfl
  generalize vForm V S H = r at *
  have c0 := B1.cell (i := 0) rfl
  have c1 := B1.cell (i := 1) rfl
  have c2 := B1.cell (i := 2) rfl
  have HC := Lib.hid (counted_any (va := va) (vc := vc) (sa := sa) (sc := sc) (ha := ha) (hc := hc) (V := V) (S := S) (H := H) (w.alloc (.cells #[.slice va V.length vc, .slice sa S.length sc, .slice ha H.length hc] 51)))
  clear hR hok
  go_enter Tryz.func12, Tryz.ntmps12
  go_wp2_with fail
  generalize w.alloc (.cells #[.slice va V.length vc, .slice sa S.length sc, .slice ha H.length hc] 51) = W at *
  cases h1 : vCntd V S H
  · rw [h1] at HC HE
    clear h1
    refine HC.out.mono ?_
    rintro e w1 ⟨rfl, k1⟩
    go_wp2
    go_ret
    exact ⟨by rw [HE.out]; rfl, bthen hb k1⟩
  · rw [h1] at HC HE
    clear h1
    refine HC.out.mono ?_
    rintro e w1 ⟨rfl, k1⟩
    replace hb := bthen hb k1
    replace B1 := B1.call k1
    replace HR := Lib.hid (HR.out.below k1)
    have HN := Lib.hid (numbered_any w1 HR.out hv hs)
    replace c0 := B1.cell (i := 0) rfl
    replace c1 := B1.cell (i := 1) rfl
    replace c2 := B1.cell (i := 2) rfl
    clear HC k1
    cases h2 : vNum V S
    · rw [h2] at HN HE
      clear h2
      go_wp2_with fail
      refine HN.out.mono ?_
      rintro e w2 ⟨rfl, k1⟩
      go_wp2
      go_ret
      exact ⟨by rw [HE.out]; rfl, bthen hb k1⟩
    · rw [h2] at HN HE
      clear h2
      go_wp2_with fail
      refine HN.out.mono ?_
      rintro e w2 ⟨rfl, k1⟩
      replace hb := bthen hb k1
      replace B1 := B1.call k1
      replace HR := Lib.hid (HR.out.below k1)
      have HA := Lib.hid (none_any vNone w2 HR.out.h hh HOK.out (fun p hp => isNone_ok (HOK.out p hp)))
      replace c2 := B1.cell (i := 2) rfl
      clear HN k1 c0 c1
      generalize H.any vNone = q at *
      go_wp2_with fail
      refine HA.out.mono ?_
      rintro e w3 ⟨rfl, k1⟩
      go_wp2
      go_ret
      exact ⟨by rw [HE.out]; first | rfl | simp, bthen hb k1⟩
end
end Go.Proofs.YtoegjibeomhekaaGreat

/- valid: bounded, twins. -/
namespace Go.Proofs.YtoegjibeomhekaaGreat
set_option linter.unusedSimpArgs false
set_option linter.unusedVariables false
open Go.RowKit
set_option maxRecDepth 100000
section
variable {va : Option Addr} {vc : Nat} {sa : Option Addr} {sc : Nat} {ha : Option Addr} {hc : Nat} {V S : List I3} {H : List Hp}
set_option maxHeartbeats 4000000 in
theorem bounded_any (w : World) (hR : RdV w va vc sa sc ha hc V S H) (hv : V.length ≤ 1000) : Calls Tryz.prog 13 #[.agg #[.slice va V.length vc, .slice sa S.length sc, .slice ha H.length hc]] w fun e w' => e = .returned (.bool (vBnd V)) ∧ Below w.heap.size w w' := by
  have B1 := Blk.new w [.slice va V.length vc, .slice sa S.length sc, .slice ha H.length hc] 51 rfl
  have hb := bnew w (.cells #[.slice va V.length vc, .slice sa S.length sc, .slice ha H.length hc] 51)
  have HR := Lib.hid (hR.below hb)
  have c0 := B1.cell (i := 0) rfl
  clear hR
  go_enter Tryz.func13, Tryz.ntmps13
  go_wp2_with fail
  generalize w.alloc (.cells #[.slice va V.length vc, .slice sa S.length sc, .slice ha H.length hc] 51) = W at *
  clear c0
  go_loopw [9] (fun j wr => ∃ i : Nat, i ≤ V.length ∧ j = .int .i64 (i : Int) ∧ (V.take i).all vIn = true ∧ Below W.heap.size W wr) (fun j _ => V.length - (intOf j).toNat)
  case atStart => exact ⟨0, Nat.zero_le _, rfl, rfl, Below.refl _ _⟩
  case round =>
    obtain ⟨i, hi, rfl, ha, hr⟩ := hrel
    have HA := Lib.hid ha
    clear ha
    by_cases hlt : i < V.length
    · obtain ⟨⟨x, y, m⟩, hx⟩ : ∃ p, V[i]? = some p := ⟨_, List.getElem?_eq_getElem hlt⟩
      obtain ⟨gv, ov, rfl, hcap, p1, p2, p3⟩ := HR.out.v.at hx
      replace p1 := vcell hr p1
      replace p2 := vcell hr p2
      replace p3 := vcell hr p3
      simp only at p1 p2 p3
      have HX := Lib.hid hx
      have BB := Blk.new wr [.int .i64 x, .int .i64 y, .int .i64 m] 31 rfl
      have q0 := BB.cell (i := 0) rfl
      have q1 := BB.cell (i := 1) rfl
      have hr1 := hr.trans ((bnew wr (.cells #[.int .i64 x, .int .i64 y, .int .i64 m] 31)).mono hr.size)
      have HN := Lib.hid (vam2n 0 64 x y (wr.alloc (.cells #[.int .i64 x, .int .i64 y, .int .i64 m] 31)))
      have hr2 := hr1.trans ((bnew (wr.alloc (.cells #[.int .i64 x, .int .i64 y, .int .i64 m] 31)) (.cells #[.int .i64 x, .int .i64 y] 3)).mono hr1.size)
      rw [show (wr.alloc (.cells #[Value.int .i64 x, .int .i64 y, .int .i64 m] 31)).heap.size = wr.heap.size + 1 by simp] at HN
      have HM : Hid (vIn (x, y, m) = (vin 0 64 x && vin 0 64 y)) := rfl
      clear hx hr1
      cases hm : (vin 0 64 x && vin 0 64 y)
      · rw [hm] at HN HM
        have E : Hid (vBnd V = false) := by show _ = _; unfold vBnd; rw [all_no HX.out HM.out]
        clear hm
        go_wp2_with fail
        refine HN.out.mono ?_
        rintro e w1 ⟨rfl, rfl⟩
        go_wp2
        go_ret
        exact ⟨by rw [E.out]; rfl, bthen hb hr2⟩
      · rw [hm] at HN HM
        clear hm
        go_wp2_with fail
        refine HN.out.mono ?_
        rintro e w1 ⟨rfl, rfl⟩
        go_wp2_with fail
        go_roundw
        case rel => exact ⟨i + 1, by omega, by go_num, all_take HX.out HA.out HM.out, hr2⟩
        case measure => simp [intOf]; omega
    · obtain rfl : i = V.length := by omega
      have E : Hid (vBnd V = true) := by
        have := HA.out
        rw [List.take_length] at this
        show _ = _; unfold vBnd; rw [this]
      go_wp2_with fail
      go_ret
      exact ⟨by rw [E.out]; rfl, bthen hb hr⟩
end
end Go.Proofs.YtoegjibeomhekaaGreat

/- valid: twins. -/
namespace Go.Proofs.YtoegjibeomhekaaGreat
set_option linter.unusedSimpArgs false
set_option linter.unusedVariables false
open Go.RowKit
set_option maxRecDepth 100000
section
variable {va : Option Addr} {vc : Nat} {sa : Option Addr} {sc : Nat} {ha : Option Addr} {hc : Nat} {V S : List I3} {H : List Hp}
set_option maxHeartbeats 8000000 in
theorem twins_any (w : World) (hR : RdV w va vc sa sc ha hc V S H) (hv : V.length ≤ 1000) : Calls Tryz.prog 14 #[.agg #[.slice va V.length vc, .slice sa S.length sc, .slice ha H.length hc]] w fun e w' => e = .returned (.bool (vTwin V)) ∧ Below w.heap.size w w' := by
  have B1 := Blk.new w [.slice va V.length vc, .slice sa S.length sc, .slice ha H.length hc] 51 rfl
  have hb := bnew w (.cells #[.slice va V.length vc, .slice sa S.length sc, .slice ha H.length hc] 51)
  have HR := Lib.hid (hR.below hb)
  have c0 := B1.cell (i := 0) rfl
  clear hR
  go_enter Tryz.func14, Tryz.ntmps14
  go_wp2_with fail
  generalize w.alloc (.cells #[.slice va V.length vc, .slice sa S.length sc, .slice ha H.length hc] 51) = W at *
  clear c0
  go_loopw [11] (fun j wr => ∃ i : Nat, i ≤ V.length ∧ j = .int .i64 (i : Int) ∧ (List.range i).any (earlier vSame i30 V) = false ∧ Below W.heap.size W wr) (fun j _ => V.length - (intOf j).toNat)
  case atStart => exact ⟨0, Nat.zero_le _, rfl, rfl, Below.refl _ _⟩
  case round =>
    obtain ⟨i, hi, rfl, ha, hr⟩ := hrel
    have HA := Lib.hid ha
    clear ha
    by_cases hlt : i < V.length
    · obtain ⟨⟨x, y, m⟩, hx⟩ : ∃ p, V[i]? = some p := ⟨_, List.getElem?_eq_getElem hlt⟩
      obtain ⟨gv, ov, rfl, hcap, p1, p2, p3⟩ := HR.out.v.at hx
      replace p1 := vcell hr p1
      replace p2 := vcell hr p2
      replace p3 := vcell hr p3
      simp only at p1 p2 p3
      have HX := Lib.hid hx
      have HG : Hid (V.getD i i30 = (x, y, m)) := getD_some hx
      have BB := Blk.new wr [.int .i64 x, .int .i64 y, .int .i64 m] 31 rfl
      have B2 := (B1.call hr).old (.cells #[.int .i64 x, .int .i64 y, .int .i64 m] 31)
      have hr1 := hr.trans ((bnew wr (.cells #[.int .i64 x, .int .i64 y, .int .i64 m] 31)).mono hr.size)
      have c0 := B2.cell (i := 0) rfl
      have hib : i ≤ vc := by omega
      clear hx
      go_wp2_with fail
      generalize wr.alloc (.cells #[Value.int .i64 x, .int .i64 y, .int .i64 m] 31) = W2 at *
      clear p1 p2 p3 c0
      go_loopw [22] (fun j wx => ∃ k : Nat, k ≤ i ∧ j = .int .i64 (k : Int) ∧ (V.take k).any (vSame (x, y, m)) = false ∧ Below W2.heap.size W2 wx) (fun j _ => i - (intOf j).toNat)
      case atStart => exact ⟨0, Nat.zero_le _, rfl, rfl, Below.refl _ _⟩
      case round =>
        obtain ⟨k, hk, rfl, ha2, hx2⟩ := hrel
        have HA2 := Lib.hid ha2
        clear ha2
        have hr2 := hr1.trans (hx2.mono hr1.size)
        by_cases hlt2 : k < i
        · obtain ⟨⟨x2, y2, m2⟩, hx⟩ : ∃ p, V[k]? = some p := ⟨_, List.getElem?_eq_getElem (by omega)⟩
          obtain ⟨gv', ov', e, _, p1, p2, p3⟩ := HR.out.v.at hx
          obtain ⟨rfl, rfl⟩ : gv' = gv ∧ ov' = ov := by
            injection e with e
            injection e with e1 e2
            exact ⟨e1.symm, e2.symm⟩
          replace p1 := vcell hr2 p1
          replace p2 := vcell hr2 p2
          replace p3 := vcell hr2 p3
          simp only at p1 p2 p3
          have HX2 := Lib.hid hx
          have BB2 := Blk.new wr [.int .i64 x2, .int .i64 y2, .int .i64 m2] 31 rfl
          have B3 := (BB.call hx2).old (.cells #[.int .i64 x2, .int .i64 y2, .int .i64 m2] 31)
          have hr3 := hr2.trans ((bnew wr (.cells #[.int .i64 x2, .int .i64 y2, .int .i64 m2] 31)).mono hr2.size)
          have hx3 := hx2.trans ((bnew wr (.cells #[.int .i64 x2, .int .i64 y2, .int .i64 m2] 31)).mono hx2.size)
          have q0 := B3.cell (i := 0) rfl
          have q1 := B3.cell (i := 1) rfl
          have s0 := BB2.cell (i := 0) rfl
          have s1 := BB2.cell (i := 1) rfl
          clear hx e
          by_cases h1 : x = x2
          · by_cases h2 : y = y2
            · have E : Hid (vTwin V = true) := by
                show _ = _
                refine range_yes hlt ?_
                unfold earlier
                rw [HG.out]
                refine any_yes (i := k) (x := (x2, y2, m2)) (by rw [List.getElem?_take, if_pos hlt2]; exact HX2.out) ?_
                unfold vSame; simp [h1, h2]
              subst h1 h2
              go_wp2_with fail
              go_ret
              exact ⟨by rw [E.out]; rfl, bthen hb hr3⟩
            · have g2 : (y == y2) = false := by simp [h2]
              have F : Hid (vSame (x, y, m) (x2, y2, m2) = false) := by show _ = _; unfold vSame; simp [h2]
              subst h1
              go_wp2_with fail
              go_roundw
              case rel => exact ⟨k + 1, by omega, by go_num, any_take HX2.out HA2.out F.out, hx3⟩
              case measure => simp [intOf]; omega
          · have g1 : (x == x2) = false := by simp [h1]
            have F : Hid (vSame (x, y, m) (x2, y2, m2) = false) := by show _ = _; unfold vSame; simp [h1]
            go_wp2_with fail
            go_roundw
            case rel => exact ⟨k + 1, by omega, by go_num, any_take HX2.out HA2.out F.out, hx3⟩
            case measure => simp [intOf]; omega
        · obtain rfl : k = i := by omega
          have F : Hid (earlier vSame i30 V k = false) := by show _ = _; unfold earlier; rw [HG.out]; exact HA2.out
          go_wp2_with fail
          go_roundw
          case rel => exact ⟨k + 1, by omega, by go_num, range_snoc HA.out F.out, hr2⟩
          case measure => simp [intOf]; omega
    · obtain rfl : i = V.length := by omega
      have E : Hid (vTwin V = false) := HA.out
      go_wp2_with fail
      go_ret
      exact ⟨by rw [E.out]; rfl, bthen hb hr⟩
end
end Go.Proofs.YtoegjibeomhekaaGreat

/- valid: looped. -/
namespace Go.Proofs.YtoegjibeomhekaaGreat
set_option linter.unusedSimpArgs false
set_option linter.unusedVariables false
open Go.RowKit
set_option maxRecDepth 100000
/-- The row of counts. -/
def cnts (S : List I3) (n : Nat) : List Value := (List.range n).map fun j => .int .i64 (vCnt S j : Nat)
theorem cnts_at {S : List I3} {n j : Nat} (h : j < n) : (cnts S n)[j]? = some (.int .i64 (vCnt S j : Nat)) := by
  unfold cnts
  rw [List.getElem?_map, List.getElem?_range h]; rfl
theorem cnt_snoc (S : List I3) (a b : Nat) (m : Int) (hab : a ≠ b) (j : Nat) : vCnt (S ++ [((a : Int), (b : Int), m)]) j = vCnt S j + (if j = a then 1 else 0) + (if j = b then 1 else 0) := by
  unfold vCnt
  rw [List.countP_append, List.countP_append]
  by_cases h1 : j = a
  · subst h1
    have h2 : ¬ (b : Int) = (j : Int) := by omega
    have h3 : ¬ j = b := by omega
    simp [List.countP_cons, h2, h3]; omega
  · have h4 : ¬ (a : Int) = (j : Int) := by omega
    by_cases h2 : j = b
    · subst h2
      simp [List.countP_cons, h4, h1]; omega
    · have h3 : ¬ (b : Int) = (j : Int) := by omega
      simp [List.countP_cons, h4, h3, h1, h2]
theorem cnts_snoc {S : List I3} {n a b : Nat} {m : Int} (hab : a ≠ b) : ((cnts S n).set a (.int .i64 ((vCnt S a : Nat) + 1))).set b (.int .i64 ((vCnt S b : Nat) + 1)) = cnts (S ++ [((a : Int), (b : Int), m)]) n := by
  apply List.ext_getElem?
  intro j
  by_cases hj : j < n
  · rw [cnts_at hj, cnt_snoc S a b m hab j]
    by_cases h2 : b = j
    · subst h2
      rw [List.getElem?_set_self (by simp [cnts]; exact hj), if_neg (by omega), if_pos rfl]
      simp
    · rw [List.getElem?_set_ne h2]
      by_cases h1 : a = j
      · subst h1
        rw [List.getElem?_set_self (by simp [cnts]; exact hj), if_pos rfl, if_neg (by omega)]
        simp
      · rw [List.getElem?_set_ne h1, cnts_at hj, if_neg (by omega), if_neg (by omega)]
        rfl
  · rw [List.getElem?_eq_none (by simp [cnts]; omega), List.getElem?_eq_none (by simp [cnts]; omega)]
theorem cnt_le (S : List I3) (j : Nat) : vCnt S j ≤ 2 * S.length := by
  unfold vCnt
  have h1 := List.countP_le_length (p := fun p : I3 => decide (p.1 = (j : Int))) (l := S)
  have h2 := List.countP_le_length (p := fun p : I3 => decide (p.2.1 = (j : Int))) (l := S)
  omega
theorem mk_ints (w : World) (n : Nat) (hn : n ≤ 1000) : (Instr.makeSlice 57 (.int .i64 (n : Int)) (.int .i64 (n : Int))).run Tryz.prog w = .ok (.slice (some ⟨w.heap.size, 0, none⟩) n n) (w.alloc (.cells (cnts [] n).toArray 3)) := by
  obtain ⟨i0, hi0, hz0, hz1, hz2⟩ : ∃ i, Tryz.prog.info? 3 = some i ∧ i.zero = some (.int .i64 0) ∧ i.size = 1 ∧ i.bytes = 8 := by
    have h : (Tryz.prog.info? 3).map (fun i => (i.zero, i.size, i.bytes)) = some (some (.int .i64 0), 1, 8) := by kernel_rfl
    cases hq : Tryz.prog.info? 3 with
    | none => rw [hq] at h; simp at h
    | some i =>
      rw [hq] at h
      simp only [Option.map_some, Option.some.injEq, Prod.mk.injEq] at h
      exact ⟨i, rfl, h.1, h.2.1, h.2.2⟩
  have h := run_make (P := Tryz.prog) w 57 3 i0 (.int .i64 0) Tryz.underlying57 hi0 hz0 .i64 .i64 n n (by omega) (Int.le_refl _) (by rw [hz2]; omega) (by omega)
  rw [h, hz1, Int.toNat_natCast, Nat.mul_one]
  have e : (madeCells (Value.int .i64 0).cells n : Array Value) = (cnts [] n).toArray := by
    unfold madeCells cnts vCnt
    apply Array.ext'
    simp [Value.cells]
    intro a _
    rw [Nat.mod_one]
    rfl
  rw [e]
section
variable {va : Option Addr} {vc : Nat} {sa : Option Addr} {sc : Nat} {ha : Option Addr} {hc : Nat} {V S : List I3} {H : List Hp}
set_option maxHeartbeats 8000000 in
theorem looped_any (w : World) (hR : RdV w va vc sa sc ha hc V S H) (hv : V.length ≤ 1000) (hs : S.length ≤ 1000) (hE : S.all (vEnd V.length) = true) : Calls Tryz.prog 15 #[.agg #[.slice va V.length vc, .slice sa S.length sc, .slice ha H.length hc]] w fun e w' => e = .returned (.bool (vLoop V S)) ∧ Below w.heap.size w w' := by
  have B1 := Blk.new w [.slice va V.length vc, .slice sa S.length sc, .slice ha H.length hc] 51 rfl
  have hb := bnew w (.cells #[.slice va V.length vc, .slice sa S.length sc, .slice ha H.length hc] 51)
  have HR := Lib.hid (hR.below hb)
  have HE := Lib.hid hE
  have c0 := B1.cell (i := 0) rfl
  have hmk := mk_ints (w.alloc (.cells #[.slice va V.length vc, .slice sa S.length sc, .slice ha H.length hc] 51)) V.length hv
  have B2 := B1.old (.cells (cnts [] V.length).toArray 3)
  have G := Blk.new (w.alloc (.cells #[.slice va V.length vc, .slice sa S.length sc, .slice ha H.length hc] 51)) (cnts [] V.length) 3 rfl
  have hz : (w.alloc (.cells #[.slice va V.length vc, .slice sa S.length sc, .slice ha H.length hc] 51)).heap.size = w.heap.size + 1 := by simp
  have c1 := B2.cell (i := 1) rfl
  clear hR hE
  go_enter Tryz.func15, Tryz.ntmps15
  go_wp2_with fail
  generalize w.alloc (.cells #[.slice va V.length vc, .slice sa S.length sc, .slice ha H.length hc] 51) = W at *
  clear c0 c1 hmk
  have HB := Lib.hid hb
  rw [hz] at G
  have HRn := Lib.hid (HR.out.below (bnew W (.cells (cnts [] V.length).toArray 3)))
  have hW : Below (w.heap.size + 1) W (W.alloc (.cells (cnts [] V.length).toArray 3)) := hz ▸ bnew W (.cells (cnts [] V.length).toArray 3)
  generalize W.alloc (.cells (cnts [] V.length).toArray 3) = W1 at *
  try rw [hz]
  go_loopw [17] (fun j wr => ∃ i : Nat, i ≤ S.length ∧ j = .int .i64 (i : Int) ∧ Blk wr (w.heap.size + 1) (cnts (S.take i) V.length) 3 ∧ Below (w.heap.size + 1) W wr) (fun j _ => S.length - (intOf j).toNat)
  case atStart => exact ⟨0, Nat.zero_le _, rfl, G, hW⟩
  case round =>
    obtain ⟨i, hi, rfl, G2, hr⟩ := hrel
    have hr' : Below W.heap.size W wr := by rw [hz]; exact hr
    by_cases hlt : i < S.length
    · obtain ⟨⟨x, y, m⟩, hx⟩ : ∃ p, S[i]? = some p := ⟨_, List.getElem?_eq_getElem hlt⟩
      have he := List.all_eq_true.1 HE.out _ (List.mem_of_getElem? hx)
      obtain ⟨gv, ov, rfl, hcap, p1, p2, p3⟩ := HR.out.s.at hx
      replace p1 := vcell hr' p1
      replace p2 := vcell hr' p2
      replace p3 := vcell hr' p3
      simp only at p1 p2 p3
      obtain ⟨a, b, rfl, rfl, ha, hb', hab⟩ : ∃ a b : Nat, x = (a : Int) ∧ y = (b : Int) ∧ a < V.length ∧ b < V.length ∧ a ≠ b := by
        unfold vEnd at he
        simp only [Bool.and_eq_true, vin_iff, Bool.not_eq_true', decide_eq_false_iff_not] at he
        exact ⟨x.toNat, y.toNat, by omega, by omega, by omega, by omega, by omega⟩
      have HX := Lib.hid hx
      have ea := cnt_le (S.take i) a
      have eb := cnt_le (S.take i) b
      have el : (S.take i).length ≤ 1000 := by rw [List.length_take]; omega
      have BB := Blk.new wr [.int .i64 (a : Int), .int .i64 (b : Int), .int .i64 m] 33 rfl
      have G3 := G2.old (.cells #[.int .i64 (a : Int), .int .i64 (b : Int), .int .i64 m] 33)
      have hg := G2.lt
      have q0 := BB.cell (i := 0) rfl
      have r0 := G3.cell (i := a) (cnts_at ha)
      have f0 := G3.frozen a
      have G4 := (G2.set a (.int .i64 ((vCnt (S.take i) a : Nat) + 1))).old (.cells #[.int .i64 (a : Int), .int .i64 (b : Int), .int .i64 m] 33)
      have r1 := G4.cell (i := b) (by rw [List.getElem?_set_ne hab]; exact cnts_at hb')
      have f1 := G4.frozen b
      have BB1 := Blk.new (wr.setCell ⟨w.heap.size + 1, a, none⟩ (.int .i64 ((vCnt (S.take i) a : Nat) + 1))) [.int .i64 (a : Int), .int .i64 (b : Int), .int .i64 m] 33 (b := wr.heap.size) (by simp)
      have q1 := BB1.cell (i := 1) rfl
      have kw : IntKind.i64.wrap (((vCnt (S.take i) a : Nat) : Int) + 1) = ((vCnt (S.take i) a : Nat) : Int) + 1 := by rw [IntKind.wrap_i64]; omega
      have kw' : IntKind.i64.wrap (((vCnt (S.take i) b : Nat) : Int) + 1) = ((vCnt (S.take i) b : Nat) : Int) + 1 := by rw [IntKind.wrap_i64]; omega
      have hrn : Below (w.heap.size + 1) W (wr.alloc (.cells #[.int .i64 (a : Int), .int .i64 (b : Int), .int .i64 m] 33)) := hr.trans ((bnew wr _).mono (by have := hr.size; omega))
      have HS : Hid (cnts (S.take (i + 1)) V.length = ((cnts (S.take i) V.length).set a (.int .i64 ((vCnt (S.take i) a : Nat) + 1))).set b (.int .i64 ((vCnt (S.take i) b : Nat) + 1))) := by
        show _ = _
        rw [List.take_add_one, HX.out]
        exact (cnts_snoc hab).symm
      clear hx he
      go_wp2_with fail
      go_roundw
      case rel =>
        refine ⟨i + 1, by omega, by go_num, ?_, ?_⟩
        · rw [HS.out]
          first
          | exact ((G2.old _).set a _).set b _
          | exact (((G2.set a _).set b _).old _)
          | exact (((G2.set a _).old _).set b _)
        · have hs0 := hr.size
          refine ((hr.setCell ?_ _).setCell ?_ _).alloc ?_ _
          · exact Nat.le_refl _
          · exact Nat.le_refl _
          · simp [World.setCell]; omega
      case measure => simp [intOf]; omega
    · obtain rfl : i = S.length := by omega
      rw [List.take_length] at G2
      replace hb := HB.out
      have hlv : V.length ≤ 1000 := hv
      have G3 := G2
      have hbb : Below w.heap.size w wr := hb.trans (hr.mono (Nat.le_succ _))
      clear hb hr hr' hW G
      go_wp2_with fail
      generalize wr = W2 at *
      go_loop [38] (fun j => ∃ i : Nat, i ≤ V.length ∧ j = .int .i64 (i : Int) ∧ ((List.range i).all fun j => vCnt S j == 2) = true) (fun j => V.length - (intOf j).toNat)
      case atStart => exact ⟨0, Nat.zero_le _, rfl, rfl⟩
      case round =>
        obtain ⟨i, hi, rfl, hal⟩ := hrel
        have HA := Lib.hid hal
        clear hal
        by_cases hlt : i < V.length
        · have r0 := G3.cell (i := i) (cnts_at hlt)
          by_cases h2 : vCnt S i = 2
          · have HS : Hid (((List.range (i + 1)).all fun j => vCnt S j == 2) = true) := by
              show _ = _
              rw [List.range_succ, List.all_append, HA.out]
              simp [h2]
            rw [h2] at r0
            go_wp2_with fail
            go_round
            case rel => exact ⟨i + 1, by omega, by go_num, HS.out⟩
            case measure => simp [intOf]; omega
          · have E : Hid (vLoop V S = false) := by
              show _ = _
              unfold vLoop
              rw [List.all_eq_false]
              exact ⟨i, List.mem_range.2 hlt, by simp [h2]⟩
            have g2 : (((vCnt S i : Nat) : Int) == 2) = false := by rw [beq_eq_false_iff_ne]; omega
            have g3 : ¬ ((vCnt S i : Nat) : Int) = 2 := by omega
            clear h2
            go_wp2_with fail
            go_ret
            exact ⟨by rw [E.out]; rfl, hbb⟩
        · obtain rfl : i = V.length := by omega
          have E : Hid (vLoop V S = true) := HA.out
          go_wp2_with fail
          go_ret
          exact ⟨by rw [E.out]; rfl, hbb⟩
end
end Go.Proofs.YtoegjibeomhekaaGreat
