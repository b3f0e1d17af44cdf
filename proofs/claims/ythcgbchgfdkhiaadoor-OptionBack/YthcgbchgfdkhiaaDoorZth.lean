/- The reference's three: three numbers with commas between. -/
import Derived.Test.YthcgbchgfdkhiaaDoorZrd
import Derived.Test.YthcgbchgfdkhiaaDoorXri
namespace Go.Proofs.YthcgbchgfdkhiaaDoor
set_option linter.unusedSimpArgs false
set_option linter.unusedVariables false
open Go.RowKit
set_option maxRecDepth 100000
theorem mid_drop (l : List UInt8) (f i : Nat) (hf : f ≤ i) (hi : i ≤ l.length) : l.drop f = (l.take i).drop f ++ l.drop i := by
  conv => lhs; rw [← List.take_append_drop i l]
  rw [List.drop_append_of_le_length (by rw [List.length_take]; omega)]
theorem at_drop (l : List UInt8) (i : Nat) (h : i < l.length) : l.drop i = l[i] :: l.drop (i + 1) := (List.getElem_cons_drop h).symm
/-- Three numbers. -/
def Thr (P : List (List UInt8)) : Prop := P.length = 3 ∧ P.all intOk = true
def Nms (P : List (List UInt8)) (x y z : Int) : Prop := P.map intV = [x, y, z]
def z3 : List Value := [.int .i64 0, .int .i64 0, .int .i64 0]
def o3 : List Nat := [0, 1, 2]
theorem put3 : ∀ (ns : List Int), ns.length ≤ 3 → ∃ x y z, putZ z3 o3 ns = [.int .i64 x, .int .i64 y, .int .i64 z]
  | [], _ => ⟨0, 0, 0, rfl⟩
  | [a], _ => ⟨a, 0, 0, rfl⟩
  | [a, b], _ => ⟨a, b, 0, rfl⟩
  | [a, b, c], _ => ⟨a, b, c, rfl⟩
  | _ :: _ :: _ :: _ :: _, h => by simp at h
theorem puts3 (ns : List Int) : ∃ x y z, putZ z3 o3 ns = [.int .i64 x, .int .i64 y, .int .i64 z] := by
  match ns with
  | [] => exact ⟨0, 0, 0, rfl⟩
  | [a] => exact ⟨a, 0, 0, rfl⟩
  | [a, b] => exact ⟨a, b, 0, rfl⟩
  | a :: b :: c :: r => exact ⟨a, b, c, by cases r <;> rfl⟩
theorem put3_all (a b c : Int) : putZ z3 o3 [a, b, c] = [.int .i64 a, .int .i64 b, .int .i64 c] := rfl
theorem o3_get {k : Nat} (h : k < 3) : o3[k]? = some k := by
  match k, h with
  | 0, _ => rfl
  | 1, _ => rfl
  | 2, _ => rfl
theorem w45 {a b c : Int} : Whole Tryd.prog 45 ([.int .i64 a, .int .i64 b, .int .i64 c] : List Value).length := ⟨_, Tryd.underlying45, rfl, by kernel_rfl⟩
theorem res3 {w wr : World} (hR : Blk wr w.heap.size z3 45) (hb : Below w.heap.size w wr) (a b c : Int) : Blk (((wr.setCell ⟨w.heap.size, 0, none⟩ (.int .i64 a)).setCell ⟨w.heap.size, 1, none⟩ (.int .i64 b)).setCell ⟨w.heap.size, 2, none⟩ (.int .i64 c)) w.heap.size [.int .i64 a, .int .i64 b, .int .i64 c] 45 ∧
    Below w.heap.size w (((wr.setCell ⟨w.heap.size, 0, none⟩ (.int .i64 a)).setCell ⟨w.heap.size, 1, none⟩ (.int .i64 b)).setCell ⟨w.heap.size, 2, none⟩ (.int .i64 c)) :=
  ⟨((hR.set 0 (.int .i64 a)).set 1 (.int .i64 b)).set 2 (.int .i64 c), ((hb.setCell (Nat.le_refl _) _).setCell (Nat.le_refl _) _).setCell (Nat.le_refl _) _⟩
set_option maxHeartbeats 8000000 in
theorem three_any (l : List UInt8) (w : World) (hl : l.length ≤ 1000000) :
    Calls Tryd.prog 17 #[.string (tx l)] w fun e w' => Below w.heap.size w w' ∧ ((∃ x y z, e = .returned (.tuple #[.agg #[.int .i64 x, .int .i64 y, .int .i64 z], .bool true]) ∧ Nms (splits [44] l) x y z ∧ Thr (splits [44] l)) ∨
      ((∃ x y z, e = .returned (.tuple #[.agg #[.int .i64 x, .int .i64 y, .int .i64 z], .bool false])) ∧ ¬ Thr (splits [44] l))) := by
  have hsz := tx_size l
  obtain ⟨P, hP⟩ : ∃ P, splits [44] l = P := ⟨_, rfl⟩
  rw [hP]
  have HPE := Lib.hid hP
  have B0 := Blk.new w z3 45 rfl
  have B1 := Blk.new (w.alloc (.cells z3.toArray 45)) z3 45 (show w.heap.size + 1 = _ by simp)
  have R0 := B0.old (.cells z3.toArray 45)
  have hb := ((Below.refl w.heap.size w).alloc (Nat.le_refl _) (.cells z3.toArray 45)).alloc (by simp) (.cells z3.toArray 45)
  have HB1 := Lib.hid B1
  have HR0 := Lib.hid R0
  have HHb := Lib.hid hb
  clear hP B0 B1 R0 hb
  go_enter Tryd.func17, Tryd.ntmps17
  go_wp2_with fail
  go_loopw [5, 6, 7] (fun a5 a6 a7 wr => ∃ (i f : Nat) (Q : List (List UInt8)), i ≤ l.length + 1 ∧ f ≤ l.length + 1 ∧ Q.length ≤ 3 ∧ a7 = .int .i64 (i : Int) ∧ a6 = .int .i64 (f : Int) ∧ a5 = .int .i64 (Q.length : Int) ∧ Q.all intOk = true ∧
      (i ≤ l.length → f ≤ i ∧ (∀ x ∈ (l.take i).drop f, x ∉ ([44] : List UInt8)) ∧ P = Q ++ splits [44] (l.drop f)) ∧ (l.length < i → P = Q) ∧ Blk wr (w.heap.size + 1) (putZ z3 o3 (Q.map intV)) 45 ∧ Blk wr w.heap.size z3 45 ∧ Below w.heap.size w wr) (fun _ _ j _ => l.length + 1 - (intOf j).toNat)
  case atStart => exact ⟨0, 0, [], by omega, by omega, by simp, rfl, rfl, rfl, rfl, fun _ => ⟨by omega, by simp, by rw [List.nil_append, List.drop_zero, HPE.out]⟩, fun h => by omega, HB1.out, HR0.out, HHb.out⟩
  case round =>
    obtain ⟨i, f, Q, hi, hf, hQ3, rfl, rfl, rfl, hQ, hin, hout, hB, hR, hb⟩ := hrel
    have HB := Lib.hid hB
    have HR := Lib.hid hR
    have Hb := Lib.hid hb
    have HQ := Lib.hid hQ
    have HOUT := Lib.hid hout
    obtain ⟨y0, y1, y2, hy⟩ := puts3 (Q.map intV)
    have c0 : wr.cell? ⟨w.heap.size + 1, 0, none⟩ = some (.int .i64 y0) := hB.cell (by rw [hy]; rfl)
    have c1 : wr.cell? ⟨w.heap.size + 1, 1, none⟩ = some (.int .i64 y1) := hB.cell (by rw [hy]; rfl)
    have c2 : wr.cell? ⟨w.heap.size + 1, 2, none⟩ = some (.int .i64 y2) := hB.cell (by rw [hy]; rfl)
    have r0 : wr.cell? ⟨w.heap.size, 0, none⟩ = some (.int .i64 0) := hR.cell rfl
    have r1 : wr.cell? ⟨w.heap.size, 1, none⟩ = some (.int .i64 0) := hR.cell rfl
    have r2 : wr.cell? ⟨w.heap.size, 2, none⟩ = some (.int .i64 0) := hR.cell rfl
    have s0 := hR.frozen 0
    have s1 := hR.frozen 1
    have s2 := hR.frozen 2
    have HY := Lib.hid hy
    clear hQ hout hB hR hb hy
    by_cases hle : i ≤ l.length
    · obtain ⟨hfi, hA44, hPQ⟩ := hin hle
      have hmid := mid_drop l f i hfi hle
      obtain ⟨A, hA⟩ : ∃ A, (l.take i).drop f = A := ⟨_, rfl⟩
      rw [hA] at hmid hA44
      have hle2 : (i : Int) ≤ (l.length : Int) := by omega
      clear hin
      by_cases hlt : i < l.length
      · obtain ⟨c, hd, HG, HT⟩ : ∃ c, l.drop i = c :: l.drop (i + 1) ∧ Hid (∀ h : i < (tx l).size, (tx l)[i] = c) ∧ (l.take (i + 1)).drop f = A ++ [c] :=
          ⟨l[i]'hlt, at_drop l i hlt, fun _ => tx_get l i _, by
            rw [List.take_add_one, List.getElem?_eq_getElem hlt, List.drop_append_of_le_length (by simp; omega), hA]; rfl⟩
        have hs : i < (tx l).size := by rw [tx_size]; exact hlt
        have c2' : (i : Int) < (l.length : Int) := by omega
        rw [hd] at hmid
        by_cases h44 : c = 44
        · subst h44
          have d1 : ((tx l)[i].toNat : Int) = 44 := by rw [HG.out hs]; rfl
          rw [hmid, splits_at _ _ (by simp) _ hA44] at hPQ
          clear hd HG HT hmid
          have HI := Lib.hid (rInt_any A wr (by rw [← hA, List.length_drop, List.length_take]; omega))
          have hX : (tx l).extract f i = tx A := by rw [tx_extract, hA]
          have HPQ := Lib.hid hPQ
          clear hPQ hA
          cases hu : intOk A
          · have e : intA A = .tuple #[.int .i64 0, .bool false] := by unfold intA; rw [hu]; rfl
            rw [e] at HI
            have E : Hid (¬ Thr P) := fun h => by
              have := List.all_eq_true.1 h.2 A (by rw [HPQ.out]; simp)
              rw [hu] at this; cases this
            clear e hu
            go_wp2_with fail
            refine HI.out.mono ?_
            rintro e w2 ⟨rfl, rfl⟩
            go_wp2_with fail
            exact ret_ct (cs := [.int .i64 y0, .int .i64 y1, .int .i64 y2]) (v := .bool false) rfl rfl rfl rfl w45 (res3 HR.out Hb.out y0 y1 y2).1 ⟨(res3 HR.out Hb.out y0 y1 y2).2, .inr ⟨⟨_, _, _, rfl⟩, E.out⟩⟩
          · have e : intA A = .tuple #[.int .i64 (intV A), .bool true] := by unfold intA; rw [hu]; rfl
            rw [e] at HI
            have HU := Lib.hid hu
            clear e hu
            by_cases hk3 : Q.length < 3
            · have g3 : ¬ (2 : Int) < (Q.length : Int) := by omega
              have g4 : (Q.length : Int) < 3 := by omega
              have hs := putZ_snoc z3 o3 (Q.map intV) (intV A) Q.length (by rw [List.length_map]; exact o3_get hk3)
              have HSN := Lib.hid hs
              have hBB : Blk wr (w.heap.size + 1) (putZ z3 o3 (Q.map intV)) 45 := HB.out
              have hpl := putZ_len z3 o3 (Q.map intV)
              obtain ⟨v0, hv0⟩ : ∃ v0, (putZ z3 o3 (Q.map intV))[Q.length]? = some v0 := ⟨_, List.getElem?_eq_getElem (by rw [hpl]; exact hk3)⟩
              have c3 := hBB.cell hv0
              have f3 := hBB.frozen Q.length
              have B2 := Lib.hid (hBB.set Q.length (.int .i64 (intV A)))
              have R2 := Lib.hid (HR.out.setOther (g := w.heap.size + 1) Q.length (.int .i64 (intV A)) (by omega))
              have Hb2 := Lib.hid (show Below w.heap.size w (wr.setCell ⟨w.heap.size + 1, Q.length, none⟩ (.int .i64 (intV A))) from Hb.out.setCell (by show w.heap.size ≤ w.heap.size + 1; omega) _)
              clear hs hpl hv0 hBB
              go_wp2_with fail
              refine HI.out.mono ?_
              rintro e w2 ⟨rfl, rfl⟩
              go_wp2_with fail
              go_roundw
              case rel => first
                | exact ⟨i + 1, i + 1, Q ++ [A], by omega, by omega, by simp; omega, by go_num, by go_num, by rw [List.length_append]; go_num, by rw [List.all_append, HQ.out]; simp [HU.out], fun _ => ⟨by omega, by simp, by rw [HPQ.out]; simp⟩, fun h => by omega, by rw [List.map_append, List.map_cons, List.map_nil, HSN.out]; exact B2.out, R2.out, Hb2.out⟩
                | exact ⟨i + 1, i + 1, Q ++ [A], by omega, by omega, by simp; omega, by go_num, by go_num, by rw [List.length_append]; go_num, by rw [List.all_append, HQ.out]; simp [HU.out], fun h => absurd h (by omega), fun _ => HPQ.out, by rw [List.map_append, List.map_cons, List.map_nil, HSN.out]; exact B2.out, R2.out, Hb2.out⟩
              case measure => simp [intOf]; omega
            · have g3 : (2 : Int) < (Q.length : Int) := by omega
              have E : Hid (¬ Thr P) := fun h => by
                have := h.1
                rw [HPQ.out, List.length_append, List.length_cons] at this
                omega
              clear hk3
              go_wp2_with fail
              refine HI.out.mono ?_
              rintro e w2 ⟨rfl, rfl⟩
              go_wp2_with fail
              exact ret_ct (cs := [.int .i64 y0, .int .i64 y1, .int .i64 y2]) (v := .bool false) rfl rfl rfl rfl w45 (res3 HR.out Hb.out y0 y1 y2).1 ⟨(res3 HR.out Hb.out y0 y1 y2).2, .inr ⟨⟨_, _, _, rfl⟩, E.out⟩⟩
        · have d1 : ¬ ((tx l)[i].toNat : Int) = 44 := by
            rw [HG.out hs]
            intro h
            exact h44 (UInt8.toNat_inj.1 (by show c.toNat = 44; omega))
          have HT' := Lib.hid HT
          have HA44 := Lib.hid hA44
          have HPQ := Lib.hid hPQ
          clear hd HG HT hmid hA hA44 hPQ
          go_wp2_with fail
          go_roundw
          case rel => exact ⟨i + 1, f, Q, by omega, hf, hQ3, by go_num, rfl, rfl, HQ.out, fun _ => ⟨by omega, by
            rw [HT'.out]
            intro x hx
            rcases List.mem_append.1 hx with hx | hx
            · exact HA44.out x hx
            · simp only [List.mem_cons, List.not_mem_nil, or_false] at hx ⊢
              subst hx; exact h44, HPQ.out⟩, fun h => by omega, HB.out, HR.out, Hb.out⟩
          case measure => simp [intOf]; omega
      · have c2' : ¬ (i : Int) < (l.length : Int) := by omega
        have hil : i = l.length := by omega
        rw [hmid, List.drop_of_length_le (show l.length ≤ i by omega), List.append_nil, splits_all _ _ hA44] at hPQ
        have HIL := Lib.hid hil
        clear hmid hil
        have HI := Lib.hid (rInt_any A wr (by rw [← hA, List.length_drop, List.length_take]; omega))
        have hX : (tx l).extract f i = tx A := by rw [tx_extract, hA]
        have HPQ := Lib.hid hPQ
        clear hPQ hA
        cases hu : intOk A
        · have e : intA A = .tuple #[.int .i64 0, .bool false] := by unfold intA; rw [hu]; rfl
          rw [e] at HI
          have E : Hid (¬ Thr P) := fun h => by
            have := List.all_eq_true.1 h.2 A (by rw [HPQ.out]; simp)
            rw [hu] at this; cases this
          clear e hu
          go_wp2_with fail
          refine HI.out.mono ?_
          rintro e w2 ⟨rfl, rfl⟩
          go_wp2_with fail
          exact ret_ct (cs := [.int .i64 y0, .int .i64 y1, .int .i64 y2]) (v := .bool false) rfl rfl rfl rfl w45 (res3 HR.out Hb.out y0 y1 y2).1 ⟨(res3 HR.out Hb.out y0 y1 y2).2, .inr ⟨⟨_, _, _, rfl⟩, E.out⟩⟩
        · have e : intA A = .tuple #[.int .i64 (intV A), .bool true] := by unfold intA; rw [hu]; rfl
          rw [e] at HI
          have HU := Lib.hid hu
          clear e hu
          by_cases hk3 : Q.length < 3
          · have g3 : ¬ (2 : Int) < (Q.length : Int) := by omega
            have g4 : (Q.length : Int) < 3 := by omega
            have hs := putZ_snoc z3 o3 (Q.map intV) (intV A) Q.length (by rw [List.length_map]; exact o3_get hk3)
            have HSN := Lib.hid hs
            have hBB : Blk wr (w.heap.size + 1) (putZ z3 o3 (Q.map intV)) 45 := HB.out
            have hpl := putZ_len z3 o3 (Q.map intV)
            obtain ⟨v0, hv0⟩ : ∃ v0, (putZ z3 o3 (Q.map intV))[Q.length]? = some v0 := ⟨_, List.getElem?_eq_getElem (by rw [hpl]; exact hk3)⟩
            have c3 := hBB.cell hv0
            have f3 := hBB.frozen Q.length
            have B2 := Lib.hid (hBB.set Q.length (.int .i64 (intV A)))
            have R2 := Lib.hid (HR.out.setOther (g := w.heap.size + 1) Q.length (.int .i64 (intV A)) (by omega))
            have Hb2 := Lib.hid (show Below w.heap.size w (wr.setCell ⟨w.heap.size + 1, Q.length, none⟩ (.int .i64 (intV A))) from Hb.out.setCell (by show w.heap.size ≤ w.heap.size + 1; omega) _)
            clear hs hpl hv0 hBB
            go_wp2_with fail
            refine HI.out.mono ?_
            rintro e w2 ⟨rfl, rfl⟩
            go_wp2_with fail
            go_roundw
            case rel => first
              | exact ⟨i + 1, i + 1, Q ++ [A], by omega, by omega, by simp; omega, by go_num, by go_num, by rw [List.length_append]; go_num, by rw [List.all_append, HQ.out]; simp [HU.out], fun _ => ⟨by omega, by simp, by rw [HPQ.out]; simp⟩, fun h => by omega, by rw [List.map_append, List.map_cons, List.map_nil, HSN.out]; exact B2.out, R2.out, Hb2.out⟩
              | exact ⟨i + 1, i + 1, Q ++ [A], by omega, by omega, by simp; omega, by go_num, by go_num, by rw [List.length_append]; go_num, by rw [List.all_append, HQ.out]; simp [HU.out], fun h => absurd h (by omega), fun _ => HPQ.out, by rw [List.map_append, List.map_cons, List.map_nil, HSN.out]; exact B2.out, R2.out, Hb2.out⟩
            case measure => simp [intOf]; omega
          · have g3 : (2 : Int) < (Q.length : Int) := by omega
            have E : Hid (¬ Thr P) := fun h => by
              have := h.1
              rw [HPQ.out, List.length_append, List.length_cons] at this
              omega
            clear hk3
            go_wp2_with fail
            refine HI.out.mono ?_
            rintro e w2 ⟨rfl, rfl⟩
            go_wp2_with fail
            exact ret_ct (cs := [.int .i64 y0, .int .i64 y1, .int .i64 y2]) (v := .bool false) rfl rfl rfl rfl w45 (res3 HR.out Hb.out y0 y1 y2).1 ⟨(res3 HR.out Hb.out y0 y1 y2).2, .inr ⟨⟨_, _, _, rfl⟩, E.out⟩⟩
    · have hle2 : ¬ (i : Int) ≤ (l.length : Int) := by omega
      have hPQ := HOUT.out (by omega)
      clear hin
      by_cases h3 : Q.length = 3
      · have g3 : ((Q.length : Int) == 3) = true := by rw [h3]; rfl
        obtain ⟨x, y, z, hm⟩ : ∃ x y z, Q.map intV = [x, y, z] := by
          match Q, h3 with
          | [a, b, c], _ => exact ⟨_, _, _, rfl⟩
        have hxyz : y0 = x ∧ y1 = y ∧ y2 = z := by
          have := HY.out
          rw [hm, put3_all] at this
          simp at this
          omega
        have HXYZ := Lib.hid hxyz
        have HPQ := Lib.hid hPQ
        have HM := Lib.hid hm
        have H3 := Lib.hid h3
        clear hxyz hPQ hm h3
        go_wp2_with fail
        obtain ⟨e0, e1, e2⟩ := HXYZ.out
        exact ret_ct (cs := [.int .i64 y0, .int .i64 y1, .int .i64 y2]) (v := .bool true) rfl rfl rfl rfl w45 (res3 HR.out Hb.out y0 y1 y2).1 ⟨(res3 HR.out Hb.out y0 y1 y2).2, .inl ⟨x, y, z, by rw [← e0, ← e1, ← e2], by rw [HPQ.out]; exact HM.out, by rw [HPQ.out]; exact ⟨H3.out, HQ.out⟩⟩⟩
      · have g3 : ((Q.length : Int) == 3) = false := by rw [beq_eq_false_iff_ne]; omega
        have E : Hid (¬ Thr P) := fun h => h3 (by rw [← hPQ]; exact h.1)
        clear h3 hPQ
        go_wp2_with fail
        exact ret_ct (cs := [.int .i64 y0, .int .i64 y1, .int .i64 y2]) (v := .bool false) rfl rfl rfl rfl w45 (res3 HR.out Hb.out y0 y1 y2).1 ⟨(res3 HR.out Hb.out y0 y1 y2).2, .inr ⟨⟨_, _, _, rfl⟩, E.out⟩⟩
end Go.Proofs.YthcgbchgfdkhiaaDoor
