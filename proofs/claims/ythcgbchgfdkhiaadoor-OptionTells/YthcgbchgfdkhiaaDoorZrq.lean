/- The reference's ParseOptions: the same answers. -/
import Derived.Test.YthcgbchgfdkhiaaDoorZpb
namespace Go.Proofs.YthcgbchgfdkhiaaDoor
set_option linter.unusedSimpArgs false
set_option linter.unusedVariables false
open Go.RowKit
set_option maxRecDepth 100000
theorem rInt_two (r : List UInt8) (w : World) (hl : r.length ≤ 1000000) : Calls Tryd.prog 16 #[.string (tx r)] w fun e w' => ∃ n, e = .returned (.tuple #[.int .i64 n, .bool (intOk r)]) ∧ (intOk r = true → n = intV r) ∧ w' = w := by
  refine (rInt_any r w hl).mono ?_
  rintro e w' ⟨rfl, rfl⟩
  unfold intA
  cases h : intOk r
  · exact ⟨0, rfl, fun h => by (cases h), rfl⟩
  · exact ⟨intV r, rfl, fun _ => rfl, rfl⟩
theorem three_two (r : List UInt8) (w : World) (hl : r.length ≤ 1000000) : Calls Tryd.prog 17 #[.string (tx r)] w fun e w' => ∃ x y z, e = .returned (.tuple #[.agg #[.int .i64 x, .int .i64 y, .int .i64 z], .bool (rdOk 3 (splits [44] r))]) ∧ (rdOk 3 (splits [44] r) = true → trip (splits [44] r) = (x, y, z)) ∧ Below w.heap.size w w' := by
  refine (three_any r w hl).mono ?_
  rintro e w' ⟨hb, ⟨x, y, z, rfl, h1, h2⟩ | ⟨⟨x, y, z, rfl⟩, h2⟩⟩
  · have e := (rd_thr _).1 h2
    exact ⟨x, y, z, by rw [e], fun _ => h1.trip, hb⟩
  · have e : rdOk 3 (splits [44] r) = false := by
      cases h : rdOk 3 (splits [44] r)
      · rfl
      · exact absurd ((rd_thr _).2 h) h2
    exact ⟨x, y, z, by rw [e], fun h => by (rw [e] at h; cases h), hb⟩
theorem app_lz {ops : Array Oper} {rest : List Oper} {o : Oper} {a : Act} {w : World} {Q : Exit → Act → World → Prop} {s x : Operand} {B n g : Nat} {v : Value} {xs : List Value} {p q r : Int} (hgd : o.guard = none)
    (ho : o.op = .call { callee := .builtin .append, args := #[s, x], argTypes := #[23, 23] }) (hs : a.eval s = v) (hx : a.eval x = .slice (some ⟨g, 0, none⟩) 1 1)
    (hown : w.ownsRow B 40 3 v n xs) (hg : Blk w g [.int .i64 p, .int .i64 q, .int .i64 r] 40) (hn : n ≤ 2000000) (hB : B ≤ w.heap.size)
    (hr : ∀ v' w', w'.ownsRow B 40 3 v' (n + 1) (xs ++ [.int .i64 p, .int .i64 q, .int .i64 r]) → Below B w w' → wpList Tryd.prog ops Q rest (a.put o.dst v') w') : wpList Tryd.prog ops Q (o :: rest) a w :=
  wpList_plain hgd fun K hK => wp_appZ ho hs hx hown hg hn hB fun v' w' h1 h2 => hK _ _ (hr v' w' h1 ((Below.refl _ _).grown h2 hB fun k hk => (hown.lt k hk).1))
set_option maxHeartbeats 16000000 in
theorem rparse_any (l : List (List UInt8)) (v : Value) (w : World) (hv : RdS w v l) (hl : l.length ≤ 1000) (hu : ∀ u ∈ l, u.length ≤ 1000000) :
    Calls Tryd.prog 8 #[v] w fun e w' => Below w.heap.size w w' ∧ Ans w' w.heap.size e (prs l) := by
  have hsh : ∃ a c, v = .slice a l.length c := by
    rcases hv with ⟨rfl, a, c, rfl⟩ | ⟨b, o, c, rfl, _⟩
    · exact ⟨a, c, rfl⟩
    · exact ⟨_, _, rfl⟩
  obtain ⟨sa, sc, rfl⟩ := hsh
  have hat : ∀ (i : Nat) u, l[i]? = some u → ∃ b o, sa = some ⟨b, o, none⟩ ∧ w.cell? ⟨b, o + i, none⟩ = some (.string (tx u)) := by
    intro i u hi
    rcases hv with ⟨rfl, _⟩ | ⟨b, o, c, e, _, hc⟩
    · simp at hi
    · exact ⟨b, o, by injection e, hc i u hi⟩
  have hi := init25 w
  have HAT := Lib.hid hat
  have HU := Lib.hid hu
  clear hv hat hu
  go_enter Tryd.func8, Tryd.ntmps8
  go_wp2_with fail
  rw [show (w.alloc (.cells #[.int .i64 0, .int .i64 0, .slice none 0 0] 25)).alloc (.cells #[.int .i64 64, .int .i64 4096, .slice none 0 0] 25) = w3O w from rfl]
  generalize w3O w = W0 at hi ⊢
  obtain ⟨hi1, hi2, hi3, hi4⟩ := hi
  have HI1 := Lib.hid hi1
  clear hi1
  go_loopw [5] (fun j wr => ∃ (i : Nat) (o : Opt), i ≤ l.length ∧ j = .int .i64 (i : Int) ∧ parseL o0 (l.take i) = some o ∧ o.z.length ≤ i ∧ Opb (w.heap.size + 2) (w.heap.size + 1) o wr ∧ Blk wr w.heap.size zO 25 ∧ w.heap.size + 2 ≤ wr.heap.size ∧ Below w.heap.size w wr) (fun j _ => l.length - (intOf j).toNat)
  case atStart => exact ⟨0, o0, Nat.zero_le _, rfl, rfl, Nat.zero_le _, HI1.out, hi2, by omega, hi3⟩
  case round =>
    generalize wr = W1 at *
    obtain ⟨i, o, hi, rfl, hp, hz, hO, hR, hsz, hb⟩ := hrel
    clear hi2 hi3 hi4 HI1
    have HP := Lib.hid hp
    have HR := Lib.hid hR
    have HB := Lib.hid hb
    have HO := Lib.hid hO
    by_cases hlt : i < l.length
    · obtain ⟨u, hui⟩ : ∃ u, l[i]? = some u := ⟨_, List.getElem?_eq_getElem hlt⟩
      obtain ⟨gb, go, rfl, hc⟩ := HAT.out i u hui
      have c1 := cell_below hb hc
      have HUI := Lib.hid hui
      have hul := HU.out u (List.mem_of_getElem? hui)
      cases u with
      | nil =>
        have g0 : (tx []).toList.isEmpty = true := by rw [tx_toList]; rfl
        have HTN : Hid (takeO o [] = none) := Lib.hid rfl
        have r0 : W1.cell? ⟨w.heap.size, 0, none⟩ = some (.int .i64 0) := hR.cell rfl
        have r1 : W1.cell? ⟨w.heap.size, 1, none⟩ = some (.int .i64 0) := hR.cell rfl
        have r2 : W1.cell? ⟨w.heap.size, 2, none⟩ = some (.slice none 0 0) := hR.cell rfl
        have f0 := hR.frozen 0
        have f1 := hR.frozen 1
        have f2 := hR.frozen 2
        have HR2 := HR
        have HB2 := HB
        obtain ⟨u, hu⟩ : ∃ u : List UInt8, u = [] := ⟨_, rfl⟩
        rw [← hu] at HUI HTN g0 c1
        clear hui hc hp hO hR hb hul hu
        have HN : Hid (prs l = none) := by
          show _ = _
          have e : l = l.take i ++ u :: l.drop (i + 1) := by
            rw [← at_drop2 HUI.out, List.take_append_drop]
          rw [e]
          exact prs_none HP.out HTN.out
        go_wp2_with fail
        have K := res25 HR2.out HB2.out 0 0 (.slice none 0 0)
        exact ret_ct (cs := [.int .i64 0, .int .i64 0, .slice none 0 0]) (v := .bool false) rfl rfl rfl rfl wOp K.1 ⟨K.2, by rw [HN.out]; rfl⟩
      | cons a r =>
        have hs : (tx (a :: r)).size = r.length + 1 := tx_size _
        have hX : (tx (a :: r)).extract 1 (r.length + 1) = tx r := by rw [tx_extract, List.take_of_length_le (by simp)]; rfl
        have hrl : r.length ≤ 1000000 := by simp at hul; omega
        have hg : (tx (a :: r))[0]'(by omega) = a := tx_get _ 0 _
        have e1 : ∀ (n : Nat) (c : UInt8), c.toNat = n → ∀ h : 0 < (tx (a :: r)).size, ((((tx (a :: r))[0]'h).toNat : Int) == (n : Int)) = decide (a = c) := fun n c hc h => by rw [hg]; exact byte_eq a n c hc
        have htk := takeO_cons o a r
        clear hg
        obtain ⟨s, hse⟩ : ∃ s, tx (a :: r) = s := ⟨_, rfl⟩
        obtain ⟨u, hue⟩ : ∃ u, a :: r = u := ⟨_, rfl⟩
        rw [hue] at HUI htk
        rw [hse] at hs hX c1 e1
        have hs0 : 0 < s.size := by omega
        have d1 : ((s[0].toNat : Int) == 104) = decide (a = 104) := e1 104 104 rfl hs0
        have d2 : ((s[0].toNat : Int) == 99) = decide (a = 99) := e1 99 99 rfl hs0
        have d3 : ((s[0].toNat : Int) == 115) = decide (a = 115) := e1 115 115 rfl hs0
        clear e1
        have HTK := Lib.hid htk
        have g0 := ne_empty s (by omega)
        have k9 : (1 : Int) ≤ (r.length : Int) + 1 := by omega
        have HI := Lib.hid (rInt_two r W1 hrl)
        have H3 := Lib.hid (three_two r W1 hrl)
        have hHC := hc
        obtain ⟨ok, hok⟩ : ∃ ok, intOk r = ok := ⟨_, rfl⟩
        obtain ⟨is, his⟩ : ∃ is, rdOk 3 (splits [44] r) = is := ⟨_, rfl⟩
        rw [hok] at HI
        rw [his] at H3
        have HOK := Lib.hid hok
        have HIS := Lib.hid his
        have HSE := Lib.hid hse
        clear hui hc hp hO hR hb hul hue htk hok his hse hHC
        go_wp2_with fail
        refine HI.out.mono ?_
        rintro e wq ⟨n, rfl, hn, hwq⟩
        replace hwq := hwq.symm
        subst hwq
        go_wp2_with fail
        refine H3.out.mono ?_
        rintro e w2 ⟨x, y, z, rfl, hxyz, hb1⟩
        have BT := Blk.new w2 [.int .i64 x, .int .i64 y, .int .i64 z] 45 rfl
        have hb2 : Below W1.heap.size W1 (w2.alloc (.cells #[.int .i64 x, .int .i64 y, .int .i64 z] 45)) := hb1.alloc hb1.size _
        have c1' : (w2.alloc (.cells #[.int .i64 x, .int .i64 y, .int .i64 z] 45)).cell? ⟨gb, go + i, none⟩ = some (.string s) := cell_below hb2 c1
        have hR2 := HR.out.call hb2
        obtain ⟨zv, hBo, hown⟩ := HO.out
        have hB2 := hBo.call hb2
        have hown2 := owns_below hown hb2
        have hbb := bthen HB.out hb2
        have hsz2 := Nat.le_trans hsz hb2.size
        have q0 := BT.cell (i := 0) rfl
        have q1 := BT.cell (i := 1) rfl
        have q2 := BT.cell (i := 2) rfl
        have r0 : (w2.alloc (.cells #[.int .i64 x, .int .i64 y, .int .i64 z] 45)).cell? ⟨w.heap.size, 0, none⟩ = some (.int .i64 0) := hR2.cell rfl
        have r1 : (w2.alloc (.cells #[.int .i64 x, .int .i64 y, .int .i64 z] 45)).cell? ⟨w.heap.size, 1, none⟩ = some (.int .i64 0) := hR2.cell rfl
        have r2 : (w2.alloc (.cells #[.int .i64 x, .int .i64 y, .int .i64 z] 45)).cell? ⟨w.heap.size, 2, none⟩ = some (.slice none 0 0) := hR2.cell rfl
        have f0 := hR2.frozen 0
        have f1 := hR2.frozen 1
        have f2 := hR2.frozen 2
        have HR2 := Lib.hid hR2
        have HB2 := Lib.hid hbb
        have HOB := Lib.hid hB2
        have HOW := Lib.hid hown2
        have HN0 := Lib.hid hn
        have HXYZ := Lib.hid hxyz
        clear hb1 BT hb2 hR2 hBo hB2 hown hown2 hbb hn hxyz c1 HI H3
        have b0 := HOB.out.cell (i := 0) rfl
        have b1 := HOB.out.cell (i := 1) rfl
        have b2 := HOB.out.cell (i := 2) rfl
        have fb0 := HOB.out.frozen 0
        have fb1 := HOB.out.frozen 1
        have fb2 := HOB.out.frozen 2
        have hzl : o.z.length ≤ 1000 := by omega
        have HOKE := HOK.out
        have HISE := HIS.out
        have HKK := Lib.hid HOKE
        have HII := Lib.hid HISE
        clear HOKE HISE
        by_cases h1 : a = 104
        · rw [decide_eq_true h1] at d1
          cases ok
          · rw [decide_eq_false (show ¬ a = 99 by rw [h1]; decide)] at d2
            rw [decide_eq_false (show ¬ a = 115 by rw [h1]; decide)] at d3
            have HTN : Hid (takeO o u = none) := by show _ = _; rw [HTK.out, if_pos h1, HKK.out]; rfl
            clear h1 b0 b1 b2 fb0 fb1 fb2
            have HN : Hid (prs l = none) := by
              show _ = _
              have e : l = l.take i ++ u :: l.drop (i + 1) := by
                rw [← at_drop2 HUI.out, List.take_append_drop]
              rw [e]
              exact prs_none HP.out HTN.out
            go_wp2_with fail
            have K := res25 HR2.out HB2.out 0 0 (.slice none 0 0)
            exact ret_ct (cs := [.int .i64 0, .int .i64 0, .slice none 0 0]) (v := .bool false) rfl rfl rfl rfl wOp K.1 ⟨K.2, by rw [HN.out]; rfl⟩
          · have HTO : Hid (takeO o u = some { o with h := intV r }) := by show _ = _; rw [HTK.out, if_pos h1, HKK.out]; rfl
            obtain rfl := HN0.out rfl
            have BF := HOB.out.set 0 (.int .i64 (intV r))
            have OF := ownsRow_setCell_below HOW.out (show (⟨w.heap.size + 1, 0, none⟩ : Addr).block < w.heap.size + 2 by show w.heap.size + 1 < w.heap.size + 2; omega) (.int .i64 (intV r))
            have RF := HR2.out.setOther (g := w.heap.size + 1) 0 (.int .i64 (intV r)) (by omega)
            have KF : Below w.heap.size w ((w2.alloc (.cells #[.int .i64 x, .int .i64 y, .int .i64 z] 45)).setCell ⟨w.heap.size + 1, 0, none⟩ (.int .i64 (intV r))) := HB2.out.setCell (by show w.heap.size ≤ w.heap.size + 1; omega) _
            have HF := Lib.hid (show Opb (w.heap.size + 2) (w.heap.size + 1) { o with h := intV r } _ from ⟨zv, BF, OF⟩)
            have HRF := Lib.hid RF
            have HKF := Lib.hid KF
            clear h1 BF OF RF KF
            go_wp2_with fail
            go_roundw
            case rel => exact ⟨i + 1, { o with h := intV r }, by omega, by go_num, by rw [List.take_add_one, HUI.out, Option.toList_some, parseL_snoc, HP.out]; exact HTO.out, by show o.z.length ≤ i + 1; omega, HF.out, HRF.out, by simp [World.setCell] at hsz2 ⊢; omega, HKF.out⟩
            case measure => simp [intOf]; omega
        · rw [decide_eq_false h1] at d1
          by_cases h2 : a = 99
          · rw [decide_eq_true h2] at d2
            cases ok
            · rw [decide_eq_false (show ¬ a = 115 by rw [h2]; decide)] at d3
              have HTN : Hid (takeO o u = none) := by show _ = _; rw [HTK.out, if_neg h1, if_pos h2, HKK.out]; rfl
              clear h1 h2 b0 b1 b2 fb0 fb1 fb2
              have HN : Hid (prs l = none) := by
                show _ = _
                have e : l = l.take i ++ u :: l.drop (i + 1) := by
                  rw [← at_drop2 HUI.out, List.take_append_drop]
                rw [e]
                exact prs_none HP.out HTN.out
              go_wp2_with fail
              have K := res25 HR2.out HB2.out 0 0 (.slice none 0 0)
              exact ret_ct (cs := [.int .i64 0, .int .i64 0, .slice none 0 0]) (v := .bool false) rfl rfl rfl rfl wOp K.1 ⟨K.2, by rw [HN.out]; rfl⟩
            · have HTO : Hid (takeO o u = some { o with c := intV r }) := by show _ = _; rw [HTK.out, if_neg h1, if_pos h2, HKK.out]; rfl
              obtain rfl := HN0.out rfl
              have BF := HOB.out.set 1 (.int .i64 (intV r))
              have OF := ownsRow_setCell_below HOW.out (show (⟨w.heap.size + 1, 1, none⟩ : Addr).block < w.heap.size + 2 by show w.heap.size + 1 < w.heap.size + 2; omega) (.int .i64 (intV r))
              have RF := HR2.out.setOther (g := w.heap.size + 1) 1 (.int .i64 (intV r)) (by omega)
              have KF : Below w.heap.size w ((w2.alloc (.cells #[.int .i64 x, .int .i64 y, .int .i64 z] 45)).setCell ⟨w.heap.size + 1, 1, none⟩ (.int .i64 (intV r))) := HB2.out.setCell (by show w.heap.size ≤ w.heap.size + 1; omega) _
              have HF := Lib.hid (show Opb (w.heap.size + 2) (w.heap.size + 1) { o with c := intV r } _ from ⟨zv, BF, OF⟩)
              have HRF := Lib.hid RF
              have HKF := Lib.hid KF
              clear h1 h2 BF OF RF KF
              go_wp2_with fail
              go_roundw
              case rel => exact ⟨i + 1, { o with c := intV r }, by omega, by go_num, by rw [List.take_add_one, HUI.out, Option.toList_some, parseL_snoc, HP.out]; exact HTO.out, by show o.z.length ≤ i + 1; omega, HF.out, HRF.out, by simp [World.setCell] at hsz2 ⊢; omega, HKF.out⟩
              case measure => simp [intOf]; omega
          · rw [decide_eq_false h2] at d2
            by_cases h3 : a = 115
            · rw [decide_eq_true h3] at d3
              cases is
              · have HTN : Hid (takeO o u = none) := by show _ = _; rw [HTK.out, if_neg h1, if_neg h2, if_pos h3, HII.out]; rfl
                clear h1 h2 h3 b0 b1 b2 fb0 fb1 fb2
                have HN : Hid (prs l = none) := by
                  show _ = _
                  have e : l = l.take i ++ u :: l.drop (i + 1) := by
                    rw [← at_drop2 HUI.out, List.take_append_drop]
                  rw [e]
                  exact prs_none HP.out HTN.out
                go_wp2_with fail
                have K := res25 HR2.out HB2.out 0 0 (.slice none 0 0)
                exact ret_ct (cs := [.int .i64 0, .int .i64 0, .slice none 0 0]) (v := .bool false) rfl rfl rfl rfl wOp K.1 ⟨K.2, by rw [HN.out]; rfl⟩
              · have htr := HXYZ.out rfl
                have HTO : Hid (takeO o u = some { o with z := o.z ++ [(x, y, z)] }) := by show _ = _; rw [HTK.out, if_neg h1, if_neg h2, if_pos h3, HII.out, ← htr]; rfl
                clear h1 h2 h3 htr
                go_wp2_with (first | (at_builtin; refine app_lz rfl rfl rfl rfl (HOW.out.alloc _) (Blk.new (w2.alloc (.cells #[.int .i64 x, .int .i64 y, .int .i64 z] 45)) [.int .i64 x, .int .i64 y, .int .i64 z] 40 (by simp)) (by omega) (by simp at hsz2 ⊢; omega) ?_; intro v' w3 hown3 h3; obtain ⟨g4, c4, rfl⟩ := Go.Joins.ownsRow_form hown3 (by omega); have B5 := (HOB.out.old _).below h3 (by omega); have c5 := B5.cell (i := 2) rfl; have f5 := B5.frozen 2; have HB5 := Lib.hid B5; have HO4 := Lib.hid hown3; have H3 := Lib.hid h3; clear hown3 h3 B5))
                have BF := HB5.out.set 2 (.slice (some ⟨g4, 0, none⟩) (o.z.length + 1) c4)
                have OF := ownsRow_setCell_below HO4.out (show (⟨w.heap.size + 1, 2, none⟩ : Addr).block < w.heap.size + 2 by show w.heap.size + 1 < w.heap.size + 2; omega) (.slice (some ⟨g4, 0, none⟩) (o.z.length + 1) c4)
                have RF := ((HR2.out.old (.cells #[.int .i64 x, .int .i64 y, .int .i64 z] 40)).below H3.out (by omega)).setOther (g := w.heap.size + 1) 2 (.slice (some ⟨g4, 0, none⟩) (o.z.length + 1) c4) (by omega)
                have KF : Below w.heap.size w (w3.setCell ⟨w.heap.size + 1, 2, none⟩ (.slice (some ⟨g4, 0, none⟩) (o.z.length + 1) c4)) := ((HB2.out.alloc HB2.out.size (.cells #[.int .i64 x, .int .i64 y, .int .i64 z] 40)).trans (H3.out.mono (by omega))).setCell (by show w.heap.size ≤ w.heap.size + 1; omega) _
                have hsz3 := H3.out.size
                have HF := Lib.hid (show Opb (w.heap.size + 2) (w.heap.size + 1) { o with z := o.z ++ [(x, y, z)] } _ from ⟨_, BF, by simpa [celZ] using OF⟩)
                have HRF := Lib.hid RF
                have HKF := Lib.hid KF
                clear BF OF RF KF
                go_roundw
                case rel => exact ⟨i + 1, { o with z := o.z ++ [(x, y, z)] }, by omega, by go_num, by rw [List.take_add_one, HUI.out, Option.toList_some, parseL_snoc, HP.out]; exact HTO.out, by simp; omega, HF.out, HRF.out, by simp [World.setCell] at hsz2 hsz3 ⊢; omega, HKF.out⟩
                case measure => simp [intOf]; omega
            · rw [decide_eq_false h3] at d3
              have HTN : Hid (takeO o u = none) := by show _ = _; rw [HTK.out, if_neg h1, if_neg h2, if_neg h3]
              clear h1 h2 h3 b0 b1 b2 fb0 fb1 fb2
              have HN : Hid (prs l = none) := by
                show _ = _
                have e : l = l.take i ++ u :: l.drop (i + 1) := by
                  rw [← at_drop2 HUI.out, List.take_append_drop]
                rw [e]
                exact prs_none HP.out HTN.out
              go_wp2_with fail
              have K := res25 HR2.out HB2.out 0 0 (.slice none 0 0)
              exact ret_ct (cs := [.int .i64 0, .int .i64 0, .slice none 0 0]) (v := .bool false) rfl rfl rfl rfl wOp K.1 ⟨K.2, by rw [HN.out]; rfl⟩
    · obtain rfl : l.length = i := by omega
      rw [List.take_length] at hp
      obtain ⟨zv, hB, hown⟩ := hO
      obtain ⟨za, zc, rfl⟩ := (RdZ.of_owns hown).shape
      have HI := Lib.hid (ris_any o.h o.c za zc o.z W1 (RdZ.of_owns hown) (by omega))
      have c0 := hB.cell (i := 0) rfl
      have c1 := hB.cell (i := 1) rfl
      have c2 := hB.cell (i := 2) rfl
      have HP := Lib.hid hp
      have HB := Lib.hid hB
      have HBB := Lib.hid hb
      have HOW := Lib.hid hown
      clear hp hB hR hb hown HO
      cases hok : opOk o.h o.c o.z
      · rw [hok] at HI
        have HN : Hid (prs l = none) := by
          show _ = _
          unfold prs
          rw [show parseL ⟨64, 4096, []⟩ l = some o from HP.out]
          show (if okO o = true then some o else none) = none
          rw [show okO o = false from hok]; rfl
        clear hok
        go_wp2_with fail
        refine HI.out.mono ?_
        rintro e w2 ⟨rfl, hb2⟩
        have hR2 := HR.out.call hb2
        have hb3 := bthen HBB.out hb2
        have r0 : w2.cell? ⟨w.heap.size, 0, none⟩ = some (.int .i64 0) := hR2.cell rfl
        have r1 : w2.cell? ⟨w.heap.size, 1, none⟩ = some (.int .i64 0) := hR2.cell rfl
        have r2 : w2.cell? ⟨w.heap.size, 2, none⟩ = some (.slice none 0 0) := hR2.cell rfl
        have f0 := hR2.frozen 0
        have f1 := hR2.frozen 1
        have f2 := hR2.frozen 2
        have HR2 := Lib.hid hR2
        have HB3 := Lib.hid hb3
        clear hb2 hR2 hb3 c0 c1 c2
        go_wp2_with fail
        have K := res25 HR2.out HB3.out 0 0 (.slice none 0 0)
        exact ret_ct (cs := [.int .i64 0, .int .i64 0, .slice none 0 0]) (v := .bool false) rfl rfl rfl rfl wOp K.1 ⟨K.2, by rw [HN.out]; rfl⟩
      · rw [hok] at HI
        have HN : Hid (prs l = some o) := by
          show _ = _
          unfold prs
          rw [show parseL ⟨64, 4096, []⟩ l = some o from HP.out]
          show (if okO o = true then some o else none) = some o
          rw [show okO o = true from hok]; rfl
        clear hok
        go_wp2_with fail
        refine HI.out.mono ?_
        rintro e w2 ⟨rfl, hb2⟩
        have hB2 := HB.out.call hb2
        have hR2 := HR.out.call hb2
        have hb3 := bthen HBB.out hb2
        have hO2 := owns_below HOW.out hb2
        clear c0 c1 c2
        have c0 := hB2.cell (i := 0) rfl
        have c1 := hB2.cell (i := 1) rfl
        have c2 := hB2.cell (i := 2) rfl
        have r0 : w2.cell? ⟨w.heap.size, 0, none⟩ = some (.int .i64 0) := hR2.cell rfl
        have r1 : w2.cell? ⟨w.heap.size, 1, none⟩ = some (.int .i64 0) := hR2.cell rfl
        have r2 : w2.cell? ⟨w.heap.size, 2, none⟩ = some (.slice none 0 0) := hR2.cell rfl
        have f0 := hR2.frozen 0
        have f1 := hR2.frozen 1
        have f2 := hR2.frozen 2
        have HR2 := Lib.hid hR2
        have HB3 := Lib.hid hb3
        have HO2 := Lib.hid hO2
        clear hb2 hR2 hb3 hO2 hB2
        go_wp2_with fail
        have K := res25 HR2.out HB3.out o.h o.c (.slice za o.z.length zc)
        exact ret_ct (cs := [.int .i64 o.h, .int .i64 o.c, .slice za o.z.length zc]) (v := .bool true) rfl rfl rfl rfl wOp K.1 ⟨K.2, by rw [HN.out]; exact ⟨_, rfl, own_le (own25 HO2.out (by omega) o.h o.c _)⟩⟩
end Go.Proofs.YthcgbchgfdkhiaaDoor
