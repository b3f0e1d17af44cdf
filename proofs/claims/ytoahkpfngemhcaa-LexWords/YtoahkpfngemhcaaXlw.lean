/- LexWords: what it answers. -/
import Derived.Test.YtoahkpfngemhcaaXkn
import Derived.Test.YtoahkpfngemhcaaXlq
import Derived.Test.YtoahkpfngemhcaaXnm
namespace Go.Proofs.Ytoahkpfngemhcaa
set_option linter.unusedSimpArgs false
set_option linter.unusedVariables false
open Go.RowKit
set_option maxRecDepth 100000
theorem RdM.shape {w : World} {v : Value} {M : List (List (List UInt8))} (h : RdM w v M) : ∃ a c, v = .slice a M.length c := by
  rcases h with ⟨rfl, a, c, rfl⟩ | ⟨b, o, c, rfl, _⟩
  · exact ⟨a, c, rfl⟩
  · exact ⟨_, _, rfl⟩
theorem RdS.shape {w : World} {v : Value} {M : List (List UInt8)} (h : RdS w v M) : ∃ a c, v = .slice a M.length c := by
  rcases h with ⟨rfl, a, c, rfl⟩ | ⟨b, o, c, rfl, _⟩
  · exact ⟨a, c, rfl⟩
  · exact ⟨_, _, rfl⟩
theorem RdM.at {w : World} {a : Option Addr} {c : Nat} {M : List (List (List UInt8))} (h : RdM w (.slice a M.length c) M) {i : Nat} {ws : List (List UInt8)} (hi : M[i]? = some ws) : ∃ b o x, a = some ⟨b, o, none⟩ ∧ w.cell? ⟨b, o + i, none⟩ = some x ∧ RdS w x ws := by
  rcases h with ⟨rfl, _⟩ | ⟨b, o, c, e, _, hc⟩
  · simp at hi
  · obtain ⟨x, h1, h2⟩ := hc i ws hi
    exact ⟨b, o, x, by injection e, h1, h2⟩
theorem RdS.at {w : World} {a : Option Addr} {c : Nat} {M : List (List UInt8)} (h : RdS w (.slice a M.length c) M) {i : Nat} {u : List UInt8} (hi : M[i]? = some u) : ∃ b o, a = some ⟨b, o, none⟩ ∧ w.cell? ⟨b, o + i, none⟩ = some (.string (tx u)) := by
  rcases h with ⟨rfl, _⟩ | ⟨b, o, c, e, _, hc⟩
  · simp at hi
  · exact ⟨b, o, by injection e, hc i u hi⟩
set_option maxHeartbeats 8000000 in
theorem lwords_walk (v0 : Value) (M : List (List (List UInt8))) (bk : Nat) (hbk : bk ≤ 255) (mark : Bool) (w : World) (hM : RdM w v0 M) (hMl : M.length ≤ 9223372036854775807) (hrow : ∀ ws ∈ M, ws.length ≤ 9223372036854775807 ∧ ∀ u ∈ ws, u.length ≤ 9223372036854775807) :
    Calls Try.prog 4 #[v0, .int .u8 (bk : Int), .bool mark] w fun e w' => e = .returned (.bool true) ∧ Below w.heap.size w w' := by
  have HK := Lib.hid fun w => known6_any w
  obtain ⟨va, vc, rfl⟩ := hM.shape
  have HM := Lib.hid hM
  have HROW := Lib.hid hrow
  clear hM hrow
  obtain ⟨K, hK⟩ : ∃ K, bk % 3 = K := ⟨_, rfl⟩
  have hKi : (bk : Int).tmod 3 = (K : Int) := by rw [← hK]; rfl
  have hK3 : K < 3 := by omega
  have hBK := Lib.hid (bk3 K)
  by_cases h10 : 10 < M.length
  · have g : (10 : Int) < (M.length : Int) := by omega
    go_enter Try.func4, Try.ntmps4
    go_wp2_with fail
    refine (HK.out _).mono ?_
    rintro e w1 ⟨rfl, hb⟩
    go_wp2_with fail
    go_ret
    exact ⟨rfl, hb⟩
  · have g : ¬ (10 : Int) < (M.length : Int) := by omega
    have hix : ∀ w, Sem.run Try.prog (Instr.index 32 (Value.agg #[Value.string { data := #[32] }, Value.string { data := #[9, 32] }, Value.string { data := #[32, 32, 13] }]) (Value.int IntKind.u8 (K : Int))) w = .ok (.string (tx (blk3 K))) w := by
      intro w
      rcases (show K = 0 ∨ K = 1 ∨ K = 2 by omega) with rfl | rfl | rfl
      all_goals with_unfolding_all rfl
    clear hK
    go_enter Try.func4, Try.ntmps4
    go_wp2_with fail
    refine (HK.out _).mono ?_
    rintro e w1 ⟨rfl, hb⟩
    clear HK
    go_wp2_with fail
    clear hix
    obtain ⟨b, hbb⟩ : ∃ b, blk3 K = b := ⟨_, rfl⟩
    rw [hbb] at hBK ⊢
    clear hbb
    go_loopw [8, 9, 10] (fun s o j wr => ∃ (i : Nat) (cs : List Value), i ≤ M.length ∧ j = .int .i64 (i : Int) ∧ s = .string (tx (allT b mark (M.take i))) ∧ (∀ ws ∈ M.take i, ws.length ≤ 6 ∧ ∀ u ∈ ws, okw u) ∧
        wr.ownsRow w.heap.size 35 2 o (rowsL 1 (M.take i)).length cs ∧ Lwr w (rowsL 1 (M.take i)) cs ∧ Below w.heap.size w wr) (fun _ _ j _ => M.length - (intOf j).toNat)
    case atStart => exact ⟨0, [], Nat.zero_le _, rfl, rfl, by simp, World.ownsRow_nil _ _ _ _, rfl, hb⟩
    case round =>
      clear hb
      obtain ⟨i, cs, hi, rfl, rfl, hok, hown, hlw, hb⟩ := hrel
      have HOK := Lib.hid hok
      have HO := Lib.hid hown
      have HLW := Lib.hid hlw
      clear hok hown hlw
      by_cases hlt : i < M.length
      · obtain ⟨ws, hws, hmem⟩ : ∃ ws, M[i]? = some ws ∧ ws ∈ M := ⟨M[i]'hlt, List.getElem?_eq_getElem hlt, List.getElem_mem hlt⟩
        obtain ⟨b0, o0, x, rfl, hx, hxs⟩ := HM.out.at hws
        obtain ⟨xa, xc, rfl⟩ := hxs.shape
        obtain ⟨hwl, hul⟩ := HROW.out ws hmem
        have hx' := cell_below hb hx
        have HX := Lib.hid hx
        have HXS := Lib.hid hxs
        have HU := Lib.hid hul
        have HT : Hid (M.take (i + 1) = M.take i ++ [ws]) := by
          show M.take (i + 1) = M.take i ++ [ws]
          rw [List.take_add_one, hws]; rfl
        clear hx hxs hul hws hmem
        by_cases h6 : 6 < ws.length
        · have g6 : (6 : Int) < (ws.length : Int) := by omega
          go_wp2_with fail
          go_ret
          exact ⟨rfl, hb⟩
        · have g6 : ¬ (6 : Int) < (ws.length : Int) := by omega
          go_wp2_with fail
          go_loopw [8, 11] (fun s j wx => ∃ k : Nat, k ≤ ws.length ∧ j = .int .i64 (k : Int) ∧ s = .string (tx (allT b mark (M.take i) ++ body b (ws.take k))) ∧ (∀ u ∈ ws.take k, okw u) ∧ wx = wr) (fun _ j _ => ws.length - (intOf j).toNat)
          case atStart => exact ⟨0, Nat.zero_le _, rfl, by simp [body], by simp, rfl⟩
          case round =>
            obtain ⟨k, hk, rfl, rfl, hok2, rfl⟩ := hrel
            have HOK2 := Lib.hid hok2
            clear hok2
            by_cases hkl : k < ws.length
            · obtain ⟨u, hu, humem⟩ : ∃ u, ws[k]? = some u ∧ u ∈ ws := ⟨ws[k]'hkl, List.getElem?_eq_getElem hkl, List.getElem_mem hkl⟩
              obtain ⟨b1, o1, rfl, hcu⟩ := HXS.out.at hu
              replace hcu := cell_below hb hcu
              have hul := HU.out u humem
              have HT2 : Hid (ws.take (k + 1) = ws.take k ++ [u]) := by
                show ws.take (k + 1) = ws.take k ++ [u]
                rw [List.take_add_one, hu]; rfl
              have husz := tx_size u
              clear hu humem
              go_wp2_with fail
              go_loop [13] (fun j => ∃ q : Nat, q ≤ u.length ∧ j = .int .i64 (q : Int) ∧ ∀ c ∈ u.take q, okc c = true) (fun j => u.length - (intOf j).toNat)
              case atStart => exact ⟨0, Nat.zero_le _, rfl, by simp⟩
              case round =>
                obtain ⟨q, hq, rfl, hokq⟩ := hrel
                have HQ := Lib.hid hokq
                clear hokq
                by_cases hql : q < u.length
                · obtain ⟨c, HG, HT3⟩ : ∃ c, Hid (∀ h : q < (tx u).size, (tx u)[q] = c) ∧ Hid (u.take (q + 1) = u.take q ++ [c]) :=
                    ⟨u[q]'hql, fun _ => tx_get u q _, by
                      show u.take (q + 1) = _
                      rw [List.take_add_one, List.getElem?_eq_getElem hql]; rfl⟩
                  have hqs : q < (tx u).size := by rw [tx_size]; exact hql
                  have ci : ∀ d : UInt8, c ≠ d → (((tx u)[q].toNat : Int) == (d.toNat : Int)) = false := by
                    intro d hd
                    rw [beq_eq_false_iff_ne, HG.out hqs]
                    intro h
                    exact hd (UInt8.toNat_inj.1 (by omega))
                  have cy : ∀ d : UInt8, c = d → (((tx u)[q].toNat : Int) == (d.toNat : Int)) = true := by
                    intro d hd
                    rw [beq_iff_eq, HG.out hqs, hd]
                  by_cases c1 : c = 32
                  · have d1 : (((tx u)[q].toNat : Int) == 32) = true := cy 32 c1
                    clear ci cy c1
                    go_wp2_with fail
                    go_ret
                    exact ⟨rfl, hb⟩
                  · have d1 : (((tx u)[q].toNat : Int) == 32) = false := ci 32 c1
                    by_cases c2 : c = 35
                    · have d2 : (((tx u)[q].toNat : Int) == 35) = true := cy 35 c2
                      clear ci cy c1 c2
                      go_wp2_with fail
                      go_ret
                      exact ⟨rfl, hb⟩
                    · have d2 : (((tx u)[q].toNat : Int) == 35) = false := ci 35 c2
                      by_cases c3 : c = 9
                      · have d3 : (((tx u)[q].toNat : Int) == 9) = true := cy 9 c3
                        clear ci cy c1 c2 c3
                        go_wp2_with fail
                        go_ret
                        exact ⟨rfl, hb⟩
                      · have d3 : (((tx u)[q].toNat : Int) == 9) = false := ci 9 c3
                        by_cases c4 : c = 10
                        · have d4 : (((tx u)[q].toNat : Int) == 10) = true := cy 10 c4
                          clear ci cy c1 c2 c3 c4
                          go_wp2_with fail
                          go_ret
                          exact ⟨rfl, hb⟩
                        · have d4 : (((tx u)[q].toNat : Int) == 10) = false := ci 10 c4
                          by_cases c5 : c = 13
                          · have d5 : (((tx u)[q].toNat : Int) == 13) = true := cy 13 c5
                            clear ci cy c1 c2 c3 c4 c5
                            go_wp2_with fail
                            go_ret
                            exact ⟨rfl, hb⟩
                          · have d5 : (((tx u)[q].toNat : Int) == 13) = false := ci 13 c5
                            have HOC : Hid (okc c = true) := by
                              show okc c = true
                              simp [okc, c1, c2, c3, c4, c5]
                            clear ci cy c1 c2 c3 c4 c5
                            go_wp2_with fail
                            go_round
                            case rel => exact ⟨q + 1, by omega, by go_num, by
                              rw [HT3.out]
                              intro y hy
                              rcases List.mem_append.1 hy with hy | hy
                              · exact HQ.out y hy
                              · simp only [List.mem_cons, List.not_mem_nil, or_false] at hy
                                subst hy; exact HOC.out⟩
                            case measure => simp [intOf]; omega
                · obtain rfl : q = u.length := by omega
                  have hall := HQ.out
                  rw [List.take_length] at hall
                  have HALL := Lib.hid hall
                  clear HQ hall
                  by_cases hz : u.length = 0
                  · have d1 : ((u.length : Int) == 0) = true := by rw [hz]; rfl
                    clear hz
                    go_wp2_with fail
                    go_ret
                    exact ⟨rfl, hb⟩
                  · have d1 : ((u.length : Int) == 0) = false := by rw [beq_eq_false_iff_ne]; omega
                    by_cases h12 : 12 < u.length
                    · have d2 : (12 : Int) < (u.length : Int) := by omega
                      clear hz h12
                      go_wp2_with fail
                      go_ret
                      exact ⟨rfl, hb⟩
                    · have d2 : ¬ (12 : Int) < (u.length : Int) := by omega
                      have HUO : Hid (okw u) := ⟨fun e => hz (by rw [e]; rfl), by omega, HALL.out⟩
                      have s1 := allT_len hBK.out mark (M.take i) HOK.out
                      have s2 := body_len hBK.out (ws.take k) HOK2.out
                      rw [List.length_take] at s1 s2
                      have s3 := hBK.out.len
                      have HE : Hid (tx (allT b mark (M.take i) ++ body b (ws.take (k + 1))) = tx (allT b mark (M.take i) ++ body b (ws.take k)) ++ tx b ++ tx u) := by
                        show _ = _
                        rw [HT2.out, body_snoc, tx_app, tx_app]
                        simp only [List.append_assoc]
                      obtain ⟨S, hS⟩ : ∃ S, allT b mark (M.take i) ++ body b (ws.take k) = S := ⟨_, rfl⟩
                      have sl : S.length ≤ 2000 := by rw [← hS, List.length_append]; omega
                      rw [hS] at HE ⊢
                      have z0 := tx_size S
                      have z1 := tx_size b
                      have z2 : ¬ (9223372036854775807 : Nat) < S.length + b.length := by omega
                      have z3 : ¬ (9223372036854775807 : Nat) < S.length + b.length + u.length := by omega
                      clear hz h12 hS s1 s2
                      go_wp2_with fail
                      go_roundw
                      case rel => exact ⟨k + 1, by omega, by go_num, by rw [HE.out], by
                        rw [HT2.out]
                        intro y hy
                        rcases List.mem_append.1 hy with hy | hy
                        · exact HOK2.out y hy
                        · simp only [List.mem_cons, List.not_mem_nil, or_false] at hy
                          subst hy; exact HUO.out, trivial⟩
                      case measure => simp [intOf]; omega
            · obtain rfl : k = ws.length := by omega
              have hall := HOK2.out
              rw [List.take_length] at hall ⊢
              have HALL := Lib.hid hall
              have s1 := allT_len hBK.out mark (M.take i) HOK.out
              have s2 := body_len hBK.out ws hall
              have s4 : (rowsL 1 (M.take i)).length ≤ 10 := by
                have := rowsL_len (M.take i) 1
                rw [List.length_take] at this; omega
              rw [List.length_take] at s1
              have s3 := hBK.out.len
              have hB := hb.size
              have HOK3 : Hid (∀ v ∈ M.take (i + 1), v.length ≤ 6 ∧ ∀ u ∈ v, okw u) := by
                show ∀ v ∈ M.take (i + 1), v.length ≤ 6 ∧ ∀ u ∈ v, okw u
                rw [HT.out]
                intro v hv
                rcases List.mem_append.1 hv with hv | hv
                · exact HOK.out v hv
                · simp only [List.mem_cons, List.not_mem_nil, or_false] at hv
                  subst hv; exact ⟨by omega, hall⟩
              have HE : Hid (tx (allT b mark (M.take (i + 1))) = tx (allT b mark (M.take i) ++ body b ws) ++ tx ((if mark then b ++ [35, 32, 97, 32, 98] else []) ++ [10])) := by
                show _ = _
                rw [HT.out, allT_snoc, tx_app, rowT]
                simp only [List.append_assoc]
              have HRL : Hid (rowsL 1 (M.take (i + 1)) = rowsL 1 (M.take i) ++ (if ws = [] then [] else [(1 + i, ws)])) := by
                show _ = _
                rw [HT.out, rowsL_snoc, List.length_take, show min i M.length = i by omega]
              obtain ⟨S, hS⟩ : ∃ S, allT b mark (M.take i) ++ body b ws = S := ⟨_, rfl⟩
              have sl : S.length ≤ 2000 := by rw [← hS, List.length_append]; omega
              rw [hS] at HE ⊢
              have z0 := tx_size S
              have z1 := tx_size b
              have z2 : ¬ (9223372036854775807 : Nat) < S.length + b.length := by omega
              have z3 : ¬ (9223372036854775807 : Nat) < S.length + b.length + 5 := by omega
              have z4 : ¬ (9223372036854775807 : Nat) < S.length + b.length + 5 + 1 := by omega
              have z5 : ¬ (9223372036854775807 : Nat) < S.length + 1 := by omega
              clear hall hS s1 s2
              by_cases hw0 : ws = []
              · have g0 : ¬ (0 : Int) < (ws.length : Int) := by rw [hw0]; decide
                have HW0 := Lib.hid hw0
                clear hw0
                cases mark with
                | false =>
                  go_wp2_with fail
                  go_roundw
                  case rel => exact ⟨i + 1, cs, by omega, by go_num, by rw [HE.out]; rfl, HOK3.out, by rw [HRL.out, if_pos HW0.out, List.append_nil]; exact HO.out, by rw [HRL.out, if_pos HW0.out, List.append_nil]; exact HLW.out, hb⟩
                  case measure => simp [intOf]; omega
                | true =>
                  go_wp2_with fail
                  go_roundw
                  case rel => exact ⟨i + 1, cs, by omega, by go_num, by rw [HE.out, if_pos rfl, ← tx_app, ← tx_app]; simp only [ByteArray.append_assoc]; rfl, HOK3.out, by rw [HRL.out, if_pos HW0.out, List.append_nil]; exact HO.out, by rw [HRL.out, if_pos HW0.out, List.append_nil]; exact HLW.out, hb⟩
                  case measure => simp [intOf]; omega
              · have g0 : (0 : Int) < (ws.length : Int) := by have := List.length_pos_iff.2 hw0; omega
                have HW0 := Lib.hid hw0
                clear hw0
                cases mark with
                | false =>
                  go_wp2_with (first | (at_builtin; refine app_line rfl rfl rfl rfl (HO.out.alloc _) (Blk.new _ _ _ rfl) rfl rfl (by omega) (by simp; omega) ?_; intro v' w3 hown3 h3 _; have HO4 := Lib.hid hown3; clear hown3))
                  go_roundw
                  case rel =>
                    refine ⟨i + 1, cs ++ [.int .i64 ((1 + i : Nat) : Int), .slice xa ws.length xc], by omega, by go_num, by rw [HE.out]; rfl, HOK3.out, ?_, ?_, (hb.alloc hB _).trans h3⟩
                    · rw [HRL.out, if_neg HW0.out, show ((1 + i : Nat) : Int) = (i : Int) + 1 by omega]
                      simpa using HO4.out
                    · rw [HRL.out, if_neg HW0.out]
                      exact Lwr.snoc HXS.out HLW.out
                  case measure => simp [intOf]; omega
                | true =>
                  go_wp2_with (first | (at_builtin; refine app_line rfl rfl rfl rfl (HO.out.alloc _) (Blk.new _ _ _ rfl) rfl rfl (by omega) (by simp; omega) ?_; intro v' w3 hown3 h3 _; have HO4 := Lib.hid hown3; clear hown3))
                  go_roundw
                  case rel =>
                    refine ⟨i + 1, cs ++ [.int .i64 ((1 + i : Nat) : Int), .slice xa ws.length xc], by omega, by go_num, by rw [HE.out, if_pos rfl, ← tx_app, ← tx_app]; simp only [ByteArray.append_assoc]; rfl, HOK3.out, ?_, ?_, (hb.alloc hB _).trans h3⟩
                    · rw [HRL.out, if_neg HW0.out, show ((1 + i : Nat) : Int) = (i : Int) + 1 by omega]
                      simpa using HO4.out
                    · rw [HRL.out, if_neg HW0.out]
                      exact Lwr.snoc HXS.out HLW.out
                  case measure => simp [intOf]; omega
      · obtain rfl : i = M.length := by omega
        have hok := HOK.out
        have hown := HO.out
        have hlw := HLW.out
        rw [List.take_length] at hok hown hlw ⊢
        have s1 := allT_len hBK.out mark M hok
        have e := lns_allT hBK.out mark M 1 fun ws h => (hok ws h).2
        have HL := Lib.hid fun w => e ▸ Lines_any (allT b mark M) w (by omega)
        have HRd := Lib.hid (Lwr.rd hown hlw hb)
        have h3 : (rowsL 1 M).length ≤ 1000000 := by have := rowsL_len M 1; omega
        have H4 : Hid (∀ p ∈ rowsL 1 M, p.2.length ≤ 1000000) := by
          show ∀ p ∈ rowsL 1 M, p.2.length ≤ 1000000
          intro p hp
          have := (hok _ (rowsL_in M 1 p hp)).1
          omega
        obtain ⟨L, hL⟩ : ∃ L, rowsL 1 M = L := ⟨_, rfl⟩
        rw [hL] at HL h3 H4 HRd
        clear hok hown hlw s1 e hL HO HLW HOK
        go_wp2_with fail
        refine (HL.out _).mono ?_
        rintro e w3 ⟨x, rfl, hx, hb3⟩
        have HX := Lib.hid hx.rd
        have HV2 := Lib.hid (HRd.out.below hb3)
        replace hb := bthen hb hb3
        clear hx hb3 HRd
        go_wp2_with fail
        refine (same_any x _ L _ h3 H4.out HX.out HV2.out).mono ?_
        rintro e w4 ⟨rfl, hb4⟩
        replace hb := bthen hb hb4
        go_wp2
        go_ret
        exact ⟨rfl, hb⟩
end Go.Proofs.Ytoahkpfngemhcaa
