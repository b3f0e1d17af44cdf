/- Joined of: Ylv Yvs Yls Ylh Ysh Ydr. -/
import Derived.Test.YtpalfmgloddhcaaGreatDoorYlb
/- poly.list at one type. -/
namespace Go.Proofs.YtpalfmgloddhcaaGreatDoor
set_option linter.unusedSimpArgs false
set_option linter.unusedVariables false
open Go.RowKit
set_option maxRecDepth 100000
set_option maxHeartbeats 16000000 in
theorem listV {P : List UInt8 → Prop} {Inv : World → Prop} {w0 : World} {b : Nat} {r : Rd} {w : World} (at_ : Nat) (m_ : Int) {g1 g2 g3 : Nat} (n : Nat) (hn : n ≤ 1000) (h : Rdr w0 b r w) (hok : Okr P r) (hef : Ef r) (hinv : Inv w) (hI1 : ∀ x y, Inv x → Oth b x y → Inv y) (hI2 : ∀ x y, Inv x → Below w.heap.size x y → Inv y)
    (hC : ∀ r' w', Rdr w0 b r' w' → Okr P r' → Inv w' → Calls Tryz.prog 66 #[.pointer (some ⟨g1, 0, none⟩), .pointer (some ⟨g2, 0, none⟩), .pointer (some ⟨g3, 0, none⟩)] w' fun e w'' => e = .returned (.agg (celI ((vVal at_ m_) r')).toArray) ∧ Rdr w0 b ((vSt at_ m_) r') w'' ∧ Oth b w' w'')
    (hs1 : ∀ r', Okr P r' → Okr P ((vSt at_ m_) r')) (hs2 : ∀ r', Ef r' → Ef ((vSt at_ m_) r')) :
    Calls Tryz.prog 65 #[.pointer (some ⟨b, 0, none⟩), .int .i64 (n : Int), .func (.func 66) #[] #[.pointer (some ⟨g1, 0, none⟩), .pointer (some ⟨g2, 0, none⟩), .pointer (some ⟨g3, 0, none⟩)]] w fun e w' => ∃ v, e = .returned (.tuple #[v, .int .i64 (lst (vVal at_ m_) (vSt at_ m_) n 0 0 [] r).2.1]) ∧
      w'.ownsRow w.heap.size 38 3 v (lst (vVal at_ m_) (vSt at_ m_) n 0 0 [] r).1.length ((lst (vVal at_ m_) (vSt at_ m_) n 0 0 [] r).1.flatMap celI) ∧ Rdr w0 b (lst (vVal at_ m_) (vSt at_ m_) n 0 0 [] r).2.2 w' ∧ Oth b w w' := by
  obtain ⟨E, hE⟩ : ∃ E, lst (vVal at_ m_) (vSt at_ m_) n 0 0 [] r = E := ⟨_, rfl⟩
  have HE0 := Lib.hid hE
  have hbB := h.lt
  have hw0B := h.1.size
  have HC := Lib.hid hC
  have H := Lib.hid h
  have HI0 := Lib.hid hinv
  rw [hE]
  clear hE hC h hinv
  go_enter Tryz.func65, Tryz.ntmps65
  go_wp2_with fail
  go_loopw [8, 9, 10] (fun l ff j wr => ∃ (k i : Nat) (f : Int) (acc : List (Int × Int × Int)) (r' : Rd), i + k = n ∧ j = .int .i64 (i : Int) ∧ ff = .int .i64 f ∧ acc.length = i ∧ (-1000000000 < f ∧ f < 1000000000) ∧ wr.ownsRow w.heap.size 38 3 l acc.length (acc.flatMap celI) ∧ Rdr w0 b r' wr ∧ Oth b w wr ∧ Okr P r' ∧ Ef r' ∧ lst (vVal at_ m_) (vSt at_ m_) k i f acc r' = E ∧ Inv wr) (fun _ _ j _ => n - (intOf j).toNat)
  case atStart => exact ⟨n, 0, 0, [], r, by omega, rfl, rfl, rfl, by decide, World.ownsRow_nil _ _ _ _, H.out, Oth.refl _ _, hok, hef, HE0.out, HI0.out⟩
  case round =>
    obtain ⟨k, i, f, acc, r', hik, rfl, rfl, hlen, hf, ho, hr, ht, hok', hef', he, hi⟩ := hrel
    have HO := Lib.hid ho
    have HR := Lib.hid hr
    have HT := Lib.hid ht
    have HOK := Lib.hid hok'
    have HEF := Lib.hid hef'
    have HE := Lib.hid he
    have HI := Lib.hid hi
    obtain ⟨h1, h2, wv, rv, h3, h4, h5⟩ := hr
    have c2 := h3.cell (i := 2) (v := .bool r'.bad) rfl
    clear ho ht hok' hef' he hi h1 h2 h3 h4 h5
    by_cases hlt : i < n
    · cases hb0 : r'.bad
      · rw [hb0] at c2
        obtain ⟨k, rfl⟩ : ∃ k', k = k' + 1 := ⟨k - 1, by omega⟩
        have hk1 : IntKind.i64.wrap ((i : Int) + 1) = (i : Int) + 1 := by rw [IntKind.wrap_i64]; omega
        have HOKn := Lib.hid HOK.out.next
        obtain ⟨m, hm⟩ : ∃ m, r'.next.num = m := ⟨_, rfl⟩
        have hmb : -1000000000 < m ∧ m < 1000000000 := hm ▸ intN_in _
        have HNN := Lib.hid hm
        clear hm
        by_cases hi0 : i = 0
        · have g0 : ((i : Int) == 0) = true := by rw [hi0]; rfl
          have hk2 : IntKind.i64.wrap (m + (i : Int)) = m + (i : Int) := by rw [IntKind.wrap_i64]; omega
          have g2 : (m == m + (i : Int)) = true := by rw [beq_iff_eq]; omega
          have G2 := Lib.hid g2
          have HI0i := Lib.hid hi0
          clear hi0
          go_wp2_with fail
          refine (next_any HR.out HOK.out.wl HEF.out.go HOK.out.rl).mono ?_
          rintro e w1 ⟨rfl, k1, k2⟩
          have HI1 := Lib.hid (hI1 _ _ HI.out k2)
          have HW1 := Lib.hid (owns_oth HO.out k2 hbB)
          have HT1 := Lib.hid (HT.out.trans k2)
          clear k2
          go_wp2_with fail
          refine (among_any k1 HOKn.out.wl HOKn.out.hd.1 (i : Int) ((i : Int) + 1)).mono ?_
          rintro e w2 ⟨rfl, k3, k2⟩
          have HI2 := Lib.hid (hI1 _ _ HI1.out k2)
          have HW2 := Lib.hid (owns_oth HW1.out k2 hbB)
          have HT2 := Lib.hid (HT1.out.trans k2)
          rw [HNN.out]
          clear k1 k2
          go_wp2_with fail
          refine (must_any k3 (true)).mono ?_
          rintro e w3 ⟨rfl, k4, k2⟩
          have HI3 := Lib.hid (hI1 _ _ HI2.out k2)
          have HW3 := Lib.hid (owns_oth HW2.out k2 hbB)
          have HT3 := Lib.hid (HT2.out.trans k2)
          obtain ⟨r3, h3⟩ : ∃ r3, (r'.next.among (i : Int) ((i : Int) + 1)).must (true) = r3 := ⟨_, rfl⟩
          rw [h3] at k4
          have ok3 : Okr P r3 := h3 ▸ (HOKn.out.among _ _).must _
          have ef3 : Ef r3 := h3 ▸ (HEF.out.next.among _ _).must _
          have HE3 := Lib.hid (lst_step (vVal at_ m_) (vSt at_ m_) k i f acc r' hb0 (f' := m) ((by rw [if_pos HI0i.out, HNN.out])) (r3 := r3) (by rw [HNN.out, ← beq_dec, G2.out]; exact h3.symm))
          clear k2 k3 h3
          go_wp2_with fail
          refine (HC.out r3 _ k4 ok3 HI3.out).mono ?_
          rintro e w4 ⟨rfl, k5, k2⟩
          have HI4 := Lib.hid (hI1 _ _ HI3.out k2)
          have HW4 := Lib.hid (owns_oth HW3.out k2 hbB)
          have HT4 := Lib.hid (HT3.out.trans k2)
          have K5 := Lib.hid k5
          have hB4 := HT4.out.size
          clear k2 k4 k5
          go_wp2_with (first | (with_reducible refine one_el Tryz.underlying22 infV (by decide) (by decide) (celI_len _) rfl rfl rfl ?_) | (at_builtin; refine app_el Tryz.underlying22 infV rfl (by decide) (by decide) (celI_len _) (celI_one _) rfl rfl rfl rfl (HW4.out.alloc _) (Blk.new _ _ _ rfl) (by omega) (by simp; omega) ?_; intro v' w5 hown5 h5; have HW5 := Lib.hid hown5; have H5 := Lib.hid h5; clear hown5 h5))
          go_roundw
          case rel =>
            have e6 : (acc ++ [(vVal at_ m_) r3]).flatMap celI = acc.flatMap celI ++ celI ((vVal at_ m_) r3) := by rw [List.flatMap_append]; simp only [List.flatMap_cons, List.flatMap_nil, List.append_nil]
            have l6 : (acc ++ [(vVal at_ m_) r3]).length = acc.length + 1 := by rw [List.length_append]; rfl
            have o6 := HW5.out
            rw [← e6, ← l6] at o6
            have r6 := (K5.out.old (.cells (celI ((vVal at_ m_) r3)).toArray 38)).belowB H5.out hw0B hbB
            have t6 := (HT4.out.old (.cells (celI ((vVal at_ m_) r3)).toArray 38)).belowB H5.out (Nat.le_refl _)
            have i6 := hI2 _ _ (hI2 _ _ HI4.out ((Below.refl _ _).alloc hB4 (.cells (celI ((vVal at_ m_) r3)).toArray 38))) H5.out
            have z6 : lst (vVal at_ m_) (vSt at_ m_) k (i + 1) m (acc ++ [(vVal at_ m_) r3]) ((vSt at_ m_) r3) = E := HE3.out.symm.trans HE.out
            exact ⟨k, i + 1, m, acc ++ [(vVal at_ m_) r3], (vSt at_ m_) r3, by omega, by go_num, rfl, by omega, hmb, o6, r6, t6, hs1 _ ok3, hs2 _ ef3, z6, i6⟩
          case measure => simp [intOf]; omega
        · have g0 : ((i : Int) == 0) = false := by rw [beq_eq_false_iff_ne]; omega
          have hk2 : IntKind.i64.wrap (f + (i : Int)) = f + (i : Int) := by rw [IntKind.wrap_i64]; omega
          have HI0i := Lib.hid hi0
          clear hi0
          cases hx : (m == f + (i : Int))
          · have G2 := Lib.hid hx
            go_wp2_with fail
            refine (next_any HR.out HOK.out.wl HEF.out.go HOK.out.rl).mono ?_
            rintro e w1 ⟨rfl, k1, k2⟩
            have HI1 := Lib.hid (hI1 _ _ HI.out k2)
            have HW1 := Lib.hid (owns_oth HO.out k2 hbB)
            have HT1 := Lib.hid (HT.out.trans k2)
            clear k2
            go_wp2_with fail
            refine (among_any k1 HOKn.out.wl HOKn.out.hd.1 (i : Int) ((i : Int) + 1)).mono ?_
            rintro e w2 ⟨rfl, k3, k2⟩
            have HI2 := Lib.hid (hI1 _ _ HI1.out k2)
            have HW2 := Lib.hid (owns_oth HW1.out k2 hbB)
            have HT2 := Lib.hid (HT1.out.trans k2)
            rw [HNN.out]
            clear k1 k2
            go_wp2_with fail
            refine (must_any k3 (false)).mono ?_
            rintro e w3 ⟨rfl, k4, k2⟩
            have HI3 := Lib.hid (hI1 _ _ HI2.out k2)
            have HW3 := Lib.hid (owns_oth HW2.out k2 hbB)
            have HT3 := Lib.hid (HT2.out.trans k2)
            obtain ⟨r3, h3⟩ : ∃ r3, (r'.next.among (i : Int) ((i : Int) + 1)).must (false) = r3 := ⟨_, rfl⟩
            rw [h3] at k4
            have ok3 : Okr P r3 := h3 ▸ (HOKn.out.among _ _).must _
            have ef3 : Ef r3 := h3 ▸ (HEF.out.next.among _ _).must _
            have HE3 := Lib.hid (lst_step (vVal at_ m_) (vSt at_ m_) k i f acc r' hb0 (f' := f) ((by rw [if_neg HI0i.out])) (r3 := r3) (by rw [HNN.out, ← beq_dec, G2.out]; exact h3.symm))
            clear k2 k3 h3
            go_wp2_with fail
            refine (HC.out r3 _ k4 ok3 HI3.out).mono ?_
            rintro e w4 ⟨rfl, k5, k2⟩
            have HI4 := Lib.hid (hI1 _ _ HI3.out k2)
            have HW4 := Lib.hid (owns_oth HW3.out k2 hbB)
            have HT4 := Lib.hid (HT3.out.trans k2)
            have K5 := Lib.hid k5
            have hB4 := HT4.out.size
            clear k2 k4 k5
            go_wp2_with (first | (with_reducible refine one_el Tryz.underlying22 infV (by decide) (by decide) (celI_len _) rfl rfl rfl ?_) | (at_builtin; refine app_el Tryz.underlying22 infV rfl (by decide) (by decide) (celI_len _) (celI_one _) rfl rfl rfl rfl (HW4.out.alloc _) (Blk.new _ _ _ rfl) (by omega) (by simp; omega) ?_; intro v' w5 hown5 h5; have HW5 := Lib.hid hown5; have H5 := Lib.hid h5; clear hown5 h5))
            go_roundw
            case rel =>
              have e6 : (acc ++ [(vVal at_ m_) r3]).flatMap celI = acc.flatMap celI ++ celI ((vVal at_ m_) r3) := by rw [List.flatMap_append]; simp only [List.flatMap_cons, List.flatMap_nil, List.append_nil]
              have l6 : (acc ++ [(vVal at_ m_) r3]).length = acc.length + 1 := by rw [List.length_append]; rfl
              have o6 := HW5.out
              rw [← e6, ← l6] at o6
              have r6 := (K5.out.old (.cells (celI ((vVal at_ m_) r3)).toArray 38)).belowB H5.out hw0B hbB
              have t6 := (HT4.out.old (.cells (celI ((vVal at_ m_) r3)).toArray 38)).belowB H5.out (Nat.le_refl _)
              have i6 := hI2 _ _ (hI2 _ _ HI4.out ((Below.refl _ _).alloc hB4 (.cells (celI ((vVal at_ m_) r3)).toArray 38))) H5.out
              have z6 : lst (vVal at_ m_) (vSt at_ m_) k (i + 1) f (acc ++ [(vVal at_ m_) r3]) ((vSt at_ m_) r3) = E := HE3.out.symm.trans HE.out
              exact ⟨k, i + 1, f, acc ++ [(vVal at_ m_) r3], (vSt at_ m_) r3, by omega, by go_num, rfl, by omega, hf, o6, r6, t6, hs1 _ ok3, hs2 _ ef3, z6, i6⟩
            case measure => simp [intOf]; omega
          · have G2 := Lib.hid hx
            go_wp2_with fail
            refine (next_any HR.out HOK.out.wl HEF.out.go HOK.out.rl).mono ?_
            rintro e w1 ⟨rfl, k1, k2⟩
            have HI1 := Lib.hid (hI1 _ _ HI.out k2)
            have HW1 := Lib.hid (owns_oth HO.out k2 hbB)
            have HT1 := Lib.hid (HT.out.trans k2)
            clear k2
            go_wp2_with fail
            refine (among_any k1 HOKn.out.wl HOKn.out.hd.1 (i : Int) ((i : Int) + 1)).mono ?_
            rintro e w2 ⟨rfl, k3, k2⟩
            have HI2 := Lib.hid (hI1 _ _ HI1.out k2)
            have HW2 := Lib.hid (owns_oth HW1.out k2 hbB)
            have HT2 := Lib.hid (HT1.out.trans k2)
            rw [HNN.out]
            clear k1 k2
            go_wp2_with fail
            refine (must_any k3 (true)).mono ?_
            rintro e w3 ⟨rfl, k4, k2⟩
            have HI3 := Lib.hid (hI1 _ _ HI2.out k2)
            have HW3 := Lib.hid (owns_oth HW2.out k2 hbB)
            have HT3 := Lib.hid (HT2.out.trans k2)
            obtain ⟨r3, h3⟩ : ∃ r3, (r'.next.among (i : Int) ((i : Int) + 1)).must (true) = r3 := ⟨_, rfl⟩
            rw [h3] at k4
            have ok3 : Okr P r3 := h3 ▸ (HOKn.out.among _ _).must _
            have ef3 : Ef r3 := h3 ▸ (HEF.out.next.among _ _).must _
            have HE3 := Lib.hid (lst_step (vVal at_ m_) (vSt at_ m_) k i f acc r' hb0 (f' := f) ((by rw [if_neg HI0i.out])) (r3 := r3) (by rw [HNN.out, ← beq_dec, G2.out]; exact h3.symm))
            clear k2 k3 h3
            go_wp2_with fail
            refine (HC.out r3 _ k4 ok3 HI3.out).mono ?_
            rintro e w4 ⟨rfl, k5, k2⟩
            have HI4 := Lib.hid (hI1 _ _ HI3.out k2)
            have HW4 := Lib.hid (owns_oth HW3.out k2 hbB)
            have HT4 := Lib.hid (HT3.out.trans k2)
            have K5 := Lib.hid k5
            have hB4 := HT4.out.size
            clear k2 k4 k5
            go_wp2_with (first | (with_reducible refine one_el Tryz.underlying22 infV (by decide) (by decide) (celI_len _) rfl rfl rfl ?_) | (at_builtin; refine app_el Tryz.underlying22 infV rfl (by decide) (by decide) (celI_len _) (celI_one _) rfl rfl rfl rfl (HW4.out.alloc _) (Blk.new _ _ _ rfl) (by omega) (by simp; omega) ?_; intro v' w5 hown5 h5; have HW5 := Lib.hid hown5; have H5 := Lib.hid h5; clear hown5 h5))
            go_roundw
            case rel =>
              have e6 : (acc ++ [(vVal at_ m_) r3]).flatMap celI = acc.flatMap celI ++ celI ((vVal at_ m_) r3) := by rw [List.flatMap_append]; simp only [List.flatMap_cons, List.flatMap_nil, List.append_nil]
              have l6 : (acc ++ [(vVal at_ m_) r3]).length = acc.length + 1 := by rw [List.length_append]; rfl
              have o6 := HW5.out
              rw [← e6, ← l6] at o6
              have r6 := (K5.out.old (.cells (celI ((vVal at_ m_) r3)).toArray 38)).belowB H5.out hw0B hbB
              have t6 := (HT4.out.old (.cells (celI ((vVal at_ m_) r3)).toArray 38)).belowB H5.out (Nat.le_refl _)
              have i6 := hI2 _ _ (hI2 _ _ HI4.out ((Below.refl _ _).alloc hB4 (.cells (celI ((vVal at_ m_) r3)).toArray 38))) H5.out
              have z6 : lst (vVal at_ m_) (vSt at_ m_) k (i + 1) f (acc ++ [(vVal at_ m_) r3]) ((vSt at_ m_) r3) = E := HE3.out.symm.trans HE.out
              exact ⟨k, i + 1, f, acc ++ [(vVal at_ m_) r3], (vSt at_ m_) r3, by omega, by go_num, rfl, by omega, hf, o6, r6, t6, hs1 _ ok3, hs2 _ ef3, z6, i6⟩
            case measure => simp [intOf]; omega
      · rw [hb0] at c2
        have e1 := HE.out
        rw [lst_bad _ _ _ _ _ _ _ hb0] at e1
        have E1 := Lib.hid e1
        clear e1
        go_wp2_with fail
        go_ret2
        rw [← E1.out]
        exact ⟨_, rfl, HO.out, HR.out, HT.out⟩
    · obtain rfl : k = 0 := by omega
      have e1 := HE.out
      rw [lst_zero] at e1
      have E1 := Lib.hid e1
      clear e1
      go_wp2_with fail
      go_ret2
      rw [← E1.out]
      exact ⟨_, rfl, HO.out, HR.out, HT.out⟩
set_option maxHeartbeats 2000000 in
theorem listV_bad {w0 : World} {b : Nat} {r : Rd} {w : World} (at_ : Nat) (m_ : Int) {g1 g2 g3 : Nat} (c : Int) (h : Rdr w0 b r w) (hb : r.bad = true) :
    Calls Tryz.prog 65 #[.pointer (some ⟨b, 0, none⟩), .int .i64 c, .func (.func 66) #[] #[.pointer (some ⟨g1, 0, none⟩), .pointer (some ⟨g2, 0, none⟩), .pointer (some ⟨g3, 0, none⟩)]] w fun e w' => e = .returned (.tuple #[.slice none 0 0, .int .i64 0]) ∧ w' = w := by
  obtain ⟨h1, h2, wv, rv, h3, h4, h5⟩ := h
  have c2 := h3.cell (i := 2) (v := .bool r.bad) rfl
  rw [hb] at c2
  clear h1 h2 h3 h4 h5
  by_cases hc : 0 < c
  · go_enter Tryz.func65, Tryz.ntmps65
    go_wp2_with fail
    refine wp_loop_rounds 1 ?_
    rw [rounds_succ]
    go_wp2_with fail
    go_ret2
    exact ⟨rfl, rfl⟩
  · go_enter Tryz.func65, Tryz.ntmps65
    go_wp2_with fail
    refine wp_loop_rounds 1 ?_
    rw [rounds_succ]
    go_wp2_with fail
    go_ret2
    exact ⟨rfl, rfl⟩
theorem listV_any {P : List UInt8 → Prop} {Inv : World → Prop} {w0 : World} {b : Nat} {r : Rd} {w : World} (at_ : Nat) (m_ : Int) {g1 g2 g3 : Nat} (c : Int) (hc : r.bad = true ∨ (0 ≤ c ∧ c ≤ 1000)) (h : Rdr w0 b r w) (hok : Okr P r) (hef : Ef r) (hinv : Inv w) (hI1 : ∀ x y, Inv x → Oth b x y → Inv y) (hI2 : ∀ x y, Inv x → Below w.heap.size x y → Inv y)
    (hC : ∀ r' w', Rdr w0 b r' w' → Okr P r' → Inv w' → Calls Tryz.prog 66 #[.pointer (some ⟨g1, 0, none⟩), .pointer (some ⟨g2, 0, none⟩), .pointer (some ⟨g3, 0, none⟩)] w' fun e w'' => e = .returned (.agg (celI ((vVal at_ m_) r')).toArray) ∧ Rdr w0 b ((vSt at_ m_) r') w'' ∧ Oth b w' w'')
    (hs1 : ∀ r', Okr P r' → Okr P ((vSt at_ m_) r')) (hs2 : ∀ r', Ef r' → Ef ((vSt at_ m_) r')) :
    Calls Tryz.prog 65 #[.pointer (some ⟨b, 0, none⟩), .int .i64 c, .func (.func 66) #[] #[.pointer (some ⟨g1, 0, none⟩), .pointer (some ⟨g2, 0, none⟩), .pointer (some ⟨g3, 0, none⟩)]] w fun e w' => ∃ v, e = .returned (.tuple #[v, .int .i64 (lst (vVal at_ m_) (vSt at_ m_) c.toNat 0 0 [] r).2.1]) ∧
      w'.ownsRow w.heap.size 38 3 v (lst (vVal at_ m_) (vSt at_ m_) c.toNat 0 0 [] r).1.length ((lst (vVal at_ m_) (vSt at_ m_) c.toNat 0 0 [] r).1.flatMap celI) ∧ Rdr w0 b (lst (vVal at_ m_) (vSt at_ m_) c.toNat 0 0 [] r).2.2 w' ∧ Oth b w w' := by
  rcases hc with hb | ⟨h1, h2⟩
  · rw [lst_bad _ _ _ _ _ _ _ hb]
    refine (listV_bad (w0 := w0) at_ m_ c h hb).mono ?_
    rintro e w' ⟨rfl, rfl⟩
    exact ⟨_, rfl, World.ownsRow_nil _ _ _ _, h, Oth.refl _ _⟩
  · have := listV at_ m_ c.toNat (by omega) h hok hef hinv hI1 hI2 hC hs1 hs2
    rw [show ((c.toNat : Nat) : Int) = c by omega] at this
    exact this
end Go.Proofs.YtpalfmgloddhcaaGreatDoor

/- The reader's three lists: vertices. -/
namespace Go.Proofs.YtpalfmgloddhcaaGreatDoor
set_option linter.unusedSimpArgs false
set_option linter.unusedVariables false
open Go.RowKit
set_option maxRecDepth 100000
set_option maxHeartbeats 8000000 in
theorem vertices_any {P : List UInt8 → Prop} {w0 : World} {b : Nat} {r : Rd} {w : World} (h : Rdr w0 b r w) (hok : Okr P r) (hef : Ef r) :
    Calls Tryz.prog 38 #[.pointer (some ⟨b, 0, none⟩)] w fun e w' => ∃ v, e = .returned (.tuple #[v, .int .i64 (vAll r).2.1]) ∧
      w'.ownsRow w.heap.size 38 3 v (vAll r).1.length ((vAll r).1.flatMap celI) ∧ Rdr w0 b (vAll r).2.2 w' ∧ Oth b w w' := by
  obtain ⟨E, hE⟩ : ∃ E, vAll r = E := ⟨_, rfl⟩
  have HE := Lib.hid hE
  rw [hE]
  clear hE
  have B1 := Blk.new w [.pointer (some ⟨b, 0, none⟩)] 62 rfl
  have hR := h.old (.cells #[.pointer (some ⟨b, 0, none⟩)] 62)
  have HT := Lib.hid ((Oth.refl b w).old (.cells #[.pointer (some ⟨b, 0, none⟩)] 62))
  have n1 := hR.ne B1 (by simp)
  have c1 := B1.cell (i := 0) rfl
  clear h
  go_enter Tryz.func38, Tryz.ntmps38
  go_wp2_with fail
  refine (next_any hR hok.wl hef.go hok.rl).mono ?_
  rintro e w1 ⟨rfl, k1, k2⟩
  replace B1 := B1.oth k2 n1
  replace HT := Lib.hid (HT.out.trans k2)
  replace c1 := B1.cell (i := 0) rfl
  have ok1 := hok.next
  have ef1 := hef.next
  clear hR k2 hok hef
  go_wp2_with fail
  refine (among_any k1 ok1.wl ok1.hd.1 0 1000).mono ?_
  rintro e w2 ⟨rfl, k3, k2⟩
  replace B1 := B1.oth k2 n1
  replace HT := Lib.hid (HT.out.trans k2)
  replace c1 := B1.cell (i := 0) rfl
  have ok2 := ok1.among 0 1000
  have ef2 := ef1.among 0 1000
  have HC := Lib.hid (among_in r.next 0 1000)
  clear k1 k2 ok1 ef1
  go_wp2_with fail
  refine (among_any k3 ok2.wl ok2.hd.1 2 2).mono ?_
  rintro e w3 ⟨rfl, k1, k2⟩
  replace B1 := B1.oth k2 n1
  replace HT := Lib.hid (HT.out.trans k2)
  replace c1 := B1.cell (i := 0) rfl
  have ok3 := ok2.among 2 2
  have ef3 := ef2.among 2 2
  clear k3 k2 ok2 ef2
  go_wp2_with fail
  refine (among_any k1 ok3.wl ok3.hd.1 0 2).mono ?_
  rintro e w4 ⟨rfl, k3, k2⟩
  replace B1 := B1.oth k2 n1
  replace HT := Lib.hid (HT.out.trans k2)
  replace c1 := B1.cell (i := 0) rfl
  have ok4 := ok3.among 0 2
  have ef4 := ef3.among 0 2
  have HA := Lib.hid (among_in ((r.next.among 0 1000).among 2 2) 0 2)
  clear k1 k2 ok3 ef3
  obtain ⟨at1, hat⟩ : ∃ x, ((r.next.among 0 1000).among 2 2).num = x := ⟨_, rfl⟩
  rw [hat] at HA ⊢
  have HAT := Lib.hid hat
  clear hat
  have B2 := Blk.new w4 [.int .i64 at1] 3 rfl
  have n2 := (k3.old (.cells #[.int .i64 at1] 3)).ne B2 (by simp)
  replace B1 := B1.old (.cells #[.int .i64 at1] 3)
  replace c1 := B1.cell (i := 0) rfl
  replace k3 := k3.old (.cells #[.int .i64 at1] 3)
  replace HT := Lib.hid (HT.out.old (.cells #[.int .i64 at1] 3))
  go_wp2_with fail
  generalize w4.alloc (.cells #[.int .i64 at1] 3) = W4 at *
  generalize w4.heap.size = g2 at *
  refine (among_any k3 ok4.wl ok4.hd.1 0 1).mono ?_
  rintro e w5 ⟨rfl, k1, k2⟩
  replace B1 := B1.oth k2 n1
  replace B2 := B2.oth k2 n2
  replace HT := Lib.hid (HT.out.trans k2)
  have ok5 := ok4.among 0 1
  have ef5 := ef4.among 0 1
  clear k3 k2 ok4 ef4
  obtain ⟨r4, hr4⟩ : ∃ x, ((r.next.among 0 1000).among 2 2).among 0 2 = x := ⟨_, rfl⟩
  rw [hr4] at k1 ok5 ef5 HA ⊢
  obtain ⟨m1, hm⟩ : ∃ x, r4.num = x := ⟨_, rfl⟩
  rw [hm] at ⊢
  have HM := Lib.hid hm
  have HR4 := Lib.hid hr4
  clear hm hr4
  have B3 := Blk.new w5 [.int .i64 m1] 3 rfl
  have n3 := (k1.old (.cells #[.int .i64 m1] 3)).ne B3 (by simp)
  replace B1 := B1.old (.cells #[.int .i64 m1] 3)
  replace B2 := B2.old (.cells #[.int .i64 m1] 3)
  replace c1 := B1.cell (i := 0) rfl
  replace k1 := k1.old (.cells #[.int .i64 m1] 3)
  replace HT := Lib.hid (HT.out.old (.cells #[.int .i64 m1] 3))
  go_wp2_with fail
  generalize w5.alloc (.cells #[.int .i64 m1] 3) = W at *
  generalize w5.heap.size = g3 at *
  have eE : E = lst (vVal at1.toNat m1) (vSt at1.toNat m1) r.next.num.toNat 0 0 [] (r4.among 0 1) := by
    rw [← HE.out, ← HM.out, ← HR4.out, ← HAT.out]; rfl
  have EE := Lib.hid eE
  obtain ⟨g1, hg1⟩ : ∃ g, w.heap.size = g := ⟨_, rfl⟩
  have HG1 := Lib.hid hg1
  rw [hg1] at B1 n1 c1 ⊢
  have htz := HT.out.size
  rw [hg1] at htz
  clear eE hg1
  cases hbad : (r4.among 0 1).bad
  · have hc := HC.out
    have ha := HA.out
    have b4 : r4.bad = false := by
      cases hb4 : r4.bad
      · rfl
      · rw [among_bad r4 0 1 hb4] at hbad; cases hbad
    have ha2 : 0 ≤ at1 ∧ at1 ≤ 2 := by
      rcases ha with h | h
      · rw [b4] at h; cases h
      · exact h
    have hc2 : 0 ≤ r.next.num ∧ r.next.num ≤ 1000 := by
      rcases hc with h | h
      · have := among_bad _ 0 2 (among_bad _ 2 2 h)
        rw [HR4.out, b4] at this; cases this
      · exact h
    obtain ⟨a1, rfl⟩ : ∃ a : Nat, at1 = (a : Int) := ⟨at1.toNat, by omega⟩
    have HV := listV_any (P := P) (w0 := w0) (b := b) (w := W) (Inv := fun x => Blk x g1 [.pointer (some ⟨b, 0, none⟩)] 62 ∧ Blk x g2 [.int .i64 (a1 : Int)] 3 ∧ Blk x g3 [.int .i64 m1] 3) a1 m1 (g1 := g1) (g2 := g2) (g3 := g3) r.next.num (.inr hc2) k1 ok5 ef5 ⟨B1, B2, B3⟩
      (fun x y h ho => ⟨h.1.oth ho n1, h.2.1.oth ho n2, h.2.2.oth ho n3⟩)
      (fun x y h hb => ⟨h.1.below hb B1.lt, h.2.1.below hb B2.lt, h.2.2.below hb B3.lt⟩)
      (fun r' w' h1 h2 h3 => vItem a1 m1 h1 h2 (by omega) h3.1 h3.2.1 h3.2.2)
      (fun r' h => ((h.number.number).skip _).mark _) (fun r' h => ((h.number.number).skip _).mark _)
    rw [show ((a1 : Int)).toNat = a1 by omega] at EE
    rw [← EE.out] at HV
    have HVV := Lib.hid HV
    clear HV hc ha ha2 hc2 B1 B2 B3 c1 k1 ok5 ef5 HC HA
    refine HVV.out.mono ?_
    rintro e w6 ⟨v, rfl, o1, q1, q2⟩
    have O1 := Lib.hid (owns_mono o1 htz)
    have Q1 := Lib.hid q1
    have Q2 := Lib.hid (HT.out.trans q2)
    clear o1 q1 q2
    go_wp2
    go_ret2
    exact ⟨_, rfl, by rw [HG1.out]; exact O1.out, Q1.out, Q2.out⟩
  · have e2 := EE.out
    rw [lst_bad _ _ _ _ _ _ _ hbad] at e2
    have E2 := Lib.hid e2
    have HVV := Lib.hid (listV_bad (w0 := w0) 0 0 (g1 := g1) (g2 := g2) (g3 := g3) r.next.num k1 hbad)
    have K1 := Lib.hid k1
    clear e2 B1 B2 B3 c1 ok5 ef5 HC HA k1
    refine HVV.out.mono ?_
    rintro e w6 ⟨rfl, rfl⟩
    go_wp2
    go_ret2
    rw [E2.out]
    exact ⟨_, rfl, World.ownsRow_nil _ _ _ _, K1.out, HT.out⟩
end Go.Proofs.YtpalfmgloddhcaaGreatDoor

/- poly.list at one type. -/
namespace Go.Proofs.YtpalfmgloddhcaaGreatDoor
set_option linter.unusedSimpArgs false
set_option linter.unusedVariables false
open Go.RowKit
set_option maxRecDepth 100000
set_option maxHeartbeats 16000000 in
theorem listS {P : List UInt8 → Prop} {Inv : World → Prop} {w0 : World} {b : Nat} {r : Rd} {w : World} (lo_ hi_ m_ : Int) {g1 g2 g3 g4 : Nat} (n : Nat) (hn : n ≤ 1000) (h : Rdr w0 b r w) (hok : Okr P r) (hef : Ef r) (hinv : Inv w) (hI1 : ∀ x y, Inv x → Oth b x y → Inv y) (hI2 : ∀ x y, Inv x → Below w.heap.size x y → Inv y)
    (hC : ∀ r' w', Rdr w0 b r' w' → Okr P r' → Inv w' → Calls Tryz.prog 71 #[.pointer (some ⟨g1, 0, none⟩), .pointer (some ⟨g2, 0, none⟩), .pointer (some ⟨g3, 0, none⟩), .pointer (some ⟨g4, 0, none⟩)] w' fun e w'' => e = .returned (.agg (celI ((sVal lo_ hi_ m_) r')).toArray) ∧ Rdr w0 b ((sSt lo_ hi_ m_) r') w'' ∧ Oth b w' w'')
    (hs1 : ∀ r', Okr P r' → Okr P ((sSt lo_ hi_ m_) r')) (hs2 : ∀ r', Ef r' → Ef ((sSt lo_ hi_ m_) r')) :
    Calls Tryz.prog 70 #[.pointer (some ⟨b, 0, none⟩), .int .i64 (n : Int), .func (.func 71) #[] #[.pointer (some ⟨g1, 0, none⟩), .pointer (some ⟨g2, 0, none⟩), .pointer (some ⟨g3, 0, none⟩), .pointer (some ⟨g4, 0, none⟩)]] w fun e w' => ∃ v, e = .returned (.tuple #[v, .int .i64 (lst (sVal lo_ hi_ m_) (sSt lo_ hi_ m_) n 0 0 [] r).2.1]) ∧
      w'.ownsRow w.heap.size 41 3 v (lst (sVal lo_ hi_ m_) (sSt lo_ hi_ m_) n 0 0 [] r).1.length ((lst (sVal lo_ hi_ m_) (sSt lo_ hi_ m_) n 0 0 [] r).1.flatMap celI) ∧ Rdr w0 b (lst (sVal lo_ hi_ m_) (sSt lo_ hi_ m_) n 0 0 [] r).2.2 w' ∧ Oth b w w' := by
  obtain ⟨E, hE⟩ : ∃ E, lst (sVal lo_ hi_ m_) (sSt lo_ hi_ m_) n 0 0 [] r = E := ⟨_, rfl⟩
  have HE0 := Lib.hid hE
  have hbB := h.lt
  have hw0B := h.1.size
  have HC := Lib.hid hC
  have H := Lib.hid h
  have HI0 := Lib.hid hinv
  rw [hE]
  clear hE hC h hinv
  go_enter Tryz.func70, Tryz.ntmps70
  go_wp2_with fail
  go_loopw [8, 9, 10] (fun l ff j wr => ∃ (k i : Nat) (f : Int) (acc : List (Int × Int × Int)) (r' : Rd), i + k = n ∧ j = .int .i64 (i : Int) ∧ ff = .int .i64 f ∧ acc.length = i ∧ (-1000000000 < f ∧ f < 1000000000) ∧ wr.ownsRow w.heap.size 41 3 l acc.length (acc.flatMap celI) ∧ Rdr w0 b r' wr ∧ Oth b w wr ∧ Okr P r' ∧ Ef r' ∧ lst (sVal lo_ hi_ m_) (sSt lo_ hi_ m_) k i f acc r' = E ∧ Inv wr) (fun _ _ j _ => n - (intOf j).toNat)
  case atStart => exact ⟨n, 0, 0, [], r, by omega, rfl, rfl, rfl, by decide, World.ownsRow_nil _ _ _ _, H.out, Oth.refl _ _, hok, hef, HE0.out, HI0.out⟩
  case round =>
    obtain ⟨k, i, f, acc, r', hik, rfl, rfl, hlen, hf, ho, hr, ht, hok', hef', he, hi⟩ := hrel
    have HO := Lib.hid ho
    have HR := Lib.hid hr
    have HT := Lib.hid ht
    have HOK := Lib.hid hok'
    have HEF := Lib.hid hef'
    have HE := Lib.hid he
    have HI := Lib.hid hi
    obtain ⟨h1, h2, wv, rv, h3, h4, h5⟩ := hr
    have c2 := h3.cell (i := 2) (v := .bool r'.bad) rfl
    clear ho ht hok' hef' he hi h1 h2 h3 h4 h5
    by_cases hlt : i < n
    · cases hb0 : r'.bad
      · rw [hb0] at c2
        obtain ⟨k, rfl⟩ : ∃ k', k = k' + 1 := ⟨k - 1, by omega⟩
        have hk1 : IntKind.i64.wrap ((i : Int) + 1) = (i : Int) + 1 := by rw [IntKind.wrap_i64]; omega
        have HOKn := Lib.hid HOK.out.next
        obtain ⟨m, hm⟩ : ∃ m, r'.next.num = m := ⟨_, rfl⟩
        have hmb : -1000000000 < m ∧ m < 1000000000 := hm ▸ intN_in _
        have HNN := Lib.hid hm
        clear hm
        by_cases hi0 : i = 0
        · have g0 : ((i : Int) == 0) = true := by rw [hi0]; rfl
          have hk2 : IntKind.i64.wrap (m + (i : Int)) = m + (i : Int) := by rw [IntKind.wrap_i64]; omega
          have g2 : (m == m + (i : Int)) = true := by rw [beq_iff_eq]; omega
          have G2 := Lib.hid g2
          have HI0i := Lib.hid hi0
          clear hi0
          go_wp2_with fail
          refine (next_any HR.out HOK.out.wl HEF.out.go HOK.out.rl).mono ?_
          rintro e w1 ⟨rfl, k1, k2⟩
          have HI1 := Lib.hid (hI1 _ _ HI.out k2)
          have HW1 := Lib.hid (owns_oth HO.out k2 hbB)
          have HT1 := Lib.hid (HT.out.trans k2)
          clear k2
          go_wp2_with fail
          refine (among_any k1 HOKn.out.wl HOKn.out.hd.1 (i : Int) ((i : Int) + 1)).mono ?_
          rintro e w2 ⟨rfl, k3, k2⟩
          have HI2 := Lib.hid (hI1 _ _ HI1.out k2)
          have HW2 := Lib.hid (owns_oth HW1.out k2 hbB)
          have HT2 := Lib.hid (HT1.out.trans k2)
          rw [HNN.out]
          clear k1 k2
          go_wp2_with fail
          refine (must_any k3 (true)).mono ?_
          rintro e w3 ⟨rfl, k4, k2⟩
          have HI3 := Lib.hid (hI1 _ _ HI2.out k2)
          have HW3 := Lib.hid (owns_oth HW2.out k2 hbB)
          have HT3 := Lib.hid (HT2.out.trans k2)
          obtain ⟨r3, h3⟩ : ∃ r3, (r'.next.among (i : Int) ((i : Int) + 1)).must (true) = r3 := ⟨_, rfl⟩
          rw [h3] at k4
          have ok3 : Okr P r3 := h3 ▸ (HOKn.out.among _ _).must _
          have ef3 : Ef r3 := h3 ▸ (HEF.out.next.among _ _).must _
          have HE3 := Lib.hid (lst_step (sVal lo_ hi_ m_) (sSt lo_ hi_ m_) k i f acc r' hb0 (f' := m) ((by rw [if_pos HI0i.out, HNN.out])) (r3 := r3) (by rw [HNN.out, ← beq_dec, G2.out]; exact h3.symm))
          clear k2 k3 h3
          go_wp2_with fail
          refine (HC.out r3 _ k4 ok3 HI3.out).mono ?_
          rintro e w4 ⟨rfl, k5, k2⟩
          have HI4 := Lib.hid (hI1 _ _ HI3.out k2)
          have HW4 := Lib.hid (owns_oth HW3.out k2 hbB)
          have HT4 := Lib.hid (HT3.out.trans k2)
          have K5 := Lib.hid k5
          have hB4 := HT4.out.size
          clear k2 k4 k5
          go_wp2_with (first | (with_reducible refine one_el Tryz.underlying23 infS (by decide) (by decide) (celI_len _) rfl rfl rfl ?_) | (at_builtin; refine app_el Tryz.underlying23 infS rfl (by decide) (by decide) (celI_len _) (celI_one _) rfl rfl rfl rfl (HW4.out.alloc _) (Blk.new _ _ _ rfl) (by omega) (by simp; omega) ?_; intro v' w5 hown5 h5; have HW5 := Lib.hid hown5; have H5 := Lib.hid h5; clear hown5 h5))
          go_roundw
          case rel =>
            have e6 : (acc ++ [(sVal lo_ hi_ m_) r3]).flatMap celI = acc.flatMap celI ++ celI ((sVal lo_ hi_ m_) r3) := by rw [List.flatMap_append]; simp only [List.flatMap_cons, List.flatMap_nil, List.append_nil]
            have l6 : (acc ++ [(sVal lo_ hi_ m_) r3]).length = acc.length + 1 := by rw [List.length_append]; rfl
            have o6 := HW5.out
            rw [← e6, ← l6] at o6
            have r6 := (K5.out.old (.cells (celI ((sVal lo_ hi_ m_) r3)).toArray 41)).belowB H5.out hw0B hbB
            have t6 := (HT4.out.old (.cells (celI ((sVal lo_ hi_ m_) r3)).toArray 41)).belowB H5.out (Nat.le_refl _)
            have i6 := hI2 _ _ (hI2 _ _ HI4.out ((Below.refl _ _).alloc hB4 (.cells (celI ((sVal lo_ hi_ m_) r3)).toArray 41))) H5.out
            have z6 : lst (sVal lo_ hi_ m_) (sSt lo_ hi_ m_) k (i + 1) m (acc ++ [(sVal lo_ hi_ m_) r3]) ((sSt lo_ hi_ m_) r3) = E := HE3.out.symm.trans HE.out
            exact ⟨k, i + 1, m, acc ++ [(sVal lo_ hi_ m_) r3], (sSt lo_ hi_ m_) r3, by omega, by go_num, rfl, by omega, hmb, o6, r6, t6, hs1 _ ok3, hs2 _ ef3, z6, i6⟩
          case measure => simp [intOf]; omega
        · have g0 : ((i : Int) == 0) = false := by rw [beq_eq_false_iff_ne]; omega
          have hk2 : IntKind.i64.wrap (f + (i : Int)) = f + (i : Int) := by rw [IntKind.wrap_i64]; omega
          have HI0i := Lib.hid hi0
          clear hi0
          cases hx : (m == f + (i : Int))
          · have G2 := Lib.hid hx
            go_wp2_with fail
            refine (next_any HR.out HOK.out.wl HEF.out.go HOK.out.rl).mono ?_
            rintro e w1 ⟨rfl, k1, k2⟩
            have HI1 := Lib.hid (hI1 _ _ HI.out k2)
            have HW1 := Lib.hid (owns_oth HO.out k2 hbB)
            have HT1 := Lib.hid (HT.out.trans k2)
            clear k2
            go_wp2_with fail
            refine (among_any k1 HOKn.out.wl HOKn.out.hd.1 (i : Int) ((i : Int) + 1)).mono ?_
            rintro e w2 ⟨rfl, k3, k2⟩
            have HI2 := Lib.hid (hI1 _ _ HI1.out k2)
            have HW2 := Lib.hid (owns_oth HW1.out k2 hbB)
            have HT2 := Lib.hid (HT1.out.trans k2)
            rw [HNN.out]
            clear k1 k2
            go_wp2_with fail
            refine (must_any k3 (false)).mono ?_
            rintro e w3 ⟨rfl, k4, k2⟩
            have HI3 := Lib.hid (hI1 _ _ HI2.out k2)
            have HW3 := Lib.hid (owns_oth HW2.out k2 hbB)
            have HT3 := Lib.hid (HT2.out.trans k2)
            obtain ⟨r3, h3⟩ : ∃ r3, (r'.next.among (i : Int) ((i : Int) + 1)).must (false) = r3 := ⟨_, rfl⟩
            rw [h3] at k4
            have ok3 : Okr P r3 := h3 ▸ (HOKn.out.among _ _).must _
            have ef3 : Ef r3 := h3 ▸ (HEF.out.next.among _ _).must _
            have HE3 := Lib.hid (lst_step (sVal lo_ hi_ m_) (sSt lo_ hi_ m_) k i f acc r' hb0 (f' := f) ((by rw [if_neg HI0i.out])) (r3 := r3) (by rw [HNN.out, ← beq_dec, G2.out]; exact h3.symm))
            clear k2 k3 h3
            go_wp2_with fail
            refine (HC.out r3 _ k4 ok3 HI3.out).mono ?_
            rintro e w4 ⟨rfl, k5, k2⟩
            have HI4 := Lib.hid (hI1 _ _ HI3.out k2)
            have HW4 := Lib.hid (owns_oth HW3.out k2 hbB)
            have HT4 := Lib.hid (HT3.out.trans k2)
            have K5 := Lib.hid k5
            have hB4 := HT4.out.size
            clear k2 k4 k5
            go_wp2_with (first | (with_reducible refine one_el Tryz.underlying23 infS (by decide) (by decide) (celI_len _) rfl rfl rfl ?_) | (at_builtin; refine app_el Tryz.underlying23 infS rfl (by decide) (by decide) (celI_len _) (celI_one _) rfl rfl rfl rfl (HW4.out.alloc _) (Blk.new _ _ _ rfl) (by omega) (by simp; omega) ?_; intro v' w5 hown5 h5; have HW5 := Lib.hid hown5; have H5 := Lib.hid h5; clear hown5 h5))
            go_roundw
            case rel =>
              have e6 : (acc ++ [(sVal lo_ hi_ m_) r3]).flatMap celI = acc.flatMap celI ++ celI ((sVal lo_ hi_ m_) r3) := by rw [List.flatMap_append]; simp only [List.flatMap_cons, List.flatMap_nil, List.append_nil]
              have l6 : (acc ++ [(sVal lo_ hi_ m_) r3]).length = acc.length + 1 := by rw [List.length_append]; rfl
              have o6 := HW5.out
              rw [← e6, ← l6] at o6
              have r6 := (K5.out.old (.cells (celI ((sVal lo_ hi_ m_) r3)).toArray 41)).belowB H5.out hw0B hbB
              have t6 := (HT4.out.old (.cells (celI ((sVal lo_ hi_ m_) r3)).toArray 41)).belowB H5.out (Nat.le_refl _)
              have i6 := hI2 _ _ (hI2 _ _ HI4.out ((Below.refl _ _).alloc hB4 (.cells (celI ((sVal lo_ hi_ m_) r3)).toArray 41))) H5.out
              have z6 : lst (sVal lo_ hi_ m_) (sSt lo_ hi_ m_) k (i + 1) f (acc ++ [(sVal lo_ hi_ m_) r3]) ((sSt lo_ hi_ m_) r3) = E := HE3.out.symm.trans HE.out
              exact ⟨k, i + 1, f, acc ++ [(sVal lo_ hi_ m_) r3], (sSt lo_ hi_ m_) r3, by omega, by go_num, rfl, by omega, hf, o6, r6, t6, hs1 _ ok3, hs2 _ ef3, z6, i6⟩
            case measure => simp [intOf]; omega
          · have G2 := Lib.hid hx
            go_wp2_with fail
            refine (next_any HR.out HOK.out.wl HEF.out.go HOK.out.rl).mono ?_
            rintro e w1 ⟨rfl, k1, k2⟩
            have HI1 := Lib.hid (hI1 _ _ HI.out k2)
            have HW1 := Lib.hid (owns_oth HO.out k2 hbB)
            have HT1 := Lib.hid (HT.out.trans k2)
            clear k2
            go_wp2_with fail
            refine (among_any k1 HOKn.out.wl HOKn.out.hd.1 (i : Int) ((i : Int) + 1)).mono ?_
            rintro e w2 ⟨rfl, k3, k2⟩
            have HI2 := Lib.hid (hI1 _ _ HI1.out k2)
            have HW2 := Lib.hid (owns_oth HW1.out k2 hbB)
            have HT2 := Lib.hid (HT1.out.trans k2)
            rw [HNN.out]
            clear k1 k2
            go_wp2_with fail
            refine (must_any k3 (true)).mono ?_
            rintro e w3 ⟨rfl, k4, k2⟩
            have HI3 := Lib.hid (hI1 _ _ HI2.out k2)
            have HW3 := Lib.hid (owns_oth HW2.out k2 hbB)
            have HT3 := Lib.hid (HT2.out.trans k2)
            obtain ⟨r3, h3⟩ : ∃ r3, (r'.next.among (i : Int) ((i : Int) + 1)).must (true) = r3 := ⟨_, rfl⟩
            rw [h3] at k4
            have ok3 : Okr P r3 := h3 ▸ (HOKn.out.among _ _).must _
            have ef3 : Ef r3 := h3 ▸ (HEF.out.next.among _ _).must _
            have HE3 := Lib.hid (lst_step (sVal lo_ hi_ m_) (sSt lo_ hi_ m_) k i f acc r' hb0 (f' := f) ((by rw [if_neg HI0i.out])) (r3 := r3) (by rw [HNN.out, ← beq_dec, G2.out]; exact h3.symm))
            clear k2 k3 h3
            go_wp2_with fail
            refine (HC.out r3 _ k4 ok3 HI3.out).mono ?_
            rintro e w4 ⟨rfl, k5, k2⟩
            have HI4 := Lib.hid (hI1 _ _ HI3.out k2)
            have HW4 := Lib.hid (owns_oth HW3.out k2 hbB)
            have HT4 := Lib.hid (HT3.out.trans k2)
            have K5 := Lib.hid k5
            have hB4 := HT4.out.size
            clear k2 k4 k5
            go_wp2_with (first | (with_reducible refine one_el Tryz.underlying23 infS (by decide) (by decide) (celI_len _) rfl rfl rfl ?_) | (at_builtin; refine app_el Tryz.underlying23 infS rfl (by decide) (by decide) (celI_len _) (celI_one _) rfl rfl rfl rfl (HW4.out.alloc _) (Blk.new _ _ _ rfl) (by omega) (by simp; omega) ?_; intro v' w5 hown5 h5; have HW5 := Lib.hid hown5; have H5 := Lib.hid h5; clear hown5 h5))
            go_roundw
            case rel =>
              have e6 : (acc ++ [(sVal lo_ hi_ m_) r3]).flatMap celI = acc.flatMap celI ++ celI ((sVal lo_ hi_ m_) r3) := by rw [List.flatMap_append]; simp only [List.flatMap_cons, List.flatMap_nil, List.append_nil]
              have l6 : (acc ++ [(sVal lo_ hi_ m_) r3]).length = acc.length + 1 := by rw [List.length_append]; rfl
              have o6 := HW5.out
              rw [← e6, ← l6] at o6
              have r6 := (K5.out.old (.cells (celI ((sVal lo_ hi_ m_) r3)).toArray 41)).belowB H5.out hw0B hbB
              have t6 := (HT4.out.old (.cells (celI ((sVal lo_ hi_ m_) r3)).toArray 41)).belowB H5.out (Nat.le_refl _)
              have i6 := hI2 _ _ (hI2 _ _ HI4.out ((Below.refl _ _).alloc hB4 (.cells (celI ((sVal lo_ hi_ m_) r3)).toArray 41))) H5.out
              have z6 : lst (sVal lo_ hi_ m_) (sSt lo_ hi_ m_) k (i + 1) f (acc ++ [(sVal lo_ hi_ m_) r3]) ((sSt lo_ hi_ m_) r3) = E := HE3.out.symm.trans HE.out
              exact ⟨k, i + 1, f, acc ++ [(sVal lo_ hi_ m_) r3], (sSt lo_ hi_ m_) r3, by omega, by go_num, rfl, by omega, hf, o6, r6, t6, hs1 _ ok3, hs2 _ ef3, z6, i6⟩
            case measure => simp [intOf]; omega
      · rw [hb0] at c2
        have e1 := HE.out
        rw [lst_bad _ _ _ _ _ _ _ hb0] at e1
        have E1 := Lib.hid e1
        clear e1
        go_wp2_with fail
        go_ret2
        rw [← E1.out]
        exact ⟨_, rfl, HO.out, HR.out, HT.out⟩
    · obtain rfl : k = 0 := by omega
      have e1 := HE.out
      rw [lst_zero] at e1
      have E1 := Lib.hid e1
      clear e1
      go_wp2_with fail
      go_ret2
      rw [← E1.out]
      exact ⟨_, rfl, HO.out, HR.out, HT.out⟩
set_option maxHeartbeats 2000000 in
theorem listS_bad {w0 : World} {b : Nat} {r : Rd} {w : World} (lo_ hi_ m_ : Int) {g1 g2 g3 g4 : Nat} (c : Int) (h : Rdr w0 b r w) (hb : r.bad = true) :
    Calls Tryz.prog 70 #[.pointer (some ⟨b, 0, none⟩), .int .i64 c, .func (.func 71) #[] #[.pointer (some ⟨g1, 0, none⟩), .pointer (some ⟨g2, 0, none⟩), .pointer (some ⟨g3, 0, none⟩), .pointer (some ⟨g4, 0, none⟩)]] w fun e w' => e = .returned (.tuple #[.slice none 0 0, .int .i64 0]) ∧ w' = w := by
  obtain ⟨h1, h2, wv, rv, h3, h4, h5⟩ := h
  have c2 := h3.cell (i := 2) (v := .bool r.bad) rfl
  rw [hb] at c2
  clear h1 h2 h3 h4 h5
  by_cases hc : 0 < c
  · go_enter Tryz.func70, Tryz.ntmps70
    go_wp2_with fail
    refine wp_loop_rounds 1 ?_
    rw [rounds_succ]
    go_wp2_with fail
    go_ret2
    exact ⟨rfl, rfl⟩
  · go_enter Tryz.func70, Tryz.ntmps70
    go_wp2_with fail
    refine wp_loop_rounds 1 ?_
    rw [rounds_succ]
    go_wp2_with fail
    go_ret2
    exact ⟨rfl, rfl⟩
theorem listS_any {P : List UInt8 → Prop} {Inv : World → Prop} {w0 : World} {b : Nat} {r : Rd} {w : World} (lo_ hi_ m_ : Int) {g1 g2 g3 g4 : Nat} (c : Int) (hc : r.bad = true ∨ (0 ≤ c ∧ c ≤ 1000)) (h : Rdr w0 b r w) (hok : Okr P r) (hef : Ef r) (hinv : Inv w) (hI1 : ∀ x y, Inv x → Oth b x y → Inv y) (hI2 : ∀ x y, Inv x → Below w.heap.size x y → Inv y)
    (hC : ∀ r' w', Rdr w0 b r' w' → Okr P r' → Inv w' → Calls Tryz.prog 71 #[.pointer (some ⟨g1, 0, none⟩), .pointer (some ⟨g2, 0, none⟩), .pointer (some ⟨g3, 0, none⟩), .pointer (some ⟨g4, 0, none⟩)] w' fun e w'' => e = .returned (.agg (celI ((sVal lo_ hi_ m_) r')).toArray) ∧ Rdr w0 b ((sSt lo_ hi_ m_) r') w'' ∧ Oth b w' w'')
    (hs1 : ∀ r', Okr P r' → Okr P ((sSt lo_ hi_ m_) r')) (hs2 : ∀ r', Ef r' → Ef ((sSt lo_ hi_ m_) r')) :
    Calls Tryz.prog 70 #[.pointer (some ⟨b, 0, none⟩), .int .i64 c, .func (.func 71) #[] #[.pointer (some ⟨g1, 0, none⟩), .pointer (some ⟨g2, 0, none⟩), .pointer (some ⟨g3, 0, none⟩), .pointer (some ⟨g4, 0, none⟩)]] w fun e w' => ∃ v, e = .returned (.tuple #[v, .int .i64 (lst (sVal lo_ hi_ m_) (sSt lo_ hi_ m_) c.toNat 0 0 [] r).2.1]) ∧
      w'.ownsRow w.heap.size 41 3 v (lst (sVal lo_ hi_ m_) (sSt lo_ hi_ m_) c.toNat 0 0 [] r).1.length ((lst (sVal lo_ hi_ m_) (sSt lo_ hi_ m_) c.toNat 0 0 [] r).1.flatMap celI) ∧ Rdr w0 b (lst (sVal lo_ hi_ m_) (sSt lo_ hi_ m_) c.toNat 0 0 [] r).2.2 w' ∧ Oth b w w' := by
  rcases hc with hb | ⟨h1, h2⟩
  · rw [lst_bad _ _ _ _ _ _ _ hb]
    refine (listS_bad (w0 := w0) lo_ hi_ m_ c h hb).mono ?_
    rintro e w' ⟨rfl, rfl⟩
    exact ⟨_, rfl, World.ownsRow_nil _ _ _ _, h, Oth.refl _ _⟩
  · have := listS lo_ hi_ m_ c.toNat (by omega) h hok hef hinv hI1 hI2 hC hs1 hs2
    rw [show ((c.toNat : Nat) : Int) = c by omega] at this
    exact this
end Go.Proofs.YtpalfmgloddhcaaGreatDoor

/- poly.list at one type. -/
namespace Go.Proofs.YtpalfmgloddhcaaGreatDoor
set_option linter.unusedSimpArgs false
set_option linter.unusedVariables false
open Go.RowKit
set_option maxRecDepth 100000
set_option maxHeartbeats 16000000 in
theorem listH {P : List UInt8 → Prop} {Inv : World → Prop} {w0 : World} {b : Nat} {r : Rd} {w : World} (fq_ : List UInt8 → Int × Int) (ok_ : List UInt8 → Bool) {g1 : Nat} (n : Nat) (hn : n ≤ 1000) (h : Rdr w0 b r w) (hok : Okr P r) (hef : Ef r) (hinv : Inv w) (hI1 : ∀ x y, Inv x → Oth b x y → Inv y) (hI2 : ∀ x y, Inv x → Below w.heap.size x y → Inv y)
    (hC : ∀ r' w', Rdr w0 b r' w' → Okr P r' → Inv w' → Calls Tryz.prog 73 #[.pointer (some ⟨g1, 0, none⟩)] w' fun e w'' => e = .returned (.agg (celH ((hVal fq_ ok_) r')).toArray) ∧ Rdr w0 b ((hSt ok_) r') w'' ∧ Oth b w' w'')
    (hs1 : ∀ r', Okr P r' → Okr P ((hSt ok_) r')) (hs2 : ∀ r', Ef r' → Ef ((hSt ok_) r')) :
    Calls Tryz.prog 72 #[.pointer (some ⟨b, 0, none⟩), .int .i64 (n : Int), .func (.func 73) #[] #[.pointer (some ⟨g1, 0, none⟩)]] w fun e w' => ∃ v, e = .returned (.tuple #[v, .int .i64 (lst (hVal fq_ ok_) (hSt ok_) n 0 0 [] r).2.1]) ∧
      w'.ownsRow w.heap.size 51 132 v (lst (hVal fq_ ok_) (hSt ok_) n 0 0 [] r).1.length ((lst (hVal fq_ ok_) (hSt ok_) n 0 0 [] r).1.flatMap celH) ∧ Rdr w0 b (lst (hVal fq_ ok_) (hSt ok_) n 0 0 [] r).2.2 w' ∧ Oth b w w' := by
  obtain ⟨E, hE⟩ : ∃ E, lst (hVal fq_ ok_) (hSt ok_) n 0 0 [] r = E := ⟨_, rfl⟩
  have HE0 := Lib.hid hE
  have hbB := h.lt
  have hw0B := h.1.size
  have HC := Lib.hid hC
  have H := Lib.hid h
  have HI0 := Lib.hid hinv
  rw [hE]
  clear hE hC h hinv
  go_enter Tryz.func72, Tryz.ntmps72
  go_wp2_with fail
  go_loopw [8, 9, 10] (fun l ff j wr => ∃ (k i : Nat) (f : Int) (acc : List ((Int × Int) × (Int × Int))) (r' : Rd), i + k = n ∧ j = .int .i64 (i : Int) ∧ ff = .int .i64 f ∧ acc.length = i ∧ (-1000000000 < f ∧ f < 1000000000) ∧ wr.ownsRow w.heap.size 51 132 l acc.length (acc.flatMap celH) ∧ Rdr w0 b r' wr ∧ Oth b w wr ∧ Okr P r' ∧ Ef r' ∧ lst (hVal fq_ ok_) (hSt ok_) k i f acc r' = E ∧ Inv wr) (fun _ _ j _ => n - (intOf j).toNat)
  case atStart => exact ⟨n, 0, 0, [], r, by omega, rfl, rfl, rfl, by decide, World.ownsRow_nil _ _ _ _, H.out, Oth.refl _ _, hok, hef, HE0.out, HI0.out⟩
  case round =>
    obtain ⟨k, i, f, acc, r', hik, rfl, rfl, hlen, hf, ho, hr, ht, hok', hef', he, hi⟩ := hrel
    have HO := Lib.hid ho
    have HR := Lib.hid hr
    have HT := Lib.hid ht
    have HOK := Lib.hid hok'
    have HEF := Lib.hid hef'
    have HE := Lib.hid he
    have HI := Lib.hid hi
    obtain ⟨h1, h2, wv, rv, h3, h4, h5⟩ := hr
    have c2 := h3.cell (i := 2) (v := .bool r'.bad) rfl
    clear ho ht hok' hef' he hi h1 h2 h3 h4 h5
    by_cases hlt : i < n
    · cases hb0 : r'.bad
      · rw [hb0] at c2
        obtain ⟨k, rfl⟩ : ∃ k', k = k' + 1 := ⟨k - 1, by omega⟩
        have hk1 : IntKind.i64.wrap ((i : Int) + 1) = (i : Int) + 1 := by rw [IntKind.wrap_i64]; omega
        have HOKn := Lib.hid HOK.out.next
        obtain ⟨m, hm⟩ : ∃ m, r'.next.num = m := ⟨_, rfl⟩
        have hmb : -1000000000 < m ∧ m < 1000000000 := hm ▸ intN_in _
        have HNN := Lib.hid hm
        clear hm
        by_cases hi0 : i = 0
        · have g0 : ((i : Int) == 0) = true := by rw [hi0]; rfl
          have hk2 : IntKind.i64.wrap (m + (i : Int)) = m + (i : Int) := by rw [IntKind.wrap_i64]; omega
          have g2 : (m == m + (i : Int)) = true := by rw [beq_iff_eq]; omega
          have G2 := Lib.hid g2
          have HI0i := Lib.hid hi0
          clear hi0
          go_wp2_with fail
          refine (next_any HR.out HOK.out.wl HEF.out.go HOK.out.rl).mono ?_
          rintro e w1 ⟨rfl, k1, k2⟩
          have HI1 := Lib.hid (hI1 _ _ HI.out k2)
          have HW1 := Lib.hid (owns_oth HO.out k2 hbB)
          have HT1 := Lib.hid (HT.out.trans k2)
          clear k2
          go_wp2_with fail
          refine (among_any k1 HOKn.out.wl HOKn.out.hd.1 (i : Int) ((i : Int) + 1)).mono ?_
          rintro e w2 ⟨rfl, k3, k2⟩
          have HI2 := Lib.hid (hI1 _ _ HI1.out k2)
          have HW2 := Lib.hid (owns_oth HW1.out k2 hbB)
          have HT2 := Lib.hid (HT1.out.trans k2)
          rw [HNN.out]
          clear k1 k2
          go_wp2_with fail
          refine (must_any k3 (true)).mono ?_
          rintro e w3 ⟨rfl, k4, k2⟩
          have HI3 := Lib.hid (hI1 _ _ HI2.out k2)
          have HW3 := Lib.hid (owns_oth HW2.out k2 hbB)
          have HT3 := Lib.hid (HT2.out.trans k2)
          obtain ⟨r3, h3⟩ : ∃ r3, (r'.next.among (i : Int) ((i : Int) + 1)).must (true) = r3 := ⟨_, rfl⟩
          rw [h3] at k4
          have ok3 : Okr P r3 := h3 ▸ (HOKn.out.among _ _).must _
          have ef3 : Ef r3 := h3 ▸ (HEF.out.next.among _ _).must _
          have HE3 := Lib.hid (lst_step (hVal fq_ ok_) (hSt ok_) k i f acc r' hb0 (f' := m) ((by rw [if_pos HI0i.out, HNN.out])) (r3 := r3) (by rw [HNN.out, ← beq_dec, G2.out]; exact h3.symm))
          clear k2 k3 h3
          go_wp2_with fail
          refine (HC.out r3 _ k4 ok3 HI3.out).mono ?_
          rintro e w4 ⟨rfl, k5, k2⟩
          have HI4 := Lib.hid (hI1 _ _ HI3.out k2)
          have HW4 := Lib.hid (owns_oth HW3.out k2 hbB)
          have HT4 := Lib.hid (HT3.out.trans k2)
          have K5 := Lib.hid k5
          have hB4 := HT4.out.size
          clear k2 k4 k5
          go_wp2_with (first | (with_reducible refine one_el Tryz.underlying24 infH (by decide) (by decide) (celH_len _) rfl rfl rfl ?_) | (at_builtin; refine app_el Tryz.underlying24 infH p0_len (by decide) (by decide) (celH_len _) (celH_one _) rfl rfl rfl rfl (HW4.out.alloc _) (Blk.new _ _ _ rfl) (by omega) (by simp; omega) ?_; intro v' w5 hown5 h5; have HW5 := Lib.hid hown5; have H5 := Lib.hid h5; clear hown5 h5))
          go_roundw
          case rel =>
            have e6 : (acc ++ [(hVal fq_ ok_) r3]).flatMap celH = acc.flatMap celH ++ celH ((hVal fq_ ok_) r3) := by rw [List.flatMap_append]; simp only [List.flatMap_cons, List.flatMap_nil, List.append_nil]
            have l6 : (acc ++ [(hVal fq_ ok_) r3]).length = acc.length + 1 := by rw [List.length_append]; rfl
            have o6 := HW5.out
            rw [← e6, ← l6] at o6
            have r6 := (K5.out.old (.cells (celH ((hVal fq_ ok_) r3)).toArray 51)).belowB H5.out hw0B hbB
            have t6 := (HT4.out.old (.cells (celH ((hVal fq_ ok_) r3)).toArray 51)).belowB H5.out (Nat.le_refl _)
            have i6 := hI2 _ _ (hI2 _ _ HI4.out ((Below.refl _ _).alloc hB4 (.cells (celH ((hVal fq_ ok_) r3)).toArray 51))) H5.out
            have z6 : lst (hVal fq_ ok_) (hSt ok_) k (i + 1) m (acc ++ [(hVal fq_ ok_) r3]) ((hSt ok_) r3) = E := HE3.out.symm.trans HE.out
            exact ⟨k, i + 1, m, acc ++ [(hVal fq_ ok_) r3], (hSt ok_) r3, by omega, by go_num, rfl, by omega, hmb, o6, r6, t6, hs1 _ ok3, hs2 _ ef3, z6, i6⟩
          case measure => simp [intOf]; omega
        · have g0 : ((i : Int) == 0) = false := by rw [beq_eq_false_iff_ne]; omega
          have hk2 : IntKind.i64.wrap (f + (i : Int)) = f + (i : Int) := by rw [IntKind.wrap_i64]; omega
          have HI0i := Lib.hid hi0
          clear hi0
          cases hx : (m == f + (i : Int))
          · have G2 := Lib.hid hx
            go_wp2_with fail
            refine (next_any HR.out HOK.out.wl HEF.out.go HOK.out.rl).mono ?_
            rintro e w1 ⟨rfl, k1, k2⟩
            have HI1 := Lib.hid (hI1 _ _ HI.out k2)
            have HW1 := Lib.hid (owns_oth HO.out k2 hbB)
            have HT1 := Lib.hid (HT.out.trans k2)
            clear k2
            go_wp2_with fail
            refine (among_any k1 HOKn.out.wl HOKn.out.hd.1 (i : Int) ((i : Int) + 1)).mono ?_
            rintro e w2 ⟨rfl, k3, k2⟩
            have HI2 := Lib.hid (hI1 _ _ HI1.out k2)
            have HW2 := Lib.hid (owns_oth HW1.out k2 hbB)
            have HT2 := Lib.hid (HT1.out.trans k2)
            rw [HNN.out]
            clear k1 k2
            go_wp2_with fail
            refine (must_any k3 (false)).mono ?_
            rintro e w3 ⟨rfl, k4, k2⟩
            have HI3 := Lib.hid (hI1 _ _ HI2.out k2)
            have HW3 := Lib.hid (owns_oth HW2.out k2 hbB)
            have HT3 := Lib.hid (HT2.out.trans k2)
            obtain ⟨r3, h3⟩ : ∃ r3, (r'.next.among (i : Int) ((i : Int) + 1)).must (false) = r3 := ⟨_, rfl⟩
            rw [h3] at k4
            have ok3 : Okr P r3 := h3 ▸ (HOKn.out.among _ _).must _
            have ef3 : Ef r3 := h3 ▸ (HEF.out.next.among _ _).must _
            have HE3 := Lib.hid (lst_step (hVal fq_ ok_) (hSt ok_) k i f acc r' hb0 (f' := f) ((by rw [if_neg HI0i.out])) (r3 := r3) (by rw [HNN.out, ← beq_dec, G2.out]; exact h3.symm))
            clear k2 k3 h3
            go_wp2_with fail
            refine (HC.out r3 _ k4 ok3 HI3.out).mono ?_
            rintro e w4 ⟨rfl, k5, k2⟩
            have HI4 := Lib.hid (hI1 _ _ HI3.out k2)
            have HW4 := Lib.hid (owns_oth HW3.out k2 hbB)
            have HT4 := Lib.hid (HT3.out.trans k2)
            have K5 := Lib.hid k5
            have hB4 := HT4.out.size
            clear k2 k4 k5
            go_wp2_with (first | (with_reducible refine one_el Tryz.underlying24 infH (by decide) (by decide) (celH_len _) rfl rfl rfl ?_) | (at_builtin; refine app_el Tryz.underlying24 infH p0_len (by decide) (by decide) (celH_len _) (celH_one _) rfl rfl rfl rfl (HW4.out.alloc _) (Blk.new _ _ _ rfl) (by omega) (by simp; omega) ?_; intro v' w5 hown5 h5; have HW5 := Lib.hid hown5; have H5 := Lib.hid h5; clear hown5 h5))
            go_roundw
            case rel =>
              have e6 : (acc ++ [(hVal fq_ ok_) r3]).flatMap celH = acc.flatMap celH ++ celH ((hVal fq_ ok_) r3) := by rw [List.flatMap_append]; simp only [List.flatMap_cons, List.flatMap_nil, List.append_nil]
              have l6 : (acc ++ [(hVal fq_ ok_) r3]).length = acc.length + 1 := by rw [List.length_append]; rfl
              have o6 := HW5.out
              rw [← e6, ← l6] at o6
              have r6 := (K5.out.old (.cells (celH ((hVal fq_ ok_) r3)).toArray 51)).belowB H5.out hw0B hbB
              have t6 := (HT4.out.old (.cells (celH ((hVal fq_ ok_) r3)).toArray 51)).belowB H5.out (Nat.le_refl _)
              have i6 := hI2 _ _ (hI2 _ _ HI4.out ((Below.refl _ _).alloc hB4 (.cells (celH ((hVal fq_ ok_) r3)).toArray 51))) H5.out
              have z6 : lst (hVal fq_ ok_) (hSt ok_) k (i + 1) f (acc ++ [(hVal fq_ ok_) r3]) ((hSt ok_) r3) = E := HE3.out.symm.trans HE.out
              exact ⟨k, i + 1, f, acc ++ [(hVal fq_ ok_) r3], (hSt ok_) r3, by omega, by go_num, rfl, by omega, hf, o6, r6, t6, hs1 _ ok3, hs2 _ ef3, z6, i6⟩
            case measure => simp [intOf]; omega
          · have G2 := Lib.hid hx
            go_wp2_with fail
            refine (next_any HR.out HOK.out.wl HEF.out.go HOK.out.rl).mono ?_
            rintro e w1 ⟨rfl, k1, k2⟩
            have HI1 := Lib.hid (hI1 _ _ HI.out k2)
            have HW1 := Lib.hid (owns_oth HO.out k2 hbB)
            have HT1 := Lib.hid (HT.out.trans k2)
            clear k2
            go_wp2_with fail
            refine (among_any k1 HOKn.out.wl HOKn.out.hd.1 (i : Int) ((i : Int) + 1)).mono ?_
            rintro e w2 ⟨rfl, k3, k2⟩
            have HI2 := Lib.hid (hI1 _ _ HI1.out k2)
            have HW2 := Lib.hid (owns_oth HW1.out k2 hbB)
            have HT2 := Lib.hid (HT1.out.trans k2)
            rw [HNN.out]
            clear k1 k2
            go_wp2_with fail
            refine (must_any k3 (true)).mono ?_
            rintro e w3 ⟨rfl, k4, k2⟩
            have HI3 := Lib.hid (hI1 _ _ HI2.out k2)
            have HW3 := Lib.hid (owns_oth HW2.out k2 hbB)
            have HT3 := Lib.hid (HT2.out.trans k2)
            obtain ⟨r3, h3⟩ : ∃ r3, (r'.next.among (i : Int) ((i : Int) + 1)).must (true) = r3 := ⟨_, rfl⟩
            rw [h3] at k4
            have ok3 : Okr P r3 := h3 ▸ (HOKn.out.among _ _).must _
            have ef3 : Ef r3 := h3 ▸ (HEF.out.next.among _ _).must _
            have HE3 := Lib.hid (lst_step (hVal fq_ ok_) (hSt ok_) k i f acc r' hb0 (f' := f) ((by rw [if_neg HI0i.out])) (r3 := r3) (by rw [HNN.out, ← beq_dec, G2.out]; exact h3.symm))
            clear k2 k3 h3
            go_wp2_with fail
            refine (HC.out r3 _ k4 ok3 HI3.out).mono ?_
            rintro e w4 ⟨rfl, k5, k2⟩
            have HI4 := Lib.hid (hI1 _ _ HI3.out k2)
            have HW4 := Lib.hid (owns_oth HW3.out k2 hbB)
            have HT4 := Lib.hid (HT3.out.trans k2)
            have K5 := Lib.hid k5
            have hB4 := HT4.out.size
            clear k2 k4 k5
            go_wp2_with (first | (with_reducible refine one_el Tryz.underlying24 infH (by decide) (by decide) (celH_len _) rfl rfl rfl ?_) | (at_builtin; refine app_el Tryz.underlying24 infH p0_len (by decide) (by decide) (celH_len _) (celH_one _) rfl rfl rfl rfl (HW4.out.alloc _) (Blk.new _ _ _ rfl) (by omega) (by simp; omega) ?_; intro v' w5 hown5 h5; have HW5 := Lib.hid hown5; have H5 := Lib.hid h5; clear hown5 h5))
            go_roundw
            case rel =>
              have e6 : (acc ++ [(hVal fq_ ok_) r3]).flatMap celH = acc.flatMap celH ++ celH ((hVal fq_ ok_) r3) := by rw [List.flatMap_append]; simp only [List.flatMap_cons, List.flatMap_nil, List.append_nil]
              have l6 : (acc ++ [(hVal fq_ ok_) r3]).length = acc.length + 1 := by rw [List.length_append]; rfl
              have o6 := HW5.out
              rw [← e6, ← l6] at o6
              have r6 := (K5.out.old (.cells (celH ((hVal fq_ ok_) r3)).toArray 51)).belowB H5.out hw0B hbB
              have t6 := (HT4.out.old (.cells (celH ((hVal fq_ ok_) r3)).toArray 51)).belowB H5.out (Nat.le_refl _)
              have i6 := hI2 _ _ (hI2 _ _ HI4.out ((Below.refl _ _).alloc hB4 (.cells (celH ((hVal fq_ ok_) r3)).toArray 51))) H5.out
              have z6 : lst (hVal fq_ ok_) (hSt ok_) k (i + 1) f (acc ++ [(hVal fq_ ok_) r3]) ((hSt ok_) r3) = E := HE3.out.symm.trans HE.out
              exact ⟨k, i + 1, f, acc ++ [(hVal fq_ ok_) r3], (hSt ok_) r3, by omega, by go_num, rfl, by omega, hf, o6, r6, t6, hs1 _ ok3, hs2 _ ef3, z6, i6⟩
            case measure => simp [intOf]; omega
      · rw [hb0] at c2
        have e1 := HE.out
        rw [lst_bad _ _ _ _ _ _ _ hb0] at e1
        have E1 := Lib.hid e1
        clear e1
        go_wp2_with fail
        go_ret2
        rw [← E1.out]
        exact ⟨_, rfl, HO.out, HR.out, HT.out⟩
    · obtain rfl : k = 0 := by omega
      have e1 := HE.out
      rw [lst_zero] at e1
      have E1 := Lib.hid e1
      clear e1
      go_wp2_with fail
      go_ret2
      rw [← E1.out]
      exact ⟨_, rfl, HO.out, HR.out, HT.out⟩
set_option maxHeartbeats 2000000 in
theorem listH_bad {w0 : World} {b : Nat} {r : Rd} {w : World} (fq_ : List UInt8 → Int × Int) (ok_ : List UInt8 → Bool) {g1 : Nat} (c : Int) (h : Rdr w0 b r w) (hb : r.bad = true) :
    Calls Tryz.prog 72 #[.pointer (some ⟨b, 0, none⟩), .int .i64 c, .func (.func 73) #[] #[.pointer (some ⟨g1, 0, none⟩)]] w fun e w' => e = .returned (.tuple #[.slice none 0 0, .int .i64 0]) ∧ w' = w := by
  obtain ⟨h1, h2, wv, rv, h3, h4, h5⟩ := h
  have c2 := h3.cell (i := 2) (v := .bool r.bad) rfl
  rw [hb] at c2
  clear h1 h2 h3 h4 h5
  by_cases hc : 0 < c
  · go_enter Tryz.func72, Tryz.ntmps72
    go_wp2_with fail
    refine wp_loop_rounds 1 ?_
    rw [rounds_succ]
    go_wp2_with fail
    go_ret2
    exact ⟨rfl, rfl⟩
  · go_enter Tryz.func72, Tryz.ntmps72
    go_wp2_with fail
    refine wp_loop_rounds 1 ?_
    rw [rounds_succ]
    go_wp2_with fail
    go_ret2
    exact ⟨rfl, rfl⟩
theorem listH_any {P : List UInt8 → Prop} {Inv : World → Prop} {w0 : World} {b : Nat} {r : Rd} {w : World} (fq_ : List UInt8 → Int × Int) (ok_ : List UInt8 → Bool) {g1 : Nat} (c : Int) (hc : r.bad = true ∨ (0 ≤ c ∧ c ≤ 1000)) (h : Rdr w0 b r w) (hok : Okr P r) (hef : Ef r) (hinv : Inv w) (hI1 : ∀ x y, Inv x → Oth b x y → Inv y) (hI2 : ∀ x y, Inv x → Below w.heap.size x y → Inv y)
    (hC : ∀ r' w', Rdr w0 b r' w' → Okr P r' → Inv w' → Calls Tryz.prog 73 #[.pointer (some ⟨g1, 0, none⟩)] w' fun e w'' => e = .returned (.agg (celH ((hVal fq_ ok_) r')).toArray) ∧ Rdr w0 b ((hSt ok_) r') w'' ∧ Oth b w' w'')
    (hs1 : ∀ r', Okr P r' → Okr P ((hSt ok_) r')) (hs2 : ∀ r', Ef r' → Ef ((hSt ok_) r')) :
    Calls Tryz.prog 72 #[.pointer (some ⟨b, 0, none⟩), .int .i64 c, .func (.func 73) #[] #[.pointer (some ⟨g1, 0, none⟩)]] w fun e w' => ∃ v, e = .returned (.tuple #[v, .int .i64 (lst (hVal fq_ ok_) (hSt ok_) c.toNat 0 0 [] r).2.1]) ∧
      w'.ownsRow w.heap.size 51 132 v (lst (hVal fq_ ok_) (hSt ok_) c.toNat 0 0 [] r).1.length ((lst (hVal fq_ ok_) (hSt ok_) c.toNat 0 0 [] r).1.flatMap celH) ∧ Rdr w0 b (lst (hVal fq_ ok_) (hSt ok_) c.toNat 0 0 [] r).2.2 w' ∧ Oth b w w' := by
  rcases hc with hb | ⟨h1, h2⟩
  · rw [lst_bad _ _ _ _ _ _ _ hb]
    refine (listH_bad (w0 := w0) fq_ ok_ c h hb).mono ?_
    rintro e w' ⟨rfl, rfl⟩
    exact ⟨_, rfl, World.ownsRow_nil _ _ _ _, h, Oth.refl _ _⟩
  · have := listH fq_ ok_ c.toNat (by omega) h hok hef hinv hI1 hI2 hC hs1 hs2
    rw [show ((c.toNat : Nat) : Int) = c by omega] at this
    exact this
end Go.Proofs.YtpalfmgloddhcaaGreatDoor

/- The reader's three lists: segments, holes. -/
namespace Go.Proofs.YtpalfmgloddhcaaGreatDoor
set_option linter.unusedSimpArgs false
set_option linter.unusedVariables false
open Go.RowKit
set_option maxRecDepth 100000
set_option maxHeartbeats 8000000 in
theorem segments_any {P : List UInt8 → Prop} {w0 : World} {b : Nat} {r : Rd} {w : World} (lo hi : Int) (h : Rdr w0 b r w) (hok : Okr P r) (hef : Ef r) (hlo : -4000000000 ≤ lo ∧ lo ≤ 4000000000) :
    Calls Tryz.prog 39 #[.pointer (some ⟨b, 0, none⟩), .int .i64 lo, .int .i64 hi] w fun e w' => ∃ v, e = .returned v ∧
      w'.ownsRow w.heap.size 41 3 v (sAll lo hi r).1.length ((sAll lo hi r).1.flatMap celI) ∧ Rdr w0 b (sAll lo hi r).2.2 w' ∧ Oth b w w' := by
  obtain ⟨E, hE⟩ : ∃ E, sAll lo hi r = E := ⟨_, rfl⟩
  have HE := Lib.hid hE
  rw [hE]
  clear hE
  have X1 := Blk.new w [.pointer (some ⟨b, 0, none⟩)] 62 rfl
  have X2 := Blk.new (w.alloc (.cells #[.pointer (some ⟨b, 0, none⟩)] 62)) [.int .i64 lo] 3 (b := w.heap.size + 1) (by simp)
  have X3 := Blk.new ((w.alloc (.cells #[.pointer (some ⟨b, 0, none⟩)] 62)).alloc (.cells #[.int .i64 lo] 3)) [.int .i64 hi] 3 (b := w.heap.size + 1 + 1) (by simp)
  have B1 := (X1.old (.cells #[.int .i64 lo] 3)).old (.cells #[.int .i64 hi] 3)
  have B2 := X2.old (.cells #[.int .i64 hi] 3)
  have B3 := X3
  have hR := ((h.old (.cells #[.pointer (some ⟨b, 0, none⟩)] 62)).old (.cells #[.int .i64 lo] 3)).old (.cells #[.int .i64 hi] 3)
  have HT := Lib.hid ((((Oth.refl b w).old (.cells #[.pointer (some ⟨b, 0, none⟩)] 62)).old (.cells #[.int .i64 lo] 3)).old (.cells #[.int .i64 hi] 3))
  have n1 := hR.ne B1 (by simp)
  have n2 := hR.ne B2 (by simp)
  have n3 := hR.ne B3 (by simp)
  have c1 := B1.cell (i := 0) rfl
  clear h X1 X2 X3
  go_enter Tryz.func39, Tryz.ntmps39
  go_wp2_with fail
  try rw [show ((w.alloc (.cells #[.pointer (some ⟨b, 0, none⟩)] 62)).alloc (.cells #[.int .i64 lo] 3)).heap.size = w.heap.size + 1 + 1 by simp]
  try rw [show (w.alloc (.cells #[.pointer (some ⟨b, 0, none⟩)] 62)).heap.size = w.heap.size + 1 by simp]
  generalize ((w.alloc (.cells #[.pointer (some ⟨b, 0, none⟩)] 62)).alloc (.cells #[.int .i64 lo] 3)).alloc (.cells #[.int .i64 hi] 3) = W0 at *
  generalize hg3 : w.heap.size + 1 + 1 = g3 at *
  generalize hg2 : w.heap.size + 1 = g2 at *
  obtain ⟨g1, hg1⟩ : ∃ g, w.heap.size = g := ⟨_, rfl⟩
  have HG1 := Lib.hid hg1
  rw [hg1] at B1 n1 c1 ⊢
  clear hg1 hg2 hg3
  refine (next_any hR hok.wl hef.go hok.rl).mono ?_
  rintro e w1 ⟨rfl, k1, k2⟩
  replace B1 := B1.oth k2 n1
  replace B2 := B2.oth k2 n2
  replace B3 := B3.oth k2 n3
  replace HT := Lib.hid (HT.out.trans k2)
  replace c1 := B1.cell (i := 0) rfl
  have ok1 := hok.next
  have ef1 := hef.next
  clear hR k2 hok hef
  go_wp2_with fail
  refine (among_any k1 ok1.wl ok1.hd.1 0 1000).mono ?_
  rintro e w2 ⟨rfl, k3, k2⟩
  replace B1 := B1.oth k2 n1
  replace B2 := B2.oth k2 n2
  replace B3 := B3.oth k2 n3
  replace HT := Lib.hid (HT.out.trans k2)
  replace c1 := B1.cell (i := 0) rfl
  have ok2 := ok1.among 0 1000
  have ef2 := ef1.among 0 1000
  have HC := Lib.hid (among_in r.next 0 1000)
  clear k1 k2 ok1 ef1
  go_wp2_with fail
  refine (among_any k3 ok2.wl ok2.hd.1 0 1).mono ?_
  rintro e w3 ⟨rfl, k1, k2⟩
  replace B1 := B1.oth k2 n1
  replace B2 := B2.oth k2 n2
  replace B3 := B3.oth k2 n3
  replace HT := Lib.hid (HT.out.trans k2)
  have ok3 := ok2.among 0 1
  have ef3 := ef2.among 0 1
  clear k3 k2 ok2 ef2
  obtain ⟨r2, hr2⟩ : ∃ x, r.next.among 0 1000 = x := ⟨_, rfl⟩
  rw [hr2] at k1 ok3 ef3 HC ⊢
  obtain ⟨m1, hm⟩ : ∃ x, r2.num = x := ⟨_, rfl⟩
  rw [hm] at ⊢
  have HM := Lib.hid hm
  have HR2 := Lib.hid hr2
  clear hm hr2
  have B4 := Blk.new w3 [.int .i64 m1] 3 rfl
  have n4 := (k1.old (.cells #[.int .i64 m1] 3)).ne B4 (by simp)
  replace B1 := B1.old (.cells #[.int .i64 m1] 3)
  replace B2 := B2.old (.cells #[.int .i64 m1] 3)
  replace B3 := B3.old (.cells #[.int .i64 m1] 3)
  replace c1 := B1.cell (i := 0) rfl
  replace k1 := k1.old (.cells #[.int .i64 m1] 3)
  replace HT := Lib.hid (HT.out.old (.cells #[.int .i64 m1] 3))
  go_wp2_with fail
  generalize w3.alloc (.cells #[.int .i64 m1] 3) = W at *
  generalize w3.heap.size = g4 at *
  have eE : E = lst (sVal lo hi m1) (sSt lo hi m1) r.next.num.toNat 0 0 [] (r2.among 0 1) := by
    rw [← HE.out, ← HM.out, ← HR2.out]; rfl
  have EE := Lib.hid eE
  have htz := HT.out.size
  rw [HG1.out] at htz
  clear eE
  cases hbad : (r2.among 0 1).bad
  · have hc := HC.out
    have hc2 : 0 ≤ r.next.num ∧ r.next.num ≤ 1000 := by
      rcases hc with h | h
      · have := among_bad _ 0 1 h
        rw [hbad] at this; cases this
      · exact h
    have HV := listS_any (P := P) (w0 := w0) (b := b) (w := W) (Inv := fun x => Blk x g1 [.pointer (some ⟨b, 0, none⟩)] 62 ∧ Blk x g2 [.int .i64 lo] 3 ∧ Blk x g3 [.int .i64 hi] 3 ∧ Blk x g4 [.int .i64 m1] 3) lo hi m1 (g1 := g1) (g2 := g2) (g3 := g3) (g4 := g4) r.next.num (.inr hc2) k1 ok3 ef3 ⟨B1, B2, B3, B4⟩
      (fun x y h ho => ⟨h.1.oth ho n1, h.2.1.oth ho n2, h.2.2.1.oth ho n3, h.2.2.2.oth ho n4⟩)
      (fun x y h hb => ⟨h.1.below hb B1.lt, h.2.1.below hb B2.lt, h.2.2.1.below hb B3.lt, h.2.2.2.below hb B4.lt⟩)
      (fun r' w' h1 h2 h3 => sItem lo hi m1 h1 h2 hlo h3.1 h3.2.1 h3.2.2.1 h3.2.2.2)
      (fun r' h => ((h.among _ _).among _ _).mark _) (fun r' h => ((h.among _ _).among _ _).mark _)
    rw [← EE.out] at HV
    have HVV := Lib.hid HV
    clear HV hc hc2 B1 B2 B3 B4 c1 k1 ok3 ef3 HC
    refine HVV.out.mono ?_
    rintro e w6 ⟨v, rfl, o1, q1, q2⟩
    have O1 := Lib.hid (owns_mono o1 htz)
    have Q1 := Lib.hid q1
    have Q2 := Lib.hid (HT.out.trans q2)
    clear o1 q1 q2
    go_wp2
    go_ret
    exact ⟨_, rfl, by rw [HG1.out]; exact O1.out, Q1.out, Q2.out⟩
  · have e2 := EE.out
    rw [lst_bad _ _ _ _ _ _ _ hbad] at e2
    have E2 := Lib.hid e2
    have HVV := Lib.hid (listS_bad (w0 := w0) 0 0 0 (g1 := g1) (g2 := g2) (g3 := g3) (g4 := g4) r.next.num k1 hbad)
    have K1 := Lib.hid k1
    clear e2 B1 B2 B3 B4 c1 ok3 ef3 HC k1
    refine HVV.out.mono ?_
    rintro e w6 ⟨rfl, rfl⟩
    go_wp2
    go_ret
    rw [E2.out]
    exact ⟨_, rfl, World.ownsRow_nil _ _ _ _, K1.out, HT.out⟩
set_option maxHeartbeats 8000000 in
theorem holes_any {fq : List UInt8 → Int × Int} {ok : List UInt8 → Bool} {P : List UInt8 → Prop} (HP : Pq fq ok P) {w0 : World} {b : Nat} {r : Rd} {w : World} (h : Rdr w0 b r w) (hok : Okr P r) (hef : Ef r) :
    Calls Tryz.prog 40 #[.pointer (some ⟨b, 0, none⟩)] w fun e w' => ∃ v, e = .returned v ∧
      w'.ownsRow w.heap.size 51 132 v (hAll fq ok r).1.length ((hAll fq ok r).1.flatMap celH) ∧ Rdr w0 b (hAll fq ok r).2.2 w' ∧ Oth b w w' := by
  obtain ⟨E, hE⟩ : ∃ E, hAll fq ok r = E := ⟨_, rfl⟩
  have HE := Lib.hid hE
  rw [hE]
  clear hE
  have B1 := Blk.new w [.pointer (some ⟨b, 0, none⟩)] 62 rfl
  have hR := h.old (.cells #[.pointer (some ⟨b, 0, none⟩)] 62)
  have HT := Lib.hid ((Oth.refl b w).old (.cells #[.pointer (some ⟨b, 0, none⟩)] 62))
  have n1 := hR.ne B1 (by simp)
  have c1 := B1.cell (i := 0) rfl
  clear h
  go_enter Tryz.func40, Tryz.ntmps40
  go_wp2_with fail
  generalize w.alloc (.cells #[.pointer (some ⟨b, 0, none⟩)] 62) = W0 at *
  obtain ⟨g1, hg1⟩ : ∃ g, w.heap.size = g := ⟨_, rfl⟩
  have HG1 := Lib.hid hg1
  rw [hg1] at B1 n1 c1 ⊢
  clear hg1
  refine (next_any hR hok.wl hef.go hok.rl).mono ?_
  rintro e w1 ⟨rfl, k1, k2⟩
  replace B1 := B1.oth k2 n1
  replace HT := Lib.hid (HT.out.trans k2)
  replace c1 := B1.cell (i := 0) rfl
  have ok1 := hok.next
  have ef1 := hef.next
  clear hR k2 hok hef
  go_wp2_with fail
  refine (among_any k1 ok1.wl ok1.hd.1 0 1000).mono ?_
  rintro e W ⟨rfl, k3, k2⟩
  replace B1 := B1.oth k2 n1
  replace HT := Lib.hid (HT.out.trans k2)
  replace c1 := B1.cell (i := 0) rfl
  have ok2 := ok1.among 0 1000
  have ef2 := ef1.among 0 1000
  have HC := Lib.hid (among_in r.next 0 1000)
  clear k1 k2 ok1 ef1
  go_wp2_with fail
  have eE : E = lst (hVal fq ok) (hSt ok) r.next.num.toNat 0 0 [] (r.next.among 0 1000) := by
    rw [← HE.out]; rfl
  have EE := Lib.hid eE
  have htz := HT.out.size
  rw [HG1.out] at htz
  clear eE
  have HV := listH_any (P := P) (w0 := w0) (b := b) (w := W) (Inv := fun x => Blk x g1 [.pointer (some ⟨b, 0, none⟩)] 62) fq ok (g1 := g1) r.next.num HC.out k3 ok2 ef2 B1
    (fun x y h ho => h.oth ho n1)
    (fun x y h hb => h.below hb B1.lt)
    (fun r' w' h1 h2 h3 => hItem HP h1 h2 h3)
    (fun r' h => (h.frac _).frac _) (fun r' h => (h.frac _).frac _)
  rw [← EE.out] at HV
  have HVV := Lib.hid HV
  clear HV B1 c1 k3 ok2 ef2 HC
  refine HVV.out.mono ?_
  rintro e w6 ⟨v, rfl, o1, q1, q2⟩
  have O1 := Lib.hid (owns_mono o1 htz)
  have Q1 := Lib.hid q1
  have Q2 := Lib.hid (HT.out.trans q2)
  clear o1 q1 q2
  go_wp2
  go_ret
  exact ⟨_, rfl, by rw [HG1.out]; exact O1.out, Q1.out, Q2.out⟩
end Go.Proofs.YtpalfmgloddhcaaGreatDoor

/- The reader reads a drawing. -/
namespace Go.Proofs.YtpalfmgloddhcaaGreatDoor
set_option linter.unusedSimpArgs false
set_option linter.unusedVariables false
open Go.RowKit
set_option maxRecDepth 100000
set_option maxHeartbeats 1000000 in
theorem end_any {P : List UInt8 → Prop} {w0 : World} {b : Nat} {r : Rd} {w : World} (h : Rdr w0 b r w) (hok : Okr P r) (hef : Ef r) :
    Calls Tryz.prog 41 #[.pointer (some ⟨b, 0, none⟩)] w fun e w' => e = .returned (.tuple #[]) ∧ Rdr w0 b r.next.fin w' ∧ Oth b w w' := by
  have HN := Lib.hid (next_any h hok.wl hef.go hok.rl)
  have hl := hok.next.wl
  clear h hok hef
  go_enter Tryz.func41, Tryz.ntmps41
  go_wp2_with fail
  refine HN.out.mono ?_
  rintro e w1 ⟨rfl, k1, k2⟩
  have HF := Lib.hid (finish_any k1 hl)
  clear k1
  go_wp2_with fail
  refine HF.out.mono ?_
  rintro e w2 ⟨rfl, k1, k3⟩
  have K := Lib.hid (k2.trans k3)
  clear k2 k3
  go_wp2
  go_end0
  exact ⟨rfl, k1, K.out⟩
section
variable {P : List UInt8 → Prop} {r : Rd}
theorem vAll_okr (h : Okr P r) : Okr P (vAll r).2.2 := lst_okr (fun r' h => ((h.number.number).skip _).mark _) _ _ _ _ ((((h.next.among _ _).among _ _).among _ _).among _ _)
theorem vAll_ef (h : Ef r) : Ef (vAll r).2.2 := lst_ef (fun r' h => ((h.number.number).skip _).mark _) _ _ _ _ ((((h.next.among _ _).among _ _).among _ _).among _ _)
theorem sAll_okr (lo hi : Int) (h : Okr P r) : Okr P (sAll lo hi r).2.2 := lst_okr (fun r' h => ((h.among _ _).among _ _).mark _) _ _ _ _ ((h.next.among _ _).among _ _)
theorem sAll_ef (lo hi : Int) (h : Ef r) : Ef (sAll lo hi r).2.2 := lst_ef (fun r' h => ((h.among _ _).among _ _).mark _) _ _ _ _ ((h.next.among _ _).among _ _)
theorem hAll_okr (fq : List UInt8 → Int × Int) (ok : List UInt8 → Bool) (h : Okr P r) : Okr P (hAll fq ok r).2.2 := lst_okr (fun r' h => (h.frac _).frac _) _ _ _ _ (h.next.among _ _)
theorem hAll_ef (fq : List UInt8 → Int × Int) (ok : List UInt8 → Bool) (h : Ef r) : Ef (hAll fq ok r).2.2 := lst_ef (fun r' h => (h.frac _).frac _) _ _ _ _ (h.next.among _ _)
theorem vAll_first (r : Rd) : -1000000000 < (vAll r).2.1 ∧ (vAll r).2.1 < 1000000000 := lst_first _ _ _ _ _ _ _ (by decide)
theorem vAll_len (r : Rd) : (vAll r).1.length ≤ 1000000000 := by
  have h := lst_len (vVal (((r.next.among 0 1000).among 2 2).num).toNat (((r.next.among 0 1000).among 2 2).among 0 2).num) (vSt (((r.next.among 0 1000).among 2 2).num).toNat (((r.next.among 0 1000).among 2 2).among 0 2).num) r.next.num.toNat 0 0 [] ((((r.next.among 0 1000).among 2 2).among 0 2).among 0 1)
  have h2 := intN_in r.next.hd
  have h3 : r.next.num = intN r.next.hd := rfl
  refine Nat.le_trans h ?_
  simp only [List.length_nil]; omega
end
theorem owns_set {w : World} {base : Nat} {e : TypeId} {size : Nat} {v : Value} {n : Nat} {xs : List Value} (h : w.ownsRow base e size v n xs) {g : Nat} {cs : List Value} {t : TypeId} (hB : Blk w g cs t) (hne : e ≠ t) (i : Nat) (u : Value) : (w.setCell ⟨g, i, none⟩ u).ownsRow base e size v n xs := by
  obtain ⟨h1, h2⟩ := h
  refine ⟨h1, h2.imp id fun ⟨g', cap, cur, hv, hg, hh, r⟩ => ⟨g', cap, cur, hv, hg, ?_, r⟩⟩
  have : g' ≠ g := by
    rintro rfl
    unfold Blk at hB
    rw [hh] at hB
    simp only [Option.some.injEq, Obj.cells.injEq] at hB
    exact hne hB.2.1
  rw [Below.heap_setCell _ _ _ _ this]; exact hh
theorem owns_row {w : World} {base : Nat} {e : TypeId} {size : Nat} {v : Value} {n : Nat} {xs : List Value} (h : w.ownsRow base e size v n xs) {g : Nat} {cs : List Value} {t : TypeId} (hB : Blk w g cs t) (hne : e ≠ t) (vs : Array Value) : (w.setRow g vs).ownsRow base e size v n xs := by
  obtain ⟨h1, h2⟩ := h
  refine ⟨h1, h2.imp id fun ⟨g', cap, cur, hv, hg, hh, r⟩ => ⟨g', cap, cur, hv, hg, ?_, r⟩⟩
  have : g' ≠ g := by
    rintro rfl
    unfold Blk at hB
    rw [hh] at hB
    simp only [Option.some.injEq, Obj.cells.injEq] at hB
    exact hne hB.2.1
  unfold World.setRow
  rw [Array.getElem?_modify, if_neg (Ne.symm this)]
  exact hh
/-- Three slices in a row. -/
def c3v (x y z : Value) : List Value := [x, y, z]
theorem c3v_one (a b c : Option Addr) (n m k n' m' k' : Nat) : ∀ v ∈ c3v (.slice a n n') (.slice b m m') (.slice c k k'), v.oneCell' = true := by
  intro v hv
  simp only [c3v, List.mem_cons, List.not_mem_nil, or_false] at hv
  rcases hv with rfl | rfl | rfl <;> rfl
theorem wholeD (x y z : Value) : Whole Tryz.prog 26 (c3v x y z).length := ⟨_, Tryz.underlying26, rfl, by kernel_rfl⟩
theorem zeroD : (Tryz.prog.info? 26).map (·.zero) = some (some (.agg (c3v (.slice none 0 0) (.slice none 0 0) (.slice none 0 0)).toArray)) := by kernel_rfl
set_option maxHeartbeats 8000000 in
theorem drawing_any {fq : List UInt8 → Int × Int} {ok : List UInt8 → Bool} {P : List UInt8 → Prop} (HP : Pq fq ok P) {w0 : World} {b : Nat} {r : Rd} {w : World} (h : Rdr w0 b r w) (hok : Okr P r) (hef : Ef r) :
    Calls Tryz.prog 23 #[.pointer (some ⟨b, 0, none⟩)] w fun e w' => ∃ v s t, e = .returned (.agg (c3v v s t).toArray) ∧
      w'.ownsRow w.heap.size 38 3 v (drw fq ok r).1.V.length ((drw fq ok r).1.V.flatMap celI) ∧ w'.ownsRow w.heap.size 41 3 s (drw fq ok r).1.S.length ((drw fq ok r).1.S.flatMap celI) ∧
      w'.ownsRow w.heap.size 51 132 t (drw fq ok r).1.H.length ((drw fq ok r).1.H.flatMap celH) ∧ Rdr w0 b (drw fq ok r).2 w' ∧ Oth b w w' := by
  obtain ⟨Z, hZ⟩ : ∃ Z, (.cells (c3v (.slice none 0 0) (.slice none 0 0) (.slice none 0 0)).toArray 26 : Obj) = Z := ⟨_, rfl⟩
  have X1 := Blk.new w (c3v (.slice none 0 0) (.slice none 0 0) (.slice none 0 0)) 26 rfl
  have B2 := Blk.new (w.alloc (.cells (c3v (.slice none 0 0) (.slice none 0 0) (.slice none 0 0)).toArray 26)) (c3v (.slice none 0 0) (.slice none 0 0) (.slice none 0 0)) 26 (b := w.heap.size + 1) (by simp)
  rw [hZ] at X1 B2
  have B1 := X1.old Z
  have hR := (h.old Z).old Z
  have HT := Lib.hid (((Oth.refl b w).old Z).old Z)
  have n1 := hR.ne B1 (by simp [c3v])
  have n2 := hR.ne B2 (by simp [c3v])
  have hbw := h.lt
  have hw0 := Lib.hid h.1.size
  clear h X1
  obtain ⟨D, hD⟩ : ∃ D, drw fq ok r = D := ⟨_, rfl⟩
  have HD := Lib.hid hD
  rw [hD]
  clear hD
  go_enter Tryz.func23, Tryz.ntmps23
  go_wp2_with (first | (with_reducible refine al_blk rfl rfl zeroD ?_))
  try rw [hZ]
  try rw [show (w.alloc Z).heap.size = w.heap.size + 1 by simp]
  generalize (w.alloc Z).alloc Z = W at *
  clear hZ
  obtain ⟨g1, hg1⟩ : ∃ g, w.heap.size = g := ⟨_, rfl⟩
  have HG1 := Lib.hid hg1
  have hw1 : w0.heap.size ≤ g1 := hg1 ▸ hw0.out
  have HW0 := Lib.hid hw1
  clear hw1 hw0
  rw [hg1] at B1 B2 n1 n2 hbw ⊢
  clear hg1
  have htz := HT.out.size
  rw [HG1.out] at htz
  have HTZ := Lib.hid htz
  clear htz
  refine (vertices_any hR hok hef).mono ?_
  rintro e w1 ⟨v, rfl, o1, k1, k2⟩
  obtain ⟨va, vc, rfl⟩ := owns_shape o1
  replace o1 := owns_mono o1 HTZ.out
  have O1 := Lib.hid o1
  replace B1 := B1.oth k2 n1
  replace B2 := B2.oth k2 n2
  have htz1 := Nat.le_trans HTZ.out k2.size
  replace HT := Lib.hid (HT.out.trans k2)
  have ok1 := vAll_okr hok
  have ef1 := vAll_ef hef
  have hf1 := vAll_first r
  have hl1 := vAll_len r
  clear hR k2 o1 hok hef
  have HDe := Lib.hid (show drw fq ok r = (⟨(vAll r).1, (sAll (vAll r).2.1 ((vAll r).2.1 + (vAll r).1.length - 1) (vAll r).2.2).1, (hAll fq ok (sAll (vAll r).2.1 ((vAll r).2.1 + (vAll r).1.length - 1) (vAll r).2.2).2.2).1⟩, (hAll fq ok (sAll (vAll r).2.1 ((vAll r).2.1 + (vAll r).1.length - 1) (vAll r).2.2).2.2).2.2.next.fin) from rfl)
  obtain ⟨A, hA⟩ : ∃ A, vAll r = A := ⟨_, rfl⟩
  rw [hA] at O1 k1 ok1 ef1 hf1 hl1 HDe ⊢
  clear hA
  have q1 : IntKind.i64.wrap (A.2.1 + (A.1.length : Int)) = A.2.1 + (A.1.length : Int) := by rw [IntKind.wrap_i64]; omega
  have q2 : IntKind.i64.wrap (A.2.1 + (A.1.length : Int) - 1) = A.2.1 + (A.1.length : Int) - 1 := by rw [IntKind.wrap_i64]; omega
  have c20 := B2.cell (i := 0) rfl
  have f20 := B2.frozen 0
  have B2s := B2.set 0 (.slice va A.1.length vc)
  have B1s := B1.setOther (g := g1 + 1) 0 (.slice va A.1.length vc) (by omega)
  have k1s := k1.cellOther (g := g1 + 1) (Ne.symm n2) (by have := HW0.out; omega) 0 (.slice va A.1.length vc)
  have HTs := Lib.hid (HT.out.cellNew (g := g1 + 1) (by rw [HG1.out]; omega) 0 (.slice va A.1.length vc))
  clear B1 k1 HT
  have O1s := Lib.hid (owns_set O1.out B2 (by decide) 0 (.slice va A.1.length vc))
  clear O1 B2
  go_wp2_with fail
  generalize w1.setCell ⟨g1 + 1, 0, none⟩ (.slice va A.1.length vc) = W1 at *
  have hz1 := HTs.out.size
  rw [HG1.out] at hz1
  refine (segments_any A.2.1 (A.2.1 + A.1.length - 1) k1s ok1 ef1 (by omega)).mono ?_
  rintro e w2 ⟨s, rfl, o2, k1, k2⟩
  obtain ⟨sa, sc, rfl⟩ := owns_shape o2
  replace o2 := owns_mono o2 hz1
  have O2 := Lib.hid o2
  replace O1s := Lib.hid (owns_oth O1s.out k2 hbw)
  replace B1s := B1s.oth k2 n1
  replace B2s := B2s.oth k2 n2
  replace HTs := Lib.hid (HTs.out.trans k2)
  have ok2 := sAll_okr A.2.1 (A.2.1 + A.1.length - 1) ok1
  have ef2 := sAll_ef A.2.1 (A.2.1 + A.1.length - 1) ef1
  clear k1s k2 o2 ok1 ef1 q1 q2 hf1 hl1 hz1 c20 f20
  obtain ⟨S, hS⟩ : ∃ S, sAll A.2.1 (A.2.1 + A.1.length - 1) A.2.2 = S := ⟨_, rfl⟩
  rw [hS] at O2 k1 ok2 ef2 HDe ⊢
  clear hS
  have c21 := B2s.cell (i := 1) rfl
  have f21 := B2s.frozen 1
  replace O1s := Lib.hid (owns_set O1s.out B2s (by decide) 1 (.slice sa S.1.length sc))
  replace O2 := Lib.hid (owns_set O2.out B2s (by decide) 1 (.slice sa S.1.length sc))
  replace B2s := B2s.set 1 (.slice sa S.1.length sc)
  replace B1s := B1s.setOther (g := g1 + 1) 1 (.slice sa S.1.length sc) (by omega)
  have k1s := k1.cellOther (g := g1 + 1) (Ne.symm n2) (by have := HW0.out; omega) 1 (.slice sa S.1.length sc)
  replace HTs := Lib.hid (HTs.out.cellNew (g := g1 + 1) (by rw [HG1.out]; omega) 1 (.slice sa S.1.length sc))
  clear k1
  go_wp2_with fail
  generalize w2.setCell ⟨g1 + 1, 1, none⟩ (.slice sa S.1.length sc) = W2 at *
  have hz1 := HTs.out.size
  rw [HG1.out] at hz1
  refine (holes_any HP k1s ok2 ef2).mono ?_
  rintro e w3 ⟨t, rfl, o3, k1, k2⟩
  obtain ⟨ta, tc, rfl⟩ := owns_shape o3
  replace o3 := owns_mono o3 hz1
  have O3 := Lib.hid o3
  replace O1s := Lib.hid (owns_oth O1s.out k2 hbw)
  replace O2 := Lib.hid (owns_oth O2.out k2 hbw)
  replace B1s := B1s.oth k2 n1
  replace B2s := B2s.oth k2 n2
  replace HTs := Lib.hid (HTs.out.trans k2)
  have ok3 := hAll_okr fq ok ok2
  have ef3 := hAll_ef fq ok ef2
  clear k1s k2 o3 ok2 ef2 hz1 c21 f21
  obtain ⟨T, hT⟩ : ∃ T, hAll fq ok S.2.2 = T := ⟨_, rfl⟩
  rw [hT] at O3 k1 ok3 ef3 HDe ⊢
  clear hT
  have c22 := B2s.cell (i := 2) rfl
  have f22 := B2s.frozen 2
  replace O1s := Lib.hid (owns_set O1s.out B2s (by decide) 2 (.slice ta T.1.length tc))
  replace O2 := Lib.hid (owns_set O2.out B2s (by decide) 2 (.slice ta T.1.length tc))
  replace O3 := Lib.hid (owns_set O3.out B2s (by decide) 2 (.slice ta T.1.length tc))
  replace B2s := B2s.set 2 (.slice ta T.1.length tc)
  replace B1s := B1s.setOther (g := g1 + 1) 2 (.slice ta T.1.length tc) (by omega)
  have k1s := k1.cellOther (g := g1 + 1) (Ne.symm n2) (by have := HW0.out; omega) 2 (.slice ta T.1.length tc)
  replace HTs := Lib.hid (HTs.out.cellNew (g := g1 + 1) (by rw [HG1.out]; omega) 2 (.slice ta T.1.length tc))
  clear k1
  go_wp2_with fail
  generalize w3.setCell ⟨g1 + 1, 2, none⟩ (.slice ta T.1.length tc) = W3 at *
  refine (end_any k1s ok3 ef3).mono ?_
  rintro e w4 ⟨rfl, k1, k2⟩
  replace O1s := Lib.hid (owns_oth O1s.out k2 hbw)
  replace O2 := Lib.hid (owns_oth O2.out k2 hbw)
  replace O3 := Lib.hid (owns_oth O3.out k2 hbw)
  replace B1s := B1s.oth k2 n1
  replace B2s := B2s.oth k2 n2
  replace HTs := Lib.hid (HTs.out.trans k2)
  clear k1s k2 ok3 ef3 c22 f22
  have B3 : Blk w4 (g1 + 1) (c3v (.slice va A.1.length vc) (.slice sa S.1.length sc) (.slice ta T.1.length tc)) 26 := B2s
  clear B2s
  go_wp2_with (first | (with_reducible refine ldP rfl rfl rfl B3 (part_all _) (wholeD _ _ _) ?_) | (with_reducible refine st_blk (vs := c3v (.slice va A.1.length vc) (.slice sa S.1.length sc) (.slice ta T.1.length tc)) rfl rfl rfl rfl B1s rfl (by kernel_rfl) (c3v_one _ _ _ _ _ _ _ _ _) ?_))
  have e1 := HD.out.symm.trans HDe.out
  rw [e1]
  exact ret_c (cs := c3v (.slice va A.1.length vc) (.slice sa S.1.length sc) (.slice ta T.1.length tc)) rfl rfl rfl (wholeD _ _ _) (B1s.row _) ⟨_, _, _, rfl, owns_row (by rw [HG1.out]; exact O1s.out) B1s (by decide) _, owns_row (by rw [HG1.out]; exact O2.out) B1s (by decide) _, owns_row (by rw [HG1.out]; exact O3.out) B1s (by decide) _, k1.setRow (Ne.symm n1) HW0.out _, HTs.out.setRow (by rw [HG1.out]; exact Nat.le_refl _) _⟩
end Go.Proofs.YtpalfmgloddhcaaGreatDoor
