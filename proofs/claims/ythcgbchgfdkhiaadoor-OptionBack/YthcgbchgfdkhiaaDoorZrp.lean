/- The reference's PrintOptions: the same text. -/
import Derived.Test.YthcgbchgfdkhiaaDoorZpr
namespace Go.Proofs.YthcgbchgfdkhiaaDoor
set_option linter.unusedSimpArgs false
set_option linter.unusedVariables false
open Go.RowKit
set_option maxRecDepth 100000
theorem joinTail_snoc (s y : List UInt8) : ∀ r : List (List UInt8), Lib.joinTail s (r ++ [y]) = Lib.joinTail s r ++ (s ++ y) := by
  intro r; simp [Lib.joinTail]
theorem join_snoc (s : List UInt8) {ws : List (List UInt8)} (h : ws ≠ []) (y : List UInt8) : Lib.join (ws ++ [y]) s = Lib.join ws s ++ (s ++ y) := by
  cases ws with
  | nil => exact absurd rfl h
  | cons w r => rw [List.cons_append, Lib.join_cons, Lib.join_cons, joinTail_snoc, List.append_assoc]
theorem wtx1 (c : UInt8) (x : Int) : wtx c [x] = c :: numA x := by unfold wtx; rw [List.map_cons, List.map_nil, Lib.join_one]
theorem wtx3 (c : UInt8) (x y z : Int) : wtx c [x, y, z] = c :: (numA x ++ 44 :: (numA y ++ 44 :: numA z)) := by
  unfold wtx; simp [Lib.join_cons, Lib.joinTail]
theorem otx_nil (h c : Int) : Lib.join (ows h c []) [32] = [104] ++ numA h ++ [32, 99] ++ numA c := by
  unfold ows; simp [Lib.join_cons, Lib.joinTail, wtx1]
theorem otx_snoc (h c : Int) (Z : List (Int × Int × Int)) (x y z : Int) : Lib.join (ows h c (Z ++ [(x, y, z)])) [32] = Lib.join (ows h c Z) [32] ++ [32, 115] ++ numA x ++ [44] ++ numA y ++ [44] ++ numA z := by
  have e : ows h c (Z ++ [(x, y, z)]) = ows h c Z ++ [wtx 115 [x, y, z]] := by simp [ows]
  rw [e, join_snoc _ (by simp [ows]), wtx3]; simp
theorem ows_len (h c : Int) (Z : List (Int × Int × Int)) : (Lib.join (ows h c Z) [32]).length ≤ (2 + Z.length) * 66 := by
  have hjl := join_le 32 65 (ows h c Z) (by
    intro u hu
    unfold ows at hu
    simp only [List.mem_cons, List.mem_map] at hu
    rcases hu with rfl | rfl | ⟨p, _, rfl⟩
    · exact Nat.le_trans (wtx_len _ _) (by simp)
    · exact Nat.le_trans (wtx_len _ _) (by simp)
    · exact Nat.le_trans (wtx_len _ _) (by simp))
  have e : (ows h c Z).length = 2 + Z.length := by simp [ows]; omega
  rwa [e] at hjl
set_option maxHeartbeats 4000000 in
theorem rprint_any (h c : Int) (za : Option Addr) (zc : Nat) (Z : List (Int × Int × Int)) (w : World) (hZ : RdZ w (.slice za Z.length zc) Z) (lZ : Z.length ≤ 20) (oh : i64ok h) (oc : i64ok c) (oz : ∀ p ∈ Z, z3ok p) :
    Calls Tryd.prog 13 #[.agg #[.int .i64 h, .int .i64 c, .slice za Z.length zc]] w fun e w' => e = .returned (.string (tx (Lib.join (ows h c Z) [32]))) ∧ Below w.heap.size w w' := by
  have B1 := Blk.new w [.int .i64 h, .int .i64 c, .slice za Z.length zc] 25 rfl
  have hb : Below w.heap.size w (w.alloc (.cells #[.int .i64 h, .int .i64 c, .slice za Z.length zc] 25)) := (Below.refl _ _).alloc (Nat.le_refl _) _
  have HZ := Lib.hid hZ
  have OZ := Lib.hid oz
  have HN1 := Lib.hid fun w => Num_all h w oh
  have HN2 := Lib.hid fun w => Num_all c w oc
  have l1 := numA_len h
  have l2 := numA_len c
  clear hZ oz oh oc
  go_enter Tryd.func13, Tryd.ntmps13
  go_wp2_with fail
  generalize w.alloc (.cells #[.int .i64 h, .int .i64 c, .slice za Z.length zc] 25) = W1 at *
  obtain ⟨T1, hT1⟩ : ∃ T1, [104] ++ numA h = T1 := ⟨_, rfl⟩
  have zT1 : T1.length ≤ 50 := by rw [← hT1, List.length_append]; (try simp only [List.length_cons, List.length_nil]); omega
  obtain ⟨T2, hT2⟩ : ∃ T2, T1 ++ [32, 99] = T2 := ⟨_, rfl⟩
  have zT2 : T2.length ≤ 80 := by rw [← hT2, List.length_append]; (try simp only [List.length_cons, List.length_nil]); omega
  obtain ⟨T3, hT3⟩ : ∃ T3, T2 ++ numA c = T3 := ⟨_, rfl⟩
  have zT3 : T3.length ≤ 110 := by rw [← hT3, List.length_append]; (try simp only [List.length_cons, List.length_nil]); omega
  replace hT1 := Lib.hid hT1
  replace hT2 := Lib.hid hT2
  replace hT3 := Lib.hid hT3
  refine rg_start [] (by kernel_rfl) (fun hS => ?_)
  replace hb := hb.drew
  refine rg_take 0 rfl (by kernel_rfl) (by kernel_rfl) (by kernel_rfl) (by rfl) hS (v := ?_) ?_ ?_
  rotate_left
  · (intro w' hS'; go_simp <;> try with_reducible rfl)
  try simp only [Act.put, List.setIfInBounds_toArray, List.set_cons_zero, List.set_cons_succ]
  refine rg_take 1 rfl (by kernel_rfl) (by kernel_rfl) (by kernel_rfl) (by rfl) hS (v := ?_) ?_ ?_
  rotate_left
  · (intro w' hS'; have hc := (B1.keep hS' (by simp <;> omega)).cell (i := 0) (v := (.int .i64 h)) rfl; go_simp <;> try with_reducible rfl)
  try simp only [Act.put, List.setIfInBounds_toArray, List.set_cons_zero, List.set_cons_succ]
  refine rg_take 5 rfl (by kernel_rfl) (by kernel_rfl) (by kernel_rfl) (by rfl) hS (v := ?_) ?_ ?_
  rotate_left
  · (intro w' hS'; go_simp <;> try with_reducible rfl)
  try simp only [Act.put, List.setIfInBounds_toArray, List.set_cons_zero, List.set_cons_succ]
  refine rg_take 6 rfl (by kernel_rfl) (by kernel_rfl) (by kernel_rfl) (by rfl) hS (v := ?_) ?_ ?_
  rotate_left
  · (intro w' hS'; have hc := (B1.keep hS' (by simp <;> omega)).cell (i := 1) (v := (.int .i64 c)) rfl; go_simp <;> try with_reducible rfl)
  try simp only [Act.put, List.setIfInBounds_toArray, List.set_cons_zero, List.set_cons_succ]
  refine rg_eff 2 rfl (by kernel_rfl) (by rfl) (fun K hK => ?_)
  go_simp
  refine (HN1.out _).mono ?_
  rintro e w1 ⟨rfl, h1⟩
  refine hK _ _ (hS.call h1) (fun hS => ?_)
  clear hK K
  replace hb := bthen hb h1
  clear h1
  try simp only [Act.put, List.setIfInBounds_toArray, List.set_cons_zero, List.set_cons_succ]
  refine rg_take 3 rfl (by kernel_rfl) (by kernel_rfl) (by kernel_rfl) (by rfl) hS (v := .string (tx T1)) (fun w' _ => op_joinE hT1.out (by omega) rfl rfl rfl w') ?_
  try simp only [Act.put, List.setIfInBounds_toArray, List.set_cons_zero, List.set_cons_succ]
  refine rg_take 4 rfl (by kernel_rfl) (by kernel_rfl) (by kernel_rfl) (by rfl) hS (v := .string (tx T2)) (fun w' _ => op_joinE hT2.out (by omega) rfl rfl rfl w') ?_
  try simp only [Act.put, List.setIfInBounds_toArray, List.set_cons_zero, List.set_cons_succ]
  refine rg_eff 7 rfl (by kernel_rfl) (by rfl) (fun K hK => ?_)
  go_simp
  refine (HN2.out _).mono ?_
  rintro e w1 ⟨rfl, h1⟩
  refine hK _ _ (hS.call h1) (fun hS => ?_)
  clear hK K
  replace hb := bthen hb h1
  clear h1
  try simp only [Act.put, List.setIfInBounds_toArray, List.set_cons_zero, List.set_cons_succ]
  refine rg_take 8 rfl (by kernel_rfl) (by kernel_rfl) (by kernel_rfl) (by rfl) hS (v := .string (tx T3)) (fun w' _ => op_joinE hT3.out (by omega) rfl rfl rfl w') ?_
  try simp only [Act.put, List.setIfInBounds_toArray, List.set_cons_zero, List.set_cons_succ]
  refine rg_take 9 rfl (by kernel_rfl) (by kernel_rfl) (by kernel_rfl) (by rfl) hS (v := ?_) ?_ ?_
  rotate_left
  · (intro w' hS'; go_simp <;> try with_reducible rfl)
  try simp only [Act.put, List.setIfInBounds_toArray, List.set_cons_zero, List.set_cons_succ]
  refine rg_done (by kernel_rfl) ?_
  replace B1 := B1.keep hS (by simp)
  have eT : T3 = Lib.join (ows h c []) [32] := by rw [otx_nil, ← hT3.out, ← hT2.out, ← hT1.out]
  have ET := Lib.hid eT
  clear hS HN1 HN2 l1 l2 eT
  go_wp2_with fail
  have HHB := Lib.hid hb
  clear hb
  go_loopw [3, 4] (fun s j wr => ∃ i : Nat, i ≤ Z.length ∧ j = .int .i64 (i : Int) ∧ s = .string (tx (Lib.join (ows h c (Z.take i)) [32])) ∧ Blk wr w.heap.size [.int .i64 h, .int .i64 c, .slice za Z.length zc] 25 ∧ Below w.heap.size w wr) (fun _ j _ => Z.length - (intOf j).toNat)
  case atStart => exact ⟨0, Nat.zero_le _, rfl, by rw [List.take_zero, ET.out], B1, HHB.out⟩
  case round =>
    obtain ⟨i, hi, rfl, rfl, B1, hb⟩ := hrel
    have c2 := B1.cell (i := 2) rfl
    by_cases hlt : i < Z.length
    · obtain ⟨⟨x, y, z⟩, hx⟩ : ∃ p, Z[i]? = some p := ⟨_, List.getElem?_eq_getElem hlt⟩
      obtain ⟨gv, ov, rfl, p1, p2, p3⟩ := HZ.out.at hx
      obtain ⟨n1, n2, n3⟩ := OZ.out _ (List.mem_of_getElem? hx)
      replace p1 := cell_below hb p1
      replace p2 := cell_below hb p2
      replace p3 := cell_below hb p3
      simp only at p1 p2 p3 n1 n2 n3
      have e1 : Lib.join (ows h c (Z.take (i + 1))) [32] = Lib.join (ows h c (Z.take i)) [32] ++ [32, 115] ++ numA x ++ [44] ++ numA y ++ [44] ++ numA z := by
        rw [← otx_snoc, List.take_add_one, hx]; rfl
      have E1 := Lib.hid e1
      have HX1 := Lib.hid fun w => Num_all x w n1
      have HX2 := Lib.hid fun w => Num_all y w n2
      have HX3 := Lib.hid fun w => Num_all z w n3
      have l1 := numA_len x
      have l2 := numA_len y
      have l3 := numA_len z
      have l4 := ows_len h c (Z.take i)
      rw [List.length_take, Nat.min_eq_left (by omega)] at l4
      obtain ⟨S, hS⟩ : ∃ S, Lib.join (ows h c (Z.take i)) [32] = S := ⟨_, rfl⟩
      rw [hS] at l4 E1 ⊢
      have lS : S.length ≤ 2000 := by omega
      clear e1 hx n1 n2 n3 l4 hS HHB
      obtain ⟨S1, hS1⟩ : ∃ S1, S ++ [32, 115] = S1 := ⟨_, rfl⟩
      have zS1 : S1.length ≤ 2030 := by rw [← hS1, List.length_append]; (try simp only [List.length_cons, List.length_nil]); omega
      obtain ⟨S2, hS2⟩ : ∃ S2, S1 ++ numA x = S2 := ⟨_, rfl⟩
      have zS2 : S2.length ≤ 2060 := by rw [← hS2, List.length_append]; (try simp only [List.length_cons, List.length_nil]); omega
      obtain ⟨S3, hS3⟩ : ∃ S3, S2 ++ [44] = S3 := ⟨_, rfl⟩
      have zS3 : S3.length ≤ 2090 := by rw [← hS3, List.length_append]; (try simp only [List.length_cons, List.length_nil]); omega
      obtain ⟨S4, hS4⟩ : ∃ S4, S3 ++ numA y = S4 := ⟨_, rfl⟩
      have zS4 : S4.length ≤ 2120 := by rw [← hS4, List.length_append]; (try simp only [List.length_cons, List.length_nil]); omega
      obtain ⟨S5, hS5⟩ : ∃ S5, S4 ++ [44] = S5 := ⟨_, rfl⟩
      have zS5 : S5.length ≤ 2150 := by rw [← hS5, List.length_append]; (try simp only [List.length_cons, List.length_nil]); omega
      obtain ⟨S6, hS6⟩ : ∃ S6, S5 ++ numA z = S6 := ⟨_, rfl⟩
      have zS6 : S6.length ≤ 2180 := by rw [← hS6, List.length_append]; (try simp only [List.length_cons, List.length_nil]); omega
      replace hS1 := Lib.hid hS1
      replace hS2 := Lib.hid hS2
      replace hS3 := Lib.hid hS3
      replace hS4 := Lib.hid hS4
      replace hS5 := Lib.hid hS5
      replace hS6 := Lib.hid hS6
      go_wp2_with fail
      refine rg_start [] (by kernel_rfl) (fun hS => ?_)
      replace hb := hb.drew
      refine rg_take 0 rfl (by kernel_rfl) (by kernel_rfl) (by kernel_rfl) (by rfl) hS (v := ?_) ?_ ?_
      rotate_left
      · (intro w' hS'; go_simp <;> try with_reducible rfl)
      try simp only [Act.put, List.setIfInBounds_toArray, List.set_cons_zero, List.set_cons_succ]
      refine rg_take 1 rfl (by kernel_rfl) (by kernel_rfl) (by kernel_rfl) (by rfl) hS (v := .string (tx S1)) (fun w' _ => op_joinE hS1.out (by omega) rfl rfl rfl w') ?_
      try simp only [Act.put, List.setIfInBounds_toArray, List.set_cons_zero, List.set_cons_succ]
      refine rg_take 2 rfl (by kernel_rfl) (by kernel_rfl) (by kernel_rfl) (by rfl) hS (v := ?_) ?_ ?_
      rotate_left
      · (intro w' hS'; go_simp <;> try with_reducible rfl)
      try simp only [Act.put, List.setIfInBounds_toArray, List.set_cons_zero, List.set_cons_succ]
      refine rg_take 3 rfl (by kernel_rfl) (by kernel_rfl) (by kernel_rfl) (by rfl) hS (v := ?_) ?_ ?_
      rotate_left
      · (intro w' hS'; have hc := (B1.keep hS' (by simp <;> omega)).cell (i := 2) (v := (.slice (some ⟨gv, ov, none⟩) Z.length zc)) rfl; go_simp <;> try with_reducible rfl)
      try simp only [Act.put, List.setIfInBounds_toArray, List.set_cons_zero, List.set_cons_succ]
      refine rg_take 4 rfl (by kernel_rfl) (by kernel_rfl) (by kernel_rfl) (by rfl) hS (v := ?_) ?_ ?_
      rotate_left
      · (intro w' hS'; go_simp <;> try with_reducible rfl)
      try simp only [Act.put, List.setIfInBounds_toArray, List.set_cons_zero, List.set_cons_succ]
      refine rg_take 5 rfl (by kernel_rfl) (by kernel_rfl) (by kernel_rfl) (by rfl) hS (v := ?_) ?_ ?_
      rotate_left
      · (intro w' hS'; go_simp <;> try with_reducible rfl)
      try simp only [Act.put, List.setIfInBounds_toArray, List.set_cons_zero, List.set_cons_succ]
      refine rg_take 6 rfl (by kernel_rfl) (by kernel_rfl) (by kernel_rfl) (by rfl) hS (v := ?_) ?_ ?_
      rotate_left
      · (intro w' hS'; go_simp <;> try with_reducible rfl)
      try simp only [Act.put, List.setIfInBounds_toArray, List.set_cons_zero, List.set_cons_succ]
      refine rg_take 7 rfl (by kernel_rfl) (by kernel_rfl) (by kernel_rfl) (by rfl) hS (v := ?_) ?_ ?_
      rotate_left
      · (intro w' hS'; have hc := cell_keep hS' p1; go_simp <;> try with_reducible rfl)
      try simp only [Act.put, List.setIfInBounds_toArray, List.set_cons_zero, List.set_cons_succ]
      refine rg_take 11 rfl (by kernel_rfl) (by kernel_rfl) (by kernel_rfl) (by rfl) hS (v := ?_) ?_ ?_
      rotate_left
      · (intro w' hS'; go_simp <;> try with_reducible rfl)
      try simp only [Act.put, List.setIfInBounds_toArray, List.set_cons_zero, List.set_cons_succ]
      refine rg_take 12 rfl (by kernel_rfl) (by kernel_rfl) (by kernel_rfl) (by rfl) hS (v := ?_) ?_ ?_
      rotate_left
      · (intro w' hS'; have hc := (B1.keep hS' (by simp <;> omega)).cell (i := 2) (v := (.slice (some ⟨gv, ov, none⟩) Z.length zc)) rfl; go_simp <;> try with_reducible rfl)
      try simp only [Act.put, List.setIfInBounds_toArray, List.set_cons_zero, List.set_cons_succ]
      refine rg_take 13 rfl (by kernel_rfl) (by kernel_rfl) (by kernel_rfl) (by rfl) hS (v := ?_) ?_ ?_
      rotate_left
      · (intro w' hS'; go_simp <;> try with_reducible rfl)
      try simp only [Act.put, List.setIfInBounds_toArray, List.set_cons_zero, List.set_cons_succ]
      refine rg_take 14 rfl (by kernel_rfl) (by kernel_rfl) (by kernel_rfl) (by rfl) hS (v := ?_) ?_ ?_
      rotate_left
      · (intro w' hS'; go_simp <;> try with_reducible rfl)
      try simp only [Act.put, List.setIfInBounds_toArray, List.set_cons_zero, List.set_cons_succ]
      refine rg_take 15 rfl (by kernel_rfl) (by kernel_rfl) (by kernel_rfl) (by rfl) hS (v := ?_) ?_ ?_
      rotate_left
      · (intro w' hS'; go_simp <;> try with_reducible rfl)
      try simp only [Act.put, List.setIfInBounds_toArray, List.set_cons_zero, List.set_cons_succ]
      refine rg_take 16 rfl (by kernel_rfl) (by kernel_rfl) (by kernel_rfl) (by rfl) hS (v := ?_) ?_ ?_
      rotate_left
      · (intro w' hS'; have hc := cell_keep hS' p2; go_simp <;> try with_reducible rfl)
      try simp only [Act.put, List.setIfInBounds_toArray, List.set_cons_zero, List.set_cons_succ]
      refine rg_take 20 rfl (by kernel_rfl) (by kernel_rfl) (by kernel_rfl) (by rfl) hS (v := ?_) ?_ ?_
      rotate_left
      · (intro w' hS'; go_simp <;> try with_reducible rfl)
      try simp only [Act.put, List.setIfInBounds_toArray, List.set_cons_zero, List.set_cons_succ]
      refine rg_take 21 rfl (by kernel_rfl) (by kernel_rfl) (by kernel_rfl) (by rfl) hS (v := ?_) ?_ ?_
      rotate_left
      · (intro w' hS'; have hc := (B1.keep hS' (by simp <;> omega)).cell (i := 2) (v := (.slice (some ⟨gv, ov, none⟩) Z.length zc)) rfl; go_simp <;> try with_reducible rfl)
      try simp only [Act.put, List.setIfInBounds_toArray, List.set_cons_zero, List.set_cons_succ]
      refine rg_take 22 rfl (by kernel_rfl) (by kernel_rfl) (by kernel_rfl) (by rfl) hS (v := ?_) ?_ ?_
      rotate_left
      · (intro w' hS'; go_simp <;> try with_reducible rfl)
      try simp only [Act.put, List.setIfInBounds_toArray, List.set_cons_zero, List.set_cons_succ]
      refine rg_take 23 rfl (by kernel_rfl) (by kernel_rfl) (by kernel_rfl) (by rfl) hS (v := ?_) ?_ ?_
      rotate_left
      · (intro w' hS'; go_simp <;> try with_reducible rfl)
      try simp only [Act.put, List.setIfInBounds_toArray, List.set_cons_zero, List.set_cons_succ]
      refine rg_take 24 rfl (by kernel_rfl) (by kernel_rfl) (by kernel_rfl) (by rfl) hS (v := ?_) ?_ ?_
      rotate_left
      · (intro w' hS'; go_simp <;> try with_reducible rfl)
      try simp only [Act.put, List.setIfInBounds_toArray, List.set_cons_zero, List.set_cons_succ]
      refine rg_take 25 rfl (by kernel_rfl) (by kernel_rfl) (by kernel_rfl) (by rfl) hS (v := ?_) ?_ ?_
      rotate_left
      · (intro w' hS'; have hc := cell_keep hS' p3; go_simp <;> try with_reducible rfl)
      try simp only [Act.put, List.setIfInBounds_toArray, List.set_cons_zero, List.set_cons_succ]
      refine rg_eff 8 rfl (by kernel_rfl) (by rfl) (fun K hK => ?_)
      go_simp
      refine (HX1.out _).mono ?_
      rintro e w1 ⟨rfl, h1⟩
      refine hK _ _ (hS.call h1) (fun hS => ?_)
      clear hK K
      replace hb := bthen hb h1
      clear h1
      try simp only [Act.put, List.setIfInBounds_toArray, List.set_cons_zero, List.set_cons_succ]
      refine rg_take 9 rfl (by kernel_rfl) (by kernel_rfl) (by kernel_rfl) (by rfl) hS (v := .string (tx S2)) (fun w' _ => op_joinE hS2.out (by omega) rfl rfl rfl w') ?_
      try simp only [Act.put, List.setIfInBounds_toArray, List.set_cons_zero, List.set_cons_succ]
      refine rg_take 10 rfl (by kernel_rfl) (by kernel_rfl) (by kernel_rfl) (by rfl) hS (v := .string (tx S3)) (fun w' _ => op_joinE hS3.out (by omega) rfl rfl rfl w') ?_
      try simp only [Act.put, List.setIfInBounds_toArray, List.set_cons_zero, List.set_cons_succ]
      refine rg_eff 17 rfl (by kernel_rfl) (by rfl) (fun K hK => ?_)
      go_simp
      refine (HX2.out _).mono ?_
      rintro e w1 ⟨rfl, h1⟩
      refine hK _ _ (hS.call h1) (fun hS => ?_)
      clear hK K
      replace hb := bthen hb h1
      clear h1
      try simp only [Act.put, List.setIfInBounds_toArray, List.set_cons_zero, List.set_cons_succ]
      refine rg_take 18 rfl (by kernel_rfl) (by kernel_rfl) (by kernel_rfl) (by rfl) hS (v := .string (tx S4)) (fun w' _ => op_joinE hS4.out (by omega) rfl rfl rfl w') ?_
      try simp only [Act.put, List.setIfInBounds_toArray, List.set_cons_zero, List.set_cons_succ]
      refine rg_take 19 rfl (by kernel_rfl) (by kernel_rfl) (by kernel_rfl) (by rfl) hS (v := .string (tx S5)) (fun w' _ => op_joinE hS5.out (by omega) rfl rfl rfl w') ?_
      try simp only [Act.put, List.setIfInBounds_toArray, List.set_cons_zero, List.set_cons_succ]
      refine rg_eff 26 rfl (by kernel_rfl) (by rfl) (fun K hK => ?_)
      go_simp
      refine (HX3.out _).mono ?_
      rintro e w1 ⟨rfl, h1⟩
      refine hK _ _ (hS.call h1) (fun hS => ?_)
      clear hK K
      replace hb := bthen hb h1
      clear h1
      try simp only [Act.put, List.setIfInBounds_toArray, List.set_cons_zero, List.set_cons_succ]
      refine rg_take 27 rfl (by kernel_rfl) (by kernel_rfl) (by kernel_rfl) (by rfl) hS (v := .string (tx S6)) (fun w' _ => op_joinE hS6.out (by omega) rfl rfl rfl w') ?_
      try simp only [Act.put, List.setIfInBounds_toArray, List.set_cons_zero, List.set_cons_succ]
      refine rg_take 28 rfl (by kernel_rfl) (by kernel_rfl) (by kernel_rfl) (by rfl) hS (v := ?_) ?_ ?_
      rotate_left
      · (intro w' hS'; go_simp <;> try with_reducible rfl)
      try simp only [Act.put, List.setIfInBounds_toArray, List.set_cons_zero, List.set_cons_succ]
      refine rg_done (by kernel_rfl) ?_
      have B2 := B1.keep hS (by simp)
      go_wp2_with fail
      go_roundw
      case rel => exact ⟨i + 1, by omega, by go_num, by rw [E1.out, hS1.out, hS2.out, hS3.out, hS4.out, hS5.out, hS6.out], B2, hb⟩
      case measure => simp [intOf]; omega
    · obtain rfl : Z.length = i := by omega
      rw [List.take_length]
      go_wp2
      go_ret
      exact ⟨rfl, hb⟩
end Go.Proofs.YthcgbchgfdkhiaaDoor
