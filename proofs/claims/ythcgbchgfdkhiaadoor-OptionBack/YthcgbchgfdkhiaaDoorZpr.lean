/- option.Print. -/
import Derived.Test.YthcgbchgfdkhiaaDoorZwd
import Derived.Test.YthcgbchgfdkhiaaDoorZrg
import Derived.Laws.OwnMore
import Derived.Deep.DeepCutAuto
namespace Go.Proofs.YthcgbchgfdkhiaaDoor
set_option linter.unusedSimpArgs false
set_option linter.unusedVariables false
open Go.RowKit
set_option maxRecDepth 100000
/-- A slice of threes of numbers. -/
def RdZ (w : World) (v : Value) (xs : List (Int × Int × Int)) : Prop := (xs = [] ∧ ∃ a c, v = .slice a 0 c) ∨ ∃ g o c, v = .slice (some ⟨g, o, none⟩) xs.length c ∧ xs.length ≤ c ∧ ∀ (i : Nat) p, xs[i]? = some p → w.cell? ⟨g, o + i * 3, none⟩ = some (.int .i64 p.1) ∧ w.cell? ⟨g, o + i * 3 + 1, none⟩ = some (.int .i64 p.2.1) ∧ w.cell? ⟨g, o + i * 3 + 2, none⟩ = some (.int .i64 p.2.2)
theorem RdZ.shape {w : World} {v : Value} {xs : List (Int × Int × Int)} (h : RdZ w v xs) : ∃ a c, v = .slice a xs.length c := by
  rcases h with ⟨rfl, a, c, rfl⟩ | ⟨g, o, c, rfl, _⟩
  · exact ⟨a, c, rfl⟩
  · exact ⟨_, _, rfl⟩
theorem RdZ.at {w : World} {a : Option Addr} {c : Nat} {xs : List (Int × Int × Int)} (h : RdZ w (.slice a xs.length c) xs) {i : Nat} {p : Int × Int × Int} (hi : xs[i]? = some p) : ∃ g o, a = some ⟨g, o, none⟩ ∧ w.cell? ⟨g, o + i * 3, none⟩ = some (.int .i64 p.1) ∧ w.cell? ⟨g, o + i * 3 + 1, none⟩ = some (.int .i64 p.2.1) ∧ w.cell? ⟨g, o + i * 3 + 2, none⟩ = some (.int .i64 p.2.2) := by
  rcases h with ⟨rfl, _⟩ | ⟨g, o, c', e, _, hc⟩
  · simp at hi
  · obtain ⟨h1, h2, h3⟩ := hc i p hi
    exact ⟨g, o, by injection e, h1, h2, h3⟩
theorem RdZ.below {w w' : World} {v : Value} {xs : List (Int × Int × Int)} (h : RdZ w v xs) (hb : Below w.heap.size w w') : RdZ w' v xs :=
  h.imp id fun ⟨g, o, c, e, hc, hh⟩ => ⟨g, o, c, e, hc, fun i p hi => let ⟨h1, h2, h3⟩ := hh i p hi; ⟨cell_below hb h1, cell_below hb h2, cell_below hb h3⟩⟩
def z3ok (p : Int × Int × Int) : Prop := i64ok p.1 ∧ i64ok p.2.1 ∧ i64ok p.2.2
/-- The words of options. -/
def ows (h c : Int) (Z : List (Int × Int × Int)) : List (List UInt8) := wtx 104 [h] :: wtx 99 [c] :: Z.map fun p => wtx 115 [p.1, p.2.1, p.2.2]
theorem ints_blk (w : World) (l : List Int) : Blk (w.alloc (.cells (l.map fun x => Value.int .i64 x).toArray 3)) w.heap.size (l.map fun x => Value.int .i64 x) 3 := Blk.new _ _ _ rfl
set_option maxHeartbeats 4000000 in
theorem print_any (h c : Int) (za : Option Addr) (zc : Nat) (Z : List (Int × Int × Int)) (w : World) (hZ : RdZ w (.slice za Z.length zc) Z) (lZ : Z.length ≤ 20) (oh : i64ok h) (oc : i64ok c) (oz : ∀ p ∈ Z, z3ok p) (hT : Env w) :
    Calls Tryd.prog 12 #[.agg #[.int .i64 h, .int .i64 c, .slice za Z.length zc]] w fun e w' => e = .returned (.string (tx (Lib.join (ows h c Z) [32]))) ∧ Below w.heap.size w w' := by
  have B1 := Blk.new w [.int .i64 h, .int .i64 c, .slice za Z.length zc] 25 rfl
  have hb : Below w.heap.size w (w.alloc (.cells #[.int .i64 h, .int .i64 c, .slice za Z.length zc] 25)) := (Below.refl _ _).alloc (Nat.le_refl _) _
  have HZ := Lib.hid hZ
  have OZ := Lib.hid oz
  have HE := Lib.hid (hT.below hb)
  have HT := Lib.hid hT
  have HW1 : Hid (∀ g w, w.cell? ⟨g, 0, none⟩ = some (.int .i64 h) → Env w → Calls Tryd.prog 21 #[.string ⟨#[104]⟩, .slice (some ⟨g, 0, none⟩) 1 1] w fun e w' => e = .returned (.string (tx (wtx 104 [h]))) ∧ Below w.heap.size w w') :=
    fun g w hg hE => word_any 104 [h] g 0 1 w (by simp) (by simp) (by intro x hx; simp at hx; subst hx; exact oh) (by intro i x hx; match i, hx with | 0, hx => (simp at hx; subst hx; exact hg) | n + 1, hx => simp at hx) hE
  have HW2 : Hid (∀ g w, w.cell? ⟨g, 0, none⟩ = some (.int .i64 c) → Env w → Calls Tryd.prog 21 #[.string ⟨#[99]⟩, .slice (some ⟨g, 0, none⟩) 1 1] w fun e w' => e = .returned (.string (tx (wtx 99 [c]))) ∧ Below w.heap.size w w') :=
    fun g w hg hE => word_any 99 [c] g 0 1 w (by simp) (by simp) (by intro x hx; simp at hx; subst hx; exact oc) (by intro i x hx; match i, hx with | 0, hx => (simp at hx; subst hx; exact hg) | n + 1, hx => simp at hx) hE
  clear hZ oz oh oc hT
  have hz1 : (w.alloc (.cells #[.int .i64 h, .int .i64 c, .slice za Z.length zc] 25)).heap.size = w.heap.size + 1 := by simp
  have c0 := B1.cell (i := 0) rfl
  have c1 := B1.cell (i := 1) rfl
  have f0 := B1.frozen 0
  have f1 := B1.frozen 1
  go_enter Tryd.func12, Tryd.ntmps12
  go_wp2_with fail
  generalize w.alloc (.cells #[.int .i64 h, .int .i64 c, .slice za Z.length zc] 25) = W1 at *
  go_cut [3] (fun v wx => wx.ownsRow w.heap.size 9 1 v 2 (strs [wtx 104 [h], wtx 99 [c]]) ∧ Blk wx w.heap.size [.int .i64 h, .int .i64 c, .slice za Z.length zc] 25 ∧ Below w.heap.size w wx)
  case first =>
    have HEv := HE.out
    clear c0 c1 f0 f1
    refine rg_start [] (by kernel_rfl) (fun hS => ?_)
    replace hb := hb.drew
    replace HEv : Env W1.drew := HEv.below ((Below.refl _ _).drew)
    refine rg_take 0 rfl (by kernel_rfl) (by kernel_rfl) (by kernel_rfl) (by rfl) hS (v := ?_) ?_ ?_
    rotate_left
    · (intro w' hS'; go_simp <;> try with_reducible rfl)
    try simp only [Act.put, List.setIfInBounds_toArray, List.set_cons_zero, List.set_cons_succ]
    refine rg_take 1 rfl (by kernel_rfl) (by kernel_rfl) (by kernel_rfl) (by rfl) hS (v := ?_) ?_ ?_
    rotate_left
    · (intro w' hS'; have hc := (B1.keep hS' (by simp <;> omega)).cell (i := 0) (v := (.int .i64 h)) rfl; go_simp <;> try with_reducible rfl)
    try simp only [Act.put, List.setIfInBounds_toArray, List.set_cons_zero, List.set_cons_succ]
    refine rg_take 4 rfl (by kernel_rfl) (by kernel_rfl) (by kernel_rfl) (by rfl) hS (v := ?_) ?_ ?_
    rotate_left
    · (intro w' hS'; go_simp <;> try with_reducible rfl)
    try simp only [Act.put, List.setIfInBounds_toArray, List.set_cons_zero, List.set_cons_succ]
    refine rg_take 5 rfl (by kernel_rfl) (by kernel_rfl) (by kernel_rfl) (by rfl) hS (v := ?_) ?_ ?_
    rotate_left
    · (intro w' hS'; have hc := (B1.keep hS' (by simp <;> omega)).cell (i := 1) (v := (.int .i64 c)) rfl; go_simp <;> try with_reducible rfl)
    try simp only [Act.put, List.setIfInBounds_toArray, List.set_cons_zero, List.set_cons_succ]
    refine rg_two 2 6 rfl rfl (by kernel_rfl) (by rfl) (by rfl) (fun K hK => ?_) (fun K hK => ?_)
    · refine wp_bsI1q rfl rfl (fun gh wh BH hq => ?_)
      refine hK _ _ (hS.call hq) (fun hS => ?_)
      clear hK K
      replace HEv := HEv.below hq
      replace hb := bthen hb hq
      clear hq
      try simp only [Act.put, List.setIfInBounds_toArray, List.set_cons_zero, List.set_cons_succ]
      refine rg_two 3 6 rfl rfl (by kernel_rfl) (by rfl) (by rfl) (fun K hK => ?_) (fun K hK => ?_)
      · go_simp
        refine (HW1.out _ _ (BH.cell rfl) HEv).mono ?_
        rintro e w1 ⟨rfl, h1⟩
        refine hK _ _ (hS.call h1) (fun hS => ?_)
        clear hK K
        replace HEv := HEv.below h1
        replace hb := bthen hb h1
        clear h1
        try simp only [Act.put, List.setIfInBounds_toArray, List.set_cons_zero, List.set_cons_succ]
        refine rg_eff 6 rfl (by kernel_rfl) (by rfl) (fun K hK => ?_)
        refine wp_bsI1q rfl rfl (fun gc wc BC hq => ?_)
        refine hK _ _ (hS.call hq) (fun hS => ?_)
        clear hK K
        replace HEv := HEv.below hq
        replace hb := bthen hb hq
        clear hq
        try simp only [Act.put, List.setIfInBounds_toArray, List.set_cons_zero, List.set_cons_succ]
        refine rg_eff 7 rfl (by kernel_rfl) (by rfl) (fun K hK => ?_)
        go_simp
        refine (HW2.out _ _ (BC.cell rfl) HEv).mono ?_
        rintro e w1 ⟨rfl, h1⟩
        refine hK _ _ (hS.call h1) (fun hS => ?_)
        clear hK K
        replace HEv := HEv.below h1
        replace hb := bthen hb h1
        clear h1
        try simp only [Act.put, List.setIfInBounds_toArray, List.set_cons_zero, List.set_cons_succ]
        refine rg_eff 8 rfl (by kernel_rfl) (by rfl) (fun K hK => ?_)
        refine wp_bsS2q rfl rfl rfl (fun vq wq OW hq => ?_)
        refine hK _ _ (hS.call hq) (fun hS => ?_)
        clear hK K
        replace OW := OW _ hb.size
        replace hb := bthen hb hq
        clear hq
        try simp only [Act.put, List.setIfInBounds_toArray, List.set_cons_zero, List.set_cons_succ]
        refine rg_take 9 rfl (by kernel_rfl) (by kernel_rfl) (by kernel_rfl) (by rfl) hS (v := ?_) ?_ ?_
        rotate_left
        · (intro w' hS'; go_simp <;> try with_reducible rfl)
        try simp only [Act.put, List.setIfInBounds_toArray, List.set_cons_zero, List.set_cons_succ]
        refine rg_done (by kernel_rfl) ?_
        go_wp2_with fail
        go_meet
        case rel => exact ⟨OW, B1.keep hS (by simp), hb⟩
      · refine wp_bsI1q rfl rfl (fun gc wc BC hq => ?_)
        refine hK _ _ (hS.call hq) (fun hS => ?_)
        clear hK K
        replace HEv := HEv.below hq
        replace hb := bthen hb hq
        replace BH := BH.call hq
        clear hq
        try simp only [Act.put, List.setIfInBounds_toArray, List.set_cons_zero, List.set_cons_succ]
        refine rg_eff 3 rfl (by kernel_rfl) (by rfl) (fun K hK => ?_)
        go_simp
        refine (HW1.out _ _ (BH.cell rfl) HEv).mono ?_
        rintro e w1 ⟨rfl, h1⟩
        refine hK _ _ (hS.call h1) (fun hS => ?_)
        clear hK K
        replace BC := BC.call h1
        replace HEv := HEv.below h1
        replace hb := bthen hb h1
        clear h1
        try simp only [Act.put, List.setIfInBounds_toArray, List.set_cons_zero, List.set_cons_succ]
        refine rg_eff 7 rfl (by kernel_rfl) (by rfl) (fun K hK => ?_)
        go_simp
        refine (HW2.out _ _ (BC.cell rfl) HEv).mono ?_
        rintro e w1 ⟨rfl, h1⟩
        refine hK _ _ (hS.call h1) (fun hS => ?_)
        clear hK K
        replace HEv := HEv.below h1
        replace hb := bthen hb h1
        clear h1
        try simp only [Act.put, List.setIfInBounds_toArray, List.set_cons_zero, List.set_cons_succ]
        refine rg_eff 8 rfl (by kernel_rfl) (by rfl) (fun K hK => ?_)
        refine wp_bsS2q rfl rfl rfl (fun vq wq OW hq => ?_)
        refine hK _ _ (hS.call hq) (fun hS => ?_)
        clear hK K
        replace OW := OW _ hb.size
        replace hb := bthen hb hq
        clear hq
        try simp only [Act.put, List.setIfInBounds_toArray, List.set_cons_zero, List.set_cons_succ]
        refine rg_take 9 rfl (by kernel_rfl) (by kernel_rfl) (by kernel_rfl) (by rfl) hS (v := ?_) ?_ ?_
        rotate_left
        · (intro w' hS'; go_simp <;> try with_reducible rfl)
        try simp only [Act.put, List.setIfInBounds_toArray, List.set_cons_zero, List.set_cons_succ]
        refine rg_done (by kernel_rfl) ?_
        go_wp2_with fail
        go_meet
        case rel => exact ⟨OW, B1.keep hS (by simp), hb⟩
    · refine wp_bsI1q rfl rfl (fun gc wc BC hq => ?_)
      refine hK _ _ (hS.call hq) (fun hS => ?_)
      clear hK K
      replace HEv := HEv.below hq
      replace hb := bthen hb hq
      clear hq
      try simp only [Act.put, List.setIfInBounds_toArray, List.set_cons_zero, List.set_cons_succ]
      refine rg_eff 2 rfl (by kernel_rfl) (by rfl) (fun K hK => ?_)
      refine wp_bsI1q rfl rfl (fun gh wh BH hq => ?_)
      refine hK _ _ (hS.call hq) (fun hS => ?_)
      clear hK K
      replace HEv := HEv.below hq
      replace hb := bthen hb hq
      replace BC := BC.call hq
      clear hq
      try simp only [Act.put, List.setIfInBounds_toArray, List.set_cons_zero, List.set_cons_succ]
      refine rg_eff 3 rfl (by kernel_rfl) (by rfl) (fun K hK => ?_)
      go_simp
      refine (HW1.out _ _ (BH.cell rfl) HEv).mono ?_
      rintro e w1 ⟨rfl, h1⟩
      refine hK _ _ (hS.call h1) (fun hS => ?_)
      clear hK K
      replace BC := BC.call h1
      replace HEv := HEv.below h1
      replace hb := bthen hb h1
      clear h1
      try simp only [Act.put, List.setIfInBounds_toArray, List.set_cons_zero, List.set_cons_succ]
      refine rg_eff 7 rfl (by kernel_rfl) (by rfl) (fun K hK => ?_)
      go_simp
      refine (HW2.out _ _ (BC.cell rfl) HEv).mono ?_
      rintro e w1 ⟨rfl, h1⟩
      refine hK _ _ (hS.call h1) (fun hS => ?_)
      clear hK K
      replace HEv := HEv.below h1
      replace hb := bthen hb h1
      clear h1
      try simp only [Act.put, List.setIfInBounds_toArray, List.set_cons_zero, List.set_cons_succ]
      refine rg_eff 8 rfl (by kernel_rfl) (by rfl) (fun K hK => ?_)
      refine wp_bsS2q rfl rfl rfl (fun vq wq OW hq => ?_)
      refine hK _ _ (hS.call hq) (fun hS => ?_)
      clear hK K
      replace OW := OW _ hb.size
      replace hb := bthen hb hq
      clear hq
      try simp only [Act.put, List.setIfInBounds_toArray, List.set_cons_zero, List.set_cons_succ]
      refine rg_take 9 rfl (by kernel_rfl) (by kernel_rfl) (by kernel_rfl) (by rfl) hS (v := ?_) ?_ ?_
      rotate_left
      · (intro w' hS'; go_simp <;> try with_reducible rfl)
      try simp only [Act.put, List.setIfInBounds_toArray, List.set_cons_zero, List.set_cons_succ]
      refine rg_done (by kernel_rfl) ?_
      go_wp2_with fail
      go_meet
      case rel => exact ⟨OW, B1.keep hS (by simp), hb⟩
  case rest =>
    obtain ⟨OW, B1, hb⟩ := hcut
    have c2 := B1.cell (i := 2) rfl
    have HOW := Lib.hid OW
    clear OW c0 c1 f0 f1 B1 HW1 HW2
    go_wp2_with fail
    clear c2
    go_loopw [3, 18] (fun v j wr => ∃ i : Nat, i ≤ Z.length ∧ j = .int .i64 (i : Int) ∧ wr.ownsRow w.heap.size 9 1 v (2 + i) (strs ([wtx 104 [h], wtx 99 [c]] ++ (Z.take i).map fun p => wtx 115 [p.1, p.2.1, p.2.2])) ∧ Below w.heap.size w wr) (fun _ j _ => Z.length - (intOf j).toNat)
    case atStart => exact ⟨0, Nat.zero_le _, rfl, by rw [List.take_zero, List.map_nil, List.append_nil]; exact HOW.out, hb⟩
    case round =>
      obtain ⟨i, hi, rfl, ho, hb⟩ := hrel
      have HO := Lib.hid ho
      clear ho HOW
      by_cases hlt : i < Z.length
      · obtain ⟨⟨x, y, z⟩, hx⟩ : ∃ p, Z[i]? = some p := ⟨_, List.getElem?_eq_getElem hlt⟩
        obtain ⟨gv, ov, rfl, p1, p2, p3⟩ := HZ.out.at hx
        obtain ⟨n1, n2, n3⟩ := OZ.out _ (List.mem_of_getElem? hx)
        replace p1 := cell_below hb p1
        replace p2 := cell_below hb p2
        replace p3 := cell_below hb p3
        simp only at p1 p2 p3 n1 n2 n3
        have htk : (Z.take (i + 1)).map (fun p => wtx 115 [p.1, p.2.1, p.2.2]) = (Z.take i).map (fun p => wtx 115 [p.1, p.2.1, p.2.2]) ++ [wtx 115 [x, y, z]] := by rw [List.take_add_one, hx]; simp
        have HTK := Lib.hid htk
        have bt : Below wr.heap.size wr ((wr.alloc (.cells #[Value.int .i64 x, .int .i64 y, .int .i64 z] 40)).alloc (.cells ([x, y, z].map fun x => Value.int .i64 x).toArray 3)) := ((Below.refl wr.heap.size wr).alloc (Nat.le_refl _) (.cells #[Value.int .i64 x, .int .i64 y, .int .i64 z] 40)).alloc (by simp) (.cells ([x, y, z].map fun x => Value.int .i64 x).toArray 3)
        have C1 := ints_blk (wr.alloc (.cells #[Value.int .i64 x, .int .i64 y, .int .i64 z] 40)) [x, y, z]
        rw [show (wr.alloc (.cells #[Value.int .i64 x, .int .i64 y, .int .i64 z] 40)).heap.size = wr.heap.size + 1 by simp] at C1
        have HN := Lib.hid (word_any 115 [x, y, z] (wr.heap.size + 1) 0 3 _ (by simp) (by simp) (by intro q hq; simp at hq; rcases hq with rfl | rfl | rfl <;> assumption) (by
          intro i q hq
          rw [Nat.zero_add]
          exact C1.cell (by rw [List.getElem?_map, hq]; rfl)) (HT.out.below (hb.trans (bt.mono hb.size))))
        have HBT := Lib.hid bt
        have HO1 := Lib.hid ((owns_below HO.out bt))
        clear C1 bt hx htk n1 n2 n3 HO
        go_wp2_with fail
        refine HN.out.mono ?_
        rintro e w2 ⟨rfl, h1⟩
        have HO2 := Lib.hid (owns_below HO1.out h1)
        have hb1 := bthen hb (HBT.out)
        replace hb1 := bthen hb1 h1
        have hbs := hb1.size
        clear HN h1 HO1 HBT hb p1 p2 p3
        go_wp2_with (first | (at_builtin; refine app_str rfl rfl rfl rfl (HO2.out.alloc _) (Blk.new _ _ _ rfl) (by omega) (by simp; omega) ?_; intro v' w3 hown3 h3; have HO4 := Lib.hid hown3; have H3 := Lib.hid h3; clear hown3 h3))
        go_roundw
        case rel =>
          have b3 := (hb1.alloc hbs (.cells #[.string (tx (wtx 115 [x, y, z]))] 9)).trans H3.out
          refine ⟨i + 1, by omega, by go_num, ?_, b3⟩
          rw [HTK.out, show 2 + (i + 1) = 2 + i + 1 by omega]
          have := HO4.out
          simpa [strs] using this
        case measure => simp [intOf]; omega
      · obtain rfl : Z.length = i := by omega
        have HO2 := HO.out
        rw [List.take_length] at HO2
        have hrd : RdS wr _ (ows h c Z) := RdS.of_owns (by
          have e : (ows h c Z).length = 2 + Z.length := by simp [ows]; omega
          rw [e]; exact HO2)
        have hjl := join_le 32 65 (ows h c Z) (by
          intro u hu
          unfold ows at hu
          simp only [List.mem_cons, List.mem_map] at hu
          rcases hu with rfl | rfl | ⟨p, _, rfl⟩
          · exact Nat.le_trans (wtx_len _ _) (by simp)
          · exact Nat.le_trans (wtx_len _ _) (by simp)
          · exact Nat.le_trans (wtx_len _ _) (by simp))
        have e : (ows h c Z).length = 2 + Z.length := by simp [ows]; omega
        rw [e] at hjl
        have HW := Lib.hid (Join_any (ows h c Z) 32 _ wr (by simp [ows]) hrd (by omega) (by omega))
        have HBB := Lib.hid hb
        clear HO2 hrd hb HO e
        go_wp2_with fail
        refine HW.out.mono ?_
        rintro e w1 ⟨rfl, k2⟩
        have K2 := Lib.hid (bthen HBB.out k2)
        clear k2
        go_wp2
        go_ret
        exact ⟨rfl, K2.out⟩
end Go.Proofs.YthcgbchgfdkhiaaDoor
