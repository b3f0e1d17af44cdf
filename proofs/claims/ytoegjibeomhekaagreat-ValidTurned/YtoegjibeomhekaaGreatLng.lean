/- Package line: how two segments meet. -/
import Derived.Test.YtoegjibeomhekaaGreatLne
namespace Go.Proofs.YtoegjibeomhekaaGreat
set_option linter.unusedSimpArgs false
set_option linter.unusedVariables false
open Go.RowKit
set_option maxRecDepth 100000
theorem lop_rng {P : Program} {o : Oper} {a : Act} {w w0 : World} {G : List Nat} {ty : TypeId} {x : Operand} {b f : Nat} {cs : List Value} (ho : o.op = .load ty x) (hx : a.eval x = .pointer (some ⟨b, f, none⟩)) (h : w0.rangeAt b f cs) (hb : b < w0.heap.size) (hg : b ∉ G) (hS : Keep G w0 w) (W : Whole P ty cs.length) :
    (execOp a.eval o).run P w = .ok (.value (.agg cs.toArray)) w := by
  obtain ⟨d, hu, hd, hi⟩ := W
  have h' : w.rangeAt b f cs := fun j v hv => by
    have h1 := h j v hv
    unfold World.cell? at h1 ⊢
    rw [hS.2 b hb hg]; exact h1
  unfold execOp
  simp only [ho, hx, Instr.loadAt, Instr.sureAddr, Sem.run_bind, Sem.run_pure, Result.andThen_ok, run_loadVar_mid w b f ty cs d h' hu hd hi]
theorem op_ix0 {o : Oper} {a : Act} {x : Operand} {g n c : Nat} (hn : 0 < n) (ho : o.op = .indexAddr 24 x (.const (.int .i64 0))) (hx : a.eval x = .slice (some ⟨g, 0, none⟩) n c) (w : World) :
    (execOp a.eval o).run Tryz.prog w = .ok (.value (.pointer (some ⟨g, 0, none⟩))) w := by
  have h1 : (0 : Int) < (n : Int) := by omega
  unfold execOp
  simp only [ho, hx, BigFrame.eval_const]
  go_simp
theorem op_neqP {o : Oper} {a : Act} {p q : Operand} {x y u v : Rat} {ty : TypeId} (hx : Fq2 x) (hy : Fq2 y) (hu : Fq2 u) (hv : Fq2 v) {b : Bool} (hb : (!decide (x = u ∧ y = v)) = b) (ho : o.op = .binOp .neq 47 p q ty) (hp : a.eval p = .agg (fq x ++ fq y).toArray) (hq : a.eval q = .agg (fq u ++ fq v).toArray) (w : World) :
    (execOp a.eval o).run Tryz.prog w = .ok (.value (.bool b)) w := by
  subst hb
  unfold execOp
  simp only [ho, hp, hq]
  rw [Sem.run_bind, Sem.run_bind, run_eqGuard_agg w .neq 47 p q _ _ (by kernel_rfl), Result.andThen_ok, run_neq_struct, eqP hx hy hu hv]
  rfl
/-- The cells of a point. -/
def cp2 (p : Rat × Rat) : List Value := fq p.1 ++ fq p.2
theorem own_range {w : World} {base n : Nat} {v : Value} {L : List (Rat × Rat)} (hn : 0 < n) (h : w.ownsRow base 47 132 v n (jn (L.map cp2))) :
    ∃ g c, v = .slice (some ⟨g, 0, none⟩) n c ∧ g < w.heap.size ∧ ∀ k p, L[k]? = some p → w.rangeAt g (k * 132) (cp2 p) := by
  rcases h.2 with ⟨_, rfl⟩ | ⟨g, cap, cur, rfl, hb, hg, _⟩
  · omega
  · refine ⟨g, cap, rfl, (Array.getElem?_eq_some_iff.1 hg).1, fun k p hk j v hv => ?_⟩
    have hl : ∀ P ∈ L.map cp2, P.length = 132 := fun P hP => by
      obtain ⟨q, _, rfl⟩ := List.mem_map.1 hP
      exact pt_len (rc_q _) (rc_q _)
    have := h.cells (g := g) rfl (k * 132 + j) v (flat_get 132 _ k (cp2 p) j v hl (by rw [List.getElem?_map, hk]; rfl) hv)
    rwa [show (⟨g, 0, none⟩ : Addr).add (k * 132 + j) = ⟨g, k * 132 + j, none⟩ by simp [Addr.add]; intro h h'; simp [h, h']] at this
theorem rng_b {w w' : World} {g f : Nat} {cs : List Value} (h : w.rangeAt g f cs) (hg : g < w.heap.size) (hb : Below w.heap.size w w') : w'.rangeAt g f cs := fun j v hv => by
  rw [hb.cell (p := ⟨g, f + j, none⟩) hg]; exact h j v hv
theorem one_jn {L : List (Rat × Rat)} : ∀ u ∈ jn (L.map cp2), u.oneCell' = true := fun u hu => by
  unfold jn at hu
  obtain ⟨P, hP, hu⟩ := List.mem_flatten.1 hu
  obtain ⟨q, _, rfl⟩ := List.mem_map.1 hP
  exact pt_one (rc_q _) (rc_q _) u hu
set_option maxHeartbeats 8000000 in
theorem meet_walk {A B C D X Y U V : List Value} (hA : Rc A) (hB : Rc B) (hC : Rc C) (hD : Rc D) (hX : Rc X) (hY : Rc Y) (hU : Rc U) (hV : Rc V) {L1 L2 : List (Rat × Rat)} {n : Nat} {x0 y0 : Rat} {e1 e2 : Rat × Rat → Bool} {m0 m : Int}
    (hL1 : L1.length ≤ 10) (hL2 : L2.length ≤ 10) (hn : n = L1.length + L2.length)
    (T1 : ∀ w, Calls Tryz.prog 70 #[vl (sgm A B C D), vl (sgm X Y U V)] w fun e w' => ∃ v, e = .returned v ∧ w'.ownsRow w.heap.size 47 132 v L1.length (jn (L1.map cp2)) ∧ Below w.heap.size w w')
    (T2 : ∀ w, Calls Tryz.prog 70 #[vl (sgm X Y U V), vl (sgm A B C D)] w fun e w' => ∃ v, e = .returned v ∧ w'.ownsRow w.heap.size 47 132 v L2.length (jn (L2.map cp2)) ∧ Below w.heap.size w w')
    (TP : Tl 71 #[vl (sgm A B C D), vl (sgm X Y U V)] (.int .i64 m0)) (h0 : n ≠ 0 → (L1 ++ L2)[0]? = some (x0, y0))
    (hG : ∀ p ∈ L1 ++ L2, Gd p.1 p.2 ∧ Tl 72 #[vl (sgm A B C D), vl (cp2 p)] (.bool (e1 p)) ∧ Tl 72 #[vl (sgm X Y U V), vl (cp2 p)] (.bool (e2 p)))
    (hm : (n = 0 ∧ m = m0) ∨ (n ≠ 0 ∧ m = 1 ∧ ∀ p ∈ L1 ++ L2, p = (x0, y0) ∧ e1 p = true ∧ e2 p = true) ∨ (n ≠ 0 ∧ m = 2 ∧ ∃ p ∈ L1 ++ L2, ¬ (p = (x0, y0) ∧ e1 p = true ∧ e2 p = true))) :
    Tl 56 #[vl (sgm A B C D), vl (sgm X Y U V)] (.int .i64 m) := by
  intro w
  unfold vl at *
  unfold Tl at TP
  have HT1 := Lib.hid T1
  have HT2 := Lib.hid T2
  have HTP := Lib.hid TP
  have H0 := Lib.hid h0
  have HG := Lib.hid hG
  have HM := Lib.hid hm
  have HL : Hid (L1.length ≤ 10 ∧ L2.length ≤ 10 ∧ n = L1.length + L2.length) := ⟨hL1, hL2, hn⟩
  have hn20 : n ≤ 20 := by omega
  have HA := Lib.hid hA
  have HB := Lib.hid hB
  have HC := Lib.hid hC
  have HD := Lib.hid hD
  have HX := Lib.hid hX
  have HY := Lib.hid hY
  have HU := Lib.hid hU
  have HV := Lib.hid hV
  clear T1 T2 TP h0 hG hm hL1 hL2 hn hA hB hC hD hX hY hU hV
  have b2 := ((Blk.new w (sgm A B C D) 93 rfl).old (.cells (sgm X Y U V).toArray 93))
  have b3 := (Blk.new (w.alloc (.cells (sgm A B C D).toArray 93)) (sgm X Y U V) 93 (b := w.heap.size + 1) (by simp))
  have hb : Below w.heap.size w ((w.alloc (.cells (sgm A B C D).toArray 93)).alloc (.cells (sgm X Y U V).toArray 93)) := (((Below.refl _ _).alloc (Nat.le_refl _) _).alloc (by simp <;> omega) _)
  have hk : ((w.alloc (.cells (sgm A B C D).toArray 93)).alloc (.cells (sgm X Y U V).toArray 93)).heap.size = w.heap.size + 1 + 1 := by simp
  go_enter Tryz.func56, Tryz.ntmps56
  go_wp2_with fail
  have hsz := hb.size
  generalize ((w.alloc (.cells (sgm A B C D).toArray 93)).alloc (.cells (sgm X Y U V).toArray 93)) = W0 at *
  refine rg_start [] (by kernel_rfl) (fun hS => ?_)
  replace hb := hb.drew
  refine rg_ldP 0 rfl (by kernel_rfl) (by kernel_rfl) (by kernel_rfl) (by rfl) hS rfl rfl b2 (by simp <;> omega) (part_all _) (wholeG HA.out HB.out HC.out HD.out) ?_
  try simp only [Act.put, List.setIfInBounds_toArray, List.set_cons_zero, List.set_cons_succ]
  refine rg_ldP 1 rfl (by kernel_rfl) (by kernel_rfl) (by kernel_rfl) (by rfl) hS rfl rfl b3 (by simp <;> omega) (part_all _) (wholeG HX.out HY.out HU.out HV.out) ?_
  try simp only [Act.put, List.setIfInBounds_toArray, List.set_cons_zero, List.set_cons_succ]
  refine rg_ldP 3 rfl (by kernel_rfl) (by kernel_rfl) (by kernel_rfl) (by rfl) hS rfl rfl b3 (by simp <;> omega) (part_all _) (wholeG HX.out HY.out HU.out HV.out) ?_
  try simp only [Act.put, List.setIfInBounds_toArray, List.set_cons_zero, List.set_cons_succ]
  refine rg_ldP 4 rfl (by kernel_rfl) (by kernel_rfl) (by kernel_rfl) (by rfl) hS rfl rfl b2 (by simp <;> omega) (part_all _) (wholeG HA.out HB.out HC.out HD.out) ?_
  try simp only [Act.put, List.setIfInBounds_toArray, List.set_cons_zero, List.set_cons_succ]
  refine rg_eff 2 rfl (by kernel_rfl) (by rfl) (fun K hK => ?_)
  go_simp
  refine (HT1.out _).mono ?_
  rintro e w1 ⟨v1, rfl, o1, h1⟩
  replace o1 := own_base o1 hS.1
  refine hK _ _ (hS.call h1) (fun hS => ?_)
  clear hK K
  replace hb := bthen hb h1
  clear h1
  try simp only [Act.put, List.setIfInBounds_toArray, List.set_cons_zero, List.set_cons_succ]
  refine rg_eff 5 rfl (by kernel_rfl) (by rfl) (fun K hK => ?_)
  go_simp
  refine (HT2.out _).mono ?_
  rintro e w1 ⟨v2, rfl, o2, h1⟩
  replace o2 := own_base o2 hS.1
  refine hK _ _ (hS.call h1) (fun hS => ?_)
  clear hK K
  replace o1 := own_call o1 h1
  replace hb := bthen hb h1
  clear h1
  try simp only [Act.put, List.setIfInBounds_toArray, List.set_cons_zero, List.set_cons_succ]
  refine rg_eff 6 rfl (by kernel_rfl) (by rfl) (fun K hK => ?_)
  refine wp_app2 rfl rfl rfl o1 o2 one_jn (by have := HL.out; omega) hS.1 ?_
  intro v3 w3 o3 hg
  refine hK _ _ (hS.grown hg (fun j h => .inr (o1.lt j h).1)) (fun hS => ?_)
  clear hK K
  replace hb := hb.grown hg hb.size (fun j h => by have := (o1.lt j h).1; omega)
  clear o1 o2 hg
  try simp only [Act.put, List.setIfInBounds_toArray, List.set_cons_zero, List.set_cons_succ]
  refine rg_take 7 rfl (by kernel_rfl) (by kernel_rfl) (by kernel_rfl) (by rfl) hS (v := ?_) ?_ ?_
  rotate_left
  · (intro w' hS'; go_simp <;> try with_reducible rfl)
  try simp only [Act.put, List.setIfInBounds_toArray, List.set_cons_zero, List.set_cons_succ]
  refine rg_done (by kernel_rfl) ?_
  replace b2 := b2.keep hS (by simp)
  replace b3 := b3.keep hS (by simp)
  have o4 : w3.ownsRow W0.heap.size 47 132 v3 n (jn ((L1 ++ L2).map cp2)) := by
    rw [HL.out.2.2, List.map_append]
    unfold jn at *
    rw [List.flatten_append]
    exact o3
  clear o3 hS
  have Hlen : Hid ((L1 ++ L2).length = n) := by rw [List.length_append]; exact HL.out.2.2.symm
  generalize L1 ++ L2 = L at *
  clear HT1 HT2 HL hsz
  by_cases hn0 : n = 0
  · have em : m = m0 := by
      rcases HM.out with ⟨_, h⟩ | ⟨h, _⟩ | ⟨h, _⟩
      · exact h
      · exact absurd hn0 h
      · exact absurd hn0 h
    subst em
    obtain ⟨ad, cap, rfl⟩ : ∃ ad cap, v3 = .slice ad 0 cap := by
      rcases o4.2 with ⟨rfl, _⟩ | ⟨g, cap, cur, rfl, _⟩
      · exact ⟨none, 0, rfl⟩
      · rw [hn0]; exact ⟨_, cap, rfl⟩
    clear o4 HM H0 HG Hlen hn20 hn0
    go_wp2_with (first | (with_reducible refine ldP rfl rfl rfl b2 (part_all _) (wholeG HA.out HB.out HC.out HD.out) ?_) | (with_reducible refine ldP rfl rfl rfl b3 (part_all _) (wholeG HX.out HY.out HU.out HV.out) ?_))
    refine (HTP.out _).mono ?_
    rintro e w1 ⟨rfl, h1⟩
    replace hb := bthen hb h1
    clear h1
    go_wp2
    go_ret
    exact ⟨rfl, hb⟩
  · obtain ⟨g, cap, rfl, hg, hr⟩ := own_range (by omega) o4
    have HRg := Lib.hid hr
    have hn5 : ((n : Int) == 0) = false := by simp; omega
    have hn6 : ¬ (n : Int) = 0 := by omega
    have r00 : Hid (w3.rangeAt g 0 (fq x0 ++ fq y0)) := by
      have := hr 0 _ (H0.out hn0)
      rwa [Nat.zero_mul] at this
    have G0 : Hid (Fq2 x0 ∧ Fq2 y0) := by
      have := (HG.out _ (List.mem_of_getElem? (H0.out hn0))).1
      exact this.f
    clear o4 hr H0 HTP
    go_wp2_with fail
    try simp only [hn5]
    go_loopw [23] (fun i wr => ∃ k : Nat, k ≤ n ∧ i = .int .i64 k ∧ (∀ j, j < k → ∀ p, L[j]? = some p → p = (x0, y0) ∧ e1 p = true ∧ e2 p = true) ∧ Below w3.heap.size w3 wr) (fun i _ => n - (intOf i).toNat)
    case atStart => exact ⟨0, Nat.zero_le _, rfl, fun j hj => absurd hj (by omega), Below.refl _ _⟩
    case round =>
      obtain ⟨k, hk, rfl, hall, hw⟩ := hrel
      have HAll := Lib.hid hall
      clear hall
      by_cases hlt : k < n
      · have hlt' : (k : Int) < (n : Int) := by omega
        have hlt0 : (0 : Int) < (n : Int) := by omega
        have hlt1 : 0 < n := by omega
        obtain ⟨⟨x, y⟩, hp⟩ : ∃ p, L[k]? = some p := ⟨L[k]'(by rw [Hlen.out]; exact hlt), List.getElem?_eq_getElem _⟩
        have HP := Lib.hid hp
        obtain ⟨hgd, t1, t2⟩ := HG.out _ (List.mem_of_getElem? hp)
        have Gk : Hid (Fq2 x ∧ Fq2 y) := hgd.f
        have E1 := Lib.hid t1
        have E2 := Lib.hid t2
        unfold Tl cp2 at E1 E2
        have r0 : wr.rangeAt g (k * 132) (fq x ++ fq y) := rng_b (HRg.out k _ hp) hg hw
        have rr0 := rng_b r00.out hg hw
        have hgr := Nat.lt_of_lt_of_le hg hw.size
        replace b2 := b2.call hw
        replace b3 := b3.call hw
        clear hgd t1 t2 hp
        have a7 := Blk.new wr p0 47 rfl
        have b7 := a7.row (fq x ++ fq y)
        have hw' := below_row (hw.alloc hw.size (.cells p0.toArray 47)) (g := wr.heap.size) hw.size (fq x ++ fq y).toArray
        replace b2 := laid_o b2 p0 (fq x ++ fq y) 47
        replace b3 := laid_o b3 p0 (fq x ++ fq y) 47
        have rr1 : ((wr.alloc (.cells p0.toArray 47)).setRow wr.heap.size (fq x ++ fq y).toArray).rangeAt g 0 (fq x0 ++ fq y0) := rng_b rr0 hgr (laid_b (Below.refl _ _) p0 (fq x ++ fq y) 47)
        have hg1 : g < ((wr.alloc (.cells p0.toArray 47)).setRow wr.heap.size (fq x ++ fq y).toArray).heap.size := by simp; omega
        go_wp2_with (first | (with_reducible refine ldPr rfl rfl rfl r0 (rc_q _) (rc_q _) ?_) | (with_reducible refine alP rfl rfl ?_) | (with_reducible refine stPt rfl rfl rfl rfl a7 p0_len (rc_q _) (rc_q _) ?_))
        clear r0 rr0 a7 hgr hw
        generalize (wr.alloc (.cells p0.toArray 47)).setRow wr.heap.size (fq x ++ fq y).toArray = W at *
        have two : Hid (¬ ((x, y) = (x0, y0) ∧ e1 (x, y) = true ∧ e2 (x, y) = true) → m = 2) := fun h => by
          rcases HM.out with ⟨h', _⟩ | ⟨_, _, h'⟩ | ⟨_, h', _⟩
          · exact absurd h' hn0
          · exact absurd (h' _ (List.mem_of_getElem? HP.out)) h
          · exact h'
        obtain ⟨ne, hne⟩ : ∃ ne, (!decide (x = x0 ∧ y = y0)) = ne := ⟨_, rfl⟩
        have HNE := Lib.hid hne
        cases ne with
        | true =>
          have em : m = 2 := two.out (fun h => by
            have h1 : x = x0 ∧ y = y0 := by have := h.1; simpa using this
            rw [decide_eq_true h1] at hne; cases hne)
          subst em
          clear hne
          refine rg_start [] (by kernel_rfl) (fun hS => ?_)
          replace hw' := hw'.drew
          refine rg_ldP 0 rfl (by kernel_rfl) (by kernel_rfl) (by kernel_rfl) (by rfl) hS rfl rfl b7 (by simp <;> omega) (part_all _) (wholeP (rc_q _) (rc_q _)) ?_
          try simp only [Act.put, List.setIfInBounds_toArray, List.set_cons_zero, List.set_cons_succ]
          refine rg_take 1 rfl (by kernel_rfl) (by kernel_rfl) (by kernel_rfl) (by rfl) hS (v := ?_) ?_ ?_
          rotate_left
          · (intro w' hS'; go_simp <;> try with_reducible rfl)
          try simp only [Act.put, List.setIfInBounds_toArray, List.set_cons_zero, List.set_cons_succ]
          refine rg_take 2 rfl (by kernel_rfl) (by kernel_rfl) (by kernel_rfl) (by rfl) hS (v := .pointer (some ⟨g, 0, none⟩)) (fun w' _ => op_ix0 hlt1 rfl rfl w') ?_
          try simp only [Act.put, List.setIfInBounds_toArray, List.set_cons_zero, List.set_cons_succ]
          refine rg_take 3 rfl (by kernel_rfl) (by kernel_rfl) (by kernel_rfl) (by rfl) hS (v := .agg (fq x0 ++ fq y0).toArray) (fun w' hS' => lop_rng rfl rfl rr1 hg1 (by simp) hS' (wholeP (rc_q _) (rc_q _))) ?_
          try simp only [Act.put, List.setIfInBounds_toArray, List.set_cons_zero, List.set_cons_succ]
          refine rg_take 4 rfl (by kernel_rfl) (by kernel_rfl) (by kernel_rfl) (by rfl) hS (v := .bool true) (fun w' _ => op_neqP Gk.out.1 Gk.out.2 G0.out.1 G0.out.2 HNE.out rfl rfl rfl w') ?_
          try simp only [Act.put, List.setIfInBounds_toArray, List.set_cons_zero, List.set_cons_succ]
          refine rg_take 5 rfl (by kernel_rfl) (by kernel_rfl) (by kernel_rfl) (by rfl) hS (v := ?_) ?_ ?_
          rotate_left
          · (intro w' hS'; go_simp <;> try with_reducible rfl)
          try simp only [Act.put, List.setIfInBounds_toArray, List.set_cons_zero, List.set_cons_succ]
          refine rg_skip 6 rfl (by kernel_rfl) (by kernel_rfl) (by kernel_rfl) (by rfl) hS ?_
          try simp only [Act.put, List.setIfInBounds_toArray, List.set_cons_zero, List.set_cons_succ]
          refine rg_skip 7 rfl (by kernel_rfl) (by kernel_rfl) (by kernel_rfl) (by rfl) hS ?_
          try simp only [Act.put, List.setIfInBounds_toArray, List.set_cons_zero, List.set_cons_succ]
          refine rg_skip 8 rfl (by kernel_rfl) (by kernel_rfl) (by kernel_rfl) (by rfl) hS ?_
          try simp only [Act.put, List.setIfInBounds_toArray, List.set_cons_zero, List.set_cons_succ]
          refine rg_skip 9 rfl (by kernel_rfl) (by kernel_rfl) (by kernel_rfl) (by rfl) hS ?_
          try simp only [Act.put, List.setIfInBounds_toArray, List.set_cons_zero, List.set_cons_succ]
          refine rg_take 10 rfl (by kernel_rfl) (by kernel_rfl) (by kernel_rfl) (by rfl) hS (v := ?_) ?_ ?_
          rotate_left
          · (intro w' hS'; go_simp <;> try with_reducible rfl)
          try simp only [Act.put, List.setIfInBounds_toArray, List.set_cons_zero, List.set_cons_succ]
          refine rg_take 11 rfl (by kernel_rfl) (by kernel_rfl) (by kernel_rfl) (by rfl) hS (v := ?_) ?_ ?_
          rotate_left
          · (intro w' hS'; go_simp <;> try with_reducible rfl)
          try simp only [Act.put, List.setIfInBounds_toArray, List.set_cons_zero, List.set_cons_succ]
          refine rg_skip 12 rfl (by kernel_rfl) (by kernel_rfl) (by kernel_rfl) (by rfl) hS ?_
          try simp only [Act.put, List.setIfInBounds_toArray, List.set_cons_zero, List.set_cons_succ]
          refine rg_skip 13 rfl (by kernel_rfl) (by kernel_rfl) (by kernel_rfl) (by rfl) hS ?_
          try simp only [Act.put, List.setIfInBounds_toArray, List.set_cons_zero, List.set_cons_succ]
          refine rg_skip 14 rfl (by kernel_rfl) (by kernel_rfl) (by kernel_rfl) (by rfl) hS ?_
          try simp only [Act.put, List.setIfInBounds_toArray, List.set_cons_zero, List.set_cons_succ]
          refine rg_skip 15 rfl (by kernel_rfl) (by kernel_rfl) (by kernel_rfl) (by rfl) hS ?_
          try simp only [Act.put, List.setIfInBounds_toArray, List.set_cons_zero, List.set_cons_succ]
          refine rg_take 16 rfl (by kernel_rfl) (by kernel_rfl) (by kernel_rfl) (by rfl) hS (v := ?_) ?_ ?_
          rotate_left
          · (intro w' hS'; go_simp <;> try with_reducible rfl)
          try simp only [Act.put, List.setIfInBounds_toArray, List.set_cons_zero, List.set_cons_succ]
          refine rg_done (by kernel_rfl) ?_
          go_wp2
          go_ret
          exact ⟨rfl, bthen hb hw'⟩
        | false =>
          have eqp : x = x0 ∧ y = y0 := by
            by_cases h : x = x0 ∧ y = y0
            · exact h
            · rw [decide_eq_false h] at hne; cases hne
          obtain ⟨f1, hf1⟩ : ∃ f, e1 (x, y) = f := ⟨_, rfl⟩
          rw [hf1] at E1
          cases f1 with
          | false =>
            have em : m = 2 := two.out (fun h => by rw [hf1] at h; exact absurd h.2.1 (by decide))
            subst em
            clear hne eqp hf1
            refine rg_start [] (by kernel_rfl) (fun hS => ?_)
            replace hw' := hw'.drew
            refine rg_ldP 0 rfl (by kernel_rfl) (by kernel_rfl) (by kernel_rfl) (by rfl) hS rfl rfl b7 (by simp <;> omega) (part_all _) (wholeP (rc_q _) (rc_q _)) ?_
            try simp only [Act.put, List.setIfInBounds_toArray, List.set_cons_zero, List.set_cons_succ]
            refine rg_take 1 rfl (by kernel_rfl) (by kernel_rfl) (by kernel_rfl) (by rfl) hS (v := ?_) ?_ ?_
            rotate_left
            · (intro w' hS'; go_simp <;> try with_reducible rfl)
            try simp only [Act.put, List.setIfInBounds_toArray, List.set_cons_zero, List.set_cons_succ]
            refine rg_take 2 rfl (by kernel_rfl) (by kernel_rfl) (by kernel_rfl) (by rfl) hS (v := .pointer (some ⟨g, 0, none⟩)) (fun w' _ => op_ix0 hlt1 rfl rfl w') ?_
            try simp only [Act.put, List.setIfInBounds_toArray, List.set_cons_zero, List.set_cons_succ]
            refine rg_take 3 rfl (by kernel_rfl) (by kernel_rfl) (by kernel_rfl) (by rfl) hS (v := .agg (fq x0 ++ fq y0).toArray) (fun w' hS' => lop_rng rfl rfl rr1 hg1 (by simp) hS' (wholeP (rc_q _) (rc_q _))) ?_
            try simp only [Act.put, List.setIfInBounds_toArray, List.set_cons_zero, List.set_cons_succ]
            refine rg_take 4 rfl (by kernel_rfl) (by kernel_rfl) (by kernel_rfl) (by rfl) hS (v := .bool false) (fun w' _ => op_neqP Gk.out.1 Gk.out.2 G0.out.1 G0.out.2 HNE.out rfl rfl rfl w') ?_
            try simp only [Act.put, List.setIfInBounds_toArray, List.set_cons_zero, List.set_cons_succ]
            refine rg_take 5 rfl (by kernel_rfl) (by kernel_rfl) (by kernel_rfl) (by rfl) hS (v := ?_) ?_ ?_
            rotate_left
            · (intro w' hS'; go_simp <;> try with_reducible rfl)
            try simp only [Act.put, List.setIfInBounds_toArray, List.set_cons_zero, List.set_cons_succ]
            refine rg_ldP 6 rfl (by kernel_rfl) (by kernel_rfl) (by kernel_rfl) (by rfl) hS rfl rfl b2 (by simp <;> omega) (part_all _) (wholeG HA.out HB.out HC.out HD.out) ?_
            try simp only [Act.put, List.setIfInBounds_toArray, List.set_cons_zero, List.set_cons_succ]
            refine rg_ldP 7 rfl (by kernel_rfl) (by kernel_rfl) (by kernel_rfl) (by rfl) hS rfl rfl b7 (by simp <;> omega) (part_all _) (wholeP (rc_q _) (rc_q _)) ?_
            try simp only [Act.put, List.setIfInBounds_toArray, List.set_cons_zero, List.set_cons_succ]
            refine rg_eff 8 rfl (by kernel_rfl) (by rfl) (fun K hK => ?_)
            go_simp
            refine (E1.out _).mono ?_
            rintro e w1 ⟨rfl, h1⟩
            refine hK _ _ (hS.call h1) (fun hS => ?_)
            clear hK K
            replace hw' := bthen hw' h1
            clear h1
            try simp only [Act.put, List.setIfInBounds_toArray, List.set_cons_zero, List.set_cons_succ]
            refine rg_take 9 rfl (by kernel_rfl) (by kernel_rfl) (by kernel_rfl) (by rfl) hS (v := ?_) ?_ ?_
            rotate_left
            · (intro w' hS'; go_simp <;> try with_reducible rfl)
            try simp only [Act.put, List.setIfInBounds_toArray, List.set_cons_zero, List.set_cons_succ]
            refine rg_take 10 rfl (by kernel_rfl) (by kernel_rfl) (by kernel_rfl) (by rfl) hS (v := ?_) ?_ ?_
            rotate_left
            · (intro w' hS'; go_simp <;> try with_reducible rfl)
            try simp only [Act.put, List.setIfInBounds_toArray, List.set_cons_zero, List.set_cons_succ]
            refine rg_take 11 rfl (by kernel_rfl) (by kernel_rfl) (by kernel_rfl) (by rfl) hS (v := ?_) ?_ ?_
            rotate_left
            · (intro w' hS'; go_simp <;> try with_reducible rfl)
            try simp only [Act.put, List.setIfInBounds_toArray, List.set_cons_zero, List.set_cons_succ]
            refine rg_skip 12 rfl (by kernel_rfl) (by kernel_rfl) (by kernel_rfl) (by rfl) hS ?_
            try simp only [Act.put, List.setIfInBounds_toArray, List.set_cons_zero, List.set_cons_succ]
            refine rg_skip 13 rfl (by kernel_rfl) (by kernel_rfl) (by kernel_rfl) (by rfl) hS ?_
            try simp only [Act.put, List.setIfInBounds_toArray, List.set_cons_zero, List.set_cons_succ]
            refine rg_skip 14 rfl (by kernel_rfl) (by kernel_rfl) (by kernel_rfl) (by rfl) hS ?_
            try simp only [Act.put, List.setIfInBounds_toArray, List.set_cons_zero, List.set_cons_succ]
            refine rg_skip 15 rfl (by kernel_rfl) (by kernel_rfl) (by kernel_rfl) (by rfl) hS ?_
            try simp only [Act.put, List.setIfInBounds_toArray, List.set_cons_zero, List.set_cons_succ]
            refine rg_take 16 rfl (by kernel_rfl) (by kernel_rfl) (by kernel_rfl) (by rfl) hS (v := ?_) ?_ ?_
            rotate_left
            · (intro w' hS'; go_simp <;> try with_reducible rfl)
            try simp only [Act.put, List.setIfInBounds_toArray, List.set_cons_zero, List.set_cons_succ]
            refine rg_done (by kernel_rfl) ?_
            go_wp2
            go_ret
            exact ⟨rfl, bthen hb hw'⟩
          | true =>
            obtain ⟨f2, hf2⟩ : ∃ f, e2 (x, y) = f := ⟨_, rfl⟩
            rw [hf2] at E2
            cases f2 with
            | false =>
              have em : m = 2 := two.out (fun h => by rw [hf2] at h; exact absurd h.2.2 (by decide))
              subst em
              clear hne eqp hf1 hf2
              refine rg_start [] (by kernel_rfl) (fun hS => ?_)
              replace hw' := hw'.drew
              refine rg_ldP 0 rfl (by kernel_rfl) (by kernel_rfl) (by kernel_rfl) (by rfl) hS rfl rfl b7 (by simp <;> omega) (part_all _) (wholeP (rc_q _) (rc_q _)) ?_
              try simp only [Act.put, List.setIfInBounds_toArray, List.set_cons_zero, List.set_cons_succ]
              refine rg_take 1 rfl (by kernel_rfl) (by kernel_rfl) (by kernel_rfl) (by rfl) hS (v := ?_) ?_ ?_
              rotate_left
              · (intro w' hS'; go_simp <;> try with_reducible rfl)
              try simp only [Act.put, List.setIfInBounds_toArray, List.set_cons_zero, List.set_cons_succ]
              refine rg_take 2 rfl (by kernel_rfl) (by kernel_rfl) (by kernel_rfl) (by rfl) hS (v := .pointer (some ⟨g, 0, none⟩)) (fun w' _ => op_ix0 hlt1 rfl rfl w') ?_
              try simp only [Act.put, List.setIfInBounds_toArray, List.set_cons_zero, List.set_cons_succ]
              refine rg_take 3 rfl (by kernel_rfl) (by kernel_rfl) (by kernel_rfl) (by rfl) hS (v := .agg (fq x0 ++ fq y0).toArray) (fun w' hS' => lop_rng rfl rfl rr1 hg1 (by simp) hS' (wholeP (rc_q _) (rc_q _))) ?_
              try simp only [Act.put, List.setIfInBounds_toArray, List.set_cons_zero, List.set_cons_succ]
              refine rg_take 4 rfl (by kernel_rfl) (by kernel_rfl) (by kernel_rfl) (by rfl) hS (v := .bool false) (fun w' _ => op_neqP Gk.out.1 Gk.out.2 G0.out.1 G0.out.2 HNE.out rfl rfl rfl w') ?_
              try simp only [Act.put, List.setIfInBounds_toArray, List.set_cons_zero, List.set_cons_succ]
              refine rg_take 5 rfl (by kernel_rfl) (by kernel_rfl) (by kernel_rfl) (by rfl) hS (v := ?_) ?_ ?_
              rotate_left
              · (intro w' hS'; go_simp <;> try with_reducible rfl)
              try simp only [Act.put, List.setIfInBounds_toArray, List.set_cons_zero, List.set_cons_succ]
              refine rg_ldP 6 rfl (by kernel_rfl) (by kernel_rfl) (by kernel_rfl) (by rfl) hS rfl rfl b2 (by simp <;> omega) (part_all _) (wholeG HA.out HB.out HC.out HD.out) ?_
              try simp only [Act.put, List.setIfInBounds_toArray, List.set_cons_zero, List.set_cons_succ]
              refine rg_ldP 7 rfl (by kernel_rfl) (by kernel_rfl) (by kernel_rfl) (by rfl) hS rfl rfl b7 (by simp <;> omega) (part_all _) (wholeP (rc_q _) (rc_q _)) ?_
              try simp only [Act.put, List.setIfInBounds_toArray, List.set_cons_zero, List.set_cons_succ]
              refine rg_eff 8 rfl (by kernel_rfl) (by rfl) (fun K hK => ?_)
              go_simp
              refine (E1.out _).mono ?_
              rintro e w1 ⟨rfl, h1⟩
              refine hK _ _ (hS.call h1) (fun hS => ?_)
              clear hK K
              replace hw' := bthen hw' h1
              clear h1
              try simp only [Act.put, List.setIfInBounds_toArray, List.set_cons_zero, List.set_cons_succ]
              refine rg_take 9 rfl (by kernel_rfl) (by kernel_rfl) (by kernel_rfl) (by rfl) hS (v := ?_) ?_ ?_
              rotate_left
              · (intro w' hS'; go_simp <;> try with_reducible rfl)
              try simp only [Act.put, List.setIfInBounds_toArray, List.set_cons_zero, List.set_cons_succ]
              refine rg_take 10 rfl (by kernel_rfl) (by kernel_rfl) (by kernel_rfl) (by rfl) hS (v := ?_) ?_ ?_
              rotate_left
              · (intro w' hS'; go_simp <;> try with_reducible rfl)
              try simp only [Act.put, List.setIfInBounds_toArray, List.set_cons_zero, List.set_cons_succ]
              refine rg_take 11 rfl (by kernel_rfl) (by kernel_rfl) (by kernel_rfl) (by rfl) hS (v := ?_) ?_ ?_
              rotate_left
              · (intro w' hS'; go_simp <;> try with_reducible rfl)
              try simp only [Act.put, List.setIfInBounds_toArray, List.set_cons_zero, List.set_cons_succ]
              refine rg_ldP 12 rfl (by kernel_rfl) (by kernel_rfl) (by kernel_rfl) (by rfl) hS rfl rfl b3 (by simp <;> omega) (part_all _) (wholeG HX.out HY.out HU.out HV.out) ?_
              try simp only [Act.put, List.setIfInBounds_toArray, List.set_cons_zero, List.set_cons_succ]
              refine rg_ldP 13 rfl (by kernel_rfl) (by kernel_rfl) (by kernel_rfl) (by rfl) hS rfl rfl b7 (by simp <;> omega) (part_all _) (wholeP (rc_q _) (rc_q _)) ?_
              try simp only [Act.put, List.setIfInBounds_toArray, List.set_cons_zero, List.set_cons_succ]
              refine rg_eff 14 rfl (by kernel_rfl) (by rfl) (fun K hK => ?_)
              go_simp
              refine (E2.out _).mono ?_
              rintro e w1 ⟨rfl, h1⟩
              refine hK _ _ (hS.call h1) (fun hS => ?_)
              clear hK K
              replace hw' := bthen hw' h1
              clear h1
              try simp only [Act.put, List.setIfInBounds_toArray, List.set_cons_zero, List.set_cons_succ]
              refine rg_take 15 rfl (by kernel_rfl) (by kernel_rfl) (by kernel_rfl) (by rfl) hS (v := ?_) ?_ ?_
              rotate_left
              · (intro w' hS'; go_simp <;> try with_reducible rfl)
              try simp only [Act.put, List.setIfInBounds_toArray, List.set_cons_zero, List.set_cons_succ]
              refine rg_take 16 rfl (by kernel_rfl) (by kernel_rfl) (by kernel_rfl) (by rfl) hS (v := ?_) ?_ ?_
              rotate_left
              · (intro w' hS'; go_simp <;> try with_reducible rfl)
              try simp only [Act.put, List.setIfInBounds_toArray, List.set_cons_zero, List.set_cons_succ]
              refine rg_done (by kernel_rfl) ?_
              go_wp2
              go_ret
              exact ⟨rfl, bthen hb hw'⟩
            | true =>
              have HOK : Hid ((x, y) = (x0, y0) ∧ e1 (x, y) = true ∧ e2 (x, y) = true) := ⟨by rw [eqp.1, eqp.2], hf1, hf2⟩
              clear hne eqp hf1 hf2 two
              refine rg_start [] (by kernel_rfl) (fun hS => ?_)
              replace hw' := hw'.drew
              refine rg_ldP 0 rfl (by kernel_rfl) (by kernel_rfl) (by kernel_rfl) (by rfl) hS rfl rfl b7 (by simp <;> omega) (part_all _) (wholeP (rc_q _) (rc_q _)) ?_
              try simp only [Act.put, List.setIfInBounds_toArray, List.set_cons_zero, List.set_cons_succ]
              refine rg_take 1 rfl (by kernel_rfl) (by kernel_rfl) (by kernel_rfl) (by rfl) hS (v := ?_) ?_ ?_
              rotate_left
              · (intro w' hS'; go_simp <;> try with_reducible rfl)
              try simp only [Act.put, List.setIfInBounds_toArray, List.set_cons_zero, List.set_cons_succ]
              refine rg_take 2 rfl (by kernel_rfl) (by kernel_rfl) (by kernel_rfl) (by rfl) hS (v := .pointer (some ⟨g, 0, none⟩)) (fun w' _ => op_ix0 hlt1 rfl rfl w') ?_
              try simp only [Act.put, List.setIfInBounds_toArray, List.set_cons_zero, List.set_cons_succ]
              refine rg_take 3 rfl (by kernel_rfl) (by kernel_rfl) (by kernel_rfl) (by rfl) hS (v := .agg (fq x0 ++ fq y0).toArray) (fun w' hS' => lop_rng rfl rfl rr1 hg1 (by simp) hS' (wholeP (rc_q _) (rc_q _))) ?_
              try simp only [Act.put, List.setIfInBounds_toArray, List.set_cons_zero, List.set_cons_succ]
              refine rg_take 4 rfl (by kernel_rfl) (by kernel_rfl) (by kernel_rfl) (by rfl) hS (v := .bool false) (fun w' _ => op_neqP Gk.out.1 Gk.out.2 G0.out.1 G0.out.2 HNE.out rfl rfl rfl w') ?_
              try simp only [Act.put, List.setIfInBounds_toArray, List.set_cons_zero, List.set_cons_succ]
              refine rg_take 5 rfl (by kernel_rfl) (by kernel_rfl) (by kernel_rfl) (by rfl) hS (v := ?_) ?_ ?_
              rotate_left
              · (intro w' hS'; go_simp <;> try with_reducible rfl)
              try simp only [Act.put, List.setIfInBounds_toArray, List.set_cons_zero, List.set_cons_succ]
              refine rg_ldP 6 rfl (by kernel_rfl) (by kernel_rfl) (by kernel_rfl) (by rfl) hS rfl rfl b2 (by simp <;> omega) (part_all _) (wholeG HA.out HB.out HC.out HD.out) ?_
              try simp only [Act.put, List.setIfInBounds_toArray, List.set_cons_zero, List.set_cons_succ]
              refine rg_ldP 7 rfl (by kernel_rfl) (by kernel_rfl) (by kernel_rfl) (by rfl) hS rfl rfl b7 (by simp <;> omega) (part_all _) (wholeP (rc_q _) (rc_q _)) ?_
              try simp only [Act.put, List.setIfInBounds_toArray, List.set_cons_zero, List.set_cons_succ]
              refine rg_eff 8 rfl (by kernel_rfl) (by rfl) (fun K hK => ?_)
              go_simp
              refine (E1.out _).mono ?_
              rintro e w1 ⟨rfl, h1⟩
              refine hK _ _ (hS.call h1) (fun hS => ?_)
              clear hK K
              replace hw' := bthen hw' h1
              clear h1
              try simp only [Act.put, List.setIfInBounds_toArray, List.set_cons_zero, List.set_cons_succ]
              refine rg_take 9 rfl (by kernel_rfl) (by kernel_rfl) (by kernel_rfl) (by rfl) hS (v := ?_) ?_ ?_
              rotate_left
              · (intro w' hS'; go_simp <;> try with_reducible rfl)
              try simp only [Act.put, List.setIfInBounds_toArray, List.set_cons_zero, List.set_cons_succ]
              refine rg_take 10 rfl (by kernel_rfl) (by kernel_rfl) (by kernel_rfl) (by rfl) hS (v := ?_) ?_ ?_
              rotate_left
              · (intro w' hS'; go_simp <;> try with_reducible rfl)
              try simp only [Act.put, List.setIfInBounds_toArray, List.set_cons_zero, List.set_cons_succ]
              refine rg_take 11 rfl (by kernel_rfl) (by kernel_rfl) (by kernel_rfl) (by rfl) hS (v := ?_) ?_ ?_
              rotate_left
              · (intro w' hS'; go_simp <;> try with_reducible rfl)
              try simp only [Act.put, List.setIfInBounds_toArray, List.set_cons_zero, List.set_cons_succ]
              refine rg_ldP 12 rfl (by kernel_rfl) (by kernel_rfl) (by kernel_rfl) (by rfl) hS rfl rfl b3 (by simp <;> omega) (part_all _) (wholeG HX.out HY.out HU.out HV.out) ?_
              try simp only [Act.put, List.setIfInBounds_toArray, List.set_cons_zero, List.set_cons_succ]
              refine rg_ldP 13 rfl (by kernel_rfl) (by kernel_rfl) (by kernel_rfl) (by rfl) hS rfl rfl b7 (by simp <;> omega) (part_all _) (wholeP (rc_q _) (rc_q _)) ?_
              try simp only [Act.put, List.setIfInBounds_toArray, List.set_cons_zero, List.set_cons_succ]
              refine rg_eff 14 rfl (by kernel_rfl) (by rfl) (fun K hK => ?_)
              go_simp
              refine (E2.out _).mono ?_
              rintro e w1 ⟨rfl, h1⟩
              refine hK _ _ (hS.call h1) (fun hS => ?_)
              clear hK K
              replace hw' := bthen hw' h1
              clear h1
              try simp only [Act.put, List.setIfInBounds_toArray, List.set_cons_zero, List.set_cons_succ]
              refine rg_take 15 rfl (by kernel_rfl) (by kernel_rfl) (by kernel_rfl) (by rfl) hS (v := ?_) ?_ ?_
              rotate_left
              · (intro w' hS'; go_simp <;> try with_reducible rfl)
              try simp only [Act.put, List.setIfInBounds_toArray, List.set_cons_zero, List.set_cons_succ]
              refine rg_take 16 rfl (by kernel_rfl) (by kernel_rfl) (by kernel_rfl) (by rfl) hS (v := ?_) ?_ ?_
              rotate_left
              · (intro w' hS'; go_simp <;> try with_reducible rfl)
              try simp only [Act.put, List.setIfInBounds_toArray, List.set_cons_zero, List.set_cons_succ]
              refine rg_done (by kernel_rfl) ?_
              go_wp2
              go_roundw
              case rel => exact ⟨k + 1, by omega, by go_num, fun j hj p hp => by
                rcases Nat.lt_or_ge j k with h | h
                · exact HAll.out j h p hp
                · obtain rfl : j = k := by omega
                  rw [HP.out] at hp
                  injection hp with hp
                  rw [← hp]; exact HOK.out, hw'⟩
              case measure => simp [intOf]; omega
      · obtain rfl : k = n := by omega
        have em : m = 1 := by
          rcases HM.out with ⟨h', _⟩ | ⟨_, h', _⟩ | ⟨_, _, p, hp, h'⟩
          · exact absurd h' hn0
          · exact h'
          · obtain ⟨j, hj⟩ := List.mem_iff_getElem?.1 hp
            exact absurd (HAll.out j (by have := (List.getElem?_eq_some_iff.1 hj).1; rw [Hlen.out] at this; exact this) p hj) h'
        subst em
        go_wp2
        go_ret
        exact ⟨rfl, bthen hb hw⟩
end Go.Proofs.YtoegjibeomhekaaGreat
