/- Package line: the ends that two segments share. -/
import Derived.Test.YtoegjibeomhekaaGreatLnd
import Derived.Deep.Upon
import Derived.Deep.DeepCutAuto
namespace Go.Proofs.YtoegjibeomhekaaGreat
set_option linter.unusedSimpArgs false
set_option linter.unusedVariables false
open Go.RowKit
set_option maxRecDepth 100000
theorem info_point : (Tryz.prog.info? 47).map (fun i => (i.zero, i.size, i.bytes)) = some (some (.agg p0.toArray), 132, 528) := by kernel_rfl
theorem own_base {w : World} {base base' : Nat} {e : TypeId} {size : Nat} {v : Value} {n : Nat} {xs : List Value} (h : w.ownsRow base e size v n xs) (hb : base' ≤ base) : w.ownsRow base' e size v n xs :=
  ⟨h.1, h.2.imp id fun ⟨g, cap, cur, e1, e2, r⟩ => ⟨g, cap, cur, e1, Nat.le_trans hb e2, r⟩⟩
/-- Two rows, one behind the other. -/
theorem run_app2 {P : Program} (w : World) (base base2 : Nat) (t ty e : TypeId) (i : TypeInfo) (z : Value) (size bytes : Nat) (ht : P.underlying t = some (.slice e)) (hi : P.info? e = some i) (hz : i.zero = some z)
    (hsize : i.size = size) (hby : i.bytes = bytes) (hzs : z.cells.size = size) (hsz : 0 < size)
    (v : Value) (n : Nat) (xs : List Value) (hown : w.ownsRow base e size v n xs) (u : Value) (m : Nat) (ys : List Value) (hown2 : w.ownsRow base2 e size u m ys) (h1 : ∀ u ∈ ys, u.oneCell' = true)
    (h63 : n + m ≤ maxLen) (hbytes : (n + m) * bytes ≤ 140737488355328) (hbase : base ≤ w.heap.size) :
    ∃ v' w', (Builtin.append_ #[t, t] ty #[v, u]).run P w = .ok v' w' ∧ w'.ownsRow base e size v' (n + m) (xs ++ ys) ∧ w.grownBy w' v.ownBlock := by
  rcases hown2.2 with ⟨rfl, rfl⟩ | ⟨g, cap, cur, rfl, _, _, _, _, _, _⟩
  · have hy : ys = [] := List.eq_nil_of_length_eq_zero (by simpa using hown2.1)
    subst hy
    rw [Nat.add_zero, List.append_nil]
    refine ⟨v, w, ?_, hown, ⟨rfl, rfl, rfl, Nat.le_refl _, fun _ _ _ => rfl⟩⟩
    rcases hown.2 with ⟨rfl, _⟩ | ⟨g, cap, cur, rfl, _, _, hnc, _⟩
    · exact run_append_nothing w t t ty e i ht hi none 0 0 (Nat.le_refl _) _ (Src.ofNil w ht 0)
    · exact run_append_nothing w t t ty e i ht hi _ _ _ hnc _ (Src.ofNil w ht 0)
  · obtain ⟨v', w', hr, h2, h3, _⟩ := run_append_own2 w base t ty e i z size bytes ht hi hz hsize hby hzs hsz v n xs hown ⟨g, 0, none⟩ m cap ys hown2.1 (hown2.cells (g := g) rfl) h1 h63 hbytes hbase
    exact ⟨v', w', hr, h2, h3⟩
theorem wp_app2 {w : World} {o : Oper} {a : Act} {K : Act → World → Prop} {Q : Exit → Act → World → Prop} {s x : Operand} (ho : o.op = .call { callee := .builtin .append, args := #[s, x], argTypes := #[24, 24] })
    {base base2 : Nat} {v u : Value} {n m : Nat} {xs ys : List Value} (hs : a.eval s = v) (hx : a.eval x = u) (hown : w.ownsRow base 47 132 v n xs) (hown2 : w.ownsRow base2 47 132 u m ys) (h1 : ∀ u ∈ ys, u.oneCell' = true) (hn : n + m ≤ 100) (hbase : base ≤ w.heap.size)
    (h : ∀ v' w', w'.ownsRow base 47 132 v' (n + m) (xs ++ ys) → w.grownBy w' v.ownBlock → K (a.put o.dst v') w') : o.wp Tryz.prog a w K Q := by
  obtain ⟨i0, hi, hz0, hz1, hz2⟩ := info_parts info_point
  obtain ⟨v', w', hr, h2, h3⟩ := run_app2 w base base2 24 o.type 47 i0 (.agg p0.toArray) 132 528 Tryz.underlying24 hi hz0 hz1 hz2 rfl (by decide) v n xs hown u m ys hown2 h1 (by unfold maxLen; omega) (by omega) hbase
  unfold Oper.wp execOp
  simp only [ho, resolve, invoke, builtin, Sem.run_bind, Sem.run_pure, Result.andThen_ok, List.map_toArray, List.map_cons, List.map_nil, hs, hx, hr]
  exact h v' w' h2 h3
theorem apP {ops : Array Oper} {rest : List Oper} {o : Oper} {a : Act} {w : World} {Q : Exit → Act → World → Prop} {s x : Operand} {v : Value} {n base p : Nat} {xs P : List Value} (hgd : o.guard = none) (ho : o.op = .call { callee := .builtin .append, args := #[s, x], argTypes := #[24, 24] })
    (hs : a.eval s = v) (hx : a.eval x = .slice (some ⟨p, 0, none⟩) 1 1) (hown : w.ownsRow base 47 132 v n xs) (hB : Blk w p P 47) (hl : P.length = 132) (h1 : ∀ u ∈ P, u.oneCell' = true) (hn : n ≤ 50) (hbase : base ≤ w.heap.size)
    (h : ∀ v' w', w'.ownsRow base 47 132 v' (n + 1) (xs ++ P) → w.grownBy w' v.ownBlock → wpList Tryz.prog ops Q rest (a.put o.dst v') w') : wpList Tryz.prog ops Q (o :: rest) a w :=
  wpList_plain hgd fun K hK => by
    obtain ⟨i0, hi, hz0, hz1, hz2⟩ := info_parts info_point
    exact wp_append_own2 w s x 24 ho base 47 i0 (.agg p0.toArray) 132 528 Tryz.underlying24 hi hz0 hz1 hz2 rfl (by decide) v n xs hs hown ⟨p, 0, none⟩ 1 1 P hx (by rw [hl]) (fun j u hj => app_cell hB hj) h1 (by unfold maxLen; omega) (by omega) hbase (fun v' w' h2 h3 _ => hK _ _ (h v' w' h2 h3))
/-- Of the first k those that are told. -/
def pk (R : Nat → Bool) (P : Nat → List Value) : Nat → List (List Value)
  | 0 => []
  | k + 1 => pk R P k ++ (if R k then [P k] else [])
theorem pk_len (R : Nat → Bool) (P : Nat → List Value) : ∀ k, (pk R P k).length ≤ k
  | 0 => Nat.le_refl _
  | k + 1 => by
    show (pk R P k ++ _).length ≤ k + 1
    rw [List.length_append]
    have := pk_len R P k
    split
    · simp; exact this
    · simp; omega
theorem jn_snoc (Ps : List (List Value)) (P : List Value) : jn (Ps ++ [P]) = jn Ps ++ P := by unfold jn; simp
theorem own_alloc1 {w : World} {base : Nat} {e : TypeId} {size : Nat} {v : Value} {n : Nat} {xs : List Value} (h : w.ownsRow base e size v n xs) (o : Obj) : (w.alloc o).ownsRow base e size v n xs := h.alloc o
set_option maxHeartbeats 4000000 in
theorem shared_walk {A B C D X Y U V : List Value} {r s : Bool} (hA : Rc A) (hB : Rc B) (hC : Rc C) (hD : Rc D) (hX : Rc X) (hY : Rc Y) (hU : Rc U) (hV : Rc V) (T1 : Tl 50 #[vl (sgm A B C D), vl (X ++ Y)] (.bool r)) (T2 : Tl 50 #[vl (sgm A B C D), vl (U ++ V)] (.bool s)) (w : World) :
    Calls Tryz.prog 70 #[vl (sgm A B C D), vl (sgm X Y U V)] w fun e w' => ∃ v, e = .returned v ∧ w'.ownsRow w.heap.size 47 132 v (pk (fun k => if k = 0 then r else s) (fun k => (if k = 0 then X else U) ++ (if k = 0 then Y else V)) 2).length (jn (pk (fun k => if k = 0 then r else s) (fun k => (if k = 0 then X else U) ++ (if k = 0 then Y else V)) 2)) ∧ Below w.heap.size w w' := by
  have HT : Hid (∀ k, k < 2 → Tl 50 #[vl (sgm A B C D), vl ((if k = 0 then X else U) ++ (if k = 0 then Y else V))] (.bool (if k = 0 then r else s))) := fun k hk => by
    rcases (show k = 0 ∨ k = 1 by omega) with rfl | rfl
    · exact T1
    · exact T2
  have HR : Hid (∀ k, k < 2 → Rc (if k = 0 then X else U) ∧ Rc (if k = 0 then Y else V)) := fun k hk => by
    rcases (show k = 0 ∨ k = 1 by omega) with rfl | rfl
    · exact ⟨hX, hY⟩
    · exact ⟨hU, hV⟩
  unfold vl at *
  unfold Tl at HT
  have HA := Lib.hid hA
  have HB := Lib.hid hB
  have HC := Lib.hid hC
  have HD := Lib.hid hD
  have HX := Lib.hid hX
  have HY := Lib.hid hY
  have HU := Lib.hid hU
  have HV := Lib.hid hV
  clear T1 T2 hA hB hC hD hX hY hU hV
  have b2 := ((Blk.new w (sgm A B C D) 93 rfl).old (.cells (sgm X Y U V).toArray 93))
  have b3 := (Blk.new (w.alloc (.cells (sgm A B C D).toArray 93)) (sgm X Y U V) 93 (b := w.heap.size + 1) (by simp))
  have hb : Below w.heap.size w ((w.alloc (.cells (sgm A B C D).toArray 93)).alloc (.cells (sgm X Y U V).toArray 93)) := (((Below.refl _ _).alloc (Nat.le_refl _) _).alloc (by simp <;> omega) _)
  have hk : ((w.alloc (.cells (sgm A B C D).toArray 93)).alloc (.cells (sgm X Y U V).toArray 93)).heap.size = w.heap.size + 1 + 1 := by simp
  go_enter Tryz.func70, Tryz.ntmps70
  go_wp2_with (first | (with_reducible refine ldP rfl rfl rfl b3 (sgm_a HX.out HY.out HU.out HV.out) (wholeP HX.out HY.out) ?_) | (with_reducible refine ldP rfl rfl rfl b3 (sgm_b HX.out HY.out HU.out HV.out) (wholeP HU.out HV.out) ?_) | (with_reducible refine bsP2 rfl rfl rfl rfl HX.out HY.out HU.out HV.out ?_))
  have sl := Blk.new ((w.alloc (.cells (sgm A B C D).toArray 93)).alloc (.cells (sgm X Y U V).toArray 93)) (j2 (X ++ Y) (U ++ V)) 47 (b := w.heap.size + 1 + 1) hk.symm
  replace hb := hb.alloc hb.size (.cells (j2 (X ++ Y) (U ++ V)).toArray 47)
  replace b2 := b2.old (.cells (j2 (X ++ Y) (U ++ V)).toArray 47)
  have hz : w.heap.size + 1 + 1 + 1 ≤ (((w.alloc (.cells (sgm A B C D).toArray 93)).alloc (.cells (sgm X Y U V).toArray 93)).alloc (.cells (j2 (X ++ Y) (U ++ V)).toArray 47)).heap.size := by simp
  try rw [hk]
  clear hk b3
  go_loopw [5, 14] (fun v i wr => ∃ k : Nat, k ≤ 2 ∧ i = .int .i64 k ∧ wr.ownsRow (w.heap.size + 1 + 1 + 1) 47 132 v (pk (fun k => if k = 0 then r else s) (fun k => (if k = 0 then X else U) ++ (if k = 0 then Y else V)) k).length (jn (pk (fun k => if k = 0 then r else s) (fun k => (if k = 0 then X else U) ++ (if k = 0 then Y else V)) k)) ∧ Below w.heap.size w wr ∧ Blk wr w.heap.size (sgm A B C D) 93 ∧ Blk wr (w.heap.size + 1 + 1) (j2 (X ++ Y) (U ++ V)) 47 ∧ w.heap.size + 1 + 1 + 1 ≤ wr.heap.size) (fun _ i _ => 2 - (intOf i).toNat)
  case atStart => exact ⟨0, Nat.zero_le _, rfl, World.ownsRow_nil _ _ _ _, hb, b2, sl, hz⟩
  case round =>
    clear hb b2 sl hz
    obtain ⟨k, hk, rfl, o5, hb, b2, sl, hz⟩ := hrel
    by_cases hlt : k < 2
    · have r0 := pr_two HX.out HY.out HU.out HV.out sl k hlt
      have hlt' : (k : Int) < 2 := by omega
      have HTk := Lib.hid (HT.out k hlt)
      obtain ⟨e1, e2⟩ := HR.out k hlt
      have E1 := Lib.hid e1
      have E2 := Lib.hid e2
      have EP : Hid (pk (fun k => if k = 0 then r else s) (fun k => (if k = 0 then X else U) ++ (if k = 0 then Y else V)) (k + 1) = pk (fun k => if k = 0 then r else s) (fun k => (if k = 0 then X else U) ++ (if k = 0 then Y else V)) k ++ (if (if k = 0 then r else s) then [(if k = 0 then X else U) ++ (if k = 0 then Y else V)] else [])) := rfl
      have LP := pk_len (fun k => if k = 0 then r else s) (fun k => (if k = 0 then X else U) ++ (if k = 0 then Y else V)) k
      clear e1 e2
      obtain ⟨ps, hps⟩ : ∃ ps, pk (fun k => if k = 0 then r else s) (fun k => (if k = 0 then X else U) ++ (if k = 0 then Y else V)) k = ps := ⟨_, rfl⟩
      rw [hps] at o5 EP LP
      clear hps
      obtain ⟨Z1, hZ1⟩ : ∃ Z, (if k = 0 then X else U) = Z := ⟨_, rfl⟩
      obtain ⟨Z2, hZ2⟩ : ∃ Z, (if k = 0 then Y else V) = Z := ⟨_, rfl⟩
      obtain ⟨rk, hrk⟩ : ∃ b : Bool, (if k = 0 then r else s) = b := ⟨_, rfl⟩
      rw [hZ1, hZ2, Nat.zero_add] at r0
      rw [hZ1, hZ2, hrk] at HTk EP
      rw [hZ1] at E1
      rw [hZ2] at E2
      clear hZ1 hZ2 hrk
      have a3 := Blk.new wr p0 47 rfl
      have b7 := a3.row (Z1 ++ Z2)
      have hb' := below_row (hb.alloc hb.size (.cells p0.toArray 47)) (g := wr.heap.size) hb.size (Z1 ++ Z2).toArray
      have o5' := own_laid o5 (.cells p0.toArray 47) (Z1 ++ Z2).toArray
      have b2' := laid_o b2 p0 (Z1 ++ Z2) 47
      have sl' := laid_o sl p0 (Z1 ++ Z2) 47
      have l5 := Lib.hid (fun j (h : u5.ownBlock = some j) => o5.lt j h)
      have hz' : w.heap.size + 1 + 1 + 1 ≤ ((wr.alloc (.cells p0.toArray 47)).setRow wr.heap.size (Z1 ++ Z2).toArray).heap.size := by simp; omega
      clear o5 b2 hb sl
      go_wp2_with (first | (with_reducible refine ldPr rfl rfl rfl r0 E1.out E2.out ?_) | (with_reducible refine alP rfl rfl ?_) | (with_reducible refine stPt rfl rfl rfl rfl a3 p0_len E1.out E2.out ?_) | (with_reducible refine ldP rfl rfl rfl b2' (part_all _) (wholeG HA.out HB.out HC.out HD.out) ?_) | (with_reducible refine ldPt rfl rfl rfl b7 E1.out E2.out ?_))
      clear r0 a3
      generalize (wr.alloc (.cells p0.toArray 47)).setRow wr.heap.size (Z1 ++ Z2).toArray = W at *
      refine (HTk.out _).mono ?_
      rintro e w1 ⟨rfl, h1⟩
      replace b2' := b2'.call h1
      replace sl' := sl'.call h1
      replace b7 := b7.call h1
      replace o5' := own_call o5' h1
      replace hz' := Nat.le_trans hz' h1.size
      replace hb' := bthen hb' h1
      clear h1
      cases rk with
      | false =>
        go_wp2
        go_roundw
        case rel => exact ⟨k + 1, by omega, by go_num, by rw [EP.out]; simpa using o5', hb', b2', sl', hz'⟩
        case measure => simp [intOf]; omega
      | true =>
        have n7 := Blk.new w1 (jn [Z1 ++ Z2]) 47 rfl
        have o6 := own_alloc1 o5' (.cells (jn [Z1 ++ Z2]).toArray 47)
        have b2n := b2'.old (.cells (jn [Z1 ++ Z2]).toArray 47)
        have sln := sl'.old (.cells (jn [Z1 ++ Z2]).toArray 47)
        have hbn := hb'.alloc hb'.size (.cells (jn [Z1 ++ Z2]).toArray 47)
        have hzn : w.heap.size + 1 + 1 + 1 ≤ (w1.alloc (.cells (jn [Z1 ++ Z2]).toArray 47)).heap.size := by simp; omega
        have ej : jn [Z1 ++ Z2] = Z1 ++ Z2 := by unfold jn; simp
        have EJ := Lib.hid ej
        have HL : Hid ((jn [Z1 ++ Z2]).length = 132 ∧ ∀ u ∈ jn [Z1 ++ Z2], u.oneCell' = true) := ⟨by rw [ej]; exact pt_len E1.out E2.out, by rw [ej]; exact pt_one E1.out E2.out⟩
        clear ej o5' b2' sl' hb'
        go_wp2_with (first | (with_reducible refine ldPt rfl rfl rfl b7 E1.out E2.out ?_) | (with_reducible refine lbsP1 rfl rfl rfl E1.out E2.out ?_) | (with_reducible refine apP rfl rfl rfl rfl o6 n7 HL.out.1 HL.out.2 (by omega) hzn ?_))
        intro v' w' o7 hg
        have b2' := b2n.grown hg (fun h => by have := l5.out _ h; omega)
        have sl' := sln.grown hg (fun h => by have := l5.out _ h; omega)
        have hb' := hbn.grown hg hbn.size (fun j h => by have := l5.out j h; omega)
        have hz2 := Nat.le_trans hzn hg.size
        rw [EJ.out] at o7
        clear o6 n7 b2n sln hbn hzn hg
        go_wp2
        go_roundw
        case rel => exact ⟨k + 1, by omega, by go_num, by rw [EP.out]; simp only [if_true]; rw [jn_snoc, List.length_append]; exact o7, hb', b2', sl', hz2⟩
        case measure => simp [intOf]; omega
    · obtain rfl : k = 2 := by omega
      go_wp2
      go_ret
      exact ⟨_, rfl, own_base o5 (by omega), hb⟩
end Go.Proofs.YtoegjibeomhekaaGreat
