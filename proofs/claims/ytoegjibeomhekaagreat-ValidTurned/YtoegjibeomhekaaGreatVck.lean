/- Joined of: Vwi Vfr Vck. -/
import Derived.Test.YtoegjibeomhekaaGreatVcr
import Derived.Test.YtoegjibeomhekaaGreatPkn
import Derived.Test.YtoegjibeomhekaaGreatVlp
/- valid: rise, within. -/
namespace Go.Proofs.YtoegjibeomhekaaGreat
set_option linter.unusedSimpArgs false
set_option linter.unusedVariables false
open Go.RowKit
set_option maxRecDepth 100000
set_option maxHeartbeats 2000000 in
theorem rise_walk {A B C D E F : List Value} {p q : Int} (hA : Rc A) (hB : Rc B) (hC : Rc C) (hD : Rc D) (hE : Rc E) (hF : Rc F) (T1 : Tl 47 #[vl (A ++ B), vl (C ++ D)] (.tuple #[.int .i64 p, .bool true])) (T2 : Tl 47 #[vl (C ++ D), vl (E ++ F)] (.tuple #[.int .i64 q, .bool true])) :
    Tl 39 #[vl (A ++ B), vl (C ++ D), vl (E ++ F)] (.bool (decide (p < 0) && decide (q < 0))) := by
  intro w
  unfold vl at *
  have HT1 := Lib.hid T1
  have HT2 := Lib.hid T2
  have HE : Hid ((decide (p < 0) && decide (q < 0)) = (decide (p < 0) && decide (q < 0))) := rfl
  unfold Tl at HT1 HT2
  generalize hr : (decide (p < 0) && decide (q < 0)) = r at *
  have HR := Lib.hid hr
  clear T1 T2 hr HE
  have b1 := (((Blk.new w (A ++ B) 47 rfl).old (.cells (C ++ D).toArray 47)).old (.cells (E ++ F).toArray 47))
  have b2 := ((Blk.new (w.alloc (.cells (A ++ B).toArray 47)) (C ++ D) 47 (b := w.heap.size + 1) (by simp)).old (.cells (E ++ F).toArray 47))
  have b3 := (Blk.new ((w.alloc (.cells (A ++ B).toArray 47)).alloc (.cells (C ++ D).toArray 47)) (E ++ F) 47 (b := w.heap.size + 1 + 1) (by simp))
  have hb : Below w.heap.size w (((w.alloc (.cells (A ++ B).toArray 47)).alloc (.cells (C ++ D).toArray 47)).alloc (.cells (E ++ F).toArray 47)) := ((((Below.refl _ _).alloc (Nat.le_refl _) _).alloc (by simp <;> omega) _).alloc (by simp <;> omega) _)
  have hk : (((w.alloc (.cells (A ++ B).toArray 47)).alloc (.cells (C ++ D).toArray 47)).alloc (.cells (E ++ F).toArray 47)).heap.size = w.heap.size + 1 + 1 + 1 := by simp
  go_enter Tryz.func39, Tryz.ntmps39
  go_wp2_with (first | (with_reducible refine ldPt rfl rfl rfl b1 hA hB ?_) | (with_reducible refine ldPt rfl rfl rfl b2 hC hD ?_) | (with_reducible refine ldPt rfl rfl rfl b3 hE hF ?_))
  generalize (((w.alloc (.cells (A ++ B).toArray 47)).alloc (.cells (C ++ D).toArray 47)).alloc (.cells (E ++ F).toArray 47)) = W at *
  refine (HT1.out _).mono ?_
  rintro e w1 ⟨rfl, k1⟩
  replace b1 := b1.call k1
  replace b2 := b2.call k1
  replace b3 := b3.call k1
  replace hb := bthen hb k1
  clear k1 hk
  go_wp2_with (first | (with_reducible refine ldPt rfl rfl rfl b1 hA hB ?_) | (with_reducible refine ldPt rfl rfl rfl b2 hC hD ?_) | (with_reducible refine ldPt rfl rfl rfl b3 hE hF ?_))
  refine (HT2.out _).mono ?_
  rintro e w2 ⟨rfl, k1⟩
  replace hb := bthen hb k1
  clear k1 b1 b2 b3 HT1 HT2
  by_cases h1 : p < 0
  · by_cases h2 : q < 0
    · have E : Hid (r = true) := by show _ = _; rw [← HR.out]; simp [h1, h2]
      go_wp2
      go_ret
      exact ⟨by rw [E.out]; first | rfl | (simp; done) | (simp; omega), hb⟩
    · have E : Hid (r = false) := by show _ = _; rw [← HR.out]; simp [h1, h2]
      go_wp2
      go_ret
      exact ⟨by rw [E.out]; first | rfl | (simp; done) | (simp; omega), hb⟩
  · have E : Hid (r = false) := by show _ = _; rw [← HR.out]; simp [h1]
    go_wp2
    go_ret
    exact ⟨by rw [E.out]; first | rfl | (simp; done) | (simp; omega), hb⟩
section
variable {ops : Array Oper} {rest : List Oper} {o : Oper} {a : Act} {w : World} {Q : Exit → Act → World → Prop}
theorem bdPg {p q : Operand} {A B : List Value} (hw : Region.wanted o (yielded ops a.tmps) = true) (ho : o.op = .build 47 #[(0, p), (1, q)]) (hp : a.eval p = .agg A.toArray) (hq : a.eval q = .agg B.toArray) (hA : Rc A) (hB : Rc B)
    (hr : wpList Tryz.prog ops Q rest (a.put o.dst (.agg (A ++ B).toArray)) w) : wpList Tryz.prog ops Q (o :: rest) a w :=
  BigFrame.wpList_want hw fun K hK => by
    have := hK _ _ hr
    unfold Oper.wp execOp
    simp only [ho, Sem.run_bind]
    rw [show Array.map (fun x : Nat × Operand => (x.fst, a.eval x.snd)) #[(0, p), (1, q)] = #[(0, .agg A.toArray), (1, .agg B.toArray)] by simp [hp, hq], run_build w 47 _ _ (builtP hA hB)]
    exact this
end
set_option maxHeartbeats 4000000 in
theorem within_walk {X Y O K : List Value} {r s : Bool} (hX : Rc X) (hY : Rc Y) (hO : Rc O) (hK : Rc K) (T0 : Tl 19 #[.int .i64 0, .int .i64 0] (vl (O ++ O))) (T64 : Tl 19 #[.int .i64 64, .int .i64 64] (vl (K ++ K)))
    (T1 : Tl 39 #[vl (O ++ Y), vl (X ++ Y), vl (K ++ Y)] (.bool r)) (T2 : Tl 39 #[vl (X ++ O), vl (X ++ Y), vl (X ++ K)] (.bool s)) : Tl 29 #[vl (X ++ Y)] (.bool (r && s)) := by
  intro w
  unfold vl at *
  have HT0 := Lib.hid T0
  have HT64 := Lib.hid T64
  have HT1 := Lib.hid T1
  have HT2 := Lib.hid T2
  unfold Tl at HT0 HT64 HT1 HT2
  have HX := Lib.hid hX
  have HY := Lib.hid hY
  have HO := Lib.hid hO
  have HK := Lib.hid hK
  clear T0 T64 T1 T2 hX hY hO hK
  have b1 := (Blk.new w (X ++ Y) 47 rfl)
  have hb : Below w.heap.size w (w.alloc (.cells (X ++ Y).toArray 47)) := ((Below.refl _ _).alloc (Nat.le_refl _) _)
  have hk : (w.alloc (.cells (X ++ Y).toArray 47)).heap.size = w.heap.size + 1 := by simp
  go_enter Tryz.func29, Tryz.ntmps29
  go_wp2_with fail
  generalize (w.alloc (.cells (X ++ Y).toArray 47)) = W at *
  refine (HT0.out _).mono ?_
  rintro e w1 ⟨rfl, k1⟩
  replace b1 := b1.call k1
  replace hb := bthen hb k1
  clear k1 hk
  go_wp2_with fail
  refine (HT64.out _).mono ?_
  rintro e w1 ⟨rfl, k1⟩
  replace b1 := b1.call k1
  replace hb := bthen hb k1
  clear k1
  have f1 := (Blk.new w1 p0 47 rfl).old (.cells p0.toArray 47)
  have f2 := (Blk.new (w1.alloc (.cells p0.toArray 47)) p0 47 (b := w1.heap.size + 1) (by simp)).rowOther (g := w1.heap.size) (O ++ O).toArray (by omega)
  have bl := (f1.row (O ++ O)).rowOther (g := w1.heap.size + 1) (K ++ K).toArray (by omega)
  have bh := f2.row (K ++ K)
  replace b1 := (((b1.old (.cells p0.toArray 47)).old (.cells p0.toArray 47)).rowOther (g := w1.heap.size) (O ++ O).toArray (by have := b1.lt; omega)).rowOther (g := w1.heap.size + 1) (K ++ K).toArray (by have := b1.lt; omega)
  have hs := hb.size
  have k1 : (w1.alloc (.cells p0.toArray 47)).heap.size = w1.heap.size + 1 := by simp
  replace hb := below_row (below_row ((hb.alloc hs (.cells p0.toArray 47)).alloc (by omega) (.cells p0.toArray 47)) (g := w1.heap.size) hs (O ++ O).toArray) (g := w1.heap.size + 1) (by omega) (K ++ K).toArray
  clear k1
  go_wp2_with (first | (with_reducible refine alP2 rfl rfl ?_) | (with_reducible refine alP rfl rfl ?_) | (with_reducible refine stPt rfl rfl rfl rfl f1 p0_len HO.out HO.out ?_) | (with_reducible refine stPt rfl rfl rfl rfl f2 p0_len HO.out HO.out ?_) | (with_reducible refine stPt rfl rfl rfl rfl f2 p0_len HK.out HK.out ?_) | (with_reducible refine ldX rfl rfl rfl bl HO.out HO.out ?_) | (with_reducible refine ldX rfl rfl rfl bh HK.out HK.out ?_) | (with_reducible refine ldX rfl rfl rfl b1 HX.out HY.out ?_) | (with_reducible refine ldY rfl rfl rfl b1 HX.out HY.out ?_) | (with_reducible refine ldPt rfl rfl rfl b1 HX.out HY.out ?_) | (with_reducible refine bdP rfl rfl rfl rfl HO.out HY.out ?_) | (with_reducible refine bdP rfl rfl rfl rfl HK.out HY.out ?_))
  clear f1 f2 hs
  try rw [show (w1.alloc (.cells p0.toArray 47)).heap.size = w1.heap.size + 1 by simp]
  generalize (((w1.alloc (.cells p0.toArray 47)).alloc (.cells p0.toArray 47)).setRow w1.heap.size (O ++ O).toArray).setRow (w1.heap.size + 1) (K ++ K).toArray = W at *
  generalize w1.heap.size + 1 = pl_bh at *
  generalize w1.heap.size = pl_bl at *
  refine (HT1.out _).mono ?_
  rintro e w1 ⟨rfl, k1⟩
  replace b1 := b1.call k1
  replace bl := bl.call k1
  replace bh := bh.call k1
  replace hb := bthen hb k1
  clear k1
  cases r
  · go_wp2
    go_ret
    exact ⟨rfl, hb⟩
  · go_wp2_with (first | (refine ldPg (by rfl) rfl rfl b1 partX HX.out.whole ?_) | (refine ldPg (by rfl) rfl rfl b1 (part_all _) (wholeP HX.out HY.out) ?_) | (refine ldYg (by rfl) rfl rfl bl HO.out HO.out ?_) | (refine ldYg (by rfl) rfl rfl bh HK.out HK.out ?_) | (refine bdPg (by rfl) rfl rfl rfl HX.out HO.out ?_) | (refine bdPg (by rfl) rfl rfl rfl HX.out HK.out ?_))
    refine (HT2.out _).mono ?_
    rintro e w1 ⟨rfl, k1⟩
    replace hb := bthen hb k1
    clear k1 b1 bl bh
    go_wp2
    go_ret
    exact ⟨rfl, hb⟩
theorem cq_self (y : Rat) : cq y y = 0 := by
  unfold cq; rw [if_neg (Rat.not_lt.2 Rat.le_refl), if_neg (Rat.not_lt.2 Rat.le_refl)]
/-- How a point stands within the greatest square. -/
theorem cp_x {x u y : Rat} : cp x y u y < 0 ↔ x < u := by
  unfold cp
  rcases cq_sp x u with ⟨h, e⟩ | ⟨h, e⟩ | ⟨h, e⟩
  · rw [e]; simp [h]
  · rw [e, if_pos rfl, cq_self, h]
    exact ⟨fun k => by omega, fun k => absurd k (Rat.not_lt.2 Rat.le_refl)⟩
  · rw [e, if_neg (by omega)]
    exact ⟨fun k => by omega, fun k => absurd k (Rat.not_lt.2 (Rat.le_of_lt h))⟩
theorem cp_y {x u y : Rat} : cp y x y u < 0 ↔ x < u := by
  unfold cp
  rw [if_pos (cq_self y)]
  rcases cq_sp x u with ⟨h, e⟩ | ⟨h, e⟩ | ⟨h, e⟩
  · rw [e]; simp [h]
  · rw [e, h]
    exact ⟨fun k => by omega, fun k => absurd k (Rat.not_lt.2 Rat.le_refl)⟩
  · rw [e]
    exact ⟨fun k => by omega, fun k => absurd k (Rat.not_lt.2 (Rat.le_of_lt h))⟩
theorem within_any {x y : Rat} (h : Gd x y) : Tl 29 #[vp x y] (.bool ((decide (0 < x) && decide (x < 64)) && (decide (0 < y) && decide (y < 64)))) := by
  have g0 : Gd ((0 : Int) : Rat) ((0 : Int) : Rat) := gd_i (by decide) (by decide)
  have g64 : Gd ((64 : Int) : Rat) ((64 : Int) : Rat) := gd_i (by decide) (by decide)
  have e0 : ((0 : Int) : Rat) = 0 := by norm_cast
  have e64 : ((64 : Int) : Rat) = 64 := by norm_cast
  have a1 : Gd ((0 : Int) : Rat) y := ⟨g0.1, h.2⟩
  have a2 : Gd ((64 : Int) : Rat) y := ⟨g64.1, h.2⟩
  have a3 : Gd x ((0 : Int) : Rat) := ⟨h.1, g0.2⟩
  have a4 : Gd x ((64 : Int) : Rat) := ⟨h.1, g64.2⟩
  have R1 := rise_walk (rc_q _) (rc_q _) (rc_q _) (rc_q _) (rc_q _) (rc_q _) (Cmpp_q a1 h) (Cmpp_q h a2)
  have R2 := rise_walk (rc_q _) (rc_q _) (rc_q _) (rc_q _) (rc_q _) (rc_q _) (Cmpp_q a3 h) (Cmpp_q h a4)
  have := within_walk (rc_q x) (rc_q y) (rc_q _) (rc_q _) (At_q (n := 0) (m := 0) (by omega) (by omega)) (At_q (n := 64) (m := 64) (by omega) (by omega)) R1 R2
  rw [e0, e64] at this
  simp only [cp_x, cp_y] at this
  exact this
end Go.Proofs.YtoegjibeomhekaaGreat

/- valid: free. -/
namespace Go.Proofs.YtoegjibeomhekaaGreat
set_option linter.unusedSimpArgs false
set_option linter.unusedVariables false
open Go.RowKit
set_option maxRecDepth 100000
/-- A point that is one. -/
def HpG (p : Hp) : Prop := ∃ x y, p.1 = fq x ++ fq y ∧ p.2 = some (x, y) ∧ Gd x y
theorem HpG.ok {p : Hp} (h : HpG p) : HpOk p := by
  obtain ⟨x, y, e, e2, g⟩ := h
  exact ⟨fq x, fq y, e, rc_q _, rc_q _, .inl ⟨x, y, e2, rfl, rfl, g, Isp_q g⟩⟩
theorem within_ok {p : Hp} (h : HpG p) : Tl 29 #[vl p.1] (.bool (vWth p)) := by
  obtain ⟨x, y, e, e2, g⟩ := h
  have := within_any g
  unfold vWth
  rw [e, e2]
  exact this
theorem has_ok {s : Sd} (hs : Bs s) {p : Hp} (h : HpG p) : Tl 30 #[.agg (cSt s.2.1 s.2.2).toArray, vl p.1] (.bool (vOn s p)) := by
  obtain ⟨x, y, e, e2, g⟩ := h
  have := vhas_any hs.1 hs.2 g
  unfold vOn
  rw [e, e2]
  exact this
section
variable {va : Option Addr} {vc : Nat} {sa : Option Addr} {sc : Nat} {ha : Option Addr} {hc : Nat} {V S : List I3} {H : List Hp}
set_option maxHeartbeats 8000000 in
theorem free_any (w : World) (hR : RdV w va vc sa sc ha hc V S H) (hv : V.length ≤ 1000) (hs : S.length ≤ 1000) (hh : H.length ≤ 1000) (hE : Ends V S) (hB : ∀ p ∈ S, Bs (sdOf V p)) (hG : ∀ p ∈ H, HpG p) : Calls Tryz.prog 17 #[.agg #[.slice va V.length vc, .slice sa S.length sc, .slice ha H.length hc]] w fun e w' => e = .returned (.bool (vFree V S H)) ∧ Below w.heap.size w w' := by
  have B1 := Blk.new w [.slice va V.length vc, .slice sa S.length sc, .slice ha H.length hc] 51 rfl
  have hb := bnew w (.cells #[.slice va V.length vc, .slice sa S.length sc, .slice ha H.length hc] 51)
  have HR := Lib.hid (hR.below hb)
  have HE := Lib.hid hE
  have HB := Lib.hid hB
  have HG := Lib.hid hG
  have HF : Hid (vFree V S H = (H.all vWth && S.all fun p => !(H.any (vOn (sdOf V p))))) := rfl
  have c2 := B1.cell (i := 2) rfl
  generalize vFree V S H = r at *
  clear hR hE hB hG
  go_enter Tryz.func17, Tryz.ntmps17
  go_wp2_with fail
  generalize w.alloc (.cells #[.slice va V.length vc, .slice sa S.length sc, .slice ha H.length hc] 51) = W at *
  clear c2
  go_loopw [11] (fun j wr => ∃ i : Nat, i ≤ H.length ∧ j = .int .i64 (i : Int) ∧ (H.take i).all vWth = true ∧ Below W.heap.size W wr) (fun j _ => H.length - (intOf j).toNat)
  case atStart => exact ⟨0, Nat.zero_le _, rfl, rfl, Below.refl _ _⟩
  case round =>
    obtain ⟨i, hi, rfl, ha', hr⟩ := hrel
    have HA := Lib.hid ha'
    clear ha'
    by_cases hlt : i < H.length
    · obtain ⟨p, hx⟩ : ∃ p, H[i]? = some p := ⟨_, List.getElem?_eq_getElem hlt⟩
      have HX := Lib.hid hx
      have HT := Lib.hid (within_ok (HG.out p (List.mem_of_getElem? hx)))
      obtain ⟨gv, ov, rfl, hcap, p1⟩ := (HR.out.below hr).h.at hx
      obtain ⟨A, B, e1, hA, hB, _⟩ := (HG.out p (List.mem_of_getElem? hx)).ok
      have r0 : wr.rangeAt gv (ov + i * 132) (A ++ B) := by rw [← e1]; exact p1
      unfold vl Tl at HT
      rw [e1] at HT
      have f := Blk.new wr p0 47 rfl
      have b := laid_n wr p0 (A ++ B) 47
      have hr2 := hr.trans ((laid_b (Below.refl wr.heap.size wr) p0 (A ++ B) 47).mono hr.size)
      clear hx p1 e1
      cases hq : vWth p
      · rw [hq] at HT
        have E : Hid (r = false) := by show _ = _; rw [HF.out, all_no HX.out hq]; rfl
        clear hq
        go_wp2_with (first | (with_reducible refine ldPr rfl rfl rfl r0 hA hB ?_) | (with_reducible refine alP rfl rfl ?_) | (with_reducible refine stPt rfl rfl rfl rfl f p0_len hA hB ?_) | (with_reducible refine ldPt rfl rfl rfl b hA hB ?_))
        refine (HT.out _).mono ?_
        rintro e w2 ⟨rfl, k1⟩
        replace hr2 := hr2.trans (k1.mono hr2.size)
        clear k1 f b r0
        go_wp2_with fail
        go_ret
        exact ⟨by rw [E.out]; rfl, bthen hb hr2⟩
      · rw [hq] at HT
        have HQ := Lib.hid hq
        clear hq
        go_wp2_with (first | (with_reducible refine ldPr rfl rfl rfl r0 hA hB ?_) | (with_reducible refine alP rfl rfl ?_) | (with_reducible refine stPt rfl rfl rfl rfl f p0_len hA hB ?_) | (with_reducible refine ldPt rfl rfl rfl b hA hB ?_))
        refine (HT.out _).mono ?_
        rintro e w2 ⟨rfl, k1⟩
        replace hr2 := hr2.trans (k1.mono hr2.size)
        clear k1 f b r0
        go_wp2_with fail
        go_roundw
        case rel => exact ⟨i + 1, by omega, by go_num, all_take HX.out HA.out HQ.out, hr2⟩
        case measure => simp [intOf]; omega
    · obtain rfl : i = H.length := by omega
      have hal := HA.out
      rw [List.take_length] at hal
      rw [hal, Bool.true_and] at HF
      replace hb := bthen hb hr
      replace B1 := B1.call hr
      replace HR := Lib.hid (HR.out.below hr)
      have c0 := B1.cell (i := 0) rfl
      have c1 := B1.cell (i := 1) rfl
      have c2 := B1.cell (i := 2) rfl
      have HS := Lib.hid (sides_any wr HR.out hv hs HE.out)
      clear HA hal hr
      go_wp2_with fail
      refine HS.out.mono ?_
      rintro e w1 ⟨v, rfl, o1, k1⟩
      have hll : (S.map (sdOf V)).length = S.length := List.length_map ..
      have hN : RdN w1 v (S.map (sdOf V)) := RdN.of (by rw [hll, List.flatMap_map]; exact o1)
      have HB2 : Hid (∀ t ∈ S.map (sdOf V), Bs t) := by
        apply Lib.hid
        intro t ht
        obtain ⟨p, hp, rfl⟩ := List.mem_map.1 ht
        exact HB.out p hp
      have HF2 : Hid (r = (S.map (sdOf V)).all fun s => !(H.any (vOn s))) := by
        show _ = _
        rw [HF.out, List.all_map]; rfl
      have hL : (S.map (sdOf V)).length ≤ 1000 := by rw [hll]; exact hs
      replace hb := bthen hb k1
      replace B1 := B1.call k1
      replace HR := Lib.hid (HR.out.below k1)
      clear o1 k1 hll HS c0 c1 c2 HF
      generalize S.map (sdOf V) = L at *
      obtain ⟨va', vc', rfl, hcap⟩ := hN.shape
      have HN := Lib.hid hN
      have hmf : ∀ (fn : Fn) (first cap : Array Value) (w : World), (Instr.makeFunc fn first cap).run Tryz.prog w = .ok (.func fn first cap) w := by
        intro fn first cap w
        simp [Instr.makeFunc, go_sem]
      clear hN
      go_wp2_with fail
      go_loopw [22] (fun j wr => ∃ i : Nat, i ≤ L.length ∧ j = .int .i64 (i : Int) ∧ ((L.take i).all fun s => !(H.any (vOn s))) = true ∧ Below w1.heap.size w1 wr) (fun j _ => L.length - (intOf j).toNat)
      case atStart => exact ⟨0, Nat.zero_le _, rfl, rfl, Below.refl _ _⟩
      case round =>
        obtain ⟨i, hi, rfl, ha', hr⟩ := hrel
        have HA := Lib.hid ha'
        clear ha'
        by_cases hlt : i < L.length
        · obtain ⟨s, hx⟩ : ∃ p, L[i]? = some p := ⟨_, List.getElem?_eq_getElem hlt⟩
          have HX := Lib.hid hx
          have hsz := hr.size
          obtain ⟨gv, e1, hg, r0⟩ := (HN.out.below hr).at hx
          subst e1
          have f := Blk.new wr (cSd sd0) 63 rfl
          have bs := laid_n wr (cSd sd0) (cSd s) 63
          have hr2 := hr.trans ((laid_b (Below.refl wr.heap.size wr) (cSd sd0) (cSd s) 63).mono hsz)
          have B2 := laid_o (B1.call hr) (cSd sd0) (cSd s) 63
          have c2 := B2.cell (i := 2) rfl
          have HK := Lib.hid (has_any (s := .agg (cSt s.2.1 s.2.2).toArray) (vOn s) ((wr.alloc (.cells (cSd sd0).toArray 63)).setRow wr.heap.size (cSd s).toArray) (HR.out.below hr2).h hh (fun p hp => (HG.out p hp).ok) (fun p hp => has_ok (HB2.out s (List.mem_of_getElem? hx)) (HG.out p hp)))
          clear hx
          cases hq : H.any (vOn s)
          · rw [hq] at HK
            have HQ := Lib.hid hq
            clear hq
            go_wp2_with (first | (with_reducible refine ldSd rfl rfl rfl r0 ?_) | (with_reducible refine alSd rfl rfl ?_) | (with_reducible refine stSd rfl rfl rfl rfl f rfl ?_) | (with_reducible refine ldP rfl rfl rfl bs (ptSd s) (whSt _ _) ?_))
            refine HK.out.mono ?_
            rintro e w2 ⟨rfl, k1⟩
            replace hr2 := hr2.trans (k1.mono hr2.size)
            clear k1 f bs r0 HK
            go_wp2_with fail
            go_roundw
            case rel => exact ⟨i + 1, by omega, by go_num, all_take HX.out HA.out (by rw [HQ.out]; rfl), hr2⟩
            case measure => simp [intOf]; omega
          · rw [hq] at HK
            have E : Hid (r = false) := by show _ = _; rw [HF2.out]; exact all_no HX.out (by rw [hq]; rfl)
            clear hq
            go_wp2_with (first | (with_reducible refine ldSd rfl rfl rfl r0 ?_) | (with_reducible refine alSd rfl rfl ?_) | (with_reducible refine stSd rfl rfl rfl rfl f rfl ?_) | (with_reducible refine ldP rfl rfl rfl bs (ptSd s) (whSt _ _) ?_))
            refine HK.out.mono ?_
            rintro e w2 ⟨rfl, k1⟩
            replace hr2 := hr2.trans (k1.mono hr2.size)
            clear k1 f bs r0 HK
            go_wp2_with fail
            go_ret
            exact ⟨by rw [E.out]; rfl, bthen hb hr2⟩
        · obtain rfl : i = L.length := by omega
          have hal := HA.out
          rw [List.take_length] at hal
          have E : Hid (r = true) := by show _ = _; rw [HF2.out]; exact hal
          go_wp2_with fail
          go_ret
          exact ⟨by rw [E.out]; rfl, bthen hb hr⟩
end
end Go.Proofs.YtoegjibeomhekaaGreat

/- valid.Check. -/
namespace Go.Proofs.YtoegjibeomhekaaGreat
set_option linter.unusedSimpArgs false
set_option linter.unusedVariables false
open Go.RowKit
set_option maxRecDepth 100000
theorem form_facts {V S : List I3} {H : List Hp} (h : vForm V S H = true) : S.all (vEnd V.length) = true ∧ Ends V S ∧ ∀ p ∈ H, p.2.isSome = true := by
  unfold vForm vNum at h
  simp only [Bool.and_eq_true] at h
  obtain ⟨_, ⟨_, h2⟩, h3⟩ := h
  refine ⟨h2, fun p hp => ?_, fun p hp => ?_⟩
  · have := List.all_eq_true.1 h2 p hp
    unfold vEnd at this
    simp only [Bool.and_eq_true, vin_iff] at this
    exact ⟨p.1.toNat, p.2.1.toNat, by omega, by omega, by omega, by omega⟩
  · rw [Bool.not_eq_true', List.any_eq_false] at h3
    have := h3 p hp
    cases hq : p.2 with
    | none => rw [hq] at this; simp at this
    | some x => rfl
theorem ok_good {p : Hp} (h : HpOk p) (hs : p.2.isSome = true) : HpG p := by
  obtain ⟨A, B, e, _, _, h⟩ := h
  rcases h with ⟨x, y, e2, rfl, rfl, g, _⟩ | ⟨e2, _⟩
  · exact ⟨x, y, e, e2, g⟩
  · rw [e2] at hs; cases hs
theorem bnd_facts {V S : List I3} (h : vBnd V = true) (hE : Ends V S) : ∀ p ∈ S, Bs (sdOf V p) := fun p hp => by
  obtain ⟨a, b, e1, e2, ha, hb⟩ := hE p hp
  have key : ∀ i, i < V.length → Bd (V.getD i i30) := fun i hi => by
    rw [getD_some (List.getElem?_eq_getElem hi)]
    have := List.all_eq_true.1 h _ (List.getElem_mem hi)
    unfold vIn at this
    simp only [Bool.and_eq_true, vin_iff] at this
    exact this
  unfold sdOf Bs
  simp only [e1, e2, Int.toNat_natCast]
  exact ⟨key a ha, key b hb⟩
section
variable {va : Option Addr} {vc : Nat} {sa : Option Addr} {sc : Nat} {ha : Option Addr} {hc : Nat} {V S : List I3} {H : List Hp}
theorem builtSk (va sa ha : Option Addr) (n m k vc sc hc : Nat) : Tryz.prog.built 51 [(0, .agg #[.slice va n vc, .slice sa m sc, .slice ha k hc])] = some #[.slice va n vc, .slice sa m sc, .slice ha k hc] := by kernel_rfl
theorem whDr (va sa ha : Option Addr) (n m k vc sc hc : Nat) : Whole Tryz.prog 26 ([.slice va n vc, .slice sa m sc, .slice ha k hc] : List Value).length := ⟨_, Tryz.underlying26, rfl, by kernel_rfl⟩
theorem whSk (va sa ha : Option Addr) (n m k vc sc hc : Nat) : Whole Tryz.prog 51 ([.slice va n vc, .slice sa m sc, .slice ha k hc] : List Value).length := ⟨_, Tryz.underlying51, rfl, by kernel_rfl⟩
def nil3 : List Value := [.slice none 0 0, .slice none 0 0, .slice none 0 0]
theorem zeroSk : (Tryz.prog.info? 51).map (·.zero) = some (some (.agg nil3.toArray)) := by kernel_rfl
theorem one3 (va sa ha : Option Addr) (n m k vc sc hc : Nat) : ∀ v ∈ ([.slice va n vc, .slice sa m sc, .slice ha k hc] : List Value), v.oneCell' = true := by
  intro v hv
  simp only [List.mem_cons, List.not_mem_nil, or_false] at hv
  rcases hv with rfl | rfl | rfl <;> rfl
section
variable {ops : Array Oper} {rest : List Oper} {o : Oper} {a : Act} {w : World} {Q : Exit → Act → World → Prop}
theorem bdSk {p : Operand} {va sa ha : Option Addr} {n m k vc sc hc : Nat} (hgd : o.guard = none) (ho : o.op = .build 51 #[(0, p)]) (hp : a.eval p = .agg #[.slice va n vc, .slice sa m sc, .slice ha k hc])
    (hr : wpList Tryz.prog ops Q rest (a.put o.dst (.agg #[.slice va n vc, .slice sa m sc, .slice ha k hc])) w) : wpList Tryz.prog ops Q (o :: rest) a w :=
  wpList_plain hgd fun K hK => by
    have := hK _ _ hr
    unfold Oper.wp execOp
    simp only [ho, Sem.run_bind]
    rw [show Array.map (fun x : Nat × Operand => (x.fst, a.eval x.snd)) #[(0, p)] = #[(0, .agg #[.slice va n vc, .slice sa m sc, .slice ha k hc])] by simp [hp], run_build w 51 _ _ (builtSk va sa ha n m k vc sc hc)]
    exact this
theorem alSk (hgd : o.guard = none) (ho : o.op = .alloc 51)
    (hr : wpList Tryz.prog ops Q rest (a.put o.dst (.pointer (some ⟨w.heap.size, 0, none⟩))) (w.alloc (.cells nil3.toArray 51))) : wpList Tryz.prog ops Q (o :: rest) a w := al_blk hgd ho zeroSk hr
theorem alSk2 {ob : Obj} (hgd : o.guard = none) (ho : o.op = .alloc 51)
    (hr : wpList Tryz.prog ops Q rest (a.put o.dst (.pointer (some ⟨w.heap.size + 1, 0, none⟩))) ((w.alloc ob).alloc (.cells nil3.toArray 51))) : wpList Tryz.prog ops Q (o :: rest) a (w.alloc ob) :=
  alSk hgd ho (by rw [show (w.alloc ob).heap.size = w.heap.size + 1 by simp]; exact hr)
theorem stSk {t : TypeId} {x y : Operand} {b : Nat} {cs : List Value} {va sa ha : Option Addr} {n m k vc sc hc : Nat} (hgd : o.guard = none) (ho : o.op = .store 51 x y) (hx : a.eval x = .pointer (some ⟨b, 0, none⟩)) (hy : a.eval y = .agg #[.slice va n vc, .slice sa m sc, .slice ha k hc]) (h : Blk w b cs t) (hl : cs.length = 3)
    (hr : wpList Tryz.prog ops Q rest (a.put o.dst undef) (w.setRow b #[.slice va n vc, .slice sa m sc, .slice ha k hc])) : wpList Tryz.prog ops Q (o :: rest) a w :=
  st_blk (vs := [.slice va n vc, .slice sa m sc, .slice ha k hc]) hgd ho hx hy h hl (by kernel_rfl) (one3 _ _ _ _ _ _ _ _ _) hr
end
set_option maxHeartbeats 8000000 in
theorem Check_any (w : World) (hR : RdV w va vc sa sc ha hc V S H) (hv : V.length ≤ 1000) (hs : S.length ≤ 1000) (hh : H.length ≤ 1000) (hok : ∀ p ∈ H, HpOk p) : Calls Tryz.prog 8 #[.agg #[.slice va V.length vc, .slice sa S.length sc, .slice ha H.length hc]] w fun e w' => e = .returned (.int .i64 (chk V S H)) ∧ Below w.heap.size w w' := by
  have B1 := Blk.new w [.slice va V.length vc, .slice sa S.length sc, .slice ha H.length hc] 26 rfl
  have hb := bnew w (.cells #[.slice va V.length vc, .slice sa S.length sc, .slice ha H.length hc] 26)
  have HC : Hid (chk V S H = if vForm V S H = false then 10 else if vBnd V = false then 13 else if vTwin V then 14 else if vLoop V S = false then 15 else if vCrs V S then 16 else if vFree V S H = false then 17 else 0) := rfl
  have HOK := Lib.hid hok
  have hz : (w.alloc (.cells #[.slice va V.length vc, .slice sa S.length sc, .slice ha H.length hc] 26)).heap.size = w.heap.size + 1 := by simp
  have f := Blk.new (w.alloc (.cells #[.slice va V.length vc, .slice sa S.length sc, .slice ha H.length hc] 26)) nil3 51 rfl
  have B2 := laid_n (w.alloc (.cells #[.slice va V.length vc, .slice sa S.length sc, .slice ha H.length hc] 26)) nil3 [.slice va V.length vc, .slice sa S.length sc, .slice ha H.length hc] 51
  replace hb := hb.trans ((laid_b (Below.refl _ _) nil3 [.slice va V.length vc, .slice sa S.length sc, .slice ha H.length hc] 51).mono hb.size)
  have HR := Lib.hid (hR.below hb)
  have HK := Lib.hid (formed_any _ HR.out hv hs hh hok)
  generalize chk V S H = r at *
  clear hR hok
  rw [hz] at f B2 hb HR HK
  go_enter Tryz.func8, Tryz.ntmps8
  go_wp2_with (first | (with_reducible refine ldP rfl rfl rfl B1 (part_all _) (whDr _ _ _ _ _ _ _ _ _) ?_) | (with_reducible refine bdSk rfl rfl rfl ?_) | (with_reducible refine alSk2 rfl rfl ?_) | (with_reducible refine stSk rfl rfl rfl rfl f rfl ?_) | (with_reducible refine ldP rfl rfl rfl B2 (part_all _) (whSk _ _ _ _ _ _ _ _ _) ?_))
  generalize ((w.alloc (.cells #[.slice va V.length vc, .slice sa S.length sc, .slice ha H.length hc] 26)).alloc (.cells nil3.toArray 51)).setRow (w.heap.size + 1) #[.slice va V.length vc, .slice sa S.length sc, .slice ha H.length hc] = W at *
  clear f B1 hz
  cases q0 : vForm V S H
  · rw [q0] at HK
    have E : Hid (r = 10) := by show _ = _; rw [HC.out]; simp [q0]
    clear q0
    refine HK.out.mono ?_
    rintro e w1 ⟨rfl, k1⟩
    replace hb := hb.trans (k1.mono hb.size)
    clear k1 HK B2
    go_wp2
    go_ret
    exact ⟨by rw [E.out]; rfl, hb⟩
  · rw [q0] at HK
    have HQ0 := Lib.hid q0
    have HF := Lib.hid q0
    clear q0
    refine HK.out.mono ?_
    rintro e w1 ⟨rfl, k1⟩
    replace hb := hb.trans (k1.mono hb.size)
    replace B2 := B2.call k1
    replace HR := Lib.hid (HR.out.below k1)
    clear k1
    replace HK := Lib.hid (bounded_any _ HR.out hv)
    go_wp2_with (first | (with_reducible refine ldP rfl rfl rfl B2 (part_all _) (whSk _ _ _ _ _ _ _ _ _) ?_))
    cases q1 : vBnd V
    · rw [q1] at HK
      have E : Hid (r = 13) := by show _ = _; rw [HC.out]; simp [HQ0.out, q1]
      clear q1
      refine HK.out.mono ?_
      rintro e w1 ⟨rfl, k1⟩
      replace hb := hb.trans (k1.mono hb.size)
      clear k1 HK B2
      go_wp2
      go_ret
      exact ⟨by rw [E.out]; rfl, hb⟩
    · rw [q1] at HK
      have HQ1 := Lib.hid q1
      have HB := Lib.hid q1
      clear q1
      refine HK.out.mono ?_
      rintro e w1 ⟨rfl, k1⟩
      replace hb := hb.trans (k1.mono hb.size)
      replace B2 := B2.call k1
      replace HR := Lib.hid (HR.out.below k1)
      clear k1
      replace HK := Lib.hid (twins_any _ HR.out hv)
      go_wp2_with (first | (with_reducible refine ldP rfl rfl rfl B2 (part_all _) (whSk _ _ _ _ _ _ _ _ _) ?_))
      cases q2 : vTwin V
      · rw [q2] at HK
        have HQ2 := Lib.hid q2
        clear q2
        refine HK.out.mono ?_
        rintro e w1 ⟨rfl, k1⟩
        replace hb := hb.trans (k1.mono hb.size)
        replace B2 := B2.call k1
        replace HR := Lib.hid (HR.out.below k1)
        clear k1
        replace HK := Lib.hid (looped_any _ HR.out hv hs (form_facts HF.out).1)
        go_wp2_with (first | (with_reducible refine ldP rfl rfl rfl B2 (part_all _) (whSk _ _ _ _ _ _ _ _ _) ?_))
        cases q3 : vLoop V S
        · rw [q3] at HK
          have E : Hid (r = 15) := by show _ = _; rw [HC.out]; simp [HQ0.out, HQ1.out, HQ2.out, q3]
          clear q3
          refine HK.out.mono ?_
          rintro e w1 ⟨rfl, k1⟩
          replace hb := hb.trans (k1.mono hb.size)
          clear k1 HK B2
          go_wp2
          go_ret
          exact ⟨by rw [E.out]; rfl, hb⟩
        · rw [q3] at HK
          have HQ3 := Lib.hid q3
          clear q3
          refine HK.out.mono ?_
          rintro e w1 ⟨rfl, k1⟩
          replace hb := hb.trans (k1.mono hb.size)
          replace B2 := B2.call k1
          replace HR := Lib.hid (HR.out.below k1)
          clear k1
          replace HK := Lib.hid (crossed_any _ HR.out hv hs (form_facts HF.out).2.1 (bnd_facts HB.out (form_facts HF.out).2.1))
          go_wp2_with (first | (with_reducible refine ldP rfl rfl rfl B2 (part_all _) (whSk _ _ _ _ _ _ _ _ _) ?_))
          cases q4 : vCrs V S
          · rw [q4] at HK
            have HQ4 := Lib.hid q4
            clear q4
            refine HK.out.mono ?_
            rintro e w1 ⟨rfl, k1⟩
            replace hb := hb.trans (k1.mono hb.size)
            replace B2 := B2.call k1
            replace HR := Lib.hid (HR.out.below k1)
            clear k1
            replace HK := Lib.hid (free_any _ HR.out hv hs hh (form_facts HF.out).2.1 (bnd_facts HB.out (form_facts HF.out).2.1) (fun p hp => ok_good (HOK.out p hp) ((form_facts HF.out).2.2 p hp)))
            go_wp2_with (first | (with_reducible refine ldP rfl rfl rfl B2 (part_all _) (whSk _ _ _ _ _ _ _ _ _) ?_))
            cases q5 : vFree V S H
            · rw [q5] at HK
              have E : Hid (r = 17) := by show _ = _; rw [HC.out]; simp [HQ0.out, HQ1.out, HQ2.out, HQ3.out, HQ4.out, q5]
              clear q5
              refine HK.out.mono ?_
              rintro e w1 ⟨rfl, k1⟩
              replace hb := hb.trans (k1.mono hb.size)
              clear k1 HK B2
              go_wp2
              go_ret
              exact ⟨by rw [E.out]; rfl, hb⟩
            · rw [q5] at HK
              have HQ5 := Lib.hid q5
              clear q5
              refine HK.out.mono ?_
              rintro e w1 ⟨rfl, k1⟩
              replace hb := hb.trans (k1.mono hb.size)
              replace B2 := B2.call k1
              replace HR := Lib.hid (HR.out.below k1)
              clear k1
              have E : Hid (r = 0) := by show _ = _; rw [HC.out]; simp [HQ0.out, HQ1.out, HQ2.out, HQ3.out, HQ4.out, HQ5.out]
              clear HK B2
              go_wp2
              go_ret
              exact ⟨by rw [E.out]; rfl, hb⟩
          · rw [q4] at HK
            have E : Hid (r = 16) := by show _ = _; rw [HC.out]; simp [HQ0.out, HQ1.out, HQ2.out, HQ3.out, q4]
            clear q4
            refine HK.out.mono ?_
            rintro e w1 ⟨rfl, k1⟩
            replace hb := hb.trans (k1.mono hb.size)
            clear k1 HK B2
            go_wp2
            go_ret
            exact ⟨by rw [E.out]; rfl, hb⟩
      · rw [q2] at HK
        have E : Hid (r = 14) := by show _ = _; rw [HC.out]; simp [HQ0.out, HQ1.out, q2]
        clear q2
        refine HK.out.mono ?_
        rintro e w1 ⟨rfl, k1⟩
        replace hb := hb.trans (k1.mono hb.size)
        clear k1 HK B2
        go_wp2
        go_ret
        exact ⟨by rw [E.out]; rfl, hb⟩
end
end Go.Proofs.YtoegjibeomhekaaGreat
