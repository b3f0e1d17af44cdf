/- Joined of: Vsa Vsq Vat Vpc Vkn Vap Von. -/
import Derived.Test.YtoegjibeomhekaaGreatVck
import Derived.Test.YtoegjibeomhekaaGreatPkn
import Derived.Test.YtoegjibeomhekaaGreatLgq
/- laws of what squares are built of. -/
namespace Go.Proofs.YtoegjibeomhekaaGreat
set_option linter.unusedSimpArgs false
set_option linter.unusedVariables false
open Go.RowKit
set_option maxRecDepth 100000
def sqV (x y n : Int) : List I3 := [(x, y, 0), (x + n, y, 0), (x + n, y + n, 0), (x, y + n, 0)]
def sqS : List I3 := [(0, 1, 1), (1, 2, 2), (2, 3, 3), (3, 0, 4)]
/-- The cells of threes in a row. -/
def cTs (l : List I3) : List Value := l.flatMap fun p => [.int .i64 p.1, .int .i64 p.2.1, .int .i64 p.2.2]
theorem v_build4 (a b c d e f g h i j k l : Int) (w : World) : (Instr.buildSlice 22 4 #[(0, .agg #[.int .i64 a, .int .i64 b, .int .i64 c]), (1, .agg #[.int .i64 d, .int .i64 e, .int .i64 f]), (2, .agg #[.int .i64 g, .int .i64 h, .int .i64 i]), (3, .agg #[.int .i64 j, .int .i64 k, .int .i64 l])]).run Tryz.prog w = .ok (.slice (some ⟨w.heap.size, 0, none⟩) 4 4) (w.alloc (.cells (cTs [(a, b, c), (d, e, f), (g, h, i), (j, k, l)]).toArray 31)) := by kernel_rfl
theorem s_build4 (a b c d e f g h i j k l : Int) (w : World) : (Instr.buildSlice 23 4 #[(0, .agg #[.int .i64 a, .int .i64 b, .int .i64 c]), (1, .agg #[.int .i64 d, .int .i64 e, .int .i64 f]), (2, .agg #[.int .i64 g, .int .i64 h, .int .i64 i]), (3, .agg #[.int .i64 j, .int .i64 k, .int .i64 l])]).run Tryz.prog w = .ok (.slice (some ⟨w.heap.size, 0, none⟩) 4 4) (w.alloc (.cells (cTs [(a, b, c), (d, e, f), (g, h, i), (j, k, l)]).toArray 33)) := by kernel_rfl
theorem builtV2 (x y : Int) : Tryz.prog.built 31 [(0, .int .i64 x), (1, .int .i64 y)] = some #[.int .i64 x, .int .i64 y, .int .i64 0] := by kernel_rfl
theorem builtS3 (x y z : Int) : Tryz.prog.built 33 [(0, .int .i64 x), (1, .int .i64 y), (2, .int .i64 z)] = some #[.int .i64 x, .int .i64 y, .int .i64 z] := by kernel_rfl
theorem builtD2 (a b : Option Addr) (n m c d : Nat) : Tryz.prog.built 26 [(0, .slice a n c), (1, .slice b m d)] = some #[.slice a n c, .slice b m d, .slice none 0 0] := by kernel_rfl
theorem zeroDr : (Tryz.prog.info? 26).map (·.zero) = some (some (.agg nil3.toArray)) := by kernel_rfl
section
variable {ops : Array Oper} {rest : List Oper} {o : Oper} {a : Act} {w : World} {Q : Exit → Act → World → Prop}
theorem bdV2 {p q : Operand} {x y : Int} (hgd : o.guard = none) (ho : o.op = .build 31 #[(0, p), (1, q)]) (hp : a.eval p = .int .i64 x) (hq : a.eval q = .int .i64 y)
    (hr : wpList Tryz.prog ops Q rest (a.put o.dst (.agg #[.int .i64 x, .int .i64 y, .int .i64 0])) w) : wpList Tryz.prog ops Q (o :: rest) a w :=
  wpList_plain hgd fun K hK => by
    have := hK _ _ hr
    unfold Oper.wp execOp
    simp only [ho, Sem.run_bind]
    rw [show Array.map (fun x : Nat × Operand => (x.fst, a.eval x.snd)) #[(0, p), (1, q)] = #[(0, .int .i64 x), (1, .int .i64 y)] by simp [hp, hq], run_build w 31 _ _ (builtV2 x y)]
    exact this
theorem bdS3 {p q r : Operand} {x y z : Int} (hgd : o.guard = none) (ho : o.op = .build 33 #[(0, p), (1, q), (2, r)]) (hp : a.eval p = .int .i64 x) (hq : a.eval q = .int .i64 y) (hz : a.eval r = .int .i64 z)
    (hr : wpList Tryz.prog ops Q rest (a.put o.dst (.agg #[.int .i64 x, .int .i64 y, .int .i64 z])) w) : wpList Tryz.prog ops Q (o :: rest) a w :=
  wpList_plain hgd fun K hK => by
    have := hK _ _ hr
    unfold Oper.wp execOp
    simp only [ho, Sem.run_bind]
    rw [show Array.map (fun x : Nat × Operand => (x.fst, a.eval x.snd)) #[(0, p), (1, q), (2, r)] = #[(0, .int .i64 x), (1, .int .i64 y), (2, .int .i64 z)] by simp [hp, hq, hz], run_build w 33 _ _ (builtS3 x y z)]
    exact this
theorem bdS3c {x y z : Int} (hgd : o.guard = none) (ho : o.op = .build 33 #[(0, .const (.int .i64 x)), (1, .const (.int .i64 y)), (2, .const (.int .i64 z))])
    (hr : wpList Tryz.prog ops Q rest (a.put o.dst (.agg #[.int .i64 x, .int .i64 y, .int .i64 z])) w) : wpList Tryz.prog ops Q (o :: rest) a w :=
  bdS3 hgd ho rfl rfl rfl hr
theorem bdD2 {p q : Operand} {s t : Option Addr} {n m c d : Nat} (hgd : o.guard = none) (ho : o.op = .build 26 #[(0, p), (1, q)]) (hp : a.eval p = .slice s n c) (hq : a.eval q = .slice t m d)
    (hr : wpList Tryz.prog ops Q rest (a.put o.dst (.agg #[.slice s n c, .slice t m d, .slice none 0 0])) w) : wpList Tryz.prog ops Q (o :: rest) a w :=
  wpList_plain hgd fun K hK => by
    have := hK _ _ hr
    unfold Oper.wp execOp
    simp only [ho, Sem.run_bind]
    rw [show Array.map (fun x : Nat × Operand => (x.fst, a.eval x.snd)) #[(0, p), (1, q)] = #[(0, .slice s n c), (1, .slice t m d)] by simp [hp, hq], run_build w 26 _ _ (builtD2 s t n m c d)]
    exact this
theorem bsV4 {p q r s : Operand} {b c d e f g h i j k l m : Int} (hgd : o.guard = none) (ho : o.op = .buildSlice 22 4 #[(0, p), (1, q), (2, r), (3, s)]) (hp : a.eval p = .agg #[.int .i64 b, .int .i64 c, .int .i64 d]) (hq : a.eval q = .agg #[.int .i64 e, .int .i64 f, .int .i64 g]) (hrr : a.eval r = .agg #[.int .i64 h, .int .i64 i, .int .i64 j]) (hs : a.eval s = .agg #[.int .i64 k, .int .i64 l, .int .i64 m])
    (hr : wpList Tryz.prog ops Q rest (a.put o.dst (.slice (some ⟨w.heap.size, 0, none⟩) 4 4)) (w.alloc (.cells (cTs [(b, c, d), (e, f, g), (h, i, j), (k, l, m)]).toArray 31))) : wpList Tryz.prog ops Q (o :: rest) a w :=
  wpList_plain hgd fun K hK => by
    have := hK _ _ hr
    unfold Oper.wp execOp
    simp only [ho, Sem.run_bind]
    rw [show Array.map (fun x : Nat × Operand => (x.fst, a.eval x.snd)) #[(0, p), (1, q), (2, r), (3, s)] = #[(0, .agg #[.int .i64 b, .int .i64 c, .int .i64 d]), (1, .agg #[.int .i64 e, .int .i64 f, .int .i64 g]), (2, .agg #[.int .i64 h, .int .i64 i, .int .i64 j]), (3, .agg #[.int .i64 k, .int .i64 l, .int .i64 m])] by simp [hp, hq, hrr, hs], v_build4]
    exact this
theorem bsS4 {p q r s : Operand} {b c d e f g h i j k l m : Int} (hgd : o.guard = none) (ho : o.op = .buildSlice 23 4 #[(0, p), (1, q), (2, r), (3, s)]) (hp : a.eval p = .agg #[.int .i64 b, .int .i64 c, .int .i64 d]) (hq : a.eval q = .agg #[.int .i64 e, .int .i64 f, .int .i64 g]) (hrr : a.eval r = .agg #[.int .i64 h, .int .i64 i, .int .i64 j]) (hs : a.eval s = .agg #[.int .i64 k, .int .i64 l, .int .i64 m])
    (hr : wpList Tryz.prog ops Q rest (a.put o.dst (.slice (some ⟨w.heap.size, 0, none⟩) 4 4)) (w.alloc (.cells (cTs [(b, c, d), (e, f, g), (h, i, j), (k, l, m)]).toArray 33))) : wpList Tryz.prog ops Q (o :: rest) a w :=
  wpList_plain hgd fun K hK => by
    have := hK _ _ hr
    unfold Oper.wp execOp
    simp only [ho, Sem.run_bind]
    rw [show Array.map (fun x : Nat × Operand => (x.fst, a.eval x.snd)) #[(0, p), (1, q), (2, r), (3, s)] = #[(0, .agg #[.int .i64 b, .int .i64 c, .int .i64 d]), (1, .agg #[.int .i64 e, .int .i64 f, .int .i64 g]), (2, .agg #[.int .i64 h, .int .i64 i, .int .i64 j]), (3, .agg #[.int .i64 k, .int .i64 l, .int .i64 m])] by simp [hp, hq, hrr, hs], s_build4]
    exact this
theorem alDr (hgd : o.guard = none) (ho : o.op = .alloc 26)
    (hr : wpList Tryz.prog ops Q rest (a.put o.dst (.pointer (some ⟨w.heap.size, 0, none⟩))) (w.alloc (.cells nil3.toArray 26))) : wpList Tryz.prog ops Q (o :: rest) a w := al_blk hgd ho zeroDr hr
theorem stDr {t : TypeId} {x y : Operand} {b : Nat} {cs : List Value} {va sa ha : Option Addr} {n m k vc sc hc : Nat} (hgd : o.guard = none) (ho : o.op = .store 26 x y) (hx : a.eval x = .pointer (some ⟨b, 0, none⟩)) (hy : a.eval y = .agg #[.slice va n vc, .slice sa m sc, .slice ha k hc]) (h : Blk w b cs t) (hl : cs.length = 3)
    (hr : wpList Tryz.prog ops Q rest (a.put o.dst undef) (w.setRow b #[.slice va n vc, .slice sa m sc, .slice ha k hc])) : wpList Tryz.prog ops Q (o :: rest) a w :=
  st_blk (vs := [.slice va n vc, .slice sa m sc, .slice ha k hc]) hgd ho hx hy h hl (by kernel_rfl) (one3 _ _ _ _ _ _ _ _ _) hr
end
end Go.Proofs.YtoegjibeomhekaaGreat

/- parquetlaw9.square, valid.At, known. -/
namespace Go.Proofs.YtoegjibeomhekaaGreat
set_option linter.unusedSimpArgs false
set_option linter.unusedVariables false
open Go.RowKit
set_option maxRecDepth 100000
set_option maxHeartbeats 4000000 in
theorem square_any (x y n : Int) (hx : 0 ≤ x ∧ x ≤ 1000) (hy : 0 ≤ y ∧ y ≤ 1000) (hn : 0 ≤ n ∧ n ≤ 1000) (w : World) : Calls Tryz.prog 9 #[.int .i64 x, .int .i64 y, .int .i64 n] w fun e w' => ∃ g h, e = .returned (.agg #[.slice (some ⟨g, 0, none⟩) 4 4, .slice (some ⟨h, 0, none⟩) 4 4, .slice none 0 0]) ∧ Blk w' g (cTs (sqV x y n)) 31 ∧ Blk w' h (cTs sqS) 33 ∧ w.heap.size ≤ g ∧ w.heap.size ≤ h ∧ Below w.heap.size w w' := by
  have k1 : IntKind.i64.wrap (x + n) = x + n := by rw [IntKind.wrap_i64]; omega
  have k2 : IntKind.i64.wrap (y + n) = y + n := by rw [IntKind.wrap_i64]; omega
  clear hx hy hn
  go_enter Tryz.func9, Tryz.ntmps9
  go_wp2_with fail
  have R := ((Blk.new w [.slice (some ⟨w.heap.size + 1, 0, none⟩) 4 4, .slice (some ⟨w.heap.size + 1 + 1, 0, none⟩) 4 4, .slice none 0 0] 26 rfl).old (.cells #[Value.int .i64 x, .int .i64 y, .int .i64 0, .int .i64 (x + n), .int .i64 y, .int .i64 0, .int .i64 (x + n), .int .i64 (y + n), .int .i64 0, .int .i64 x, .int .i64 (y + n), .int .i64 0] 31)).old (.cells #[Value.int .i64 0, .int .i64 1, .int .i64 1, .int .i64 1, .int .i64 2, .int .i64 2, .int .i64 2, .int .i64 3, .int .i64 3, .int .i64 3, .int .i64 0, .int .i64 4] 33)
  have G : Blk _ (w.heap.size + 1) (cTs (sqV x y n)) 31 := (Blk.new (w.alloc (.cells #[.slice (some ⟨w.heap.size + 1, 0, none⟩) 4 4, .slice (some ⟨w.heap.size + 1 + 1, 0, none⟩) 4 4, .slice none 0 0] 26)) [Value.int .i64 x, .int .i64 y, .int .i64 0, .int .i64 (x + n), .int .i64 y, .int .i64 0, .int .i64 (x + n), .int .i64 (y + n), .int .i64 0, .int .i64 x, .int .i64 (y + n), .int .i64 0] 31 (b := w.heap.size + 1) (by simp)).old (.cells #[Value.int .i64 0, .int .i64 1, .int .i64 1, .int .i64 1, .int .i64 2, .int .i64 2, .int .i64 2, .int .i64 3, .int .i64 3, .int .i64 3, .int .i64 0, .int .i64 4] 33)
  have H : Blk _ (w.heap.size + 1 + 1) (cTs sqS) 33 := Blk.new ((w.alloc (.cells #[.slice (some ⟨w.heap.size + 1, 0, none⟩) 4 4, .slice (some ⟨w.heap.size + 1 + 1, 0, none⟩) 4 4, .slice none 0 0] 26)).alloc (.cells #[Value.int .i64 x, .int .i64 y, .int .i64 0, .int .i64 (x + n), .int .i64 y, .int .i64 0, .int .i64 (x + n), .int .i64 (y + n), .int .i64 0, .int .i64 x, .int .i64 (y + n), .int .i64 0] 31)) [Value.int .i64 0, .int .i64 1, .int .i64 1, .int .i64 1, .int .i64 2, .int .i64 2, .int .i64 2, .int .i64 3, .int .i64 3, .int .i64 3, .int .i64 0, .int .i64 4] 33 (b := w.heap.size + 1 + 1) (by simp)
  have hb := bnew w (.cells #[.slice (some ⟨w.heap.size + 1, 0, none⟩) 4 4, .slice (some ⟨w.heap.size + 1 + 1, 0, none⟩) 4 4, .slice none 0 0] 26)
  replace hb := (hb.alloc hb.size (.cells #[Value.int .i64 x, .int .i64 y, .int .i64 0, .int .i64 (x + n), .int .i64 y, .int .i64 0, .int .i64 (x + n), .int .i64 (y + n), .int .i64 0, .int .i64 x, .int .i64 (y + n), .int .i64 0] 31))
  replace hb := (hb.alloc hb.size (.cells #[Value.int .i64 0, .int .i64 1, .int .i64 1, .int .i64 1, .int .i64 2, .int .i64 2, .int .i64 2, .int .i64 3, .int .i64 3, .int .i64 3, .int .i64 0, .int .i64 4] 33))
  generalize ((w.alloc (.cells #[.slice (some ⟨w.heap.size + 1, 0, none⟩) 4 4, .slice (some ⟨w.heap.size + 1 + 1, 0, none⟩) 4 4, .slice none 0 0] 26)).alloc (.cells #[Value.int .i64 x, .int .i64 y, .int .i64 0, .int .i64 (x + n), .int .i64 y, .int .i64 0, .int .i64 (x + n), .int .i64 (y + n), .int .i64 0, .int .i64 x, .int .i64 (y + n), .int .i64 0] 31)).alloc (.cells #[Value.int .i64 0, .int .i64 1, .int .i64 1, .int .i64 1, .int .i64 2, .int .i64 2, .int .i64 2, .int .i64 3, .int .i64 3, .int .i64 3, .int .i64 0, .int .i64 4] 33) = WW at *
  refine ret_c rfl rfl rfl (whDr _ _ _ _ _ _ _ _ _) R ?_
  exact ⟨_, _, rfl, G, H, Nat.le_succ _, by omega, hb⟩
end Go.Proofs.YtoegjibeomhekaaGreat

/- valid.At. -/
namespace Go.Proofs.YtoegjibeomhekaaGreat
set_option linter.unusedSimpArgs false
set_option linter.unusedVariables false
open Go.RowKit
set_option maxRecDepth 100000
/-- Vertex i, or the first corner. -/
def vAt (V : List I3) (i : Int) : I3 := if 0 ≤ i ∧ i < V.length then V.getD i.toNat i30 else i30
section
variable {va : Option Addr} {vc : Nat} {sa : Option Addr} {sc : Nat} {ha : Option Addr} {hc : Nat} {V S : List I3} {H : List Hp}
def i64b (n : Int) : Prop := -9223372036854775808 ≤ n ∧ n ≤ 9223372036854775807
set_option maxHeartbeats 4000000 in
theorem vat_any (i : Int) (w : World) (hR : RdV w va vc sa sc ha hc V S H) (hv : V.length ≤ 1000) (hV : ∀ p ∈ V, i64b p.1 ∧ i64b p.2.1) : Calls Tryz.prog 11 #[.agg #[.slice va V.length vc, .slice sa S.length sc, .slice ha H.length hc], .int .i64 i] w fun e w' => e = .returned (vp ((vAt V i).1 : Rat) ((vAt V i).2.1 : Rat)) ∧ Below w.heap.size w w' := by
  have B1 := Blk.new w [.slice va V.length vc, .slice sa S.length sc, .slice ha H.length hc] 26 rfl
  have B2 := Blk.new (w.alloc (.cells #[.slice va V.length vc, .slice sa S.length sc, .slice ha H.length hc] 26)) p0 47 (b := w.heap.size + 1) (by simp)
  replace B1 := B1.old (.cells p0.toArray 47)
  have hb := bnew w (.cells #[.slice va V.length vc, .slice sa S.length sc, .slice ha H.length hc] 26)
  have hz : (w.alloc (.cells #[.slice va V.length vc, .slice sa S.length sc, .slice ha H.length hc] 26)).heap.size = w.heap.size + 1 := by simp
  replace hb := hb.alloc hb.size (.cells p0.toArray 47)
  have hbs := hb.size
  have HR := Lib.hid (hR.below hb)
  have c0 := B1.cell (i := 0) rfl
  have HX := fun n : Int => Lib.hid (rc_q (n : Rat))
  by_cases hi : 0 ≤ i ∧ i < V.length
  · obtain ⟨k, rfl⟩ : ∃ k : Nat, i = k := ⟨i.toNat, by omega⟩
    have hk : k < V.length := by omega
    obtain ⟨⟨x, y, m⟩, hx⟩ : ∃ p, V[k]? = some p := ⟨_, List.getElem?_eq_getElem hk⟩
    have HA : Hid (vAt V (k : Int) = (x, y, m)) := by
      show _ = _
      unfold vAt
      rw [if_pos (by omega), Int.toNat_natCast, getD_some hx]
    have hm := hV _ (List.mem_of_getElem? hx)
    obtain ⟨gv, ov, rfl, hcap, p1, p2, p3⟩ := HR.out.v.at hx
    simp only at p1 p2 p3
    have HS := Lib.hid (spot_any (x, y, m) hm.1 hm.2)
    have hX := HX x
    have hY := HX y
    rw [HA.out]
    unfold vp vl Tl cT at *
    simp only at HS
    generalize fq (x : Rat) = X at *
    generalize fq (y : Rat) = Y at *
    clear hR hV hx hi HA hm HR
    have g1 : ¬ (k : Int) < 0 := by omega
    have g2 : ¬ (V.length : Int) ≤ (k : Int) := by omega
    go_enter Tryz.func11, Tryz.ntmps11
    go_wp2_with (first | (with_reducible refine alP2 rfl rfl ?_) | (with_reducible refine alP rfl rfl ?_))
    try rw [hz]
    generalize (w.alloc (.cells #[.slice (some ⟨gv, ov, none⟩) V.length vc, .slice sa S.length sc, .slice ha H.length hc] 26)).alloc (.cells p0.toArray 47) = W at *
    refine (HS.out _).mono ?_
    rintro e w1 ⟨rfl, k1⟩
    replace B2 := B2.call k1
    replace hb := bthen hb k1
    clear k1 c0 p1 p2 p3 B1
    go_wp2_with (first | (with_reducible refine stPt rfl rfl rfl rfl B2 p0_len hX.out hY.out ?_))
    refine ret_c rfl rfl rfl (wholeP hX.out hY.out) (B2.row _) ?_
    exact ⟨rfl, below_row hb (Nat.le_succ _) _⟩
  · have HA : Hid (vAt V i = i30) := by show _ = _; unfold vAt; rw [if_neg hi]
    have HS := Lib.hid (At_q (n := 0) (m := 0) (by omega) (by omega))
    have hX := HX 0
    rw [HA.out]
    unfold vp vl Tl i30 at *
    simp only
    generalize fq ((0 : Int) : Rat) = X at *
    clear hR hV HA HR
    by_cases h1 : i < 0
    · go_enter Tryz.func11, Tryz.ntmps11
      go_wp2_with (first | (with_reducible refine alP2 rfl rfl ?_) | (with_reducible refine alP rfl rfl ?_))
      try rw [hz]
      generalize (w.alloc (.cells #[.slice va V.length vc, .slice sa S.length sc, .slice ha H.length hc] 26)).alloc (.cells p0.toArray 47) = W at *
      refine (HS.out _).mono ?_
      rintro e w1 ⟨rfl, k1⟩
      replace B2 := B2.call k1
      replace hb := bthen hb k1
      clear k1 c0 B1
      go_wp2_with (first | (with_reducible refine stPt rfl rfl rfl rfl B2 p0_len hX.out hX.out ?_))
      refine ret_c rfl rfl rfl (wholeP hX.out hX.out) (B2.row _) ?_
      exact ⟨rfl, below_row hb (Nat.le_succ _) _⟩
    · have g2 : (V.length : Int) ≤ i := by omega
      go_enter Tryz.func11, Tryz.ntmps11
      go_wp2_with (first | (with_reducible refine alP2 rfl rfl ?_) | (with_reducible refine alP rfl rfl ?_))
      try rw [hz]
      generalize (w.alloc (.cells #[.slice va V.length vc, .slice sa S.length sc, .slice ha H.length hc] 26)).alloc (.cells p0.toArray 47) = W at *
      refine (HS.out _).mono ?_
      rintro e w1 ⟨rfl, k1⟩
      replace B2 := B2.call k1
      replace hb := bthen hb k1
      clear k1 c0 B1
      go_wp2_with (first | (with_reducible refine stPt rfl rfl rfl rfl B2 p0_len hX.out hX.out ?_))
      refine ret_c rfl rfl rfl (wholeP hX.out hX.out) (B2.row _) ?_
      exact ⟨rfl, below_row hb (Nat.le_succ _) _⟩
end
end Go.Proofs.YtoegjibeomhekaaGreat

/- What squares are, and spoiled ones: without walks. -/
namespace Go.Proofs.YtoegjibeomhekaaGreat
set_option linter.unusedSimpArgs false
set_option linter.unusedVariables false
open Go.RowKit
set_option maxRecDepth 100000
def h12 : Hp := (fq ((1 : Int) : Rat) ++ fq ((2 : Int) : Rat), some (((1 : Int) : Rat), ((2 : Int) : Rat)))
theorem chk_k0 : chk (sqV 1 1 4) sqS [] = 0 := by kernel_rfl
theorem chk_k1 : chk (sqV 1 1 4) sqS [h12] = 17 := by kernel_rfl
theorem chk_k2 : chk [(1, 1, 0), (5, 1, 0), (99, 5, 0), (1, 5, 0)] sqS [] = 13 := by kernel_rfl
theorem chk_k3 : chk [] [] [] = 10 := by kernel_rfl
theorem chk_0 {V S : List I3} {H : List Hp} (h1 : vForm V S H = true) (h2 : vBnd V = true) (h3 : vTwin V = false) (h4 : vLoop V S = true) (h5 : vCrs V S = false) (h6 : vFree V S H = true) : chk V S H = 0 := by
  unfold chk; simp [h1, h2, h3, h4, h5, h6]
theorem chk_10 {V S : List I3} {H : List Hp} (h1 : vForm V S H = false) : chk V S H = 10 := by
  unfold chk; simp [h1]
theorem chk_13 {V S : List I3} {H : List Hp} (h1 : vForm V S H = true) (h2 : vBnd V = false) : chk V S H = 13 := by
  unfold chk; simp [h1, h2]
theorem chk_14 {V S : List I3} {H : List Hp} (h1 : vForm V S H = true) (h2 : vBnd V = true) (h3 : vTwin V = true) : chk V S H = 14 := by
  unfold chk; simp [h1, h2, h3]
theorem chk_15 {V S : List I3} {H : List Hp} (h1 : vForm V S H = true) (h2 : vBnd V = true) (h3 : vTwin V = false) (h4 : vLoop V S = false) : chk V S H = 15 := by
  unfold chk; simp [h1, h2, h3, h4]
theorem chk_16 {V S : List I3} {H : List Hp} (h1 : vForm V S H = true) (h2 : vBnd V = true) (h3 : vTwin V = false) (h4 : vLoop V S = true) (h5 : vCrs V S = true) : chk V S H = 16 := by
  unfold chk; simp [h1, h2, h3, h4, h5]
theorem twin4 (a b c d : I3) : vTwin [a, b, c, d] = (vSame b a || (vSame c a || (vSame c b || (vSame d a || (vSame d b || vSame d c))))) := by
  show (([] : List I3).any (vSame a) || ([a].any (vSame b) || ([a, b].any (vSame c) || ([a, b, c].any (vSame d) || false)))) = _
  simp [List.any_cons, Bool.or_assoc]
/-- A square with one corner after another: its sides. -/
def sd4 (a b c d : I3) : List Sd := [((0, 1, 1), a, b), ((1, 2, 2), b, c), ((2, 3, 3), c, d), ((3, 0, 4), d, a)]
theorem sides4 (a b c d : I3) : sqS.map (sdOf [a, b, c, d]) = sd4 a b c d := rfl
theorem crs4 (a b c d : I3) : vCrs [a, b, c, d] sqS = (vXng ((1, 2, 2), b, c) ((0, 1, 1), a, b) || ((vXng ((2, 3, 3), c, d) ((0, 1, 1), a, b) || vXng ((2, 3, 3), c, d) ((1, 2, 2), b, c)) || (vXng ((3, 0, 4), d, a) ((0, 1, 1), a, b) || (vXng ((3, 0, 4), d, a) ((1, 2, 2), b, c) || vXng ((3, 0, 4), d, a) ((2, 3, 3), c, d))))) := by
  show (List.range 4).any (earlier vXng sd0 (sqS.map (sdOf [a, b, c, d]))) = _
  rw [sides4]
  generalize vXng = X
  show (([] : List Sd).any (X ((0, 1, 1), a, b)) || ([((0, 1, 1), a, b)].any (X ((1, 2, 2), b, c)) || ([((0, 1, 1), a, b), ((1, 2, 2), b, c)].any (X ((2, 3, 3), c, d)) || ([((0, 1, 1), a, b), ((1, 2, 2), b, c), ((2, 3, 3), c, d)].any (X ((3, 0, 4), d, a)) || false)))) = _
  simp [List.any_cons, Bool.or_assoc]
theorem xng_lv {s t : Sd} (h : vLvs s t = true) : vXng s t = false := by unfold vXng; rw [h]; rfl
theorem xng_lv' {s t : Sd} (h : vLvs t s = true) : vXng s t = false := by unfold vXng; rw [h]; simp
/-- Joined ones of which one leaves the other's line. -/
theorem lvs_join {s t : Sd} (hj : vJoin s t = true) (h : tnI s.2.1 s.2.2 t.2.1 ≠ tnI s.2.1 s.2.2 t.2.2) : vLvs s t = true := by
  unfold vLvs; rw [hj, if_pos rfl]; exact decide_eq_true h
theorem lvs_pos {s t : Sd} (hj : vJoin s t = false) (h : 0 < tnI s.2.1 s.2.2 t.2.1) (h' : 0 < tnI s.2.1 s.2.2 t.2.2) : vLvs s t = true := by
  unfold vLvs; rw [hj]; simp [h, h']
theorem lvs_neg {s t : Sd} (hj : vJoin s t = false) (h : tnI s.2.1 s.2.2 t.2.1 < 0) (h' : tnI s.2.1 s.2.2 t.2.2 < 0) : vLvs s t = true := by
  unfold vLvs; rw [hj]; simp [h, h']
/-- Turns of whole points. -/
theorem crs_int (f t v : I3) : crs (f.1 : Rat) (f.2.1 : Rat) (t.1 : Rat) (t.2.1 : Rat) (v.1 : Rat) (v.2.1 : Rat) = ((tnI f t v : Int) : Rat) := by
  unfold crs tnI
  rw [Rat.intCast_sub, Rat.intCast_mul, Rat.intCast_mul, Rat.intCast_sub, Rat.intCast_sub, Rat.intCast_sub, Rat.intCast_sub]
theorem sd_int (f t v : I3) : sd (f.1 : Rat) (f.2.1 : Rat) (t.1 : Rat) (t.2.1 : Rat) (v.1 : Rat) (v.2.1 : Rat) = if tnI f t v < 0 then -1 else if 0 < tnI f t v then 1 else 0 := by
  unfold sd cq
  rw [crs_int]
  have h1 := Rat.intCast_lt_intCast (a := tnI f t v) (b := 0)
  have h2 := Rat.intCast_lt_intCast (a := 0) (b := tnI f t v)
  rw [Rat.intCast_zero] at h1 h2
  simp only [h1, h2]
theorem sd_i_pos {f t v : I3} (h : 0 < tnI f t v) : sd (f.1 : Rat) (f.2.1 : Rat) (t.1 : Rat) (t.2.1 : Rat) (v.1 : Rat) (v.2.1 : Rat) = 1 := by
  rw [sd_int, if_neg (by omega), if_pos h]
theorem sd_i_neg {f t v : I3} (h : tnI f t v < 0) : sd (f.1 : Rat) (f.2.1 : Rat) (t.1 : Rat) (t.2.1 : Rat) (v.1 : Rat) (v.2.1 : Rat) = -1 := by
  rw [sd_int, if_pos h]
/-- The ends of each lie on both sides of the other. -/
def Opp (f t v u : I3) : Prop := (0 < tnI f t v ∧ tnI f t u < 0) ∨ (tnI f t v < 0 ∧ 0 < tnI f t u)
theorem opp_sd {f t v u : I3} (h : Opp f t v u) : sd (f.1 : Rat) (f.2.1 : Rat) (t.1 : Rat) (t.2.1 : Rat) (v.1 : Rat) (v.2.1 : Rat) * sd (f.1 : Rat) (f.2.1 : Rat) (t.1 : Rat) (t.2.1 : Rat) (u.1 : Rat) (u.2.1 : Rat) < 0 := by
  rcases h with ⟨h1, h2⟩ | ⟨h1, h2⟩
  · rw [sd_i_pos h1, sd_i_neg h2]; decide
  · rw [sd_i_neg h1, sd_i_pos h2]; decide
theorem mq_opp {s t : Sd} (h : Opp s.2.1 s.2.2 t.2.1 t.2.2) (h' : Opp t.2.1 t.2.2 s.2.1 s.2.2) : vMq s t = 2 := mq_two (opp_sd h) (opp_sd h')
theorem xng_opp {s t : Sd} (hj : vJoin s t = false) (hj' : vJoin t s = false) (h : Opp s.2.1 s.2.2 t.2.1 t.2.2) (h' : Opp t.2.1 t.2.2 s.2.1 s.2.2) : vXng s t = true := by
  have e1 : vLvs s t = false := by
    unfold vLvs; rw [hj]
    rcases h with ⟨h1, h2⟩ | ⟨h1, h2⟩ <;> simp <;> omega
  have e2 : vLvs t s = false := by
    unfold vLvs; rw [hj']
    rcases h' with ⟨h1, h2⟩ | ⟨h1, h2⟩ <;> simp <;> omega
  unfold vXng vMay
  rw [e1, e2, mq_opp h h', hj]; rfl
section
variable {x y n : Int} (hn : 1 ≤ n)
include hn
theorem nn_pos : 0 < n * n := Int.mul_pos (by omega) (by omega)
theorem sq_crs : vCrs (sqV x y n) sqS = false := by
  have hp := nn_pos hn
  unfold sqV
  rw [crs4]
  rw [xng_lv (lvs_join (by rfl) (by unfold tnI; simp only; grind))]
  rw [xng_lv (lvs_pos (by rfl) (by unfold tnI; simp only; grind) (by unfold tnI; simp only; grind))]
  rw [xng_lv (lvs_join (by rfl) (by unfold tnI; simp only; grind))]
  rw [xng_lv (lvs_join (by rfl) (by unfold tnI; simp only; grind))]
  rw [xng_lv (lvs_pos (by rfl) (by unfold tnI; simp only; grind) (by unfold tnI; simp only; grind))]
  rw [xng_lv (lvs_join (by rfl) (by unfold tnI; simp only; grind))]
  rfl
end
theorem sq_form {x y n : Int} (hx : 0 ≤ x ∧ x ≤ 29) (hy : 0 ≤ y ∧ y ≤ 29) (hn : 1 ≤ n ∧ n ≤ 30) : vForm (sqV x y n) sqS [] = true := by kernel_rfl
theorem bnd4 {a b c d : I3} (ha : vIn a = true) (hb : vIn b = true) (hc : vIn c = true) (hd : vIn d = true) : vBnd [a, b, c, d] = true := by
  unfold vBnd; simp [ha, hb, hc, hd]
theorem in_of {p : I3} (h1 : 0 ≤ p.1 ∧ p.1 ≤ 64) (h2 : 0 ≤ p.2.1 ∧ p.2.1 ≤ 64) : vIn p = true := by
  unfold vIn; rw [(vin_iff _ _ _).2 h1, (vin_iff _ _ _).2 h2]; rfl
theorem sq_bnd {x y n : Int} (hx : 0 ≤ x ∧ x ≤ 29) (hy : 0 ≤ y ∧ y ≤ 29) (hn : 1 ≤ n ∧ n ≤ 30) : vBnd (sqV x y n) = true := by
  unfold sqV vBnd
  simp only [List.all_cons, List.all_nil, vIn, vin]
  simp; omega
theorem sq_twin {x y n : Int} (hx : 0 ≤ x ∧ x ≤ 29) (hy : 0 ≤ y ∧ y ≤ 29) (hn : 1 ≤ n ∧ n ≤ 30) : vTwin (sqV x y n) = false := by
  unfold sqV
  rw [twin4]
  unfold vSame
  simp; omega
theorem sq_loop {x y n : Int} (hx : 0 ≤ x ∧ x ≤ 29) (hy : 0 ≤ y ∧ y ≤ 29) (hn : 1 ≤ n ∧ n ≤ 30) : vLoop (sqV x y n) sqS = true := by kernel_rfl
theorem spoil_0 {x y n : Int} (hx : 0 ≤ x ∧ x ≤ 29) (hy : 0 ≤ y ∧ y ≤ 29) (hn : 1 ≤ n ∧ n ≤ 30) : chk (sqV x y n) sqS [] = 0 := chk_0 (sq_form hx hy hn) (sq_bnd hx hy hn) (sq_twin hx hy hn) (sq_loop hx hy hn) (sq_crs hn.1) (by unfold vFree; simp)
theorem spoil_1 {x y n : Int} (hx : 0 ≤ x ∧ x ≤ 29) (hy : 0 ≤ y ∧ y ≤ 29) (hn : 1 ≤ n ∧ n ≤ 30) : chk [(x, y, 0), (x, y, 0), (x + n, y + n, 0), (x, y + n, 0)] sqS [] = 14 := by
  refine chk_14 (by kernel_rfl) ?_ ?_
  · unfold vBnd; simp only [List.all_cons, List.all_nil, vIn, vin]; simp; omega
  · rw [twin4]; unfold vSame; simp
theorem spoil_2 {x y n : Int} (hx : 0 ≤ x ∧ x ≤ 29) (hy : 0 ≤ y ∧ y ≤ 29) (hn : 1 ≤ n ∧ n ≤ 30) : chk (sqV x y n) (sqS.take 3) [] = 15 := chk_15 (by kernel_rfl) (sq_bnd hx hy hn) (sq_twin hx hy hn) (by kernel_rfl)
theorem spoil_3 {x y n : Int} (hx : 0 ≤ x ∧ x ≤ 29) (hy : 0 ≤ y ∧ y ≤ 29) (hn : 1 ≤ n ∧ n ≤ 30) : chk (sqV x y n) (sqS ++ [(0, 1, 1)]) [] = 15 := chk_15 (by kernel_rfl) (sq_bnd hx hy hn) (sq_twin hx hy hn) (by kernel_rfl)
theorem spoil_4 {x y n : Int} (hx : 0 ≤ x ∧ x ≤ 29) (hy : 0 ≤ y ∧ y ≤ 29) (hn : 1 ≤ n ∧ n ≤ 30) : chk (sqV x y n) [(0, 2, 1), (1, 2, 2), (2, 3, 3), (3, 0, 4)] [] = 15 := chk_15 (by kernel_rfl) (sq_bnd hx hy hn) (sq_twin hx hy hn) (by kernel_rfl)
theorem spoil_6 {x y n : Int} (hx : 0 ≤ x ∧ x ≤ 29) (hy : 0 ≤ y ∧ y ≤ 29) (hn : 1 ≤ n ∧ n ≤ 30) : chk (sqV x y n) [(0, 1, 1), (1, 2, 2), (2, 3, -1), (3, 0, 4)] [] = 10 := chk_10 (by kernel_rfl)
theorem spoil_7 {x y n : Int} (hx : 0 ≤ x ∧ x ≤ 29) (hy : 0 ≤ y ∧ y ≤ 29) (hn : 1 ≤ n ∧ n ≤ 30) : chk [(x, y, 0), (x + n, y, 0), (x + n, y + n, 0), (x, 65, 0)] sqS [] = 13 := by
  refine chk_13 (by kernel_rfl) ?_
  unfold vBnd; simp only [List.all_cons, List.all_nil, vIn, vin]; simp
theorem spoil_5 {x y n : Int} (hx : 0 ≤ x ∧ x ≤ 29) (hy : 0 ≤ y ∧ y ≤ 29) (hn : 1 ≤ n ∧ n ≤ 30) : chk [(x, y, 0), (x + n, y + n, 0), (x + n, y, 0), (x, y + n, 0)] sqS [] = 16 := by
  refine chk_16 (by kernel_rfl) ?_ ?_ (by kernel_rfl) ?_
  · unfold vBnd; simp only [List.all_cons, List.all_nil, vIn, vin]; simp; omega
  · rw [twin4]; unfold vSame; simp; omega
  · rw [crs4]
    have hp := nn_pos hn.1
    rw [xng_opp (s := ((2, 3, 3), (x + n, y, 0), (x, y + n, 0))) (t := ((0, 1, 1), (x, y, 0), (x + n, y + n, 0))) (by rfl) (by rfl) (by unfold Opp tnI; simp only; first | (left; constructor <;> grind) | (right; constructor <;> grind)) (by unfold Opp tnI; simp only; first | (left; constructor <;> grind) | (right; constructor <;> grind))]
    simp
end Go.Proofs.YtoegjibeomhekaaGreat

/- parquetlaw9.known. -/
namespace Go.Proofs.YtoegjibeomhekaaGreat
set_option linter.unusedSimpArgs false
set_option linter.unusedVariables false
open Go.RowKit
set_option maxRecDepth 100000
theorem veqP {ops : Array Oper} {rest : List Oper} {o : Oper} {a : Act} {w : World} {Q : Exit → Act → World → Prop} {p q : Operand} {x y : Rat} {ty : TypeId} (hw : Region.wanted o (yielded ops a.tmps) = true) (ho : o.op = .binOp .eql 47 p q ty) (hp : a.eval p = .agg (fq x ++ fq y).toArray) (hq : a.eval q = .agg (fq x ++ fq y).toArray) (hx : Fq2 x) (hy : Fq2 y)
    (hr : wpList Tryz.prog ops Q rest (a.put o.dst (.bool true)) w) : wpList Tryz.prog ops Q (o :: rest) a w :=
  eqPg hw ho hp hq hx hy hx hy (by rw [decide_eq_true ⟨rfl, rfl⟩]; exact hr)
theorem Check_at {w : World} {v s t : Value} {V S : List I3} {H : List Hp} {r : Int} (hv : RdT w v V) (hs : RdT w s S) (ht : RdP w t H) (lv : V.length ≤ 1000) (ls : S.length ≤ 1000) (lh : H.length ≤ 1000) (hok : ∀ p ∈ H, HpOk p) (hr : chk V S H = r) :
    Calls Tryz.prog 8 #[.agg #[v, s, t]] w fun e w' => e = .returned (.int .i64 r) ∧ Below w.heap.size w w' := by
  subst hr
  obtain ⟨va, vc, rfl⟩ := hv.shape
  obtain ⟨sa, sc, rfl⟩ := hs.shape
  obtain ⟨ta, tc, rfl⟩ := ht.shape
  exact Check_any w ⟨hv, hs, ht⟩ lv ls lh hok
theorem At_at {w : World} {v s t : Value} {V S : List I3} {H : List Hp} (i : Int) {x y : Int} (hv : RdT w v V) (hs : RdT w s S) (ht : RdP w t H) (lv : V.length ≤ 1000) (hok : ∀ p ∈ V, i64b p.1 ∧ i64b p.2.1) (hr : (vAt V i).1 = x ∧ (vAt V i).2.1 = y) :
    Calls Tryz.prog 11 #[.agg #[v, s, t], .int .i64 i] w fun e w' => e = .returned (.agg (fq (x : Rat) ++ fq (y : Rat)).toArray) ∧ Below w.heap.size w w' := by
  obtain ⟨rfl, rfl⟩ := hr
  obtain ⟨va, vc, rfl⟩ := hv.shape
  obtain ⟨sa, sc, rfl⟩ := hs.shape
  obtain ⟨ta, tc, rfl⟩ := ht.shape
  exact vat_any i w ⟨hv, hs, ht⟩ lv hok
theorem RdP.nil (w : World) (a : Option Addr) (c : Nat) : RdP w (.slice a 0 c) [] := .inl ⟨rfl, _, _, rfl⟩
theorem RdT.nil (w : World) (a : Option Addr) (c : Nat) : RdT w (.slice a 0 c) [] := .inl ⟨rfl, _, _, rfl⟩
theorem RdP.one {w : World} {g : Nat} {p : Hp} (h : Blk w g p.1 47) : RdP w (.slice (some ⟨g, 0, none⟩) 1 1) [p] :=
  .inr ⟨g, 0, 1, rfl, by simp, h.lt, fun i q hi => by
    match i, hi with
    | 0, hi => (simp at hi; subst hi; exact h.range)
    | n + 1, hi => simp at hi⟩
theorem h12_ok : ∀ p ∈ [h12], HpOk p := fun p hp => by
  simp only [List.mem_singleton] at hp
  subst hp
  exact HpG.ok ⟨_, _, rfl, rfl, gd_i (by decide) (by decide)⟩
set_option maxHeartbeats 8000000 in
theorem known9_any (w : World) : Calls Tryz.prog 6 #[] w fun e w' => e = .returned (.bool true) ∧ Below w.heap.size w w' := by
  have HSq := Lib.hid (square_any 1 1 4 (by omega) (by omega) (by omega))
  have HA12 := Lib.hid (Atref_q (n := 1) (m := 2) (by omega) (by omega))
  have HA51 := Lib.hid (Atref_q (n := 5) (m := 1) (by omega) (by omega))
  have HA00 := Lib.hid (Atref_q (n := 0) (m := 0) (by omega) (by omega))
  unfold vp vl Tl at HA12 HA51 HA00
  go_enter Tryz.func6, Tryz.ntmps6
  go_wp2_with fail
  refine (HSq.out _).mono ?_
  rintro e w1 ⟨g, q, rfl, G, S, hg, hh, hb⟩
  have D := Blk.new w1 [.slice (some ⟨g, 0, none⟩) 4 4, .slice (some ⟨q, 0, none⟩) 4 4, .slice none 0 0] 26 rfl
  replace G := G.old (.cells #[.slice (some ⟨g, 0, none⟩) 4 4, .slice (some ⟨q, 0, none⟩) 4 4, .slice none 0 0] 26)
  replace S := S.old (.cells #[.slice (some ⟨g, 0, none⟩) 4 4, .slice (some ⟨q, 0, none⟩) 4 4, .slice none 0 0] 26)
  have hd := hb.size
  replace hb := hb.alloc hd (.cells #[.slice (some ⟨g, 0, none⟩) 4 4, .slice (some ⟨q, 0, none⟩) 4 4, .slice none 0 0] 26)
  have HD := Lib.hid hd
  go_wp2_with fail
  generalize w1.alloc (.cells #[.slice (some ⟨g, 0, none⟩) 4 4, .slice (some ⟨q, 0, none⟩) 4 4, .slice none 0 0] 26) = W at *
  generalize w1.heap.size = d at *
  have hgd : g ≠ d := fun e => by subst e; unfold Blk at G D; rw [G] at D; simp [cTs, sqV] at D
  have hhd : q ≠ d := fun e => by subst e; unfold Blk at S D; rw [S] at D; simp [cTs, sqS] at D
  have hgh : q ≠ g := fun e => by subst e; unfold Blk at G S; rw [G] at S; simp [cTs, sqV, sqS] at S
  have HK := Lib.hid (Check_at (RdT.lit G) (RdT.lit S) (RdP.nil W none 0) (by decide) (by decide) (by decide) (by simp) chk_k0)
  refine HK.out.mono ?_
  rintro e w2 ⟨rfl, k1⟩
  replace D := D.call k1
  replace G := G.call k1
  replace S := S.call k1
  replace hb := bthen hb k1
  clear k1 HK hd HSq
  go_wp2_with fail
  refine (HA12.out _).mono ?_
  rintro e w3 ⟨rfl, k1⟩
  replace D := D.call k1
  replace G := G.call k1
  replace S := S.call k1
  replace hb := bthen hb k1
  clear k1 HA12
  go_wp2_with (first | (with_reducible refine lbsP1 rfl rfl rfl (rc_q _) (rc_q _) ?_; refine Hid.out ?_))
  have P := Blk.new w3 (jn [fq ((1 : Int) : Rat) ++ fq ((2 : Int) : Rat)]) 47 rfl
  have hd3 := D.lt
  have hg3 := G.lt
  have hh3 := S.lt
  replace D := D.old (.cells (jn [fq ((1 : Int) : Rat) ++ fq ((2 : Int) : Rat)]).toArray 47)
  replace G := G.old (.cells (jn [fq ((1 : Int) : Rat) ++ fq ((2 : Int) : Rat)]).toArray 47)
  replace S := S.old (.cells (jn [fq ((1 : Int) : Rat) ++ fq ((2 : Int) : Rat)]).toArray 47)
  replace hb := hb.alloc hb.size (.cells (jn [fq ((1 : Int) : Rat) ++ fq ((2 : Int) : Rat)]).toArray 47)
  generalize w3.alloc (.cells (jn [fq ((1 : Int) : Rat) ++ fq ((2 : Int) : Rat)]).toArray 47) = W3 at *
  have hpd : w3.heap.size ≠ d := by omega
  have hpg : g ≠ w3.heap.size := by omega
  have hph : q ≠ w3.heap.size := by omega
  generalize w3.heap.size = gp at *
  have c0 := D.cell (i := 0) rfl
  have c1 := D.cell (i := 1) rfl
  have c2 := D.cell (i := 2) rfl
  have f2 := D.frozen 2
  apply Lib.hid
  go_wp2_with fail
  have P' : Blk W3 gp (fq ((1 : Int) : Rat) ++ fq ((2 : Int) : Rat)) 47 := by simpa [jn] using P
  have D2 := D.set 2 (.slice (some ⟨gp, 0, none⟩) 1 1)
  have G2 := G.setOther (g := d) 2 (.slice (some ⟨gp, 0, none⟩) 1 1) hgd
  have S2 := S.setOther (g := d) 2 (.slice (some ⟨gp, 0, none⟩) 1 1) hhd
  have P2 := P'.setOther (g := d) 2 (.slice (some ⟨gp, 0, none⟩) 1 1) hpd
  replace hb := hb.setCell (p := ⟨d, 2, none⟩) (HD.out) (.slice (some ⟨gp, 0, none⟩) 1 1)
  generalize W3.setCell ⟨d, 2, none⟩ (.slice (some ⟨gp, 0, none⟩) 1 1) = W4 at *
  clear D G S P P' c0 c1 c2 f2
  have HK := Lib.hid (Check_at (RdT.lit G2) (RdT.lit S2) (RdP.one (p := h12) P2) (by decide) (by decide) (by decide) h12_ok chk_k1)
  refine HK.out.mono ?_
  rintro e w5 ⟨rfl, k1⟩
  replace D2 := D2.call k1
  replace G2 := G2.call k1
  replace S2 := S2.call k1
  replace hb := bthen hb k1
  have c0 := D2.cell (i := 0) rfl
  have c2 := D2.cell (i := 2) rfl
  have f2 := D2.frozen 2
  have D3 := D2.set 2 (.slice none 0 0)
  have G3 := G2.setOther (g := d) 2 (.slice none 0 0) hgd
  have S3 := S2.setOther (g := d) 2 (.slice none 0 0) hhd
  have e6 := G3.cell (i := 6) rfl
  have f6 := G3.frozen 6
  have c6 := G2.cell (i := 6) rfl
  have f6' := G2.frozen 6
  have D4 := D3.setOther (g := g) 6 (.int .i64 99) (Ne.symm hgd)
  have G4 := G3.set 6 (.int .i64 99)
  have S4 := S3.setOther (g := g) 6 (.int .i64 99) hgh
  have d0 := D4.cell (i := 0) rfl
  have d1 := D4.cell (i := 1) rfl
  have d2 := D4.cell (i := 2) rfl
  replace hb := (hb.setCell (p := ⟨d, 2, none⟩) (HD.out) (.slice none 0 0)).setCell (p := ⟨g, 6, none⟩) hg (.int .i64 99)
  clear k1 HK P2
  go_wp2_with fail
  generalize (w5.setCell ⟨d, 2, none⟩ (.slice none 0 0)).setCell ⟨g, 6, none⟩ (.int .i64 99) = W6 at *
  clear D2 G2 S2 D3 G3 S3 c0 c2 f2 e6 f6 c6 f6' d0 d1 d2
  have G5 : Blk W6 g (cTs [(1, 1, 0), (5, 1, 0), (99, 5, 0), (1, 5, 0)]) 31 := G4
  have D5 : Blk W6 d [.slice (some ⟨g, 0, none⟩) 4 4, .slice (some ⟨q, 0, none⟩) 4 4, .slice none 0 0] 26 := D4
  clear G4 D4
  have HK := Lib.hid (Check_at (RdT.lit G5) (RdT.lit S4) (RdP.nil W6 none 0) (by decide) (by decide) (by decide) (by simp) chk_k2)
  refine HK.out.mono ?_
  rintro e w7 ⟨rfl, k1⟩
  replace D5 := D5.call k1
  replace G5 := G5.call k1
  replace S4 := S4.call k1
  replace hb := bthen hb k1
  clear k1 HK
  have HK := Lib.hid (Check_at (RdT.nil w7 none 0) (RdT.nil w7 none 0) (RdP.nil w7 none 0) (by decide) (by decide) (by decide) (by simp) chk_k3)
  go_wp2_with fail
  refine HK.out.mono ?_
  rintro e w8 ⟨rfl, k1⟩
  replace D5 := D5.call k1
  replace G5 := G5.call k1
  replace S4 := S4.call k1
  replace hb := bthen hb k1
  clear k1 HK
  have c0 := D5.cell (i := 0) rfl
  have c1 := D5.cell (i := 1) rfl
  have c2 := D5.cell (i := 2) rfl
  have HK := Lib.hid (At_at (x := 5) (y := 1) 1 (RdT.lit G5) (RdT.lit S4) (RdP.nil w8 none 0) (by decide) (by unfold i64b; decide) ⟨by decide, by decide⟩)
  go_wp2_with fail
  refine HK.out.mono ?_
  rintro e w9 ⟨rfl, k1⟩
  replace D5 := D5.call k1
  replace G5 := G5.call k1
  replace S4 := S4.call k1
  replace hb := bthen hb k1
  clear k1 HK
  go_wp2_with fail
  refine (HA51.out _).mono ?_
  rintro e w10 ⟨rfl, k1⟩
  replace D5 := D5.call k1
  replace G5 := G5.call k1
  replace S4 := S4.call k1
  replace hb := bthen hb k1
  clear k1 HA51
  replace c0 := D5.cell (i := 0) rfl
  replace c1 := D5.cell (i := 1) rfl
  replace c2 := D5.cell (i := 2) rfl
  have HK := Lib.hid (At_at (x := 0) (y := 0) 9 (RdT.lit G5) (RdT.lit S4) (RdP.nil w10 none 0) (by decide) (by unfold i64b; decide) ⟨by decide, by decide⟩)
  have i5 : Hid (Fq2 ((5 : Int) : Rat)) := f2_i (by decide)
  have i1 : Hid (Fq2 ((1 : Int) : Rat)) := f2_i (by decide)
  have i0 : Hid (Fq2 ((0 : Int) : Rat)) := f2_i (by decide)
  go_wp2_with (first | (refine veqP (by rfl) rfl rfl rfl i5.out i1.out ?_))
  refine HK.out.mono ?_
  rintro e w11 ⟨rfl, k1⟩
  replace hb := bthen hb k1
  clear k1 HK c0 c1 c2 D5 G5 S4
  go_wp2_with fail
  refine (HA00.out _).mono ?_
  rintro e w12 ⟨rfl, k1⟩
  replace hb := bthen hb k1
  clear k1 HA00
  go_wp2_with (first | (refine veqP (by rfl) rfl rfl rfl i0.out i0.out ?_))
  go_ret
  exact ⟨rfl, hb⟩
end Go.Proofs.YtoegjibeomhekaaGreat

/- Rows of vertices, of segments, that grow by one. -/
namespace Go.Proofs.YtoegjibeomhekaaGreat
set_option linter.unusedSimpArgs false
set_option linter.unusedVariables false
open Go.RowKit
set_option maxRecDepth 100000
theorem cTs_len : ∀ l : List I3, (cTs l).length = l.length * 3
  | [] => rfl
  | p :: l => by
    have := cTs_len l
    unfold cTs at *
    rw [List.flatMap_cons, List.length_append, this, List.length_cons]
    simp only [List.length_cons, List.length_nil]; omega
theorem cTs_app (l : List I3) (p : I3) : cTs (l ++ [p]) = cTs l ++ [.int .i64 p.1, .int .i64 p.2.1, .int .i64 p.2.2] := by
  unfold cTs; rw [List.flatMap_append, List.flatMap_singleton]
/-- A row that one has made oneself. -/
theorem own_cTs {w : World} {g base : Nat} {T : TypeId} {l : List I3} (h : Blk w g (cTs l) T) (hb : base ≤ g) (hl : l.length ≤ 1000) : w.ownsRow base T 3 (.slice (some ⟨g, 0, none⟩) l.length l.length) l.length (cTs l) :=
  ⟨cTs_len l, .inr ⟨g, l.length, _, rfl, hb, h, Nat.le_refl _, by unfold maxLen; omega, by simp [cTs_len], by rw [List.take_of_length_le (by simp [cTs_len])]⟩⟩
theorem RdT.of {w : World} {B : Nat} {T : TypeId} {v : Value} {xs : List I3} (h : w.ownsRow B T 3 v xs.length (cTs xs)) : RdT w v xs := by
  rcases h.2 with ⟨rfl, h0⟩ | ⟨g, cap, cur, rfl, _, _, hcap, _⟩
  · exact .inl ⟨List.eq_nil_of_length_eq_zero h0, _, _, rfl⟩
  · refine .inr ⟨g, 0, cap, rfl, hcap, fun i p hi => ?_⟩
    have e : ∀ j, (⟨g, j, none⟩ : Addr) = (⟨g, 0, none⟩ : Addr).add j := fun j => by cases j <;> simp [Addr.add]
    have k := fun j v hj => h.cells (g := g) rfl (i * 3 + j) v (by
      have := flat_get 3 (xs.map fun p => [Value.int .i64 p.1, .int .i64 p.2.1, .int .i64 p.2.2]) i _ j v (fun P hP => by obtain ⟨q, _, rfl⟩ := List.mem_map.1 hP; rfl) (by rw [List.getElem?_map, hi]; rfl) hj
      rwa [← List.flatMap_def] at this)
    rw [Nat.zero_add]
    exact ⟨by rw [e]; exact k 0 _ rfl, by rw [e]; exact k 1 _ rfl, by rw [e]; exact k 2 _ rfl⟩
theorem vinfo3 {P : Program} {e : TypeId} {z : Option Value} {n m : Nat} (h : (P.info? e).map (fun i => (i.zero, i.size, i.bytes)) = some (z, n, m)) : ∃ i, P.info? e = some i ∧ i.zero = z ∧ i.size = n ∧ i.bytes = m := by
  cases hq : P.info? e with
  | none => rw [hq] at h; simp at h
  | some i =>
    rw [hq] at h
    simp only [Option.map_some, Option.some.injEq, Prod.mk.injEq] at h
    exact ⟨i, rfl, h.1, h.2.1, h.2.2⟩
theorem Vt_build1 (x y z : Int) (w : World) : (Instr.buildSlice 22 1 #[(0, .agg #[.int .i64 x, .int .i64 y, .int .i64 z])]).run Tryz.prog w = .ok (.slice (some ⟨w.heap.size, 0, none⟩) 1 1) (w.alloc (.cells #[.int .i64 x, .int .i64 y, .int .i64 z] 31)) := by kernel_rfl
theorem wp_bs1Vt {o : Oper} {a : Act} {w : World} {K : Act → World → Prop} {Q : Exit → Act → World → Prop} {p : Operand} {x y z : Int} (ho : o.op = .buildSlice 22 1 #[(0, p)]) (hp : a.eval p = .agg #[.int .i64 x, .int .i64 y, .int .i64 z])
    (h : ∀ g w', w.heap.size ≤ g → Blk w' g [.int .i64 x, .int .i64 y, .int .i64 z] 31 → Below w.heap.size w w' → K (a.put o.dst (.slice (some ⟨g, 0, none⟩) 1 1)) w') : o.wp Tryz.prog a w K Q := by
  have h := h w.heap.size _ (Nat.le_refl _) (Blk.new w [.int .i64 x, .int .i64 y, .int .i64 z] 31 rfl) ((Below.refl _ _).alloc (Nat.le_refl _) _)
  unfold Oper.wp execOp
  simp only [ho, Sem.run_bind]
  rw [show Array.map (fun x : Nat × Operand => (x.fst, a.eval x.snd)) #[(0, p)] = #[(0, .agg #[.int .i64 x, .int .i64 y, .int .i64 z])] by simp [hp], Vt_build1]
  exact h
theorem wp_ap1Vt {o : Oper} {a : Act} {w : World} {K : Act → World → Prop} {Q : Exit → Act → World → Prop} {s x : Operand} {B n g : Nat} {v : Value} {xs : List Value} {p q r : Int}
    (ho : o.op = .call { callee := .builtin .append, args := #[s, x], argTypes := #[22, 22] }) (hs : a.eval s = v) (hx : a.eval x = .slice (some ⟨g, 0, none⟩) 1 1)
    (hown : w.ownsRow B 31 3 v n xs) (hg : Blk w g [.int .i64 p, .int .i64 q, .int .i64 r] 31) (hn : n ≤ 2000000) (hB : B ≤ w.heap.size)
    (hr : ∀ v' w', w'.ownsRow B 31 3 v' (n + 1) (xs ++ [.int .i64 p, .int .i64 q, .int .i64 r]) → w.grownBy w' v.ownBlock → K (a.put o.dst v') w') : o.wp Tryz.prog a w K Q := by
  obtain ⟨i0, hi0, hz0, hz1, hz2⟩ := vinfo3 (show (Tryz.prog.info? 31).map (fun i => (i.zero, i.size, i.bytes)) = some (some (.agg #[.int .i64 0, .int .i64 0, .int .i64 0]), 3, 24) by kernel_rfl)
  refine wp_append_own w s x 22 ho B 31 i0 _ 3 24 Tryz.underlying22 hi0 hz0 hz1 hz2 rfl (by decide) v n xs hs hown ⟨g, 0, none⟩ 1 1 [.int .i64 p, .int .i64 q, .int .i64 r] hx rfl ?_ (by intro u hu; simp at hu; rcases hu with rfl | rfl | rfl <;> rfl) ?_ ?_ hB ?_
  · intro j y hj
    have := hg.cell hj
    rw [show (⟨g, j, none⟩ : Addr) = (⟨g, 0, none⟩ : Addr).add j by cases j <;> simp [Addr.add]] at this
    exact this
  · unfold maxLen; omega
  · omega
  · intro v' w' k1 k2 _
    exact hr v' w' k1 k2
theorem Sg_build1 (x y z : Int) (w : World) : (Instr.buildSlice 23 1 #[(0, .agg #[.int .i64 x, .int .i64 y, .int .i64 z])]).run Tryz.prog w = .ok (.slice (some ⟨w.heap.size, 0, none⟩) 1 1) (w.alloc (.cells #[.int .i64 x, .int .i64 y, .int .i64 z] 33)) := by kernel_rfl
theorem wp_bs1Sg {o : Oper} {a : Act} {w : World} {K : Act → World → Prop} {Q : Exit → Act → World → Prop} {p : Operand} {x y z : Int} (ho : o.op = .buildSlice 23 1 #[(0, p)]) (hp : a.eval p = .agg #[.int .i64 x, .int .i64 y, .int .i64 z])
    (h : ∀ g w', w.heap.size ≤ g → Blk w' g [.int .i64 x, .int .i64 y, .int .i64 z] 33 → Below w.heap.size w w' → K (a.put o.dst (.slice (some ⟨g, 0, none⟩) 1 1)) w') : o.wp Tryz.prog a w K Q := by
  have h := h w.heap.size _ (Nat.le_refl _) (Blk.new w [.int .i64 x, .int .i64 y, .int .i64 z] 33 rfl) ((Below.refl _ _).alloc (Nat.le_refl _) _)
  unfold Oper.wp execOp
  simp only [ho, Sem.run_bind]
  rw [show Array.map (fun x : Nat × Operand => (x.fst, a.eval x.snd)) #[(0, p)] = #[(0, .agg #[.int .i64 x, .int .i64 y, .int .i64 z])] by simp [hp], Sg_build1]
  exact h
theorem wp_ap1Sg {o : Oper} {a : Act} {w : World} {K : Act → World → Prop} {Q : Exit → Act → World → Prop} {s x : Operand} {B n g : Nat} {v : Value} {xs : List Value} {p q r : Int}
    (ho : o.op = .call { callee := .builtin .append, args := #[s, x], argTypes := #[23, 23] }) (hs : a.eval s = v) (hx : a.eval x = .slice (some ⟨g, 0, none⟩) 1 1)
    (hown : w.ownsRow B 33 3 v n xs) (hg : Blk w g [.int .i64 p, .int .i64 q, .int .i64 r] 33) (hn : n ≤ 2000000) (hB : B ≤ w.heap.size)
    (hr : ∀ v' w', w'.ownsRow B 33 3 v' (n + 1) (xs ++ [.int .i64 p, .int .i64 q, .int .i64 r]) → w.grownBy w' v.ownBlock → K (a.put o.dst v') w') : o.wp Tryz.prog a w K Q := by
  obtain ⟨i0, hi0, hz0, hz1, hz2⟩ := vinfo3 (show (Tryz.prog.info? 33).map (fun i => (i.zero, i.size, i.bytes)) = some (some (.agg #[.int .i64 0, .int .i64 0, .int .i64 0]), 3, 24) by kernel_rfl)
  refine wp_append_own w s x 23 ho B 33 i0 _ 3 24 Tryz.underlying23 hi0 hz0 hz1 hz2 rfl (by decide) v n xs hs hown ⟨g, 0, none⟩ 1 1 [.int .i64 p, .int .i64 q, .int .i64 r] hx rfl ?_ (by intro u hu; simp at hu; rcases hu with rfl | rfl | rfl <;> rfl) ?_ ?_ hB ?_
  · intro j y hj
    have := hg.cell hj
    rw [show (⟨g, j, none⟩ : Addr) = (⟨g, 0, none⟩ : Addr).add j by cases j <;> simp [Addr.add]] at this
    exact this
  · unfold maxLen; omega
  · omega
  · intro v' w' k1 k2 _
    exact hr v' w' k1 k2
theorem vown_set {w : World} {base : Nat} {e : TypeId} {size : Nat} {v : Value} {n : Nat} {xs : List Value} (h : w.ownsRow base e size v n xs) {g : Nat} {cs : List Value} {t : TypeId} (hB : Blk w g cs t) (hne : e ≠ t) (i : Nat) (u : Value) : (w.setCell ⟨g, i, none⟩ u).ownsRow base e size v n xs := by
  obtain ⟨h1, h2⟩ := h
  refine ⟨h1, h2.imp id fun ⟨g', cap, cur, hv, hg, hh, r⟩ => ⟨g', cap, cur, hv, hg, ?_, r⟩⟩
  have : g' ≠ g := by
    rintro rfl
    unfold Blk at hB
    rw [hh] at hB
    simp only [Option.some.injEq, Obj.cells.injEq] at hB
    exact hne hB.2.1
  rw [Below.heap_setCell _ _ _ _ this]; exact hh
theorem own_form {w : World} {B n size : Nat} {e : TypeId} {v : Value} {xs : List Value} (h : w.ownsRow B e size v n xs) (hn : 0 < n) : ∃ g c, v = .slice (some ⟨g, 0, none⟩) n c := by
  rcases h.2 with ⟨_, h0⟩ | ⟨g, cap, cur, rfl, _⟩
  · omega
  · exact ⟨g, cap, rfl⟩
theorem RdT.lit_take {w : World} {g k : Nat} {t : TypeId} {xs : List I3} (h : Blk w g (cTs xs) t) (hk : k ≤ xs.length) : RdT w (.slice (some ⟨g, 0, none⟩) k xs.length) (xs.take k) := by
  have hl : (xs.take k).length = k := by rw [List.length_take]; omega
  rcases RdT.lit (xs := xs) h with ⟨rfl, _⟩ | ⟨g', o, c, e, hc, hh⟩
  · refine .inl ⟨by simp, some ⟨g, 0, none⟩, 0, ?_⟩
    rw [show k = 0 by simpa using hk]; rfl
  · injection e with e1 _ e3
    injection e1 with e1
    injection e1 with e1 e2
    subst e1 e2 e3
    refine .inr ⟨g, 0, _, by rw [hl], by rw [hl]; omega, fun i p hi => hh i p ?_⟩
    rw [List.getElem?_take] at hi
    split at hi
    · exact hi
    · cases hi
end Go.Proofs.YtoegjibeomhekaaGreat

/- Rows that one has made: which blocks they are not in, what leaves them as they were. -/
namespace Go.Proofs.YtoegjibeomhekaaGreat
set_option linter.unusedSimpArgs false
set_option linter.unusedVariables false
open Go.RowKit
set_option maxRecDepth 100000
theorem own_ne_ty {w : World} {B n size g c : Nat} {e : TypeId} {xs : List Value} (h : w.ownsRow B e size (.slice (some ⟨g, 0, none⟩) n c) n xs) {k : Nat} {cs : List Value} {t : TypeId} (hB : Blk w k cs t) (hne : e ≠ t) : g ≠ k := by
  rcases h.2 with ⟨h0, _⟩ | ⟨g', cap, cur, hv, _, hh, _⟩
  · cases h0
  · injection hv with hv
    injection hv with hv
    injection hv with hv
    subst hv
    rintro rfl
    unfold Blk at hB
    rw [hh] at hB
    simp only [Option.some.injEq, Obj.cells.injEq] at hB
    exact hne hB.2.1
theorem own_ne_sz {w : World} {B n size g c : Nat} {e : TypeId} {xs : List Value} (h : w.ownsRow B e size (.slice (some ⟨g, 0, none⟩) n c) n xs) {k : Nat} {cs : List Value} {t : TypeId} (hB : Blk w k cs t) (hl : cs.length < n * size) : g ≠ k := by
  rcases h.2 with ⟨h0, _⟩ | ⟨g', cap, cur, hv, _, hh, hcap, _, hs, _⟩
  · cases h0
  · injection hv with hv _ hc
    injection hv with hv
    injection hv with hv
    subst hv hc
    rintro rfl
    unfold Blk at hB
    rw [hh] at hB
    simp only [Option.some.injEq, Obj.cells.injEq] at hB
    rw [hB.1] at hs
    have := Nat.mul_le_mul_right size hcap
    simp at hs
    omega
theorem own_ne_own {w : World} {B n size size' m g c k c' : Nat} {e t : TypeId} {xs ys : List Value} (h : w.ownsRow B e size (.slice (some ⟨g, 0, none⟩) n c) n xs) (h' : w.ownsRow B t size' (.slice (some ⟨k, 0, none⟩) m c') m ys) (hne : e ≠ t) : g ≠ k := by
  rcases h'.2 with ⟨h0, _⟩ | ⟨g', cap, cur, hv, _, hh, _⟩
  · cases h0
  · injection hv with hv
    injection hv with hv
    injection hv with hv
    subst hv
    exact own_ne_ty (cs := cur.toList) h (by unfold Blk; rw [hh]) hne
theorem own_grown {w w' : World} {B n size g c : Nat} {e : TypeId} {xs : List Value} {row : Option Nat} (h : w.ownsRow B e size (.slice (some ⟨g, 0, none⟩) n c) n xs) (hg : w.grownBy w' row) (hr : row ≠ some g) : w'.ownsRow B e size (.slice (some ⟨g, 0, none⟩) n c) n xs := by
  refine ⟨h.1, ?_⟩
  rcases h.2 with ⟨h0, _⟩ | ⟨g', cap, cur, hv, hb, hh, r⟩
  · cases h0
  · injection hv with hv hv2 hv3
    injection hv with hv
    injection hv with hv
    subst hv
    have hlt : g < w.heap.size := (Array.getElem?_eq_some_iff.1 hh).1
    exact .inr ⟨g, cap, cur, by rw [hv3], hb, (hg.block g hlt (fun e => hr e.symm)).trans hh, r⟩
theorem own_ne_blk {w : World} {g k : Nat} {cs ds : List Value} {t u : TypeId} (h : Blk w g cs t) (h' : Blk w k ds u) (hl : cs ≠ ds) : k ≠ g := by
  rintro rfl
  unfold Blk at h h'
  rw [h] at h'
  simp only [Option.some.injEq, Obj.cells.injEq] at h'
  exact hl (by simpa using h'.1)
end Go.Proofs.YtoegjibeomhekaaGreat
