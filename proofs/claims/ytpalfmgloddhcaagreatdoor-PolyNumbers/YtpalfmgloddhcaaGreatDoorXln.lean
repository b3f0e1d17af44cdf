/- lex.Lines: the lines of a text, in words. -/
import Derived.Test.YtpalfmgloddhcaaGreatDoorXwd
namespace Go.Proofs.YtpalfmgloddhcaaGreatDoor
set_option linter.unusedSimpArgs false
set_option linter.unusedVariables false
open Go.RowKit
set_option maxRecDepth 100000
/-- The lines that have a word, each with its number. -/
def lnsOf : Nat → List (List UInt8) → List (Nat × List (List UInt8))
  | _, [] => []
  | n, row :: t => (if wrds (ahead [35] row) = [] then [] else [(n, wrds (ahead [35] row))]) ++ lnsOf (n + 1) t
def lns (n : Nat) (s : List UInt8) : List (Nat × List (List UInt8)) := lnsOf n (splits [10] s)
theorem lns_nil (n : Nat) : lns n [] = [] := rfl
theorem lns_step (n : Nat) (l : List UInt8) : lns n l = (if wrds (ahead [35] (ahead [10] l)) = [] then [] else [(n, wrds (ahead [35] (ahead [10] l)))]) ++ lns (n + 1) (behind [10] l) := by
  rcases parted [10] l with h | ⟨a, c, r, rfl, h, hc⟩
  · rw [(ahead_all [10] l h).1, (ahead_all [10] l h).2, lns_nil]
    unfold lns
    rw [splits_all [10] l h]
    rfl
  · rw [(ahead_at [10] r hc a h).1, (ahead_at [10] r hc a h).2]
    unfold lns
    rw [splits_at [10] r hc a h]
    rfl
theorem lnsOf_len : ∀ (l : List (List UInt8)) (n : Nat), (lnsOf n l).length ≤ l.length
  | [], _ => Nat.le_refl _
  | row :: t, n => by
    have := lnsOf_len t (n + 1)
    unfold lnsOf
    split <;> simp <;> omega
theorem lns_len (n : Nat) (l : List UInt8) : (lns n l).length ≤ l.length + 1 := Nat.le_trans (lnsOf_len _ _) (splits_len _ _)
/-- The cells of some lines, whose rows of words lie in memory. -/
def Lws (w : World) (base : Nat) : List (Nat × List (List UInt8)) → List Value → Prop
  | [], cs => cs = []
  | (n, ws) :: t, cs => ∃ x r, cs = .int .i64 (n : Int) :: x :: r ∧ w.ownsRow base 9 1 x ws.length (strs ws) ∧ Lws w base t r
theorem Lws.mono {w w' : World} {base base' : Nat} (h : ∀ x n xs, w.ownsRow base 9 1 x n xs → w'.ownsRow base' 9 1 x n xs) : ∀ {L : List (Nat × List (List UInt8))} {cs : List Value}, Lws w base L cs → Lws w' base' L cs
  | [], _, hl => hl
  | (n, ws) :: t, _, ⟨x, r, e, ho, ht⟩ => ⟨x, r, e, h _ _ _ ho, Lws.mono h ht⟩
theorem Lws.snoc {w : World} {base n : Nat} {ws : List (List UInt8)} {x : Value} (hx : w.ownsRow base 9 1 x ws.length (strs ws)) : ∀ {L : List (Nat × List (List UInt8))} {cs : List Value}, Lws w base L cs → Lws w base (L ++ [(n, ws)]) (cs ++ [.int .i64 (n : Int), x])
  | [], _, hl => by
    have : _ = [] := hl
    subst this
    exact ⟨x, [], rfl, hx, rfl⟩
  | (m, us) :: t, _, ⟨y, r, e, ho, ht⟩ => by
    subst e
    exact ⟨y, r ++ [.int .i64 (n : Int), x], rfl, ho, Lws.snoc hx ht⟩
/-- The slice v holds these lines, all in memory from base on. -/
def Lnv (w : World) (base : Nat) (v : Value) (L : List (Nat × List (List UInt8))) : Prop := ∃ cs, w.ownsRow base 67 2 v L.length cs ∧ Lws w base L cs
theorem Lnv.below {w w' : World} {base : Nat} {v : Value} {L : List (Nat × List (List UInt8))} (h : Lnv w base v L) (hb : Below w.heap.size w w') : Lnv w' base v L :=
  let ⟨cs, h1, h2⟩ := h; ⟨cs, owns_below h1 hb, Lws.mono (fun _ _ _ h => owns_below h hb) h2⟩
theorem owns_mono {w : World} {base base' : Nat} {e : TypeId} {size : Nat} {v : Value} {n : Nat} {xs : List Value} (h : w.ownsRow base e size v n xs) (hb : base' ≤ base) : w.ownsRow base' e size v n xs :=
  ⟨h.1, h.2.imp id fun ⟨g, cap, cur, hv, hg, rest⟩ => ⟨g, cap, cur, hv, Nat.le_trans hb hg, rest⟩⟩
theorem owns_shape {w : World} {base : Nat} {e : TypeId} {size : Nat} {v : Value} {n : Nat} {xs : List Value} (h : w.ownsRow base e size v n xs) : ∃ a c, v = .slice a n c := by
  rcases h.2 with ⟨rfl, rfl⟩ | ⟨g, cap, cur, rfl, _⟩
  · exact ⟨none, 0, rfl⟩
  · exact ⟨_, cap, rfl⟩
/-- Rows of texts aren't rows of lines. -/
theorem owns_apart {w w' : World} {B n m : Nat} {v x : Value} {xs ys : List Value} (hv : w.ownsRow B 67 2 v n xs) (hx : w.ownsRow B 9 1 x m ys) (hg : w.grownBy w' v.ownBlock) : w'.ownsRow B 9 1 x m ys := by
  refine hx.kept hg ?_
  rcases hx.2 with ⟨rfl, _⟩ | ⟨g, cap, cur, rfl, _, hc, _⟩
  · exact .inl rfl
  · right
    rcases hv.2 with ⟨rfl, _⟩ | ⟨g', cap', cur', rfl, _, hc', _⟩
    · simp [Value.ownBlock]
    · simp only [Value.ownBlock, ne_eq, Option.some.injEq]
      intro e
      subst e
      rw [hc] at hc'
      simp at hc'
theorem info_line : (Tryz.prog.info? 67).map (fun i => (i.zero, i.size, i.bytes)) = some (some (.agg #[.int .i64 0, .slice none 0 0]), 2, 32) := by kernel_rfl
/-- append of one line. -/
theorem app_line {ops : Array Oper} {rest : List Oper} {o : Oper} {a : Act} {w : World} {Q : Exit → Act → World → Prop} {s x : Operand} {B n g : Nat} {v c1 c2 : Value} {xs : List Value}
    (hgd : o.guard = none) (ho : o.op = .call { callee := .builtin .append, args := #[s, x], argTypes := #[70, 70] }) (hs : a.eval s = v) (hx : a.eval x = .slice (some ⟨g, 0, none⟩) 1 1)
    (hown : w.ownsRow B 67 2 v n xs) (hg : Blk w g [c1, c2] 67) (h1 : c1.oneCell' = true) (h2 : c2.oneCell' = true) (hn : n ≤ 2000000) (hB : B ≤ w.heap.size)
    (hr : ∀ v' w', w'.ownsRow B 67 2 v' (n + 1) (xs ++ [c1, c2]) → Below B w w' → (∀ x m ys, w.ownsRow B 9 1 x m ys → w'.ownsRow B 9 1 x m ys) → wpList Tryz.prog ops Q rest (a.put o.dst v') w') : wpList Tryz.prog ops Q (o :: rest) a w := by
  obtain ⟨i0, hi, hz0, hz1, hz2⟩ := info_parts info_line
  refine wpList_append_own w hgd s x 70 ho B 67 i0 (.agg #[.int .i64 0, .slice none 0 0]) 2 32 Tryz.underlying70 hi hz0 hz1 hz2 rfl (by decide) v n xs hs hown ⟨g, 0, none⟩ 1 1 [c1, c2] hx rfl ?_ ?_ ?_ ?_ hB ?_
  · intro j y hj
    match j, hj with
    | 0, hj => simp at hj; subst hj; exact hg.cell rfl
    | 1, hj => simp at hj; subst hj; exact hg.cell rfl
  · intro y hy
    simp only [List.mem_cons, List.not_mem_nil, or_false] at hy
    rcases hy with rfl | rfl <;> assumption
  · unfold maxLen; omega
  · omega
  · intro v' w' k1 k2 _
    exact hr v' w' k1 (Below.grown (Below.refl _ _) k2 hB fun k hk => (hown.lt k hk).1) fun x m ys hx => owns_apart hown hx k2
set_option maxHeartbeats 4000000 in
theorem Lines_any (l : List UInt8) (w : World) (hl : l.length ≤ 1000000) :
    Calls Tryz.prog 37 #[.string (tx l)] w fun e w' => ∃ v, e = .returned v ∧ Lnv w' w.heap.size v (lns 1 l) ∧ Below w.heap.size w w' := by
  go_enter Tryz.func37, Tryz.ntmps37
  go_wp2_with fail
  go_loopg [0, 3, 4] (l.length) (fun g a0 a3 a4 wr => ∃ (r : List UInt8) (n : Nat) (L : List (Nat × List (List UInt8))), r.length = g ∧ 1 ≤ n ∧ n + r.length ≤ l.length + 1 ∧ a0 = .string (tx r) ∧ a4 = .int .i64 (n : Int) ∧ L ++ lns n r = lns 1 l ∧ Lnv wr w.heap.size a3 L ∧ Below w.heap.size w wr)
  case atStart => exact ⟨l, 1, [], rfl, by omega, by omega, rfl, rfl, rfl, ⟨[], World.ownsRow_nil _ _ _ _, rfl⟩, Below.refl _ _⟩
  case round =>
    obtain ⟨r, n, L, hg, hn1, hr, rfl, rfl, hw, hown, hb⟩ := hrel
    have HW := Lib.hid hw
    have HO := Lib.hid hown
    clear hw hown
    by_cases h0 : r = []
    · have g0 : (tx r).toList.isEmpty = true := by rw [tx_empty, h0]; rfl
      have H0 := Lib.hid h0
      clear h0
      go_wp2_with fail
      go_ret
      have hw := HW.out
      rw [H0.out, lns_nil, List.append_nil] at hw
      refine ⟨_, rfl, ?_, hb⟩
      rw [← hw]
      exact HO.out
    · have g0 : (tx r).toList.isEmpty = false := by rw [tx_empty]; simpa using h0
      have hlt := behind_lt [10] r h0
      have hle := ahead_le [10] r
      have hll : L.length ≤ l.length + 1 := by
        have := congrArg List.length HW.out
        rw [List.length_append] at this
        have := lns_len 1 l
        omega
      have HS := Lib.hid (lns_step n r)
      have b1 : Blk (wr.alloc (.cells #[.int .u8 10] 5)) wr.heap.size (bys [10]) 5 := Blk.new wr _ _ rfl
      have h10 : Below wr.heap.size wr (wr.alloc (.cells #[.int .u8 10] 5)) := (Below.refl _ _).alloc (Nat.le_refl _) _
      clear h0
      go_wp2_with fail
      refine (cut_any r [10] _ _ (by omega) (by decide) b1).mono ?_
      rintro e w1 ⟨rfl, h1⟩
      have h11 := bthen h10 h1
      have HO2 := Lib.hid (HO.out.below h11)
      have hb2 := bthen hb h11
      clear b1 h1 HO h10 h11 hb g0
      obtain ⟨A, hA⟩ : ∃ A, ahead [10] r = A := ⟨_, rfl⟩
      rw [hA] at HS hle ⊢
      clear hA
      obtain ⟨T, hT⟩ : ∃ T, behind [10] r = T := ⟨_, rfl⟩
      rw [hT] at HS hlt ⊢
      clear hT
      go_wp2_with fail
      refine (words_any A _ (by omega)).mono ?_
      rintro e w2 ⟨x, rfl, hx, h2⟩
      have HO3 := Lib.hid (HO2.out.below h2)
      have hb3 := bthen hb2 h2
      obtain ⟨ws, hws⟩ : ∃ ws, wrds (ahead [35] A) = ws := ⟨_, rfl⟩
      rw [hws] at HS hx
      clear hws HO2 h2
      obtain ⟨xa, xc, rfl⟩ := owns_shape hx
      have HX := Lib.hid (owns_mono hx hb2.size)
      clear hx hb2
      have k1 : IntKind.i64.wrap ((n : Int) + 1) = (n : Int) + 1 := by rw [IntKind.wrap_i64]; omega
      by_cases ha : ws = []
      · have g1 : ¬ (0 : Int) < (ws.length : Int) := by rw [ha]; decide
        have H0 := Lib.hid ha
        clear ha
        go_wp2_with fail
        go_roundg (T.length)
        case rel =>
          refine ⟨T, n + 1, L, rfl, by omega, by omega, rfl, by go_num, ?_, HO3.out, hb3⟩
          rw [← HW.out, HS.out, if_pos H0.out, List.nil_append]
        case measure => omega
      · have g1 : (0 : Int) < (ws.length : Int) := by have := List.length_pos_iff.2 ha; omega
        have HA := Lib.hid ha
        clear ha
        have hB := hb3.size
        obtain ⟨cs, hcs, hlw⟩ := HO3.out
        have HC := Lib.hid hcs
        have HL := Lib.hid hlw
        clear hcs hlw HO3
        go_wp2_with (first | (at_builtin; refine app_line rfl rfl rfl rfl (HC.out.alloc _) (Blk.new _ _ _ rfl) rfl rfl (by omega) (by simp; omega) ?_; intro v' w3 hown3 h3 hin; have HO4 := Lib.hid hown3; have HIN := Lib.hid hin; clear hown3 hin))
        go_roundg (T.length)
        case rel =>
          refine ⟨T, n + 1, L ++ [(n, ws)], rfl, by omega, by omega, rfl, by go_num, ?_, ⟨cs ++ [.int .i64 (n : Int), .slice xa ws.length xc], ?_, ?_⟩, (hb3.alloc hB _).trans h3⟩
          · rw [← HW.out, HS.out, if_neg HA.out, List.append_assoc]
          · have := HO4.out
            simpa using this
          · exact Lws.snoc (HIN.out _ _ _ (HX.out.alloc _)) (Lws.mono (fun x m xs h => HIN.out _ _ _ (h.alloc _)) HL.out)
        case measure => omega
end Go.Proofs.YtpalfmgloddhcaaGreatDoor
