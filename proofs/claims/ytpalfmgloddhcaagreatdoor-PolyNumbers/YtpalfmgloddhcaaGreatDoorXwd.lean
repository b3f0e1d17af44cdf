/- strings.Clone, lex.words: the words of a line. -/
import Derived.Test.YtpalfmgloddhcaaGreatDoorXct
import Derived.Test.YtpalfmgloddhcaaGreatDoorXsh
import Derived.Deep.LoopGhost
namespace Go.Proofs.YtpalfmgloddhcaaGreatDoor
set_option linter.unusedSimpArgs false
set_option linter.unusedVariables false
open Go.RowKit
set_option maxRecDepth 100000
/-- A list parted at each of some bytes. -/
def splits (p : List UInt8) : List UInt8 → List (List UInt8)
  | [] => [[]]
  | c :: r => if c ∈ p then [] :: splits p r else match splits p r with
    | [] => [[c]]
    | h :: t => (c :: h) :: t
theorem splits_all (p : List UInt8) : ∀ l : List UInt8, (∀ c ∈ l, c ∉ p) → splits p l = [l]
  | [], _ => rfl
  | c :: r, h => by
    have h1 := h c (List.mem_cons_self ..)
    have h2 := splits_all p r fun x hx => h x (List.mem_cons_of_mem _ hx)
    simp [splits, h1, h2]
theorem splits_at (p : List UInt8) {c : UInt8} (r : List UInt8) (hc : c ∈ p) : ∀ a : List UInt8, (∀ x ∈ a, x ∉ p) → splits p (a ++ c :: r) = a :: splits p r
  | [], _ => by simp [splits, hc]
  | x :: a, h => by
    have h1 := h x (List.mem_cons_self ..)
    have h2 := splits_at p r hc a fun y hy => h y (List.mem_cons_of_mem _ hy)
    simp [splits, h1, h2]
theorem splits_len (p : List UInt8) : ∀ l : List UInt8, (splits p l).length ≤ l.length + 1
  | [] => Nat.le_refl _
  | c :: r => by
    have h := splits_len p r
    unfold splits
    split
    · simpa using h
    · split
      · simp
      · rename_i h2; rw [h2] at h; simp at h ⊢; omega
/-- The blanks between words; the words of a line. -/
def bl : List UInt8 := [32, 9, 13]
def wrds (l : List UInt8) : List (List UInt8) := (splits bl l).filter fun w => !w.isEmpty
theorem wrds_nil : wrds [] = [] := rfl
theorem wrds_len (l : List UInt8) : (wrds l).length ≤ l.length + 1 := Nat.le_trans (List.length_filter_le _ _) (splits_len bl l)
theorem wrds_step (l : List UInt8) : wrds l = (if ahead bl l = [] then [] else [ahead bl l]) ++ wrds (behind bl l) := by
  rcases parted bl l with h | ⟨a, c, r, rfl, h, hc⟩
  · rw [(ahead_all bl l h).1, (ahead_all bl l h).2]
    unfold wrds
    rw [splits_all bl l h]
    cases l <;> simp [splits]
  · rw [(ahead_at bl r hc a h).1, (ahead_at bl r hc a h).2]
    unfold wrds
    rw [splits_at bl r hc a h]
    cases a <;> simp
/-- The cells of some texts. -/
def strs (l : List (List UInt8)) : List Value := l.map fun x => .string (tx x)
theorem owns_below {w w' : World} {base : Nat} {e : TypeId} {size : Nat} {v : Value} {n : Nat} {xs : List Value} (h : w.ownsRow base e size v n xs) (hb : Below w.heap.size w w') : w'.ownsRow base e size v n xs :=
  ⟨h.1, h.2.imp id fun ⟨g, cap, cur, hv, hg, hc, rest⟩ => ⟨g, cap, cur, hv, hg, (hb.block g (Array.getElem?_eq_some_iff.1 hc).1).trans hc, rest⟩⟩
theorem info_str : (Tryz.prog.info? 9).map (fun i => (i.zero, i.size, i.bytes)) = some (some (.string ⟨#[]⟩), 1, 16) := by kernel_rfl
/-- append of one text. -/
theorem app_str {ops : Array Oper} {rest : List Oper} {o : Oper} {a : Act} {w : World} {Q : Exit → Act → World → Prop} {s x : Operand} {B n g : Nat} {v : Value} {xs : List Value} {u : ByteArray}
    (hgd : o.guard = none) (ho : o.op = .call { callee := .builtin .append, args := #[s, x], argTypes := #[65, 65] }) (hs : a.eval s = v) (hx : a.eval x = .slice (some ⟨g, 0, none⟩) 1 1)
    (hown : w.ownsRow B 9 1 v n xs) (hg : Blk w g [.string u] 9) (hn : n ≤ 2000000) (hB : B ≤ w.heap.size)
    (hr : ∀ v' w', w'.ownsRow B 9 1 v' (n + 1) (xs ++ [.string u]) → Below B w w' → wpList Tryz.prog ops Q rest (a.put o.dst v') w') : wpList Tryz.prog ops Q (o :: rest) a w := by
  obtain ⟨i0, hi, hz0, hz1, hz2⟩ := info_parts info_str
  refine wpList_append_own w hgd s x 65 ho B 9 i0 (.string ⟨#[]⟩) 1 16 Tryz.underlying65 hi hz0 hz1 hz2 rfl (by decide) v n xs hs hown ⟨g, 0, none⟩ 1 1 [.string u] hx rfl ?_ ?_ ?_ ?_ hB ?_
  · intro j y hj
    match j, hj with
    | 0, hj => simp at hj; subst hj; exact hg.cell rfl
  · intro y hy; simp at hy; subst hy; rfl
  · unfold maxLen; omega
  · omega
  · intro v' w' h1 h2 _
    exact hr v' w' h1 (Below.grown (Below.refl _ _) h2 hB fun k hk => (hown.lt k hk).1)
set_option maxHeartbeats 1000000 in
theorem clone_any (s : ByteArray) (w : World) (hs : s.size ≤ 1000000) : Calls Tryz.prog 105 #[.string s] w fun e w' => e = .returned (.string s) ∧ Below w.heap.size w w' := by
  have H := Lib.hid (Tryz.stringslite_Clone s w (by omega))
  go_enter Tryz.func105, Tryz.ntmps105
  go_wp2_with fail
  refine (H.out).mono ?_
  rintro e w1 ⟨rfl, h1⟩
  go_wp2
  go_ret
  exact ⟨rfl, h1⟩
set_option maxHeartbeats 4000000 in
theorem words_any (l : List UInt8) (w : World) (hl : l.length ≤ 1000000) :
    Calls Tryz.prog 62 #[.string (tx l)] w fun e w' => ∃ v, e = .returned v ∧ w'.ownsRow w.heap.size 9 1 v (wrds (ahead [35] l)).length (strs (wrds (ahead [35] l))) ∧ Below w.heap.size w w' := by
  have b1 : Blk (w.alloc (.cells #[.int .u8 35] 5)) w.heap.size (bys [35]) 5 := Blk.new w _ _ rfl
  have hb0 : Below w.heap.size w (w.alloc (.cells #[.int .u8 35] 5)) := (Below.refl _ _).alloc (Nat.le_refl _) _
  have hal := ahead_le [35] l
  go_enter Tryz.func62, Tryz.ntmps62
  go_wp2_with fail
  refine (cut_any l [35] _ _ hl (by decide) b1).mono ?_
  rintro e w1 ⟨rfl, h1⟩
  replace hb0 := bthen hb0 h1
  clear h1 b1
  obtain ⟨R, hR⟩ : ∃ R, ahead [35] l = R := ⟨_, rfl⟩
  have HR := Lib.hid hR
  rw [hR] at hal ⊢
  clear hR
  go_wp2_with fail
  go_loopg [0, 3] (R.length) (fun g a0 a3 wr => ∃ (r : List UInt8) (ws : List (List UInt8)), r.length = g ∧ r.length ≤ R.length ∧ a0 = .string (tx r) ∧ ws ++ wrds r = wrds R ∧ wr.ownsRow w.heap.size 9 1 a3 ws.length (strs ws) ∧ Below w.heap.size w wr)
  case atStart => exact ⟨R, [], rfl, Nat.le_refl _, rfl, rfl, World.ownsRow_nil _ _ _ _, hb0⟩
  case round =>
    clear hb0
    obtain ⟨r, ws, hg, hr, rfl, hw, hown, hb⟩ := hrel
    have HW := Lib.hid hw
    have HO := Lib.hid hown
    clear hw hown
    by_cases h0 : r = []
    · have g0 : (tx r).toList.isEmpty = true := by rw [tx_empty, h0]; rfl
      have H0 := Lib.hid h0
      clear h0
      go_wp2_with fail
      go_ret
      have hw := HW.out
      rw [H0.out, wrds_nil, List.append_nil] at hw
      refine ⟨_, rfl, ?_, hb⟩
      rw [HR.out, ← hw]
      exact HO.out
    · have g0 : (tx r).toList.isEmpty = false := by rw [tx_empty]; simpa using h0
      have hlt := behind_lt bl r h0
      have hle := ahead_le bl r
      have hwl : ws.length ≤ R.length + 1 := by
        have := congrArg List.length HW.out
        rw [List.length_append] at this
        have := wrds_len R
        omega
      have HS := Lib.hid (wrds_step r)
      have b1 : Blk (wr.alloc (.cells #[.int .u8 32, .int .u8 9, .int .u8 13] 5)) wr.heap.size (bys bl) 5 := Blk.new wr _ _ rfl
      have hb1 : Below w.heap.size w (wr.alloc (.cells #[.int .u8 32, .int .u8 9, .int .u8 13] 5)) := hb.alloc hb.size _
      have HO1 := Lib.hid (HO.out.alloc (.cells #[.int .u8 32, .int .u8 9, .int .u8 13] 5))
      clear HO h0
      go_wp2_with fail
      refine (cut_any r bl _ _ (by omega) (by decide) b1).mono ?_
      rintro e w1 ⟨rfl, h1⟩
      have HO2 := Lib.hid (owns_below HO1.out h1)
      have hb2 := bthen hb1 h1
      clear b1 h1 HO1 hb1 hb g0
      obtain ⟨A, hA⟩ : ∃ A, ahead bl r = A := ⟨_, rfl⟩
      rw [hA] at HS hle ⊢
      clear hA
      obtain ⟨T, hT⟩ : ∃ T, behind bl r = T := ⟨_, rfl⟩
      rw [hT] at HS hlt ⊢
      clear hT
      by_cases ha : A = []
      · have g1 : (tx A).toList.isEmpty = true := by rw [tx_empty, ha]; rfl
        have H0 := Lib.hid ha
        clear ha
        go_wp2_with fail
        go_roundg (T.length)
        case rel =>
          refine ⟨T, ws, rfl, by omega, rfl, ?_, HO2.out, hb2⟩
          rw [← HW.out, HS.out, if_pos H0.out, List.nil_append]
        case measure => omega
      · have g1 : (tx A).toList.isEmpty = false := by rw [tx_empty]; simpa using ha
        go_wp2_with fail
        refine (clone_any (tx A) _ (by rw [tx_size]; omega)).mono ?_
        rintro e w2 ⟨rfl, h2⟩
        have HO3 := Lib.hid (owns_below HO2.out h2)
        have hb3 := bthen hb2 h2
        have hB := hb3.size
        have HA := Lib.hid ha
        clear HO2 h2 hb2 ha
        go_wp2_with (first | (at_builtin; refine app_str rfl rfl rfl rfl (HO3.out.alloc _) (Blk.new _ _ _ rfl) (by omega) (by simp; omega) ?_; intro v' w3 hown3 h3; have HO4 := Lib.hid hown3; clear hown3))
        go_roundg (T.length)
        case rel =>
          refine ⟨T, ws ++ [A], rfl, by omega, rfl, ?_, ?_, (hb3.alloc hB _).trans h3⟩
          · rw [← HW.out, HS.out, if_neg HA.out, List.append_assoc]
          · have := HO4.out
            simpa [strs] using this
        case measure => omega
end Go.Proofs.YtpalfmgloddhcaaGreatDoor
