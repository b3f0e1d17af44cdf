/- strings.Clone, lex.words: the words of a line. -/
import Derived.Test.YthcgbchgfdkhiaaDoorXct
import Derived.Test.YthcgbchgfdkhiaaDoorXsh
import Derived.Deep.LoopGhost
namespace Go.Proofs.YthcgbchgfdkhiaaDoor
set_option linter.unusedSimpArgs false
set_option linter.unusedVariables false
open Go.RowKit
set_option maxRecDepth 100000
/-- A list parted at each of some bytes. -/
def splits (p : List UInt8) : List UInt8 → List (List UInt8)
  | [] => [[]]
  | c :: r => if c ∈ p then [] :: splits p r else match splits p r with
    | [] => [[c]]
    | h :: t => (c :: h) :: t
theorem splits_all (p : List UInt8) : ∀ l : List UInt8, (∀ c ∈ l, c ∉ p) → splits p l = [l]
  | [], _ => rfl
  | c :: r, h => by
    have h1 := h c (List.mem_cons_self ..)
    have h2 := splits_all p r fun x hx => h x (List.mem_cons_of_mem _ hx)
    simp [splits, h1, h2]
theorem splits_at (p : List UInt8) {c : UInt8} (r : List UInt8) (hc : c ∈ p) : ∀ a : List UInt8, (∀ x ∈ a, x ∉ p) → splits p (a ++ c :: r) = a :: splits p r
  | [], _ => by simp [splits, hc]
  | x :: a, h => by
    have h1 := h x (List.mem_cons_self ..)
    have h2 := splits_at p r hc a fun y hy => h y (List.mem_cons_of_mem _ hy)
    simp [splits, h1, h2]
theorem splits_len (p : List UInt8) : ∀ l : List UInt8, (splits p l).length ≤ l.length + 1
  | [] => Nat.le_refl _
  | c :: r => by
    have h := splits_len p r
    unfold splits
    split
    · simpa using h
    · split
      · simp
      · rename_i h2; rw [h2] at h; simp at h ⊢; omega
theorem splits_part (p : List UInt8) : ∀ (l r : List UInt8), r ∈ splits p l → r.length ≤ l.length
  | [], r, h => by simp [splits] at h; subst h; simp
  | c :: l, r, h => by
    unfold splits at h
    split at h
    · rcases List.mem_cons.1 h with rfl | h
      · simp
      · have := splits_part p l r h; simp; omega
    · split at h
      · simp only [List.mem_cons, List.not_mem_nil, or_false] at h
        subst h; simp
      · rename_i x y he
        rcases List.mem_cons.1 h with rfl | h
        · have := splits_part p l x (by rw [he]; exact List.mem_cons_self ..); simp; omega
        · have := splits_part p l r (by rw [he]; exact List.mem_cons_of_mem _ h); simp; omega
/-- The blanks between words; the words of a line. -/
def bl : List UInt8 := [32, 9, 13]
def wrds (l : List UInt8) : List (List UInt8) := (splits bl l).filter fun w => !w.isEmpty
theorem wrds_nil : wrds [] = [] := rfl
theorem wrds_len (l : List UInt8) : (wrds l).length ≤ l.length + 1 := Nat.le_trans (List.length_filter_le _ _) (splits_len bl l)
theorem wrds_step (l : List UInt8) : wrds l = (if ahead bl l = [] then [] else [ahead bl l]) ++ wrds (behind bl l) := by
  rcases parted bl l with h | ⟨a, c, r, rfl, h, hc⟩
  · rw [(ahead_all bl l h).1, (ahead_all bl l h).2]
    unfold wrds
    rw [splits_all bl l h]
    cases l <;> simp [splits]
  · rw [(ahead_at bl r hc a h).1, (ahead_at bl r hc a h).2]
    unfold wrds
    rw [splits_at bl r hc a h]
    cases a <;> simp
/-- The cells of some texts. -/
def strs (l : List (List UInt8)) : List Value := l.map fun x => .string (tx x)
theorem owns_below {w w' : World} {base : Nat} {e : TypeId} {size : Nat} {v : Value} {n : Nat} {xs : List Value} (h : w.ownsRow base e size v n xs) (hb : Below w.heap.size w w') : w'.ownsRow base e size v n xs :=
  ⟨h.1, h.2.imp id fun ⟨g, cap, cur, hv, hg, hc, rest⟩ => ⟨g, cap, cur, hv, hg, (hb.block g (Array.getElem?_eq_some_iff.1 hc).1).trans hc, rest⟩⟩
theorem info_str : (Tryd.prog.info? 9).map (fun i => (i.zero, i.size, i.bytes)) = some (some (.string ⟨#[]⟩), 1, 16) := by kernel_rfl
/-- append of one text. -/
theorem app_str {ops : Array Oper} {rest : List Oper} {o : Oper} {a : Act} {w : World} {Q : Exit → Act → World → Prop} {s x : Operand} {B n g : Nat} {v : Value} {xs : List Value} {u : ByteArray}
    (hgd : o.guard = none) (ho : o.op = .call { callee := .builtin .append, args := #[s, x], argTypes := #[22, 22] }) (hs : a.eval s = v) (hx : a.eval x = .slice (some ⟨g, 0, none⟩) 1 1)
    (hown : w.ownsRow B 9 1 v n xs) (hg : Blk w g [.string u] 9) (hn : n ≤ 2000000) (hB : B ≤ w.heap.size)
    (hr : ∀ v' w', w'.ownsRow B 9 1 v' (n + 1) (xs ++ [.string u]) → Below B w w' → wpList Tryd.prog ops Q rest (a.put o.dst v') w') : wpList Tryd.prog ops Q (o :: rest) a w := by
  obtain ⟨i0, hi, hz0, hz1, hz2⟩ := info_parts info_str
  refine wpList_append_own w hgd s x 22 ho B 9 i0 (.string ⟨#[]⟩) 1 16 Tryd.underlying22 hi hz0 hz1 hz2 rfl (by decide) v n xs hs hown ⟨g, 0, none⟩ 1 1 [.string u] hx rfl ?_ ?_ ?_ ?_ hB ?_
  · intro j y hj
    match j, hj with
    | 0, hj => simp at hj; subst hj; exact hg.cell rfl
  · intro y hy; simp at hy; subst hy; rfl
  · unfold maxLen; omega
  · omega
  · intro v' w' h1 h2 _
    exact hr v' w' h1 (Below.grown (Below.refl _ _) h2 hB fun k hk => (hown.lt k hk).1)
end Go.Proofs.YthcgbchgfdkhiaaDoor
