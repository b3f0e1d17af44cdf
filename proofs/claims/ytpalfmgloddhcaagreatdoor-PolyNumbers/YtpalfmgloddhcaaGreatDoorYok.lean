/- What a reader keeps: its words are such ones; it never goes beyond its last line. -/
import Derived.Test.YtpalfmgloddhcaaGreatDoorYnx
import Derived.Test.YtpalfmgloddhcaaGreatDoorMem
import Derived.Deep.DeepCutAuto
namespace Go.Proofs.YtpalfmgloddhcaaGreatDoor
set_option linter.unusedSimpArgs false
set_option linter.unusedVariables false
open Go.RowKit
set_option maxRecDepth 100000
theorem Keep.oth {G : List Nat} {w0 w w' : World} {b : Nat} (h : Keep G w0 w) (ho : Oth b w w') (hb : b ∈ G) : Keep G w0 w' :=
  ⟨Nat.le_trans h.1 ho.size, fun k hk hg => (ho.2.2.2.2 k (Nat.lt_of_lt_of_le hk h.1) (fun e => hg (e ▸ hb))).trans (h.2 k hk hg)⟩
theorem Rdr.ne {w0 : World} {b : Nat} {r : Rd} {w : World} (h : Rdr w0 b r w) {g : Nat} {cs : List Value} {t : TypeId} (hB : Blk w g cs t) (hl : cs.length ≠ 4) : g ≠ b := by
  rintro rfl
  obtain ⟨_, _, wv, rv, h3, _⟩ := h
  unfold Blk at hB h3
  rw [hB] at h3
  simp only [Option.some.injEq, Obj.cells.injEq] at h3
  have := congrArg Array.toList h3.1
  simp at this
  subst this
  exact hl rfl
theorem Rdr.setRow {w0 : World} {b : Nat} {r : Rd} {w : World} (h : Rdr w0 b r w) {g : Nat} (hne : b ≠ g) (hg : w0.heap.size ≤ g) (vs : Array Value) : Rdr w0 b r (w.setRow g vs) :=
  let ⟨h1, h2, wv, rv, h3, h4, h5⟩ := h; ⟨below_row h1 hg vs, h2, wv, rv, h3.rowOther vs hne, h4, h5⟩
theorem Oth.setRow {b : Nat} {x y : World} (h : Oth b x y) {g : Nat} (hg : x.heap.size ≤ g) (vs : Array Value) : Oth b x (y.setRow g vs) :=
  ⟨h.1, h.2.1, h.2.2.1, by simpa using h.2.2.2.1, fun k hk hb => by
    have := h.2.2.2.2 k hk hb
    unfold World.setRow
    rw [Array.getElem?_modify, if_neg (by omega)]
    exact this⟩
theorem Blk.apart {w : World} {g g' : Nat} {cs cs' : List Value} {t t' : TypeId} (h : Blk w g cs t) (h' : Blk w g' cs' t') (hl : cs.length ≠ cs'.length) : g ≠ g' := by
  rintro rfl
  unfold Blk at h h'
  rw [h] at h'
  simp only [Option.some.injEq, Obj.cells.injEq] at h'
  have := congrArg Array.toList h'.1
  simp at this
  subst this
  exact hl rfl
theorem Rdr.cellOther {w0 : World} {b : Nat} {r : Rd} {w : World} (h : Rdr w0 b r w) {g : Nat} (hne : b ≠ g) (hg : w0.heap.size ≤ g) (i : Nat) (v : Value) : Rdr w0 b r (w.setCell ⟨g, i, none⟩ v) :=
  let ⟨h1, h2, wv, rv, h3, h4, h5⟩ := h; ⟨h1.setCell hg v, h2, wv, rv, h3.setOther i v hne, h4, h5⟩
theorem Oth.cellNew {b : Nat} {x y : World} (h : Oth b x y) {g : Nat} (hg : x.heap.size ≤ g) (i : Nat) (v : Value) : Oth b x (y.setCell ⟨g, i, none⟩ v) :=
  ⟨h.1, h.2.1, h.2.2.1, by simpa [World.setCell] using h.2.2.2.1, fun k hk hb => (Below.heap_setCell _ _ _ _ (by show k ≠ g; omega)).trans (h.2.2.2.2 k hk hb)⟩
/-- All words are such ones, and there aren't too many. -/
structure Okr (P : List UInt8 → Prop) (r : Rd) : Prop where
  nil : P []
  wl : r.ws.length ≤ 1000000
  ws : ∀ u ∈ r.ws, u.length ≤ 1000000 ∧ P u
  rl : r.rest.length ≤ 1000000
  rest : ∀ l ∈ r.rest, l.2.length ≤ 1000000 ∧ ∀ u ∈ l.2, u.length ≤ 1000000 ∧ P u
section
variable {P : List UInt8 → Prop} {r : Rd}
theorem Okr.hd (h : Okr P r) : r.hd.length ≤ 1000000 ∧ P r.hd := by
  unfold Rd.hd
  rcases e : r.ws with _ | ⟨u, t⟩
  · exact ⟨by decide, h.nil⟩
  · exact h.ws u (by rw [e]; exact List.mem_cons_self ..)
theorem Okr.must (h : Okr P r) (x : Bool) : Okr P (r.must x) := ⟨h.nil, h.wl, h.ws, h.rl, h.rest⟩
theorem Okr.fin (h : Okr P r) : Okr P r.fin := h.must _
theorem Okr.word (h : Okr P r) : Okr P r.word :=
  ⟨h.nil, Nat.le_trans (word_len r) h.wl, fun u hu => h.ws u (List.mem_of_mem_tail hu), h.rl, h.rest⟩
theorem Okr.number (h : Okr P r) : Okr P r.number := h.word.must _
theorem Okr.among (h : Okr P r) (lo hi : Int) : Okr P (r.among lo hi) := h.number.must _
theorem Okr.frac (h : Okr P r) (ok : List UInt8 → Bool) : Okr P (r.frac ok) := h.word.must _
theorem Okr.mark (h : Okr P r) (m : Int) : Okr P (r.mark m) := by
  unfold Rd.mark; split
  · exact h
  · exact h.number
theorem Okr.skip : ∀ (k : Nat) {r : Rd}, Okr P r → Okr P (Rd.skip k r)
  | 0, _, h => h
  | k + 1, _, h => Okr.skip k h.word
theorem Okr.next (h : Okr P r) : Okr P r.next := by
  unfold Rd.next
  split
  · exact h.fin
  · rcases e : r.rest with _ | ⟨l, t⟩
    · exact h.fin
    · have h1 := h.rl
      have h2 := h.rest
      rw [e] at h1 h2
      simp only [List.length_cons] at h1
      exact ⟨h.nil, (h2 l (List.mem_cons_self ..)).1, (h2 l (List.mem_cons_self ..)).2, by show t.length ≤ _; omega, fun l' hl' => h2 l' (List.mem_cons_of_mem _ hl')⟩
end
/-- The last line behind is one without words. -/
def Lst (l : List (Nat × List (List UInt8))) : Prop := ∃ a n, l = a ++ [(n, [])]
/-- It may go on. -/
def Ef (r : Rd) : Prop := r.bad = true ∨ Lst r.rest
/-- It may be asked. -/
def En (r : Rd) : Prop := r.bad = true ∨ (r.rest = [] ∧ r.ws = []) ∨ Lst r.rest
theorem Ef.en {r : Rd} (h : Ef r) : En r := h.imp id .inr
theorem En.must {r : Rd} (h : En r) (x : Bool) : En (r.must x) := h.imp (fun h => by unfold Rd.must; simp [h]) id
theorem Ef.must {r : Rd} (h : Ef r) (x : Bool) : Ef (r.must x) := h.imp (fun h => by unfold Rd.must; simp [h]) id
theorem En.word {r : Rd} (h : En r) : Ef r.word := by
  rcases h with h | ⟨_, h⟩ | h
  · exact .inl (by unfold Rd.word; simp [h])
  · exact .inl (by unfold Rd.word; simp [h])
  · exact .inr h
theorem En.number {r : Rd} (h : En r) : Ef r.number := h.word.must _
theorem En.among {r : Rd} (h : En r) (lo hi : Int) : Ef (r.among lo hi) := h.number.must _
theorem Ef.number {r : Rd} (h : Ef r) : Ef r.number := h.en.number
theorem Ef.among {r : Rd} (h : Ef r) (lo hi : Int) : Ef (r.among lo hi) := h.en.among _ _
theorem Ef.frac {r : Rd} (h : Ef r) (ok : List UInt8 → Bool) : Ef (r.frac ok) := h.en.word.must _
theorem Ef.mark {r : Rd} (h : Ef r) (m : Int) : Ef (r.mark m) := by
  unfold Rd.mark; split
  · exact h
  · exact h.number
theorem Ef.skip : ∀ (k : Nat) {r : Rd}, Ef r → Ef (Rd.skip k r)
  | 0, _, h => h
  | k + 1, _, h => Ef.skip k h.en.word
theorem Lst.ne {l : List (Nat × List (List UInt8))} (h : Lst l) : l ≠ [] := by
  obtain ⟨a, n, rfl⟩ := h; simp
theorem Ef.go {r : Rd} (h : Ef r) : r.fin.bad = true ∨ r.rest ≠ [] := h.imp (fun h => by unfold Rd.fin Rd.must; simp [h]) Lst.ne
theorem Ef.next {r : Rd} (h : Ef r) : En r.next := by
  unfold Rd.next
  split
  · rename_i hb; exact .inl hb
  · rename_i hb
    rcases h with h | ⟨a, n, h⟩
    · exact absurd (show r.fin.bad = true by unfold Rd.fin Rd.must; simp [h]) hb
    · rw [h]
      cases a with
      | nil => exact .inr (.inl ⟨rfl, rfl⟩)
      | cons l a => exact .inr (.inr ⟨a, n, rfl⟩)
end Go.Proofs.YtpalfmgloddhcaaGreatDoor
