/- The lists of a drawing's text: laws for their growing. -/
import Derived.Test.YtpalfmgloddhcaaGreatDoorYih
import Derived.Test.YtpalfmgloddhcaaGreatDoorBsn
namespace Go.Proofs.YtpalfmgloddhcaaGreatDoor
set_option linter.unusedSimpArgs false
set_option linter.unusedVariables false
open Go.RowKit
set_option maxRecDepth 100000
section
variable {ops : Array Oper} {rest : List Oper} {o : Oper} {a : Act} {w : World} {Q : Exit → Act → World → Prop}
/-- A slice of one element of many cells. -/
theorem one_el {ST T : TypeId} {x : Operand} {cs : List Value} {k m : Nat} {z : Value} (hu : Tryz.prog.underlying ST = some (.slice T)) (hi : (Tryz.prog.info? T).map (fun i => (i.zero, i.size, i.bytes)) = some (some z, k, m)) (h0 : 0 < k) (hk : k ≤ 1000) (hl : cs.length = k)
    (hgd : o.guard = none) (ho : o.op = .buildSlice ST 1 #[(0, x)]) (hx : a.eval x = .agg cs.toArray)
    (hr : wpList Tryz.prog ops Q rest (a.put o.dst (.slice (some ⟨w.heap.size, 0, none⟩) 1 1)) (w.alloc (.cells cs.toArray T))) : wpList Tryz.prog ops Q (o :: rest) a w :=
  wpList_plain hgd fun K hK => by
    have := hK _ _ hr
    obtain ⟨i0, hi0, hz0, hz1, hz2⟩ := info_parts hi
    have hb := run_bs (P := Tryz.prog) w hu hi0 hz1 hz0 (Ps := [cs]) (fun P hP => by
      simp only [List.mem_cons, List.not_mem_nil, or_false] at hP
      rw [hP]; exact hl) (by simp; omega) (by simp; omega)
    rw [show jn [cs] = cs by simp [jn]] at hb
    unfold Oper.wp execOp
    simp only [ho, Sem.run_bind]
    rw [show Array.map (fun x : Nat × Operand => (x.fst, a.eval x.snd)) #[(0, x)] = (([cs].zipIdx 0).map fun x => (x.2, (.agg x.1.toArray : Value))).toArray by simp [hx]]
    rw [show [cs].length = 1 from rfl] at hb
    rw [hb]
    exact this
/-- append of one element of many cells. -/
theorem app_el {ST T : TypeId} {s x : Operand} {B n g : Nat} {v : Value} {xs cs : List Value} {k m : Nat} {z : Value} (hu : Tryz.prog.underlying ST = some (.slice T)) (hi : (Tryz.prog.info? T).map (fun i => (i.zero, i.size, i.bytes)) = some (some z, k, m)) (hzs : z.cells.size = k) (h0 : 0 < k) (hm : m ≤ 1000) (hl : cs.length = k) (h1 : ∀ c ∈ cs, c.oneCell' = true)
    (hgd : o.guard = none) (ho : o.op = .call { callee := .builtin .append, args := #[s, x], argTypes := #[ST, ST] }) (hs : a.eval s = v) (hx : a.eval x = .slice (some ⟨g, 0, none⟩) 1 1)
    (hown : w.ownsRow B T k v n xs) (hg : Blk w g cs T) (hn : n ≤ 2000000) (hB : B ≤ w.heap.size)
    (hr : ∀ v' w', w'.ownsRow B T k v' (n + 1) (xs ++ cs) → Below B w w' → wpList Tryz.prog ops Q rest (a.put o.dst v') w') : wpList Tryz.prog ops Q (o :: rest) a w := by
  obtain ⟨i0, hi0, hz0, hz1, hz2⟩ := info_parts hi
  refine wpList_append_own w hgd s x ST ho B T i0 z k m hu hi0 hz0 hz1 hz2 hzs h0 v n xs hs hown ⟨g, 0, none⟩ 1 1 cs hx (by omega) ?_ h1 ?_ ?_ hB ?_
  · intro j y hj
    have := hg.cell hj
    rw [show (⟨g, j, none⟩ : Addr) = (⟨g, 0, none⟩ : Addr).add j by cases j <;> simp [Addr.add]] at this
    exact this
  · unfold maxLen; omega
  · have : (n + 1) * m ≤ 2000001 * 1000 := Nat.mul_le_mul (by omega) hm
    omega
  · intro v' w' k1 k2 _
    exact hr v' w' k1 (Below.grown (Below.refl _ _) k2 hB fun k hk => (hown.lt k hk).1)
end
theorem owns_oth {w w' : World} {base b : Nat} {e : TypeId} {size : Nat} {v : Value} {n : Nat} {xs : List Value} (h : w.ownsRow base e size v n xs) (ho : Oth b w w') (hb : b < base) : w'.ownsRow base e size v n xs :=
  ⟨h.1, h.2.imp id fun ⟨g, cap, cur, hv, hg, hc, rest⟩ => ⟨g, cap, cur, hv, hg, (ho.2.2.2.2 g (Array.getElem?_eq_some_iff.1 hc).1 (by omega)).trans hc, rest⟩⟩
theorem Rdr.belowB {w0 : World} {b : Nat} {r : Rd} {w w' : World} (h : Rdr w0 b r w) {B : Nat} (hb : Below B w w') (h1 : w0.heap.size ≤ B) (h2 : b < B) : Rdr w0 b r w' :=
  let ⟨k1, k2, wv, rv, k3, k4, k5⟩ := h; ⟨k1.trans (hb.mono h1), k2, wv, rv, k3.below hb h2, k4, k5⟩
theorem Oth.belowB {b : Nat} {x y z : World} (h : Oth b x y) {B : Nat} (hb : Below B y z) (hB : x.heap.size ≤ B) : Oth b x z :=
  ⟨hb.os.trans h.1, hb.tape.trans h.2.1, hb.output.trans h.2.2.1, Nat.le_trans h.2.2.2.1 hb.size, fun k hk hn => (hb.block k (by omega)).trans (h.2.2.2.2 k hk hn)⟩
theorem among_in (r : Rd) (lo hi : Int) : (r.among lo hi).bad = true ∨ (lo ≤ r.num ∧ r.num ≤ hi) := by
  by_cases h : lo ≤ r.num ∧ r.num ≤ hi
  · exact .inr h
  · left
    have : (decide (lo ≤ r.num) && decide (r.num ≤ hi)) = false := by
      rw [Bool.and_eq_false_iff]
      by_cases h1 : lo ≤ r.num
      · right; simp; omega
      · left; simp; omega
    show ((r.number.bad || !(decide (lo ≤ r.num) && decide (r.num ≤ hi)))) = true
    rw [this]; simp
theorem among_bad (r : Rd) (lo hi : Int) (h : r.bad = true) : (r.among lo hi).bad = true := by
  unfold Rd.among Rd.number Rd.word Rd.must; simp [h]
theorem lst_zero {α : Type} (val : Rd → α) (st : Rd → Rd) (i : Nat) (f : Int) (acc : List α) (r : Rd) : lst val st 0 i f acc r = (acc, f, r) := rfl
theorem lst_bad {α : Type} (val : Rd → α) (st : Rd → Rd) (k i : Nat) (f : Int) (acc : List α) (r : Rd) (h : r.bad = true) : lst val st k i f acc r = (acc, f, r) := by
  cases k with
  | zero => rfl
  | succ k => rw [lst, if_pos h]
theorem lst_step {α : Type} (val : Rd → α) (st : Rd → Rd) (k i : Nat) (f : Int) (acc : List α) (r : Rd) (h : r.bad = false) {f' : Int} (hf : f' = if i = 0 then r.next.num else f) {r3 : Rd} (h3 : r3 = (r.next.among i (i + 1)).must (decide (r.next.num = f' + i))) :
    lst val st (k + 1) i f acc r = lst val st k (i + 1) f' (acc ++ [val r3]) (st r3) := by
  rw [lst, if_neg (by rw [h]; decide), ← hf, ← h3]
theorem beq_dec (x y : Int) : (x == y) = decide (x = y) := by
  rw [Bool.eq_iff_iff]; simp
/-- A list keeps what each of its items keeps. -/
theorem lst_keeps {α : Type} {val : Rd → α} {st : Rd → Rd} (K : Rd → Prop) (hs : ∀ r, K r → K (st r)) (hn : ∀ r (i : Nat) x, K r → K ((r.next.among i (i + 1)).must x)) : ∀ (k i : Nat) (f : Int) (acc : List α) (r : Rd), K r → K (lst val st k i f acc r).2.2
  | 0, _, _, _, _, h => h
  | k + 1, i, f, acc, r, h => by
    rw [lst]
    split
    · exact h
    · exact lst_keeps K hs hn k _ _ _ _ (hs _ (hn _ _ _ h))
theorem lst_okr {α : Type} {val : Rd → α} {st : Rd → Rd} {P : List UInt8 → Prop} (hs : ∀ r, Okr P r → Okr P (st r)) (k i : Nat) (f : Int) (acc : List α) {r : Rd} (h : Okr P r) : Okr P (lst val st k i f acc r).2.2 :=
  lst_keeps _ hs (fun r i x h => (h.next.among _ _).must _) k i f acc r h
theorem lst_ef {α : Type} {val : Rd → α} {st : Rd → Rd} (hs : ∀ r, Ef r → Ef (st r)) (k i : Nat) (f : Int) (acc : List α) {r : Rd} (h : Ef r) : Ef (lst val st k i f acc r).2.2 :=
  lst_keeps _ hs (fun r i x h => (h.next.among _ _).must _) k i f acc r h
theorem lst_first {α : Type} (val : Rd → α) (st : Rd → Rd) : ∀ (k i : Nat) (f : Int) (acc : List α) (r : Rd), -1000000000 < f ∧ f < 1000000000 → -1000000000 < (lst val st k i f acc r).2.1 ∧ (lst val st k i f acc r).2.1 < 1000000000
  | 0, _, _, _, _, h => h
  | k + 1, i, f, acc, r, h => by
    rw [lst]
    split
    · exact h
    · refine lst_first val st k _ _ _ _ ?_
      split
      · exact intN_in _
      · exact h
theorem lst_len {α : Type} (val : Rd → α) (st : Rd → Rd) : ∀ (k i : Nat) (f : Int) (acc : List α) (r : Rd), (lst val st k i f acc r).1.length ≤ acc.length + k
  | 0, _, _, _, _ => Nat.le_refl _
  | k + 1, i, f, acc, r => by
    rw [lst]
    split
    · show acc.length ≤ _; omega
    · refine Nat.le_trans (lst_len val st k _ _ _ _) ?_
      simp; omega
/-- The cells of a vertex, of a segment; of a hole's point. -/
def celI (p : Int × Int × Int) : List Value := c3i p.1 p.2.1 p.2.2
theorem celI_len (p : Int × Int × Int) : (celI p).length = 3 := rfl
theorem celI_one (p : Int × Int × Int) : ∀ v ∈ celI p, v.oneCell' = true := c3i_one _ _ _
def celH (p : (Int × Int) × (Int × Int)) : List Value := fr p.1.1 p.1.2 ++ fr p.2.1 p.2.2
theorem celH_len (p : (Int × Int) × (Int × Int)) : (celH p).length = 132 := pt_len (rc_fr _ _) (rc_fr _ _)
theorem celH_one (p : (Int × Int) × (Int × Int)) : ∀ v ∈ celH p, v.oneCell' = true := pt_one (rc_fr _ _) (rc_fr _ _)
theorem infV : (Tryz.prog.info? 38).map (fun i => (i.zero, i.size, i.bytes)) = some (some (.agg (c3i 0 0 0).toArray), 3, 24) := by kernel_rfl
theorem infS : (Tryz.prog.info? 41).map (fun i => (i.zero, i.size, i.bytes)) = some (some (.agg (c3i 0 0 0).toArray), 3, 24) := by kernel_rfl
theorem infH : (Tryz.prog.info? 51).map (fun i => (i.zero, i.size, i.bytes)) = some (some (.agg p0.toArray), 132, 528) := by kernel_rfl
end Go.Proofs.YtpalfmgloddhcaaGreatDoor
