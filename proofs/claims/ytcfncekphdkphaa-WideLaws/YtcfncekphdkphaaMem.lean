/- Blocks of memory that are known whole: laws for their loads, stores and makings, over whatever program. -/
import Derived.WalkKit
import Derived.WalkSpells
import Derived.WalkLawsBesides
import Derived.Deep.MidRow
import Derived.Lib.Hide
import Derived.KernelRfl
namespace Go.Proofs.Ytcfncekphdkphaa
open Go.RowKit
set_option maxRecDepth 100000
/-- Block b holds just the cells cs, and may be written. -/
def Blk (w : World) (b : Nat) (cs : List Value) (t : TypeId) : Prop := w.heap[b]? = some (.cells cs.toArray t (0, 0))
theorem Blk.lt {w : World} {b : Nat} {cs : List Value} {t : TypeId} (h : Blk w b cs t) : b < w.heap.size := (Array.getElem?_eq_some_iff.1 h).1
theorem Blk.new (w : World) (cs : List Value) (t : TypeId) {b : Nat} (hb : b = w.heap.size) : Blk (w.alloc (.cells cs.toArray t)) b cs t := by
  subst hb; exact heap_alloc_new w _
theorem Blk.old {w : World} {b : Nat} {cs : List Value} {t : TypeId} (h : Blk w b cs t) (o : Obj) : Blk (w.alloc o) b cs t :=
  (Below.heap_alloc w o b h.lt).trans h
theorem Blk.drew {w : World} {b : Nat} {cs : List Value} {t : TypeId} (h : Blk w b cs t) : Blk w.drew b cs t := h
theorem Blk.drewN {w : World} {b : Nat} {cs : List Value} {t : TypeId} (h : Blk w b cs t) (n : Nat) : Blk (w.drewN n) b cs t := h
theorem Blk.below {w w' : World} {B b : Nat} {cs : List Value} {t : TypeId} (h : Blk w b cs t) (hb : Below B w w') (hB : b < B) : Blk w' b cs t :=
  (hb.block b hB).trans h
/-- The commonest: behind a call. -/
theorem Blk.call {w w' : World} {b : Nat} {cs : List Value} {t : TypeId} (h : Blk w b cs t) (hb : Below w.heap.size w w') : Blk w' b cs t := h.below hb h.lt
theorem Blk.cell {w : World} {b : Nat} {cs : List Value} {t : TypeId} (h : Blk w b cs t) {i : Nat} {v : Value} (hv : cs[i]? = some v) : w.cell? ⟨b, i, none⟩ = some v := by
  rw [cell_of_row w b i _ t _ h]; simpa using hv
theorem Blk.frozen {w : World} {b : Nat} {cs : List Value} {t : TypeId} (h : Blk w b cs t) (i : Nat) : w.frozen? ⟨b, i, none⟩ = false := frozen_of_row w b i _ t h
theorem Blk.range {w : World} {b : Nat} {cs : List Value} {t : TypeId} (h : Blk w b cs t) : w.rangeAt b 0 cs := fun j v hv => by
  rw [Nat.zero_add]; exact h.cell hv
/-- The cells behind the first. -/
theorem Blk.tail {w : World} {b : Nat} {c : Value} {cs : List Value} {t : TypeId} (h : Blk w b (c :: cs) t) : w.rangeAt b 1 cs := fun j v hv => by
  rw [Nat.add_comm]; exact h.cell (by simpa using hv)
theorem Blk.set {w : World} {b : Nat} {cs : List Value} {t : TypeId} (h : Blk w b cs t) (i : Nat) (v : Value) : Blk (w.setCell ⟨b, i, none⟩ v) b (cs.set i v) t := by
  have := heap_setCell_same w b i cs.toArray t v h
  simpa [Blk] using this
theorem Blk.setOther {w : World} {b : Nat} {cs : List Value} {t : TypeId} (h : Blk w b cs t) {g : Nat} (i : Nat) (v : Value) (hne : b ≠ g) : Blk (w.setCell ⟨g, i, none⟩ v) b cs t :=
  (heap_setCell_other w ⟨g, i, none⟩ b v hne).trans h
theorem Blk.row {w : World} {b : Nat} {cs : List Value} {t : TypeId} (h : Blk w b cs t) (vs : List Value) : Blk (w.setRow b vs.toArray) b vs t := setRow_heap w b _ _ t _ h
theorem Blk.rowOther {w : World} {b : Nat} {cs : List Value} {t : TypeId} (h : Blk w b cs t) {g : Nat} (vs : Array Value) (hne : b ≠ g) : Blk (w.setRow g vs) b cs t := by
  unfold Blk World.setRow
  rw [Array.getElem?_modify, if_neg (by omega)]
  exact h
/-- The store of many cells, one by one. -/
theorem Blk.cellsFrom {b : Nat} {t : TypeId} : ∀ (vs : List Value) (w : World) (o : Nat) (cs : List Value), Blk w b cs t → o + vs.length ≤ cs.length → Blk (w.setCells b o vs) b (cs.take o ++ vs ++ cs.drop (o + vs.length)) t
  | [], w, o, cs, h, _ => by simpa [World.setCells] using h
  | v :: r, w, o, cs, h, hl => by
    rw [World.setCells]
    have h1 := Blk.cellsFrom r _ (o + 1) _ (h.set o v) (by simp at hl ⊢; omega)
    have e : (cs.set o v).take (o + 1) ++ r ++ (cs.set o v).drop (o + 1 + r.length) = cs.take o ++ (v :: r) ++ cs.drop (o + (v :: r).length) := by
      simp only [List.length_cons] at hl
      rw [List.drop_set_of_lt (by omega), List.take_set, List.take_succ_eq_append_getElem (by omega), List.set_append_right _ _ (by simp; omega)]
      simp [show o + 1 + r.length = o + (r.length + 1) by omega, Nat.min_eq_left (show o ≤ cs.length by omega)]
    rw [← e]; exact h1
theorem Blk.cells {w : World} {b : Nat} {cs : List Value} {t : TypeId} (h : Blk w b cs t) (vs : List Value) (hl : cs.length = vs.length) : Blk (w.setCells b 0 vs) b vs t := by
  have := Blk.cellsFrom vs w 0 cs h (by omega)
  simpa [← hl] using this
theorem Blk.cellsOther {b g : Nat} {cs : List Value} {t : TypeId} (hne : b ≠ g) : ∀ (vs : List Value) (o : Nat) {w : World}, Blk w b cs t → Blk (w.setCells g o vs) b cs t
  | [], _, _, h => h
  | v :: r, o, _, h => by rw [World.setCells]; exact Blk.cellsOther hne r (o + 1) (h.setOther o v hne)
theorem below_cells {B : Nat} {a : World} {g : Nat} (hg : B ≤ g) : ∀ (vs : List Value) (o : Nat) {w : World}, Below B a w → Below B a (w.setCells g o vs)
  | [], _, _, h => h
  | v :: r, o, _, h => by rw [World.setCells]; exact below_cells hg r (o + 1) (h.setCell hg v)
theorem Blk.there {w : World} {b : Nat} {cs : List Value} {t : TypeId} (h : Blk w b cs t) : w.there b 0 cs.length := fun j hj => by
  rw [Nat.zero_add]
  exact ⟨by rw [h.cell (List.getElem?_eq_getElem hj)]; rfl, h.frozen j⟩
theorem below_row {B : Nat} {a w : World} (h : Below B a w) {g : Nat} (hg : B ≤ g) (vs : Array Value) : Below B a (w.setRow g vs) :=
  h.trans ⟨rfl, rfl, rfl, by simp, fun k hk => by
    unfold World.setRow
    rw [Array.getElem?_modify, if_neg (by omega)]⟩
/-- Behind a call, behind what was before it. -/
theorem bthen {w W w1 : World} (hb : Below w.heap.size w W) (h1 : Below W.heap.size W w1) : Below w.heap.size w w1 := hb.trans (h1.mono hb.size)
section
variable {P : Program} {ops : Array Oper} {rest : List Oper} {o : Oper} {a : Act} {w : World} {Q : Exit → Act → World → Prop}
/-- The load of a whole block. -/
theorem ld_blk {ty t : TypeId} {x : Operand} {b : Nat} {cs : List Value} (hgd : o.guard = none) (ho : o.op = .load ty x) (hx : a.eval x = .pointer (some ⟨b, 0, none⟩))
    (h : Blk w b cs t) (d : TypeDesc) (hu : P.underlying ty = some d) (hd : d.isRow = true) (hi : (P.info? ty).map (·.size) = some cs.length)
    (hr : wpList P ops Q rest (a.put o.dst (.agg cs.toArray)) w) : wpList P ops Q (o :: rest) a w :=
  wpList_load_mid hgd ty x ho b 0 hx cs d h.range hu hd hi hr
/-- The load of what lies behind the first cell. -/
theorem ld_tail {ty t : TypeId} {x : Operand} {b : Nat} {c : Value} {cs : List Value} (hgd : o.guard = none) (ho : o.op = .load ty x) (hx : a.eval x = .pointer (some ⟨b, 1, none⟩))
    (h : Blk w b (c :: cs) t) (d : TypeDesc) (hu : P.underlying ty = some d) (hd : d.isRow = true) (hi : (P.info? ty).map (·.size) = some cs.length)
    (hr : wpList P ops Q rest (a.put o.dst (.agg cs.toArray)) w) : wpList P ops Q (o :: rest) a w :=
  wpList_load_mid hgd ty x ho b 1 hx cs d h.tail hu hd hi hr
/-- The store of a whole block. -/
theorem st_blk {ty t : TypeId} {x y : Operand} {b : Nat} {cs vs : List Value} (hgd : o.guard = none) (ho : o.op = .store ty x y) (hx : a.eval x = .pointer (some ⟨b, 0, none⟩)) (hy : a.eval y = .agg vs.toArray)
    (h : Blk w b cs t) (hl : cs.length = vs.length) (hi : (P.info? ty).map (·.size) = some vs.length) (h1 : ∀ v ∈ vs, v.oneCell' = true)
    (hr : wpList P ops Q rest (a.put o.dst undef) (w.setRow b vs.toArray)) : wpList P ops Q (o :: rest) a w :=
  wpList_store_row hgd ty x y ho b vs.toArray hx hy t cs.toArray h (by simpa using hi) (by simpa using hl) (all_oneCell_toArray h1) hr
/-- The making of a variable that holds zeros. -/
theorem al_blk {ty : TypeId} {zs : List Value} (hgd : o.guard = none) (ho : o.op = .alloc ty) (hz : (P.info? ty).map (·.zero) = some (some (.agg zs.toArray)))
    (hr : wpList P ops Q rest (a.put o.dst (.pointer (some ⟨w.heap.size, 0, none⟩))) (w.alloc (.cells zs.toArray ty))) : wpList P ops Q (o :: rest) a w := by
  refine wpList_plain hgd fun K hK => ?_
  have := hK _ _ hr
  unfold Oper.wp execOp
  cases hq : P.info? ty with
  | none => simp [hq] at hz
  | some i =>
    simp [hq] at hz
    simp [ho, Instr.alloc, zeroValue, typeInfo, hq, hz, newVar, newRow, Value.cells, Oper.upon, go_sem]
    exact this
end
section
variable {P : Program} {fn : Func} {R : Ending → World → Prop} {a : Act} {w : World}
/-- A type of whole cells: its description and its number of cells. -/
def Whole (P : Program) (ty : TypeId) (n : Nat) : Prop := ∃ d, P.underlying ty = some d ∧ d.isRow = true ∧ (P.info? ty).map (·.size) = some n
theorem Whole.load {ty t : TypeId} {b : Nat} {cs : List Value} (W : Whole P ty cs.length) (h : Blk w b cs t) : (loadVar ty ⟨b, 0, none⟩).run P w = .ok (.agg cs.toArray) w := by
  obtain ⟨d, hu, hd, hi⟩ := W
  exact run_loadVar_mid w b 0 ty cs d h.range hu hd hi
/-- One result in memory. -/
theorem ret_c {p : Tmp} {ty t : TypeId} {b : Nat} {cs : List Value} (hres : fn.results = #[.cell p ty]) (hd : a.defers = []) (hp : a.tmps.getD p undef = .pointer (some ⟨b, 0, none⟩))
    (W : Whole P ty cs.length) (h : Blk w b cs t) (hR : R (.returned (.agg cs.toArray)) w) : bodyPost P fn R .ret a w := by
  have hp' : a.tmps[p]?.getD undef = .pointer (some ⟨b, 0, none⟩) := by simpa using hp
  exact bodyPost_ret (by simp [results, hres, hp', asAddr, W.load h]) hd hR
/-- One result in memory, one in a slot. -/
theorem ret_ct {p q : Tmp} {ty t : TypeId} {b : Nat} {cs : List Value} {v : Value} (hres : fn.results = #[.cell p ty, .tmp q]) (hd : a.defers = []) (hp : a.tmps.getD p undef = .pointer (some ⟨b, 0, none⟩)) (hq : a.tmps.getD q undef = v)
    (W : Whole P ty cs.length) (h : Blk w b cs t) (hR : R (.returned (.tuple #[.agg cs.toArray, v])) w) : bodyPost P fn R .ret a w := by
  have hp' : a.tmps[p]?.getD undef = .pointer (some ⟨b, 0, none⟩) := by simpa using hp
  have hq' : a.tmps[q]?.getD undef = v := by simpa using hq
  exact bodyPost_ret (by simp [results, hres, hp', hq', asAddr, W.load h]) hd hR
/-- Two results in memory. -/
theorem ret_cc {p q : Tmp} {ty ty' t t' : TypeId} {b b' : Nat} {cs cs' : List Value} (hres : fn.results = #[.cell p ty, .cell q ty']) (hd : a.defers = []) (hp : a.tmps.getD p undef = .pointer (some ⟨b, 0, none⟩)) (hq : a.tmps.getD q undef = .pointer (some ⟨b', 0, none⟩))
    (W : Whole P ty cs.length) (W' : Whole P ty' cs'.length) (h : Blk w b cs t) (h' : Blk w b' cs' t') (hR : R (.returned (.tuple #[.agg cs.toArray, .agg cs'.toArray])) w) : bodyPost P fn R .ret a w := by
  have hp' : a.tmps[p]?.getD undef = .pointer (some ⟨b, 0, none⟩) := by simpa using hp
  have hq' : a.tmps[q]?.getD undef = .pointer (some ⟨b', 0, none⟩) := by simpa using hq
  exact bodyPost_ret (by simp [results, hres, hp', hq', asAddr, W.load h, W'.load h']) hd hR
/-- Two results in memory, one in a slot. -/
theorem ret_cct {p q r : Tmp} {ty ty' t t' : TypeId} {b b' : Nat} {cs cs' : List Value} {v : Value} (hres : fn.results = #[.cell p ty, .cell q ty', .tmp r]) (hd : a.defers = []) (hp : a.tmps.getD p undef = .pointer (some ⟨b, 0, none⟩)) (hq : a.tmps.getD q undef = .pointer (some ⟨b', 0, none⟩)) (hr : a.tmps.getD r undef = v)
    (W : Whole P ty cs.length) (W' : Whole P ty' cs'.length) (h : Blk w b cs t) (h' : Blk w b' cs' t') (hR : R (.returned (.tuple #[.agg cs.toArray, .agg cs'.toArray, v])) w) : bodyPost P fn R .ret a w := by
  have hp' : a.tmps[p]?.getD undef = .pointer (some ⟨b, 0, none⟩) := by simpa using hp
  have hq' : a.tmps[q]?.getD undef = .pointer (some ⟨b', 0, none⟩) := by simpa using hq
  have hr' : a.tmps[r]?.getD undef = v := by simpa using hr
  exact bodyPost_ret (by simp [results, hres, hp', hq', hr', asAddr, W.load h, W'.load h']) hd hR
end
end Go.Proofs.Ytcfncekphdkphaa
