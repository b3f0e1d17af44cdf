/- Joined of: Mem Reg. -/
import Derived.WalkKit
import Derived.WalkSpells
import Derived.WalkLawsBesides
import Derived.Deep.MidRow
import Derived.Lib.Hide
import Derived.KernelRfl
import Derived.Deep.RegionHeld3
/- Blocks of memory that are known whole: laws for their loads, stores and makings, over whatever program. -/
namespace Go.Proofs.YtoegjibeomhekaaGreat
open Go.RowKit
set_option maxRecDepth 100000
/-- Block b holds just the cells cs, and may be written. -/
def Blk (w : World) (b : Nat) (cs : List Value) (t : TypeId) : Prop := w.heap[b]? = some (.cells cs.toArray t (0, 0))
theorem Blk.lt {w : World} {b : Nat} {cs : List Value} {t : TypeId} (h : Blk w b cs t) : b < w.heap.size := (Array.getElem?_eq_some_iff.1 h).1
theorem Blk.new (w : World) (cs : List Value) (t : TypeId) {b : Nat} (hb : b = w.heap.size) : Blk (w.alloc (.cells cs.toArray t)) b cs t := by
  subst hb; exact heap_alloc_new w _
theorem Blk.old {w : World} {b : Nat} {cs : List Value} {t : TypeId} (h : Blk w b cs t) (o : Obj) : Blk (w.alloc o) b cs t :=
  (Below.heap_alloc w o b h.lt).trans h
theorem Blk.drew {w : World} {b : Nat} {cs : List Value} {t : TypeId} (h : Blk w b cs t) : Blk w.drew b cs t := h
theorem Blk.drewN {w : World} {b : Nat} {cs : List Value} {t : TypeId} (h : Blk w b cs t) (n : Nat) : Blk (w.drewN n) b cs t := h
theorem Blk.below {w w' : World} {B b : Nat} {cs : List Value} {t : TypeId} (h : Blk w b cs t) (hb : Below B w w') (hB : b < B) : Blk w' b cs t :=
  (hb.block b hB).trans h
/-- The commonest: behind a call. -/
theorem Blk.call {w w' : World} {b : Nat} {cs : List Value} {t : TypeId} (h : Blk w b cs t) (hb : Below w.heap.size w w') : Blk w' b cs t := h.below hb h.lt
theorem Blk.cell {w : World} {b : Nat} {cs : List Value} {t : TypeId} (h : Blk w b cs t) {i : Nat} {v : Value} (hv : cs[i]? = some v) : w.cell? ⟨b, i, none⟩ = some v := by
  rw [cell_of_row w b i _ t _ h]; simpa using hv
theorem Blk.frozen {w : World} {b : Nat} {cs : List Value} {t : TypeId} (h : Blk w b cs t) (i : Nat) : w.frozen? ⟨b, i, none⟩ = false := frozen_of_row w b i _ t h
theorem Blk.range {w : World} {b : Nat} {cs : List Value} {t : TypeId} (h : Blk w b cs t) : w.rangeAt b 0 cs := fun j v hv => by
  rw [Nat.zero_add]; exact h.cell hv
/-- The cells behind the first. -/
theorem Blk.tail {w : World} {b : Nat} {c : Value} {cs : List Value} {t : TypeId} (h : Blk w b (c :: cs) t) : w.rangeAt b 1 cs := fun j v hv => by
  rw [Nat.add_comm]; exact h.cell (by simpa using hv)
theorem Blk.set {w : World} {b : Nat} {cs : List Value} {t : TypeId} (h : Blk w b cs t) (i : Nat) (v : Value) : Blk (w.setCell ⟨b, i, none⟩ v) b (cs.set i v) t := by
  have := heap_setCell_same w b i cs.toArray t v h
  simpa [Blk] using this
theorem Blk.setOther {w : World} {b : Nat} {cs : List Value} {t : TypeId} (h : Blk w b cs t) {g : Nat} (i : Nat) (v : Value) (hne : b ≠ g) : Blk (w.setCell ⟨g, i, none⟩ v) b cs t :=
  (heap_setCell_other w ⟨g, i, none⟩ b v hne).trans h
theorem Blk.row {w : World} {b : Nat} {cs : List Value} {t : TypeId} (h : Blk w b cs t) (vs : List Value) : Blk (w.setRow b vs.toArray) b vs t := setRow_heap w b _ _ t _ h
theorem Blk.rowOther {w : World} {b : Nat} {cs : List Value} {t : TypeId} (h : Blk w b cs t) {g : Nat} (vs : Array Value) (hne : b ≠ g) : Blk (w.setRow g vs) b cs t := by
  unfold Blk World.setRow
  rw [Array.getElem?_modify, if_neg (by omega)]
  exact h
/-- The store of many cells, one by one. -/
theorem Blk.cellsFrom {b : Nat} {t : TypeId} : ∀ (vs : List Value) (w : World) (o : Nat) (cs : List Value), Blk w b cs t → o + vs.length ≤ cs.length → Blk (w.setCells b o vs) b (cs.take o ++ vs ++ cs.drop (o + vs.length)) t
  | [], w, o, cs, h, _ => by simpa [World.setCells] using h
  | v :: r, w, o, cs, h, hl => by
    rw [World.setCells]
    have h1 := Blk.cellsFrom r _ (o + 1) _ (h.set o v) (by simp at hl ⊢; omega)
    have e : (cs.set o v).take (o + 1) ++ r ++ (cs.set o v).drop (o + 1 + r.length) = cs.take o ++ (v :: r) ++ cs.drop (o + (v :: r).length) := by
      simp only [List.length_cons] at hl
      rw [List.drop_set_of_lt (by omega), List.take_set, List.take_succ_eq_append_getElem (by omega), List.set_append_right _ _ (by simp; omega)]
      simp [show o + 1 + r.length = o + (r.length + 1) by omega, Nat.min_eq_left (show o ≤ cs.length by omega)]
    rw [← e]; exact h1
theorem Blk.cells {w : World} {b : Nat} {cs : List Value} {t : TypeId} (h : Blk w b cs t) (vs : List Value) (hl : cs.length = vs.length) : Blk (w.setCells b 0 vs) b vs t := by
  have := Blk.cellsFrom vs w 0 cs h (by omega)
  simpa [← hl] using this
theorem Blk.cellsOther {b g : Nat} {cs : List Value} {t : TypeId} (hne : b ≠ g) : ∀ (vs : List Value) (o : Nat) {w : World}, Blk w b cs t → Blk (w.setCells g o vs) b cs t
  | [], _, _, h => h
  | v :: r, o, _, h => by rw [World.setCells]; exact Blk.cellsOther hne r (o + 1) (h.setOther o v hne)
theorem below_cells {B : Nat} {a : World} {g : Nat} (hg : B ≤ g) : ∀ (vs : List Value) (o : Nat) {w : World}, Below B a w → Below B a (w.setCells g o vs)
  | [], _, _, h => h
  | v :: r, o, _, h => by rw [World.setCells]; exact below_cells hg r (o + 1) (h.setCell hg v)
theorem Blk.there {w : World} {b : Nat} {cs : List Value} {t : TypeId} (h : Blk w b cs t) : w.there b 0 cs.length := fun j hj => by
  rw [Nat.zero_add]
  exact ⟨by rw [h.cell (List.getElem?_eq_getElem hj)]; rfl, h.frozen j⟩
theorem below_row {B : Nat} {a w : World} (h : Below B a w) {g : Nat} (hg : B ≤ g) (vs : Array Value) : Below B a (w.setRow g vs) :=
  h.trans ⟨rfl, rfl, rfl, by simp, fun k hk => by
    unfold World.setRow
    rw [Array.getElem?_modify, if_neg (by omega)]⟩
/-- Behind a call, behind what was before it. -/
theorem bthen {w W w1 : World} (hb : Below w.heap.size w W) (h1 : Below W.heap.size W w1) : Below w.heap.size w w1 := hb.trans (h1.mono hb.size)
section
variable {P : Program} {ops : Array Oper} {rest : List Oper} {o : Oper} {a : Act} {w : World} {Q : Exit → Act → World → Prop}
/-- The load of a whole block. -/
theorem ld_blk {ty t : TypeId} {x : Operand} {b : Nat} {cs : List Value} (hgd : o.guard = none) (ho : o.op = .load ty x) (hx : a.eval x = .pointer (some ⟨b, 0, none⟩))
    (h : Blk w b cs t) (d : TypeDesc) (hu : P.underlying ty = some d) (hd : d.isRow = true) (hi : (P.info? ty).map (·.size) = some cs.length)
    (hr : wpList P ops Q rest (a.put o.dst (.agg cs.toArray)) w) : wpList P ops Q (o :: rest) a w :=
  wpList_load_mid hgd ty x ho b 0 hx cs d h.range hu hd hi hr
/-- The load of what lies behind the first cell. -/
theorem ld_tail {ty t : TypeId} {x : Operand} {b : Nat} {c : Value} {cs : List Value} (hgd : o.guard = none) (ho : o.op = .load ty x) (hx : a.eval x = .pointer (some ⟨b, 1, none⟩))
    (h : Blk w b (c :: cs) t) (d : TypeDesc) (hu : P.underlying ty = some d) (hd : d.isRow = true) (hi : (P.info? ty).map (·.size) = some cs.length)
    (hr : wpList P ops Q rest (a.put o.dst (.agg cs.toArray)) w) : wpList P ops Q (o :: rest) a w :=
  wpList_load_mid hgd ty x ho b 1 hx cs d h.tail hu hd hi hr
/-- The store of a whole block. -/
theorem st_blk {ty t : TypeId} {x y : Operand} {b : Nat} {cs vs : List Value} (hgd : o.guard = none) (ho : o.op = .store ty x y) (hx : a.eval x = .pointer (some ⟨b, 0, none⟩)) (hy : a.eval y = .agg vs.toArray)
    (h : Blk w b cs t) (hl : cs.length = vs.length) (hi : (P.info? ty).map (·.size) = some vs.length) (h1 : ∀ v ∈ vs, v.oneCell' = true)
    (hr : wpList P ops Q rest (a.put o.dst undef) (w.setRow b vs.toArray)) : wpList P ops Q (o :: rest) a w :=
  wpList_store_row hgd ty x y ho b vs.toArray hx hy t cs.toArray h (by simpa using hi) (by simpa using hl) (all_oneCell_toArray h1) hr
/-- The making of a variable that holds zeros. -/
theorem al_blk {ty : TypeId} {zs : List Value} (hgd : o.guard = none) (ho : o.op = .alloc ty) (hz : (P.info? ty).map (·.zero) = some (some (.agg zs.toArray)))
    (hr : wpList P ops Q rest (a.put o.dst (.pointer (some ⟨w.heap.size, 0, none⟩))) (w.alloc (.cells zs.toArray ty))) : wpList P ops Q (o :: rest) a w := by
  refine wpList_plain hgd fun K hK => ?_
  have := hK _ _ hr
  unfold Oper.wp execOp
  cases hq : P.info? ty with
  | none => simp [hq] at hz
  | some i =>
    simp [hq] at hz
    simp [ho, Instr.alloc, zeroValue, typeInfo, hq, hz, newVar, newRow, Value.cells, Oper.upon, go_sem]
    exact this
end
section
variable {P : Program} {fn : Func} {R : Ending → World → Prop} {a : Act} {w : World}
/-- A type of whole cells: its description and its number of cells. -/
def Whole (P : Program) (ty : TypeId) (n : Nat) : Prop := ∃ d, P.underlying ty = some d ∧ d.isRow = true ∧ (P.info? ty).map (·.size) = some n
theorem Whole.load {ty t : TypeId} {b : Nat} {cs : List Value} (W : Whole P ty cs.length) (h : Blk w b cs t) : (loadVar ty ⟨b, 0, none⟩).run P w = .ok (.agg cs.toArray) w := by
  obtain ⟨d, hu, hd, hi⟩ := W
  exact run_loadVar_mid w b 0 ty cs d h.range hu hd hi
/-- One result in memory. -/
theorem ret_c {p : Tmp} {ty t : TypeId} {b : Nat} {cs : List Value} (hres : fn.results = #[.cell p ty]) (hd : a.defers = []) (hp : a.tmps.getD p undef = .pointer (some ⟨b, 0, none⟩))
    (W : Whole P ty cs.length) (h : Blk w b cs t) (hR : R (.returned (.agg cs.toArray)) w) : bodyPost P fn R .ret a w := by
  have hp' : a.tmps[p]?.getD undef = .pointer (some ⟨b, 0, none⟩) := by simpa using hp
  exact bodyPost_ret (by simp [results, hres, hp', asAddr, W.load h]) hd hR
/-- One result in memory, one in a slot. -/
theorem ret_ct {p q : Tmp} {ty t : TypeId} {b : Nat} {cs : List Value} {v : Value} (hres : fn.results = #[.cell p ty, .tmp q]) (hd : a.defers = []) (hp : a.tmps.getD p undef = .pointer (some ⟨b, 0, none⟩)) (hq : a.tmps.getD q undef = v)
    (W : Whole P ty cs.length) (h : Blk w b cs t) (hR : R (.returned (.tuple #[.agg cs.toArray, v])) w) : bodyPost P fn R .ret a w := by
  have hp' : a.tmps[p]?.getD undef = .pointer (some ⟨b, 0, none⟩) := by simpa using hp
  have hq' : a.tmps[q]?.getD undef = v := by simpa using hq
  exact bodyPost_ret (by simp [results, hres, hp', hq', asAddr, W.load h]) hd hR
/-- Two results in memory. -/
theorem ret_cc {p q : Tmp} {ty ty' t t' : TypeId} {b b' : Nat} {cs cs' : List Value} (hres : fn.results = #[.cell p ty, .cell q ty']) (hd : a.defers = []) (hp : a.tmps.getD p undef = .pointer (some ⟨b, 0, none⟩)) (hq : a.tmps.getD q undef = .pointer (some ⟨b', 0, none⟩))
    (W : Whole P ty cs.length) (W' : Whole P ty' cs'.length) (h : Blk w b cs t) (h' : Blk w b' cs' t') (hR : R (.returned (.tuple #[.agg cs.toArray, .agg cs'.toArray])) w) : bodyPost P fn R .ret a w := by
  have hp' : a.tmps[p]?.getD undef = .pointer (some ⟨b, 0, none⟩) := by simpa using hp
  have hq' : a.tmps[q]?.getD undef = .pointer (some ⟨b', 0, none⟩) := by simpa using hq
  exact bodyPost_ret (by simp [results, hres, hp', hq', asAddr, W.load h, W'.load h']) hd hR
/-- Two results in memory, one in a slot. -/
theorem ret_cct {p q r : Tmp} {ty ty' t t' : TypeId} {b b' : Nat} {cs cs' : List Value} {v : Value} (hres : fn.results = #[.cell p ty, .cell q ty', .tmp r]) (hd : a.defers = []) (hp : a.tmps.getD p undef = .pointer (some ⟨b, 0, none⟩)) (hq : a.tmps.getD q undef = .pointer (some ⟨b', 0, none⟩)) (hr : a.tmps.getD r undef = v)
    (W : Whole P ty cs.length) (W' : Whole P ty' cs'.length) (h : Blk w b cs t) (h' : Blk w b' cs' t') (hR : R (.returned (.tuple #[.agg cs.toArray, .agg cs'.toArray, v])) w) : bodyPost P fn R .ret a w := by
  have hp' : a.tmps[p]?.getD undef = .pointer (some ⟨b, 0, none⟩) := by simpa using hp
  have hq' : a.tmps[q]?.getD undef = .pointer (some ⟨b', 0, none⟩) := by simpa using hq
  have hr' : a.tmps[r]?.getD undef = v := by simpa using hr
  exact bodyPost_ret (by simp [results, hres, hp', hq', hr', asAddr, W.load h, W'.load h']) hd hR
end
end Go.Proofs.YtoegjibeomhekaaGreat

/- A region that draws its order, whose loads read blocks that nothing in it writes: taken in one order. -/
namespace Go.Proofs.YtoegjibeomhekaaGreat
open Go.RowKit
set_option maxRecDepth 100000
/-- The blocks of w0 but those of G are as they were. -/
def Keep (G : List Nat) (w0 w : World) : Prop := w0.heap.size ≤ w.heap.size ∧ ∀ k, k < w0.heap.size → k ∉ G → w.heap[k]? = w0.heap[k]?
theorem Keep.refl (G : List Nat) (w : World) : Keep G w w := ⟨Nat.le_refl _, fun _ _ _ => rfl⟩
theorem Keep.drew (G : List Nat) (w : World) : Keep G w w.drew := ⟨Nat.le_refl _, fun _ _ _ => rfl⟩
theorem Keep.call {G : List Nat} {w0 w w' : World} (h : Keep G w0 w) (hb : Below w.heap.size w w') : Keep G w0 w' :=
  ⟨Nat.le_trans h.1 hb.size, fun k hk hg => (hb.block k (Nat.lt_of_lt_of_le hk h.1)).trans (h.2 k hk hg)⟩
theorem Keep.alloc {G : List Nat} {w0 w : World} (h : Keep G w0 w) (o : Obj) : Keep G w0 (w.alloc o) :=
  h.call ((Below.refl _ _).alloc (Nat.le_refl _) o)
theorem Keep.row {G : List Nat} {w0 w : World} (h : Keep G w0 w) {g : Nat} (hg : g ∈ G ∨ w0.heap.size ≤ g) (vs : Array Value) : Keep G w0 (w.setRow g vs) :=
  ⟨by simpa using h.1, fun k hk hn => by
    unfold World.setRow
    rw [Array.getElem?_modify, if_neg (by rintro rfl; rcases hg with hg | hg; exact hn hg; omega)]
    exact h.2 k hk hn⟩
theorem Keep.cell {G : List Nat} {w0 w : World} (h : Keep G w0 w) {g : Nat} (hg : g ∈ G ∨ w0.heap.size ≤ g) (i : Nat) (v : Value) : Keep G w0 (w.setCell ⟨g, i, none⟩ v) :=
  ⟨by simpa [World.setCell] using h.1, fun k hk hn => by
    rw [Below.heap_setCell _ _ _ _ (by rintro rfl; rcases hg with hg | hg; exact hn hg; omega)]
    exact h.2 k hk hn⟩
theorem Blk.keep {w0 w : World} {b : Nat} {cs : List Value} {t : TypeId} {G : List Nat} (h : Blk w0 b cs t) (hK : Keep G w0 w) (hb : b ∉ G) : Blk w b cs t := (hK.2 b h.lt hb).trans h
section
variable {P : Program} {l : List Oper} {Q : Exit → Act → World → Prop} {G : List Nat} {w0 w : World} {a : Act} {fuel : Nat} {listed : Array Bool}
theorem rg_start (G : List Nat) {id : Nat} (hm : P.follows .mixedOrders = true)
    (h : Keep G w w.drew → wpAnyH P .any l.toArray (NoPanic Q) (Keep G w) l.toArray.size (Array.replicate l.toArray.size false) a w.drew) : (Code.region id l.toArray true).wp P Q a w :=
  wp_region_noPanic (wp_region_held_drew hm (Keep.drew G w) h)
/-- An operation that yields v in every world that keeps. -/
theorem rg_take (i : Nat) {o : Oper} {v : Value} (hi : l[i]? = some o) (hs : Region.noSelect l.toArray = true) (hf : Region.free .any l.toArray listed i = true) (hr : (Region.ready .any l.toArray listed).contains i = true)
    (hw : Region.wanted o (yielded l.toArray a.tmps) = true) (hS : Keep G w0 w) (hy : ∀ w', Keep G w0 w' → (execOp a.eval o).run P w' = .ok (.value v) w')
    (h : wpAnyH P .any l.toArray (NoPanic Q) (Keep G w0) fuel (listed.setIfInBounds i true) (a.put o.dst v) w) : wpAnyH P .any l.toArray (NoPanic Q) (Keep G w0) (fuel + 1) listed a w :=
  wpAnyH_take (by simpa using hi) hs hf hr (fun _ _ _ h => h) (.inl ⟨hw, hy⟩) hS h
/-- An operation that isn't wanted. -/
theorem rg_skip (i : Nat) {o : Oper} (hi : l[i]? = some o) (hs : Region.noSelect l.toArray = true) (hf : Region.free .any l.toArray listed i = true) (hr : (Region.ready .any l.toArray listed).contains i = true)
    (hw : Region.wanted o (yielded l.toArray a.tmps) = false) (hS : Keep G w0 w)
    (h : wpAnyH P .any l.toArray (NoPanic Q) (Keep G w0) fuel (listed.setIfInBounds i true) (a.put o.dst undef) w) : wpAnyH P .any l.toArray (NoPanic Q) (Keep G w0) (fuel + 1) listed a w :=
  wpAnyH_take (by simpa using hi) hs hf hr (fun _ _ _ h => h) (.inr ⟨hw, rfl⟩) hS h
/-- The load of a whole block. -/
theorem rg_ld (i : Nat) {o : Oper} {ty t : TypeId} {x : Operand} {b : Nat} {cs : List Value} (hi : l[i]? = some o) (hs : Region.noSelect l.toArray = true) (hf : Region.free .any l.toArray listed i = true) (hr : (Region.ready .any l.toArray listed).contains i = true)
    (hw : Region.wanted o (yielded l.toArray a.tmps) = true) (hS : Keep G w0 w) (ho : o.op = .load ty x) (hx : a.eval x = .pointer (some ⟨b, 0, none⟩)) (hB : Blk w0 b cs t) (hb : b ∉ G) (W : Whole P ty cs.length)
    (h : wpAnyH P .any l.toArray (NoPanic Q) (Keep G w0) fuel (listed.setIfInBounds i true) (a.put o.dst (.agg cs.toArray)) w) : wpAnyH P .any l.toArray (NoPanic Q) (Keep G w0) (fuel + 1) listed a w :=
  rg_take i hi hs hf hr hw hS (fun w' hS' => by
    unfold execOp
    simp only [ho, hx, Instr.loadAt, Instr.sureAddr, Sem.run_bind, Sem.run_pure, Result.andThen_ok, W.load (hB.keep hS' hb)]) h
/-- The load of what lies behind a block's first cell. -/
theorem rg_ldT (i : Nat) {o : Oper} {ty t : TypeId} {x : Operand} {b : Nat} {c : Value} {cs : List Value} (hi : l[i]? = some o) (hs : Region.noSelect l.toArray = true) (hf : Region.free .any l.toArray listed i = true) (hr : (Region.ready .any l.toArray listed).contains i = true)
    (hw : Region.wanted o (yielded l.toArray a.tmps) = true) (hS : Keep G w0 w) (ho : o.op = .load ty x) (hx : a.eval x = .pointer (some ⟨b, 1, none⟩)) (hB : Blk w0 b (c :: cs) t) (hb : b ∉ G) (W : Whole P ty cs.length)
    (h : wpAnyH P .any l.toArray (NoPanic Q) (Keep G w0) fuel (listed.setIfInBounds i true) (a.put o.dst (.agg cs.toArray)) w) : wpAnyH P .any l.toArray (NoPanic Q) (Keep G w0) (fuel + 1) listed a w :=
  rg_take i hi hs hf hr hw hS (fun w' hS' => by
    obtain ⟨d, hu, hd, hi⟩ := W
    unfold execOp
    simp only [ho, hx, Instr.loadAt, Instr.sureAddr, Sem.run_bind, Sem.run_pure, Result.andThen_ok, run_loadVar_mid w' b 1 ty cs d (hB.keep hS' hb).tail hu hd hi]) h
/-- A struct or an array is built. -/
theorem rg_build (i : Nat) {o : Oper} {ty : TypeId} {parts : Array (Nat × Operand)} {cs : Array Value} (hi : l[i]? = some o) (hs : Region.noSelect l.toArray = true) (hf : Region.free .any l.toArray listed i = true) (hr : (Region.ready .any l.toArray listed).contains i = true)
    (hw : Region.wanted o (yielded l.toArray a.tmps) = true) (hS : Keep G w0 w) (ho : o.op = .build ty parts) {pl : List (Nat × Value)} (hb : P.built ty pl = some cs) (hl : (parts.map fun (i, x) => (i, a.eval x)).toList = pl)
    (h : wpAnyH P .any l.toArray (NoPanic Q) (Keep G w0) fuel (listed.setIfInBounds i true) (a.put o.dst (.agg cs)) w) : wpAnyH P .any l.toArray (NoPanic Q) (Keep G w0) (fuel + 1) listed a w :=
  rg_take i hi hs hf hr hw hS (fun w' _ => by
    unfold execOp
    simp only [ho, Sem.run_bind, run_build w' ty _ _ (hl ▸ hb), Result.andThen_ok, Sem.run_pure]) h
/-- The one operation that may come up. -/
theorem rg_eff (i : Nat) {o : Oper} (hi : l[i]? = some o) (hr : Region.ready .any l.toArray listed = [i]) (hw : Region.wanted o (yielded l.toArray a.tmps) = true)
    (h : ∀ K : Act → World → Prop, (∀ a' w', Keep G w0 w' → (Keep G w0 w' → wpAnyH P .any l.toArray (NoPanic Q) (Keep G w0) fuel (listed.setIfInBounds i true) a' w') → K a' w') → o.wp P a w K (NoPanic Q)) :
    wpAnyH P .any l.toArray (NoPanic Q) (Keep G w0) (fuel + 1) listed a w :=
  wpAnyH_all hr (by simp) fun j hj => by
    obtain rfl : j = i := by simpa using hj
    unfold wpOp
    have hi' : l.toArray[j]? = some o := by simpa using hi
    simp only [hi', hw, if_true]
    exact .inl (h _ fun a' w' h1 h2 => ⟨h1, h2 h1⟩)
/-- Two operations that may come up. -/
theorem rg_two (i j : Nat) {o o' : Oper} (hi : l[i]? = some o) (hj : l[j]? = some o') (hr : Region.ready .any l.toArray listed = [i, j]) (hw : Region.wanted o (yielded l.toArray a.tmps) = true) (hw' : Region.wanted o' (yielded l.toArray a.tmps) = true)
    (h : ∀ K : Act → World → Prop, (∀ a' w', Keep G w0 w' → (Keep G w0 w' → wpAnyH P .any l.toArray (NoPanic Q) (Keep G w0) fuel (listed.setIfInBounds i true) a' w') → K a' w') → o.wp P a w K (NoPanic Q))
    (h' : ∀ K : Act → World → Prop, (∀ a' w', Keep G w0 w' → (Keep G w0 w' → wpAnyH P .any l.toArray (NoPanic Q) (Keep G w0) fuel (listed.setIfInBounds j true) a' w') → K a' w') → o'.wp P a w K (NoPanic Q)) :
    wpAnyH P .any l.toArray (NoPanic Q) (Keep G w0) (fuel + 1) listed a w :=
  wpAnyH_all hr (by simp) fun k hk => by
    rcases List.mem_cons.1 hk with rfl | hk
    · unfold wpOp
      have hi' : l.toArray[k]? = some o := by simpa using hi
      simp only [hi', hw, if_true]
      exact .inl (h _ fun a' w' h1 h2 => ⟨h1, h2 h1⟩)
    · obtain rfl : k = j := by simpa using hk
      unfold wpOp
      have hj' : l.toArray[k]? = some o' := by simpa using hj
      simp only [hj', hw', if_true]
      exact .inl (h' _ fun a' w' h1 h2 => ⟨h1, h2 h1⟩)
/-- Three operations that may come up. -/
theorem rg_three (i j m : Nat) {o o' o'' : Oper} (hi : l[i]? = some o) (hj : l[j]? = some o') (hm : l[m]? = some o'') (hr : Region.ready .any l.toArray listed = [i, j, m]) (hw : Region.wanted o (yielded l.toArray a.tmps) = true) (hw' : Region.wanted o' (yielded l.toArray a.tmps) = true) (hw'' : Region.wanted o'' (yielded l.toArray a.tmps) = true)
    (h : ∀ K : Act → World → Prop, (∀ a' w', Keep G w0 w' → (Keep G w0 w' → wpAnyH P .any l.toArray (NoPanic Q) (Keep G w0) fuel (listed.setIfInBounds i true) a' w') → K a' w') → o.wp P a w K (NoPanic Q))
    (h' : ∀ K : Act → World → Prop, (∀ a' w', Keep G w0 w' → (Keep G w0 w' → wpAnyH P .any l.toArray (NoPanic Q) (Keep G w0) fuel (listed.setIfInBounds j true) a' w') → K a' w') → o'.wp P a w K (NoPanic Q))
    (h'' : ∀ K : Act → World → Prop, (∀ a' w', Keep G w0 w' → (Keep G w0 w' → wpAnyH P .any l.toArray (NoPanic Q) (Keep G w0) fuel (listed.setIfInBounds m true) a' w') → K a' w') → o''.wp P a w K (NoPanic Q)) :
    wpAnyH P .any l.toArray (NoPanic Q) (Keep G w0) (fuel + 1) listed a w :=
  wpAnyH_all hr (by simp) fun k hk => by
    rcases List.mem_cons.1 hk with rfl | hk
    · unfold wpOp
      have hi' : l.toArray[k]? = some o := by simpa using hi
      simp only [hi', hw, if_true]
      exact .inl (h _ fun a' w' h1 h2 => ⟨h1, h2 h1⟩)
    · rcases List.mem_cons.1 hk with rfl | hk
      · unfold wpOp
        have hj' : l.toArray[k]? = some o' := by simpa using hj
        simp only [hj', hw', if_true]
        exact .inl (h' _ fun a' w' h1 h2 => ⟨h1, h2 h1⟩)
      · obtain rfl : k = m := by simpa using hk
        unfold wpOp
        have hm' : l.toArray[k]? = some o'' := by simpa using hm
        simp only [hm', hw'', if_true]
        exact .inl (h'' _ fun a' w' h1 h2 => ⟨h1, h2 h1⟩)
theorem rg_done (hr : Region.ready .any l.toArray listed = []) (h : Q .normal a w) : wpAnyH P .any l.toArray (NoPanic Q) (Keep G w0) fuel listed a w :=
  wpAnyH_done hr (NoPanic.normal h) fuel
end
/-- A region that leaves one frame but for what it has laid: cut behind it. -/
theorem rg_cut2 {P : Program} {id : Nat} {ops : Array Oper} {b : Bool} {Q : Exit → Act → World → Prop} {a : Act} {w : World} (S : World → Prop) (F : Act → Value → Value → Act)
    (h : (Code.region id ops b).wp P (fun e a' w' => e = .normal ∧ ∃ u v, a' = F a u v ∧ S w') a w) (hr : ∀ u v w', S w' → Q .normal (F a u v) w') : (Code.region id ops b).wp P Q a w :=
  Code.wp_mono (fun e a' w' ⟨he, u, v, ha, hs⟩ => by subst he; subst ha; exact hr u v w' hs) h
section
variable {P : Program} {o : Oper} {a : Act} {w : World} {K : Act → World → Prop} {Q : Exit → Act → World → Prop}
theorem wp_st {ty t : TypeId} {x y : Operand} {b : Nat} {cs vs : List Value} (ho : o.op = .store ty x y) (hx : a.eval x = .pointer (some ⟨b, 0, none⟩)) (hy : a.eval y = .agg vs.toArray)
    (h : Blk w b cs t) (hl : cs.length = vs.length) (W : Whole P ty vs.length) (h1 : ∀ v ∈ vs, v.oneCell' = true)
    (hr : K (a.put o.dst undef) (w.setRow b vs.toArray)) : o.wp P a w K Q := by
  obtain ⟨d, hu, hd, hi⟩ := W
  exact wp_store_row ty x y ho b vs.toArray hx hy t cs.toArray h (by simpa using hi) (by simpa using hl) (all_oneCell_toArray h1) hr
theorem wp_ldB {ty t : TypeId} {x : Operand} {b : Nat} {cs : List Value} (ho : o.op = .load ty x) (hx : a.eval x = .pointer (some ⟨b, 0, none⟩)) (h : Blk w b cs t) (W : Whole P ty cs.length)
    (hr : K (a.put o.dst (.agg cs.toArray)) w) : o.wp P a w K Q := by
  obtain ⟨d, hu, hd, hi⟩ := W
  exact wp_load_mid ty x ho b 0 hx cs d h.range hu hd hi hr
/-- A variable is made, at a place that has a name. -/
theorem wp_alB {ty : TypeId} {zs : List Value} (ho : o.op = .alloc ty) (hz : (P.info? ty).map (·.zero) = some (some (.agg zs.toArray)))
    (hr : ∀ p, w.heap.size ≤ p → Blk (w.alloc (.cells zs.toArray ty)) p zs ty → K (a.put o.dst (.pointer (some ⟨p, 0, none⟩))) (w.alloc (.cells zs.toArray ty))) : o.wp P a w K Q := by
  have := hr w.heap.size (Nat.le_refl _) (Blk.new w zs ty rfl)
  unfold Oper.wp execOp
  cases hq : P.info? ty with
  | none => simp [hq] at hz
  | some i =>
    simp [hq] at hz
    simp [ho, Instr.alloc, zeroValue, typeInfo, hq, hz, newVar, newRow, Value.cells, Oper.upon, go_sem]
    exact this
theorem wp_al {ty : TypeId} {zs : List Value} (ho : o.op = .alloc ty) (hz : (P.info? ty).map (·.zero) = some (some (.agg zs.toArray)))
    (hr : K (a.put o.dst (.pointer (some ⟨w.heap.size, 0, none⟩))) (w.alloc (.cells zs.toArray ty))) : o.wp P a w K Q := by
  unfold Oper.wp execOp
  cases hq : P.info? ty with
  | none => simp [hq] at hz
  | some i =>
    simp [hq] at hz
    simp [ho, Instr.alloc, zeroValue, typeInfo, hq, hz, newVar, newRow, Value.cells, Oper.upon, go_sem]
    exact hr
end
end Go.Proofs.YtoegjibeomhekaaGreat
