/- A region that draws its order, whose loads read blocks that nothing in it writes: taken in one order. -/
import Derived.Test.YtcfncekphdkphaaMem
import Derived.Deep.RegionHeld3
namespace Go.Proofs.Ytcfncekphdkphaa
open Go.RowKit
set_option maxRecDepth 100000
/-- The blocks of w0 but those of G are as they were. -/
def Keep (G : List Nat) (w0 w : World) : Prop := w0.heap.size ≤ w.heap.size ∧ ∀ k, k < w0.heap.size → k ∉ G → w.heap[k]? = w0.heap[k]?
theorem Keep.refl (G : List Nat) (w : World) : Keep G w w := ⟨Nat.le_refl _, fun _ _ _ => rfl⟩
theorem Keep.drew (G : List Nat) (w : World) : Keep G w w.drew := ⟨Nat.le_refl _, fun _ _ _ => rfl⟩
theorem Keep.call {G : List Nat} {w0 w w' : World} (h : Keep G w0 w) (hb : Below w.heap.size w w') : Keep G w0 w' :=
  ⟨Nat.le_trans h.1 hb.size, fun k hk hg => (hb.block k (Nat.lt_of_lt_of_le hk h.1)).trans (h.2 k hk hg)⟩
theorem Keep.alloc {G : List Nat} {w0 w : World} (h : Keep G w0 w) (o : Obj) : Keep G w0 (w.alloc o) :=
  h.call ((Below.refl _ _).alloc (Nat.le_refl _) o)
theorem Keep.row {G : List Nat} {w0 w : World} (h : Keep G w0 w) {g : Nat} (hg : g ∈ G ∨ w0.heap.size ≤ g) (vs : Array Value) : Keep G w0 (w.setRow g vs) :=
  ⟨by simpa using h.1, fun k hk hn => by
    unfold World.setRow
    rw [Array.getElem?_modify, if_neg (by rintro rfl; rcases hg with hg | hg; exact hn hg; omega)]
    exact h.2 k hk hn⟩
theorem Keep.cell {G : List Nat} {w0 w : World} (h : Keep G w0 w) {g : Nat} (hg : g ∈ G ∨ w0.heap.size ≤ g) (i : Nat) (v : Value) : Keep G w0 (w.setCell ⟨g, i, none⟩ v) :=
  ⟨by simpa [World.setCell] using h.1, fun k hk hn => by
    rw [Below.heap_setCell _ _ _ _ (by rintro rfl; rcases hg with hg | hg; exact hn hg; omega)]
    exact h.2 k hk hn⟩
theorem Blk.keep {w0 w : World} {b : Nat} {cs : List Value} {t : TypeId} {G : List Nat} (h : Blk w0 b cs t) (hK : Keep G w0 w) (hb : b ∉ G) : Blk w b cs t := (hK.2 b h.lt hb).trans h
section
variable {P : Program} {l : List Oper} {Q : Exit → Act → World → Prop} {G : List Nat} {w0 w : World} {a : Act} {fuel : Nat} {listed : Array Bool}
theorem rg_start (G : List Nat) {id : Nat} (hm : P.follows .mixedOrders = true)
    (h : Keep G w w.drew → wpAnyH P .any l.toArray (NoPanic Q) (Keep G w) l.toArray.size (Array.replicate l.toArray.size false) a w.drew) : (Code.region id l.toArray true).wp P Q a w :=
  wp_region_noPanic (wp_region_held_drew hm (Keep.drew G w) h)
/-- An operation that yields v in every world that keeps. -/
theorem rg_take (i : Nat) {o : Oper} {v : Value} (hi : l[i]? = some o) (hs : Region.noSelect l.toArray = true) (hf : Region.free .any l.toArray listed i = true) (hr : (Region.ready .any l.toArray listed).contains i = true)
    (hw : Region.wanted o (yielded l.toArray a.tmps) = true) (hS : Keep G w0 w) (hy : ∀ w', Keep G w0 w' → (execOp a.eval o).run P w' = .ok (.value v) w')
    (h : wpAnyH P .any l.toArray (NoPanic Q) (Keep G w0) fuel (listed.setIfInBounds i true) (a.put o.dst v) w) : wpAnyH P .any l.toArray (NoPanic Q) (Keep G w0) (fuel + 1) listed a w :=
  wpAnyH_take (by simpa using hi) hs hf hr (fun _ _ _ h => h) (.inl ⟨hw, hy⟩) hS h
/-- An operation that isn't wanted. -/
theorem rg_skip (i : Nat) {o : Oper} (hi : l[i]? = some o) (hs : Region.noSelect l.toArray = true) (hf : Region.free .any l.toArray listed i = true) (hr : (Region.ready .any l.toArray listed).contains i = true)
    (hw : Region.wanted o (yielded l.toArray a.tmps) = false) (hS : Keep G w0 w)
    (h : wpAnyH P .any l.toArray (NoPanic Q) (Keep G w0) fuel (listed.setIfInBounds i true) (a.put o.dst undef) w) : wpAnyH P .any l.toArray (NoPanic Q) (Keep G w0) (fuel + 1) listed a w :=
  wpAnyH_take (by simpa using hi) hs hf hr (fun _ _ _ h => h) (.inr ⟨hw, rfl⟩) hS h
/-- The load of a whole block. -/
theorem rg_ld (i : Nat) {o : Oper} {ty t : TypeId} {x : Operand} {b : Nat} {cs : List Value} (hi : l[i]? = some o) (hs : Region.noSelect l.toArray = true) (hf : Region.free .any l.toArray listed i = true) (hr : (Region.ready .any l.toArray listed).contains i = true)
    (hw : Region.wanted o (yielded l.toArray a.tmps) = true) (hS : Keep G w0 w) (ho : o.op = .load ty x) (hx : a.eval x = .pointer (some ⟨b, 0, none⟩)) (hB : Blk w0 b cs t) (hb : b ∉ G) (W : Whole P ty cs.length)
    (h : wpAnyH P .any l.toArray (NoPanic Q) (Keep G w0) fuel (listed.setIfInBounds i true) (a.put o.dst (.agg cs.toArray)) w) : wpAnyH P .any l.toArray (NoPanic Q) (Keep G w0) (fuel + 1) listed a w :=
  rg_take i hi hs hf hr hw hS (fun w' hS' => by
    unfold execOp
    simp only [ho, hx, Instr.loadAt, Instr.sureAddr, Sem.run_bind, Sem.run_pure, Result.andThen_ok, W.load (hB.keep hS' hb)]) h
/-- The load of what lies behind a block's first cell. -/
theorem rg_ldT (i : Nat) {o : Oper} {ty t : TypeId} {x : Operand} {b : Nat} {c : Value} {cs : List Value} (hi : l[i]? = some o) (hs : Region.noSelect l.toArray = true) (hf : Region.free .any l.toArray listed i = true) (hr : (Region.ready .any l.toArray listed).contains i = true)
    (hw : Region.wanted o (yielded l.toArray a.tmps) = true) (hS : Keep G w0 w) (ho : o.op = .load ty x) (hx : a.eval x = .pointer (some ⟨b, 1, none⟩)) (hB : Blk w0 b (c :: cs) t) (hb : b ∉ G) (W : Whole P ty cs.length)
    (h : wpAnyH P .any l.toArray (NoPanic Q) (Keep G w0) fuel (listed.setIfInBounds i true) (a.put o.dst (.agg cs.toArray)) w) : wpAnyH P .any l.toArray (NoPanic Q) (Keep G w0) (fuel + 1) listed a w :=
  rg_take i hi hs hf hr hw hS (fun w' hS' => by
    obtain ⟨d, hu, hd, hi⟩ := W
    unfold execOp
    simp only [ho, hx, Instr.loadAt, Instr.sureAddr, Sem.run_bind, Sem.run_pure, Result.andThen_ok, run_loadVar_mid w' b 1 ty cs d (hB.keep hS' hb).tail hu hd hi]) h
/-- A struct or an array is built. -/
theorem rg_build (i : Nat) {o : Oper} {ty : TypeId} {parts : Array (Nat × Operand)} {cs : Array Value} (hi : l[i]? = some o) (hs : Region.noSelect l.toArray = true) (hf : Region.free .any l.toArray listed i = true) (hr : (Region.ready .any l.toArray listed).contains i = true)
    (hw : Region.wanted o (yielded l.toArray a.tmps) = true) (hS : Keep G w0 w) (ho : o.op = .build ty parts) {pl : List (Nat × Value)} (hb : P.built ty pl = some cs) (hl : (parts.map fun (i, x) => (i, a.eval x)).toList = pl)
    (h : wpAnyH P .any l.toArray (NoPanic Q) (Keep G w0) fuel (listed.setIfInBounds i true) (a.put o.dst (.agg cs)) w) : wpAnyH P .any l.toArray (NoPanic Q) (Keep G w0) (fuel + 1) listed a w :=
  rg_take i hi hs hf hr hw hS (fun w' _ => by
    unfold execOp
    simp only [ho, Sem.run_bind, run_build w' ty _ _ (hl ▸ hb), Result.andThen_ok, Sem.run_pure]) h
/-- The one operation that may come up. -/
theorem rg_eff (i : Nat) {o : Oper} (hi : l[i]? = some o) (hr : Region.ready .any l.toArray listed = [i]) (hw : Region.wanted o (yielded l.toArray a.tmps) = true)
    (h : ∀ K : Act → World → Prop, (∀ a' w', Keep G w0 w' → (Keep G w0 w' → wpAnyH P .any l.toArray (NoPanic Q) (Keep G w0) fuel (listed.setIfInBounds i true) a' w') → K a' w') → o.wp P a w K (NoPanic Q)) :
    wpAnyH P .any l.toArray (NoPanic Q) (Keep G w0) (fuel + 1) listed a w :=
  wpAnyH_all hr (by simp) fun j hj => by
    obtain rfl : j = i := by simpa using hj
    unfold wpOp
    have hi' : l.toArray[j]? = some o := by simpa using hi
    simp only [hi', hw, if_true]
    exact .inl (h _ fun a' w' h1 h2 => ⟨h1, h2 h1⟩)
/-- Two operations that may come up. -/
theorem rg_two (i j : Nat) {o o' : Oper} (hi : l[i]? = some o) (hj : l[j]? = some o') (hr : Region.ready .any l.toArray listed = [i, j]) (hw : Region.wanted o (yielded l.toArray a.tmps) = true) (hw' : Region.wanted o' (yielded l.toArray a.tmps) = true)
    (h : ∀ K : Act → World → Prop, (∀ a' w', Keep G w0 w' → (Keep G w0 w' → wpAnyH P .any l.toArray (NoPanic Q) (Keep G w0) fuel (listed.setIfInBounds i true) a' w') → K a' w') → o.wp P a w K (NoPanic Q))
    (h' : ∀ K : Act → World → Prop, (∀ a' w', Keep G w0 w' → (Keep G w0 w' → wpAnyH P .any l.toArray (NoPanic Q) (Keep G w0) fuel (listed.setIfInBounds j true) a' w') → K a' w') → o'.wp P a w K (NoPanic Q)) :
    wpAnyH P .any l.toArray (NoPanic Q) (Keep G w0) (fuel + 1) listed a w :=
  wpAnyH_all hr (by simp) fun k hk => by
    rcases List.mem_cons.1 hk with rfl | hk
    · unfold wpOp
      have hi' : l.toArray[k]? = some o := by simpa using hi
      simp only [hi', hw, if_true]
      exact .inl (h _ fun a' w' h1 h2 => ⟨h1, h2 h1⟩)
    · obtain rfl : k = j := by simpa using hk
      unfold wpOp
      have hj' : l.toArray[k]? = some o' := by simpa using hj
      simp only [hj', hw', if_true]
      exact .inl (h' _ fun a' w' h1 h2 => ⟨h1, h2 h1⟩)
/-- Three operations that may come up. -/
theorem rg_three (i j m : Nat) {o o' o'' : Oper} (hi : l[i]? = some o) (hj : l[j]? = some o') (hm : l[m]? = some o'') (hr : Region.ready .any l.toArray listed = [i, j, m]) (hw : Region.wanted o (yielded l.toArray a.tmps) = true) (hw' : Region.wanted o' (yielded l.toArray a.tmps) = true) (hw'' : Region.wanted o'' (yielded l.toArray a.tmps) = true)
    (h : ∀ K : Act → World → Prop, (∀ a' w', Keep G w0 w' → (Keep G w0 w' → wpAnyH P .any l.toArray (NoPanic Q) (Keep G w0) fuel (listed.setIfInBounds i true) a' w') → K a' w') → o.wp P a w K (NoPanic Q))
    (h' : ∀ K : Act → World → Prop, (∀ a' w', Keep G w0 w' → (Keep G w0 w' → wpAnyH P .any l.toArray (NoPanic Q) (Keep G w0) fuel (listed.setIfInBounds j true) a' w') → K a' w') → o'.wp P a w K (NoPanic Q))
    (h'' : ∀ K : Act → World → Prop, (∀ a' w', Keep G w0 w' → (Keep G w0 w' → wpAnyH P .any l.toArray (NoPanic Q) (Keep G w0) fuel (listed.setIfInBounds m true) a' w') → K a' w') → o''.wp P a w K (NoPanic Q)) :
    wpAnyH P .any l.toArray (NoPanic Q) (Keep G w0) (fuel + 1) listed a w :=
  wpAnyH_all hr (by simp) fun k hk => by
    rcases List.mem_cons.1 hk with rfl | hk
    · unfold wpOp
      have hi' : l.toArray[k]? = some o := by simpa using hi
      simp only [hi', hw, if_true]
      exact .inl (h _ fun a' w' h1 h2 => ⟨h1, h2 h1⟩)
    · rcases List.mem_cons.1 hk with rfl | hk
      · unfold wpOp
        have hj' : l.toArray[k]? = some o' := by simpa using hj
        simp only [hj', hw', if_true]
        exact .inl (h' _ fun a' w' h1 h2 => ⟨h1, h2 h1⟩)
      · obtain rfl : k = m := by simpa using hk
        unfold wpOp
        have hm' : l.toArray[k]? = some o'' := by simpa using hm
        simp only [hm', hw'', if_true]
        exact .inl (h'' _ fun a' w' h1 h2 => ⟨h1, h2 h1⟩)
theorem rg_done (hr : Region.ready .any l.toArray listed = []) (h : Q .normal a w) : wpAnyH P .any l.toArray (NoPanic Q) (Keep G w0) fuel listed a w :=
  wpAnyH_done hr (NoPanic.normal h) fuel
end
/-- A region that leaves one frame but for what it has laid: cut behind it. -/
theorem rg_cut2 {P : Program} {id : Nat} {ops : Array Oper} {b : Bool} {Q : Exit → Act → World → Prop} {a : Act} {w : World} (S : World → Prop) (F : Act → Value → Value → Act)
    (h : (Code.region id ops b).wp P (fun e a' w' => e = .normal ∧ ∃ u v, a' = F a u v ∧ S w') a w) (hr : ∀ u v w', S w' → Q .normal (F a u v) w') : (Code.region id ops b).wp P Q a w :=
  Code.wp_mono (fun e a' w' ⟨he, u, v, ha, hs⟩ => by subst he; subst ha; exact hr u v w' hs) h
section
variable {P : Program} {o : Oper} {a : Act} {w : World} {K : Act → World → Prop} {Q : Exit → Act → World → Prop}
theorem wp_st {ty t : TypeId} {x y : Operand} {b : Nat} {cs vs : List Value} (ho : o.op = .store ty x y) (hx : a.eval x = .pointer (some ⟨b, 0, none⟩)) (hy : a.eval y = .agg vs.toArray)
    (h : Blk w b cs t) (hl : cs.length = vs.length) (W : Whole P ty vs.length) (h1 : ∀ v ∈ vs, v.oneCell' = true)
    (hr : K (a.put o.dst undef) (w.setRow b vs.toArray)) : o.wp P a w K Q := by
  obtain ⟨d, hu, hd, hi⟩ := W
  exact wp_store_row ty x y ho b vs.toArray hx hy t cs.toArray h (by simpa using hi) (by simpa using hl) (all_oneCell_toArray h1) hr
theorem wp_ldB {ty t : TypeId} {x : Operand} {b : Nat} {cs : List Value} (ho : o.op = .load ty x) (hx : a.eval x = .pointer (some ⟨b, 0, none⟩)) (h : Blk w b cs t) (W : Whole P ty cs.length)
    (hr : K (a.put o.dst (.agg cs.toArray)) w) : o.wp P a w K Q := by
  obtain ⟨d, hu, hd, hi⟩ := W
  exact wp_load_mid ty x ho b 0 hx cs d h.range hu hd hi hr
/-- A variable is made, at a place that has a name. -/
theorem wp_alB {ty : TypeId} {zs : List Value} (ho : o.op = .alloc ty) (hz : (P.info? ty).map (·.zero) = some (some (.agg zs.toArray)))
    (hr : ∀ p, w.heap.size ≤ p → Blk (w.alloc (.cells zs.toArray ty)) p zs ty → K (a.put o.dst (.pointer (some ⟨p, 0, none⟩))) (w.alloc (.cells zs.toArray ty))) : o.wp P a w K Q := by
  have := hr w.heap.size (Nat.le_refl _) (Blk.new w zs ty rfl)
  unfold Oper.wp execOp
  cases hq : P.info? ty with
  | none => simp [hq] at hz
  | some i =>
    simp [hq] at hz
    simp [ho, Instr.alloc, zeroValue, typeInfo, hq, hz, newVar, newRow, Value.cells, Oper.upon, go_sem]
    exact this
theorem wp_al {ty : TypeId} {zs : List Value} (ho : o.op = .alloc ty) (hz : (P.info? ty).map (·.zero) = some (some (.agg zs.toArray)))
    (hr : K (a.put o.dst (.pointer (some ⟨w.heap.size, 0, none⟩))) (w.alloc (.cells zs.toArray ty))) : o.wp P a w K Q := by
  unfold Oper.wp execOp
  cases hq : P.info? ty with
  | none => simp [hq] at hz
  | some i =>
    simp [hq] at hz
    simp [ho, Instr.alloc, zeroValue, typeInfo, hq, hz, newVar, newRow, Value.cells, Oper.upon, go_sem]
    exact hr
end
end Go.Proofs.Ytcfncekphdkphaa
