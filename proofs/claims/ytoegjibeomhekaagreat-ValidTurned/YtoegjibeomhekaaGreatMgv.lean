/- The reference's amounts: of, bits, neg, Is, Bits. -/
import Derived.Test.YtoegjibeomhekaaGreatRle
namespace Go.Proofs.YtoegjibeomhekaaGreat
set_option linter.unusedSimpArgs false
set_option linter.unusedVariables false
open Go.RowKit
set_option maxRecDepth 100000
/-- v is the amount M, without noughts on top. -/
def Mv (w : World) (v : Value) (M : Nat) : Prop := (v = .slice none 0 0 ∧ M = 0) ∨ ∃ (b c : Nat), v = .slice (some ⟨b, 0, none⟩) (nw M) c ∧ nw M ≤ c ∧ b < w.heap.size ∧ ∀ i, i < nw M → w.cell? ⟨b, i, none⟩ = some (.int .u32 (dig M i : Nat))
theorem Mv.old {w : World} {v : Value} {M : Nat} (h : Mv w v M) : ∃ (p : Option Addr) (c : Nat), v = .slice p (nw M) c ∧ nw M ≤ c ∧
    (0 < nw M → ∃ b, p = some ⟨b, 0, none⟩ ∧ b < w.heap.size ∧ ∀ i, i < nw M → w.cell? ⟨b, i, none⟩ = some (.int .u32 (dig M i : Nat))) := by
  rcases h with ⟨rfl, rfl⟩ | ⟨b, c, rfl, hc, hl, hx⟩
  · exact ⟨none, 0, rfl, Nat.le_refl _, fun h => absurd h (by decide)⟩
  · exact ⟨_, c, rfl, hc, fun _ => ⟨b, rfl, hl, hx⟩⟩
theorem mv_nil (w : World) : Mv w (.slice none 0 0) 0 := .inl ⟨rfl, rfl⟩
theorem Mv.call {w w' : World} {v : Value} {M : Nat} (h : Mv w v M) (hb : Below w.heap.size w w') : Mv w' v M := by
  rcases h with h | ⟨b, c, e, hc, hl, hx⟩
  · exact .inl h
  · exact .inr ⟨b, c, e, hc, Nat.lt_of_lt_of_le hl hb.size, fun i hi => by rw [hb.cell (p := ⟨b, i, none⟩) hl]; exact hx i hi⟩
/-- The n lowest words, as cells. -/
def ds (M n : Nat) : List Value := (List.range n).map fun i => .int .u32 (dig M i : Nat)
theorem ds_len (M n : Nat) : (ds M n).length = n := by simp [ds]
theorem ds_get {M n i : Nat} (h : i < n) : (ds M n)[i]? = some (.int .u32 (dig M i : Nat)) := by simp [ds, h]
theorem ds_succ (M n : Nat) : ds M (n + 1) = ds M n ++ [.int .u32 (dig M n : Nat)] := by simp [ds, List.range_succ]
theorem info_u32 : (Tryz.prog.info? 27).map (fun i => (i.zero, i.size, i.bytes)) = some (some (.int .u32 0), 1, 4) := by kernel_rfl
theorem trim_nil (w : World) : Calls Tryz.prog 51 #[.slice none 0 0] w fun e w' => e = .returned (.slice none 0 0) ∧ w' = w := by
  go_enter Tryz.func51, Tryz.ntmps51
  go_wp2
  go_loop [3] (fun v => v = .int .i64 0) (fun v => 0)
  case atStart => rfl
  case round =>
    obtain rfl := hrel
    go_wp2
    go_ret
    exact ⟨rfl, rfl⟩
/-- Where a slice lies, if anywhere: at B or behind. -/
def Fr (B : Nat) (v : Value) : Prop := ∀ b, v.ownBlock = some b → B ≤ b
theorem trim_own {w : World} {base n M : Nat} {v : Value} (h : w.ownsRow base 27 1 v n (ds M n)) (hM : M < bb ^ n) (hn : n ≤ 1000000) :
    Calls Tryz.prog 51 #[v] w fun e w' => ∃ v', e = .returned v' ∧ Mv w' v' M ∧ Fr base v' ∧ w' = w := by
  rcases h.2 with ⟨rfl, rfl⟩ | ⟨g, cap, cur, rfl, hb, hg, hc, _, hs, hx⟩
  · have h0 : M = 0 := by have := hM; simp at this; omega
    subst h0
    exact (trim_nil w).mono fun e w' ⟨e1, e2⟩ => ⟨_, e1, mv_nil _, (fun b hb => by cases hb), e2⟩
  · have hm : Mg w g n M := ⟨hM, fun i hi => by
      have := h.cells (g := g) rfl i _ (ds_get hi)
      rw [show (⟨g, 0, none⟩ : Addr).add i = ⟨g, i, none⟩ by simp [Addr.add]; intro h; rw [h]] at this
      exact this⟩
    have hl : g < w.heap.size := (Array.getElem?_eq_some_iff.1 hg).1
    have hnw : nw M ≤ n := nw_le_of hM
    refine (trim_any w hm hc hn).mono fun e w' ⟨e1, e2⟩ => ⟨_, e1, (.inr ⟨g, _, rfl, by omega, by rw [e2]; exact hl, fun i hi => by rw [e2]; exact hm.2 i (by omega)⟩), (fun b hb' => by cases hb'; exact hb), e2⟩
/-- Behind an append to a row of one's own. -/
theorem own_push {w wr w1 : World} {B base k M : Nat} {v v' : Value} {o : Obj} (hB : B ≤ base) (hbr : base ≤ wr.heap.size) (hown : wr.ownsRow base 27 1 v k (ds M k)) (hb : Below B w wr)
    (hown' : w1.ownsRow base 27 1 v' (k + 1) (ds M k ++ [.int .u32 (dig M k : Nat)])) (hg : (wr.alloc o).grownBy w1 v.ownBlock) :
    w1.ownsRow base 27 1 v' (k + 1) (ds M (k + 1)) ∧ Below B w w1 ∧ base ≤ w1.heap.size ∧ Below base wr w1 := by
  have h1 : ∀ j, v.ownBlock = some j → base ≤ j := fun j hj => (hown.lt j hj).1
  have hs := hg.size
  simp only [World.size_alloc] at hs
  refine ⟨by rw [ds_succ]; exact hown', (hb.alloc (by omega) o).grown hg (by simp; omega) (fun j hj => Nat.le_trans hB (h1 j hj)), by omega, ((Below.refl _ _).alloc hbr o).grown hg (by simp; omega) h1⟩
end Go.Proofs.YtoegjibeomhekaaGreat
