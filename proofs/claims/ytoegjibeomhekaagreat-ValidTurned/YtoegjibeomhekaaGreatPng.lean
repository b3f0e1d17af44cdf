/- Package point: Mid. -/
import Derived.Test.YtoegjibeomhekaaGreatPnf
import Derived.ArgAppend
namespace Go.Proofs.YtoegjibeomhekaaGreat
set_option linter.unusedSimpArgs false
set_option linter.unusedVariables false
open Go.RowKit
set_option maxRecDepth 100000
/-- Where a slice lies, if anywhere: at B or behind. -/
def Fq (B : Nat) (v : Value) : Prop := ∀ b, v.ownBlock = some b → B ≤ b
/-- Two slices lie in no common block. -/
def Ds (u v : Value) : Prop := ∀ k, u.ownBlock = some k → v.ownBlock ≠ some k
theorem Ds.symm {u v : Value} (h : Ds u v) : Ds v u := fun k h1 h2 => h k h2 h1
theorem Ds.kept {u v : Value} (h : Ds u v) : v.ownBlock = none ∨ v.ownBlock ≠ u.ownBlock := by
  rcases hv : v.ownBlock with _ | k
  · exact .inl rfl
  · exact .inr fun e => h k e.symm hv
theorem Ds.step {u u' v : Value} {B : Nat} (h : Ds u v) (hu : u'.ownBlock = u.ownBlock ∨ Fq B u') (hv : ∀ k, v.ownBlock = some k → k < B) : Ds u' v := fun k h1 h2 => by
  rcases hu with e | e
  · exact h k (by rw [← e]; exact h1) h2
  · have := e k h1
    have := hv k h2
    omega
theorem run_append_own2 {P : Program} (w : World) (base : Nat) (t ty e : TypeId) (i : TypeInfo) (z : Value) (size bytes : Nat) (ht : P.underlying t = some (.slice e)) (hi : P.info? e = some i) (hz : i.zero = some z)
    (hsize : i.size = size) (hby : i.bytes = bytes) (hzs : z.cells.size = size) (hsz : 0 < size)
    (v : Value) (n : Nat) (xs : List Value) (hown : w.ownsRow base e size v n xs)
    (a : Addr) (m c : Nat) (news : List Value) (hl : news.length = m * size) (hnews : ∀ j u, news[j]? = some u → w.cell? (a.add j) = some u) (h1 : ∀ u ∈ news, u.oneCell' = true)
    (h63 : n + m ≤ maxLen) (hbytes : (n + m) * bytes ≤ 140737488355328) (hbase : base ≤ w.heap.size) :
    ∃ v' w', (Builtin.append_ #[t, t] ty #[v, .slice (some a) m c]).run P w = .ok v' w' ∧ w'.ownsRow base e size v' (n + m) (xs ++ news) ∧ w.grownBy w' v.ownBlock ∧ (v'.ownBlock = v.ownBlock ∨ Fq w.heap.size v') := by
  obtain ⟨v', w', hr, h2, h3, _⟩ := run_append_own w base t ty e i z size bytes ht hi hz hsize hby hzs hsz v n xs hown a m c news hl hnews h1 h63 hbytes hbase
  refine ⟨v', w', hr, h2, h3, ?_⟩
  rcases hown.2 with ⟨rfl, rfl⟩ | ⟨g, cap, cur, rfl, hbg, hg, hnc, hcm, hcs, htake⟩
  · have hx : xs = [] := List.eq_nil_of_length_eq_zero (by simpa using hown.1)
    subst hx
    obtain ⟨v2, w2, hr2, h4, _, _⟩ := run_append_own w w.heap.size t ty e i z size bytes ht hi hz hsize hby hzs hsz (.slice none 0 0) 0 [] (World.ownsRow_nil _ _ _ _) a m c news hl hnews h1 h63 hbytes (Nat.le_refl _)
    rw [hr] at hr2
    obtain ⟨rfl, rfl⟩ : v' = v2 ∧ w' = w2 := by injection hr2 with e1 e2; exact ⟨e1, e2⟩
    exact .inr fun b hb => (h4.lt b hb).1
  · by_cases hroom : n + m ≤ cap
    · have hfit : n * i.size + news.length ≤ cur.size := by rw [hl, hcs, hsize, ← Nat.add_mul]; exact Nat.mul_le_mul_right _ hroom
      have hr2 := run_append_room (P := P) w t ty e i ht hi g n cap cur hg a m c news (by rw [hsize]; exact hl) hnews h1 hroom hfit
      rw [hr] at hr2
      injection hr2 with e1 e2
      rw [e1]
      exact .inl rfl
    · have holds : ∀ j u, xs[j]? = some u → w.cell? ((⟨g, 0, none⟩ : Addr).add j) = some u := hown.cells (g := g) rfl
      obtain ⟨v2, w2, hr2, h4, _⟩ := run_append_arg_grows w t ty e i z size bytes ht hi hz hsize hby hzs hsz ⟨g, 0, none⟩ n cap xs hown.1 holds a m c news hl hnews (by omega) h63 hbytes
      rw [hr] at hr2
      obtain ⟨rfl, rfl⟩ : v' = v2 ∧ w' = w2 := by injection hr2 with e1 e2; exact ⟨e1, e2⟩
      exact .inr fun b hb => (h4.lt b hb).1
theorem wp_append_own2 {P : Program} (w : World) {o : Oper} {a : Act} {K : Act → World → Prop} {Q : Exit → Act → World → Prop} (s x : Operand) (t : TypeId)
    (ho : o.op = .call { callee := .builtin .append, args := #[s, x], argTypes := #[t, t] })
    (base : Nat) (e : TypeId) (i : TypeInfo) (z : Value) (size bytes : Nat) (ht : P.underlying t = some (.slice e)) (hi : P.info? e = some i) (hz : i.zero = some z)
    (hsize : i.size = size) (hby : i.bytes = bytes) (hzs : z.cells.size = size) (hsz : 0 < size)
    (v : Value) (n : Nat) (xs : List Value) (hs : a.eval s = v) (hown : w.ownsRow base e size v n xs)
    (ad : Addr) (m c : Nat) (news : List Value) (hx : a.eval x = .slice (some ad) m c) (hl : news.length = m * size) (hnews : ∀ j u, news[j]? = some u → w.cell? (ad.add j) = some u) (h1 : ∀ u ∈ news, u.oneCell' = true)
    (h63 : n + m ≤ maxLen) (hbytes : (n + m) * bytes ≤ 140737488355328) (hbase : base ≤ w.heap.size)
    (h : ∀ v' w', w'.ownsRow base e size v' (n + m) (xs ++ news) → w.grownBy w' v.ownBlock → (v'.ownBlock = v.ownBlock ∨ Fq w.heap.size v') → K (a.put o.dst v') w') : o.wp P a w K Q := by
  obtain ⟨v', w', hr, h2, h3, h4⟩ := run_append_own2 w base t o.type e i z size bytes ht hi hz hsize hby hzs hsz v n xs hown ad m c news hl hnews h1 h63 hbytes hbase
  unfold Oper.wp execOp
  simp only [ho, resolve, invoke, builtin, Sem.run_bind, Sem.run_pure, Result.andThen_ok, List.map_toArray, List.map_cons, List.map_nil, hs, hx, hr]
  exact h v' w' h2 h3 h4
theorem info_rat : (Tryz.prog.info? 45).map (fun i => (i.zero, i.size, i.bytes)) = some (some (.agg (rr false 0 false 0).toArray), 66, 264) := by kernel_rfl
theorem Keep.grown {G : List Nat} {w0 w w' : World} {row : Option Nat} (h : Keep G w0 w) (hg : w.grownBy w' row) (hr : ∀ k, row = some k → k ∈ G ∨ w0.heap.size ≤ k) : Keep G w0 w' :=
  ⟨Nat.le_trans h.1 hg.size, fun k hk hG => (hg.block k (Nat.lt_of_lt_of_le hk h.1) (fun e => by
    rcases hr k e.symm with h1 | h1
    · exact hG h1
    · omega)).trans (h.2 k hk hG)⟩
theorem Blk.grown {w w' : World} {b : Nat} {cs : List Value} {t : TypeId} {row : Option Nat} (h : Blk w b cs t) (hg : w.grownBy w' row) (hr : row ≠ some b) : Blk w' b cs t :=
  (hg.block b h.lt (fun e => hr e.symm)).trans h
theorem wp_bsL {o : Oper} {a : Act} {w : World} {K : Act → World → Prop} {Q : Exit → Act → World → Prop} {x : Operand} {X : List Value} (hX : Rc X) (ho : o.op = .buildSlice 116 1 #[(0, x)]) (hx : a.eval x = .agg X.toArray)
    (hr : ∀ p, w.heap.size ≤ p → Blk (w.alloc (.cells X.toArray 45)) p X 45 → K (a.put o.dst (.slice (some ⟨p, 0, none⟩) 1 1)) (w.alloc (.cells X.toArray 45))) : o.wp Tryz.prog a w K Q := by
  have := hr w.heap.size (Nat.le_refl _) (Blk.new w X 45 rfl)
  obtain ⟨s, N, t, M, rfl⟩ := hX
  unfold Oper.wp execOp
  simp only [ho, Sem.run_bind]
  rw [show Array.map (fun x : Nat × Operand => (x.fst, a.eval x.snd)) #[(0, x)] = #[(0, .agg (rr s N t M).toArray)] by simp [hx], r_build1]
  exact this
/-- The cells of the first k, one behind the other. -/
def cat (A : Nat → List Value) : Nat → List Value
  | 0 => []
  | k + 1 => cat A k ++ A k
def gl (v : Value) : List Nat := v.ownBlock.toList
theorem gl_mem {v : Value} {k : Nat} : k ∈ gl v ↔ v.ownBlock = some k := by
  unfold gl
  rcases v.ownBlock with _ | j
  · simp
  · simp
    constructor <;> intro h <;> exact h.symm
end Go.Proofs.YtoegjibeomhekaaGreat
