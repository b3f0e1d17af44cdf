/- Joined of: Yct Yro Ypa. -/
import Derived.Test.YtpalfmgloddhcaaGreatDoorYdr
import Derived.Test.YtpalfmgloddhcaaGreatDoorYsl
/- How many lines a text has; the reader that is ahead of the first. -/
namespace Go.Proofs.YtpalfmgloddhcaaGreatDoor
set_option linter.unusedSimpArgs false
set_option linter.unusedVariables false
open Go.RowKit
set_option maxRecDepth 100000
theorem countByte_eq (c : UInt8) (l : List UInt8) : Lib.countByte l c = l.count c := rfl
theorem suf_iff (l : List UInt8) : Lib.hasSuffix l [10] = true ↔ l.getLast? = some 10 := by
  unfold Lib.hasSuffix List.isSuffixOf
  rw [← List.head?_reverse]
  cases l.reverse with
  | nil => simp [List.isPrefixOf]
  | cons c r => simp [List.isPrefixOf]; exact eq_comm
set_option maxHeartbeats 2000000 in
theorem count_any (l : List UInt8) (w : World) (hl : l.length ≤ 1000000) : Calls Tryz.prog 36 #[.string (tx l)] w fun e w' => e = .returned (.int .i64 (cnt l : Nat)) ∧ w' = w := by
  have HC : Hid (∀ w, Calls Tryz.prog 59 #[.string (tx l), .string ⟨#[10]⟩] w fun e w' => e = .returned (.int .i64 (l.count 10 : Nat)) ∧ w' = w) := fun w => Tryz.strings_Count_one (tx l) 10 w
  have HS0 : ∀ w, Calls Tryz.prog 60 #[.string (tx l), .string ⟨#[10]⟩] w fun e w' => e = .returned (.bool (Lib.hasSuffix l [10])) ∧ w' = w := fun w => Tryz.strings_HasSuffix (tx l) ⟨#[10]⟩ w (by rw [tx_size]; omega)
  have hcl : l.count 10 ≤ l.length := List.count_le_length
  by_cases h0 : l = []
  · have g0 : (tx l).toList.isEmpty = true := by rw [tx_empty, h0]; rfl
    have e1 : cnt l = l.count 10 := by unfold cnt; rw [if_pos (.inl h0)]; rfl
    have HS := Lib.hid HS0
    rw [e1]
    clear h0 e1 HS0
    go_enter Tryz.func36, Tryz.ntmps36
    go_wp2_with fail
    refine (HC.out _).mono ?_
    rintro e w1 ⟨rfl, rfl⟩
    go_wp2_with (first | (go_at_call 60; refine (HS.out _).mono ?_; rintro e w2 ⟨rfl, rfl⟩))
    go_ret
    exact ⟨rfl, rfl⟩
  · have g0 : (tx l).toList.isEmpty = false := by rw [tx_empty]; simpa using h0
    by_cases h1 : l.getLast? = some 10
    · rw [(suf_iff l).2 h1] at HS0
      have e1 : cnt l = l.count 10 := by unfold cnt; rw [if_pos (.inr h1)]; rfl
      have HS := Lib.hid HS0
      rw [e1]
      clear h0 h1 e1 HS0
      go_enter Tryz.func36, Tryz.ntmps36
      go_wp2_with fail
      refine (HC.out _).mono ?_
      rintro e w1 ⟨rfl, rfl⟩
      go_wp2_with (first | (go_at_call 60; refine (HS.out _).mono ?_; rintro e w2 ⟨rfl, rfl⟩))
      go_ret
      exact ⟨rfl, rfl⟩
    · rw [show Lib.hasSuffix l [10] = false by
        cases h : Lib.hasSuffix l [10]
        · rfl
        · exact absurd ((suf_iff l).1 h) h1] at HS0
      have e1 : ((cnt l : Nat) : Int) = (l.count 10 : Nat) + 1 := by
        unfold cnt
        rw [if_neg (by intro h; rcases h with h | h; exact h0 h; exact h1 h)]
        simp
      have HS := Lib.hid HS0
      have k1 : IntKind.i64.wrap ((l.count 10 : Nat) + 1 : Int) = (l.count 10 : Nat) + 1 := by rw [IntKind.wrap_i64]; omega
      rw [e1]
      clear h0 h1 e1 HS0
      go_enter Tryz.func36, Tryz.ntmps36
      go_wp2_with fail
      refine (HC.out _).mono ?_
      rintro e w1 ⟨rfl, rfl⟩
      go_wp2_with (first | (go_at_call 60; refine (HS.out _).mono ?_; rintro e w2 ⟨rfl, rfl⟩))
      go_ret
      exact ⟨rfl, rfl⟩
theorem cnt_le (l : List UInt8) : cnt l ≤ l.length + 1 := by
  have : l.count 10 ≤ l.length := List.count_le_length
  unfold cnt; split <;> omega
theorem RdL.o {w : World} {v : Value} {L : List (Nat × List (List UInt8))} (h : RdL w v L) : RdO w v L :=
  h.imp id fun ⟨b, c, e, hc, hh⟩ => ⟨b, 0, c, e, hc, fun i n ws hi => by
    obtain ⟨h1, x, h2, h3⟩ := hh i n ws hi
    exact ⟨by rw [Nat.zero_add]; exact h1, x, by rw [Nat.zero_add]; exact h2, h3⟩⟩
end Go.Proofs.YtpalfmgloddhcaaGreatDoor

/- The reader that is ahead of a text's first line. -/
namespace Go.Proofs.YtpalfmgloddhcaaGreatDoor
set_option linter.unusedSimpArgs false
set_option linter.unusedVariables false
open Go.RowKit
set_option maxRecDepth 100000
theorem wholeLn (n : Int) (x : Value) : Whole Tryz.prog 67 [.int .i64 n, x].length := ⟨_, Tryz.underlying67, rfl, by kernel_rfl⟩
theorem Keep.belowB {G : List Nat} {w0 w w' : World} (h : Keep G w0 w) (hb : Below w0.heap.size w w') : Keep G w0 w' :=
  ⟨Nat.le_trans h.1 hb.size, fun k hk hg => (hb.block k hk).trans (h.2 k hk hg)⟩
theorem builtRd (v : Value) (a : Option Addr) (n c : Nat) (h : v = .slice a n c) : Tryz.prog.built 72 [(1, v)] = some #[.int .i64 0, .slice none 0 0, .bool false, v] := by subst h; kernel_rfl
/-- append of one line, as an operation. -/
theorem wp_app_line {o : Oper} {a : Act} {w : World} {K : Act → World → Prop} {Q : Exit → Act → World → Prop} {s x : Operand} {B n g : Nat} {v c1 c2 : Value} {xs : List Value}
    (ho : o.op = .call { callee := .builtin .append, args := #[s, x], argTypes := #[70, 70] }) (hs : a.eval s = v) (hx : a.eval x = .slice (some ⟨g, 0, none⟩) 1 1)
    (hown : w.ownsRow B 67 2 v n xs) (hg : Blk w g [c1, c2] 67) (h1 : c1.oneCell' = true) (h2 : c2.oneCell' = true) (hn : n ≤ 2000000) (hB : B ≤ w.heap.size)
    (hr : ∀ v' w', w'.ownsRow B 67 2 v' (n + 1) (xs ++ [c1, c2]) → Below B w w' → (∀ x m ys, w.ownsRow B 9 1 x m ys → w'.ownsRow B 9 1 x m ys) → K (a.put o.dst v') w') : o.wp Tryz.prog a w K Q := by
  obtain ⟨i0, hi, hz0, hz1, hz2⟩ := info_parts info_line
  refine wp_append_own w s x 70 ho B 67 i0 (.agg #[.int .i64 0, .slice none 0 0]) 2 32 Tryz.underlying70 hi hz0 hz1 hz2 rfl (by decide) v n xs hs hown ⟨g, 0, none⟩ 1 1 [c1, c2] hx rfl ?_ ?_ ?_ ?_ hB ?_
  · intro j y hj
    match j, hj with
    | 0, hj => simp at hj; subst hj; exact hg.cell rfl
    | 1, hj => simp at hj; subst hj; exact hg.cell rfl
  · intro y hy
    simp only [List.mem_cons, List.not_mem_nil, or_false] at hy
    rcases hy with rfl | rfl <;> assumption
  · unfold maxLen; omega
  · omega
  · intro v' w' k1 k2 _
    exact hr v' w' k1 (Below.grown (Below.refl _ _) k2 hB fun k hk => (hown.lt k hk).1) fun x m ys hx => owns_apart hown hx k2
theorem wp_one_el {o : Oper} {a : Act} {w : World} {K : Act → World → Prop} {Q : Exit → Act → World → Prop} {ST T : TypeId} {x : Operand} {cs : List Value} {k m : Nat} {z : Value} (hu : Tryz.prog.underlying ST = some (.slice T)) (hi : (Tryz.prog.info? T).map (fun i => (i.zero, i.size, i.bytes)) = some (some z, k, m)) (h0 : 0 < k) (hk : k ≤ 1000) (hl : cs.length = k)
    (ho : o.op = .buildSlice ST 1 #[(0, x)]) (hx : a.eval x = .agg cs.toArray)
    (hr : ∀ p, w.heap.size ≤ p → Blk (w.alloc (.cells cs.toArray T)) p cs T → K (a.put o.dst (.slice (some ⟨p, 0, none⟩) 1 1)) (w.alloc (.cells cs.toArray T))) : o.wp Tryz.prog a w K Q := by
  have := hr _ (Nat.le_refl _) (Blk.new w cs T rfl)
  obtain ⟨i0, hi0, hz0, hz1, hz2⟩ := info_parts hi
  have hb := run_bs (P := Tryz.prog) w hu hi0 hz1 hz0 (Ps := [cs]) (fun P hP => by
    simp only [List.mem_cons, List.not_mem_nil, or_false] at hP
    rw [hP]; exact hl) (by simp; omega) (by simp; omega)
  rw [show jn [cs] = cs by simp [jn]] at hb
  unfold Oper.wp execOp
  simp only [ho, Sem.run_bind]
  rw [show Array.map (fun x : Nat × Operand => (x.fst, a.eval x.snd)) #[(0, x)] = (([cs].zipIdx 0).map fun x => (x.2, (.agg x.1.toArray : Value))).toArray by simp [hx]]
  rw [show [cs].length = 1 from rfl] at hb
  rw [hb]
  exact this
/-- Lines that lie in memory, and one more without words behind them. -/
theorem Lnv.more {w w' : World} {B : Nat} {v' : Value} {L : List (Nat × List (List UInt8))} {n : Nat} {cs : List Value} (h2 : Lws w B L cs) (h1 : w'.ownsRow B 67 2 v' (L.length + 1) (cs ++ [.int .i64 (n : Int), .slice none 0 0])) (hk : ∀ x m ys, w.ownsRow B 9 1 x m ys → w'.ownsRow B 9 1 x m ys) : Lnv w' B v' (L ++ [(n, [])]) :=
  ⟨cs ++ [.int .i64 (n : Int), .slice none 0 0], by rw [List.length_append]; exact h1, Lws.snoc (World.ownsRow_nil _ _ _ _) (Lws.mono (fun x m ys h => hk x m ys h) h2)⟩
set_option maxHeartbeats 8000000 in
theorem readerOf_any (l : List UInt8) (w : World) (hl : l.length ≤ 100000) :
    Calls Tryz.prog 22 #[.string (tx l)] w fun e w' => ∃ w0 b, e = .returned (.pointer (some ⟨b, 0, none⟩)) ∧ Rdr w0 b (rd0 l) w' ∧ Below w.heap.size w w0 ∧ Below w.heap.size w w' := by
  have HC := Lib.hid fun w => count_any l w (by omega)
  have HL := Lib.hid fun w => Lines_any l w (by omega)
  have hc := cnt_le l
  have hll := lns_len 1 l
  obtain ⟨L, hL⟩ : ∃ L, lns 1 l = L := ⟨_, rfl⟩
  have e0 : rd0 l = ⟨0, [], false, L ++ [(cnt l + 1, [])]⟩ := by unfold rd0; rw [hL]
  have E0 := Lib.hid e0
  rw [hL] at HL hll
  clear hL e0
  obtain ⟨n, hn⟩ : ∃ n, cnt l = n := ⟨_, rfl⟩
  rw [hn] at HC E0 hc
  clear hn
  have k1 : IntKind.i64.wrap ((n : Int) + 1) = (n : Int) + 1 := by rw [IntKind.wrap_i64]; omega
  have BB := Blk.new w [.int .i64 ((n : Int) + 1), .slice none 0 0] 67 rfl
  have HB := Lib.hid ((Below.refl w.heap.size w).alloc (Nat.le_refl _) (.cells #[.int .i64 ((n : Int) + 1), .slice none 0 0] 67))
  go_enter Tryz.func22, Tryz.ntmps22
  go_wp2_with fail
  refine (HC.out _).mono ?_
  rintro e w1 ⟨rfl, rfl⟩
  go_wp2_with fail
  generalize w1.alloc (.cells #[.int .i64 ((n : Int) + 1), .slice none 0 0] 67) = W at *
  obtain ⟨pw, hpw⟩ : ∃ p, w1.heap.size = p := ⟨_, rfl⟩
  have HPW := Lib.hid hpw
  rw [hpw] at BB ⊢
  clear hpw
  have HBS := Lib.hid HB.out.size
  refine rg_start [] (by kernel_rfl) (fun hS => ?_)
  have hb : Below W.heap.size W W.drew := (Below.refl _ _).drew
  refine rg_take 0 rfl (by kernel_rfl) (by kernel_rfl) (by kernel_rfl) (by rfl) hS (v := ?_) ?_ ?_
  rotate_left
  · (intro w' hS'; go_simp <;> try with_reducible rfl)
  try simp only [Act.put, List.setIfInBounds_toArray, List.set_cons_zero, List.set_cons_succ]
  refine rg_ld 2 rfl (by kernel_rfl) (by kernel_rfl) (by kernel_rfl) (by rfl) hS rfl rfl BB (by simp <;> omega) (wholeLn _ _) ?_
  try simp only [Act.put, List.setIfInBounds_toArray, List.set_cons_zero, List.set_cons_succ]
  refine rg_two 1 3 rfl rfl (by kernel_rfl) (by rfl) (by rfl) (fun K hK => ?_) (fun K hK => ?_)
  · go_simp
    have hbs := hS.1
    refine (HL.out _).mono ?_
    rintro e x1 ⟨v, rfl, ⟨cs, hv1, hv2⟩, h1⟩
    obtain ⟨va, vc, rfl⟩ := owns_shape hv1
    replace hv1 := owns_mono hv1 hbs
    replace hv2 := Lws.mono (fun x m xs h => owns_mono h hbs) hv2
    refine hK _ _ (hS.call h1) (fun hS => ?_)
    clear hK K
    replace hb := bthen hb h1
    try replace an := an.call h1
    clear h1 hbs
    try simp only [Act.put, List.setIfInBounds_toArray, List.set_cons_zero, List.set_cons_succ]
    refine rg_eff 3 rfl (by kernel_rfl) (by rfl) (fun K hK => ?_)
    refine wp_one_el (cs := [.int .i64 ((n : Int) + 1), .slice none 0 0]) Tryz.underlying70 info_line (by decide) (by decide) rfl rfl rfl ?_
    intro pn qn an
    replace hb := hb.alloc hb.size (.cells #[.int .i64 ((n : Int) + 1), .slice none 0 0] 67)
    try replace hv1 := hv1.alloc (.cells #[.int .i64 ((n : Int) + 1), .slice none 0 0] 67)
    try replace hv2 := Lws.mono (fun x m xs h => h.alloc (.cells #[.int .i64 ((n : Int) + 1), .slice none 0 0] 67)) hv2
    refine hK _ _ (hS.alloc _) (fun hS => ?_)
    clear hK K qn
    try simp only [Act.put, List.setIfInBounds_toArray, List.set_cons_zero, List.set_cons_succ]
    refine rg_eff 4 rfl (by kernel_rfl) (by rfl) (fun K hK => ?_)
    refine wp_app_line rfl rfl rfl hv1 an rfl rfl (by omega) hb.size ?_
    intro v2 x2 o2 h2 hin
    have hln := Lnv.more (n := n + 1) hv2 (by rw [show ((n + 1 : Nat) : Int) = (n : Int) + 1 by omega]; exact o2) hin
    obtain ⟨v2a, v2c, rfl⟩ := owns_shape o2
    refine hK _ _ (hS.belowB h2) (fun hS => ?_)
    clear hK K an hv1 hv2 hin o2
    replace hb := hb.trans h2
    clear h2
    try simp only [Act.put, List.setIfInBounds_toArray, List.set_cons_zero, List.set_cons_succ]
    refine rg_build 5 rfl (by kernel_rfl) (by kernel_rfl) (by kernel_rfl) (by rfl) hS rfl (builtRd (.slice v2a (L.length + 1) v2c) v2a (L.length + 1) v2c rfl) (by simp [Act.eval]) ?_
    try simp only [Act.put, List.setIfInBounds_toArray, List.set_cons_zero, List.set_cons_succ]
    refine rg_eff 6 rfl (by kernel_rfl) (by rfl) (fun K hK => ?_)
    unfold Oper.wp execOp
    go_simp
    refine hK _ _ (hS.alloc _) (fun hS => ?_)
    clear hK K
    try simp only [Act.put, List.setIfInBounds_toArray, List.set_cons_zero, List.set_cons_succ]
    refine rg_take 7 rfl (by kernel_rfl) (by kernel_rfl) (by kernel_rfl) (by rfl) hS (v := ?_) ?_ ?_
    rotate_left
    · (intro w' hS'; go_simp <;> try with_reducible rfl)
    try simp only [Act.put, List.setIfInBounds_toArray, List.set_cons_zero, List.set_cons_succ]
    refine rg_done (by kernel_rfl) ?_
    have HBX := HB.out.trans (hb.mono HBS.out)
    go_wp2_with fail
    go_ret
    refine ⟨x2, x2.heap.size, rfl, ⟨(Below.refl _ _).alloc (Nat.le_refl _) _, Nat.le_refl _, .slice none 0 0, .slice v2a (L.length + 1) v2c, ?_, ?_, ?_⟩, HBX, HBX.alloc HBX.size _⟩
    · rw [E0.out]; exact Blk.new _ [.int .i64 0, .slice none 0 0, .bool false, .slice v2a (L.length + 1) v2c] _ rfl
    · rw [E0.out]; exact .inl ⟨rfl, _, _, rfl⟩
    · rw [E0.out]; exact hln.rd.o
  · refine wp_one_el (cs := [.int .i64 ((n : Int) + 1), .slice none 0 0]) Tryz.underlying70 info_line (by decide) (by decide) rfl rfl rfl ?_
    intro pn qn an
    replace hb := hb.alloc hb.size (.cells #[.int .i64 ((n : Int) + 1), .slice none 0 0] 67)
    try replace hv1 := hv1.alloc (.cells #[.int .i64 ((n : Int) + 1), .slice none 0 0] 67)
    try replace hv2 := Lws.mono (fun x m xs h => h.alloc (.cells #[.int .i64 ((n : Int) + 1), .slice none 0 0] 67)) hv2
    refine hK _ _ (hS.alloc _) (fun hS => ?_)
    clear hK K qn
    try simp only [Act.put, List.setIfInBounds_toArray, List.set_cons_zero, List.set_cons_succ]
    refine rg_eff 1 rfl (by kernel_rfl) (by rfl) (fun K hK => ?_)
    go_simp
    have hbs := hS.1
    refine (HL.out _).mono ?_
    rintro e x1 ⟨v, rfl, ⟨cs, hv1, hv2⟩, h1⟩
    obtain ⟨va, vc, rfl⟩ := owns_shape hv1
    replace hv1 := owns_mono hv1 hbs
    replace hv2 := Lws.mono (fun x m xs h => owns_mono h hbs) hv2
    refine hK _ _ (hS.call h1) (fun hS => ?_)
    clear hK K
    replace hb := bthen hb h1
    try replace an := an.call h1
    clear h1 hbs
    try simp only [Act.put, List.setIfInBounds_toArray, List.set_cons_zero, List.set_cons_succ]
    refine rg_eff 4 rfl (by kernel_rfl) (by rfl) (fun K hK => ?_)
    refine wp_app_line rfl rfl rfl hv1 an rfl rfl (by omega) hb.size ?_
    intro v2 x2 o2 h2 hin
    have hln := Lnv.more (n := n + 1) hv2 (by rw [show ((n + 1 : Nat) : Int) = (n : Int) + 1 by omega]; exact o2) hin
    obtain ⟨v2a, v2c, rfl⟩ := owns_shape o2
    refine hK _ _ (hS.belowB h2) (fun hS => ?_)
    clear hK K an hv1 hv2 hin o2
    replace hb := hb.trans h2
    clear h2
    try simp only [Act.put, List.setIfInBounds_toArray, List.set_cons_zero, List.set_cons_succ]
    refine rg_build 5 rfl (by kernel_rfl) (by kernel_rfl) (by kernel_rfl) (by rfl) hS rfl (builtRd (.slice v2a (L.length + 1) v2c) v2a (L.length + 1) v2c rfl) (by simp [Act.eval]) ?_
    try simp only [Act.put, List.setIfInBounds_toArray, List.set_cons_zero, List.set_cons_succ]
    refine rg_eff 6 rfl (by kernel_rfl) (by rfl) (fun K hK => ?_)
    unfold Oper.wp execOp
    go_simp
    refine hK _ _ (hS.alloc _) (fun hS => ?_)
    clear hK K
    try simp only [Act.put, List.setIfInBounds_toArray, List.set_cons_zero, List.set_cons_succ]
    refine rg_take 7 rfl (by kernel_rfl) (by kernel_rfl) (by kernel_rfl) (by rfl) hS (v := ?_) ?_ ?_
    rotate_left
    · (intro w' hS'; go_simp <;> try with_reducible rfl)
    try simp only [Act.put, List.setIfInBounds_toArray, List.set_cons_zero, List.set_cons_succ]
    refine rg_done (by kernel_rfl) ?_
    have HBX := HB.out.trans (hb.mono HBS.out)
    go_wp2_with fail
    go_ret
    refine ⟨x2, x2.heap.size, rfl, ⟨(Below.refl _ _).alloc (Nat.le_refl _) _, Nat.le_refl _, .slice none 0 0, .slice v2a (L.length + 1) v2c, ?_, ?_, ?_⟩, HBX, HBX.alloc HBX.size _⟩
    · rw [E0.out]; exact Blk.new _ [.int .i64 0, .slice none 0 0, .bool false, .slice v2a (L.length + 1) v2c] _ rfl
    · rw [E0.out]; exact .inl ⟨rfl, _, _, rfl⟩
    · rw [E0.out]; exact hln.rd.o
end Go.Proofs.YtpalfmgloddhcaaGreatDoor

/- poly.Parse of whatever text whose words ratio.Parse is known of. -/
namespace Go.Proofs.YtpalfmgloddhcaaGreatDoor
set_option linter.unusedSimpArgs false
set_option linter.unusedVariables false
open Go.RowKit
set_option maxRecDepth 100000
theorem splits_le (p : List UInt8) : ∀ (l r : List UInt8), r ∈ splits p l → r.length ≤ l.length
  | [], r, h => by simp [splits] at h; subst h; simp
  | c :: l, r, h => by
    unfold splits at h
    split at h
    · rcases List.mem_cons.1 h with rfl | h
      · simp
      · have := splits_le p l r h; simp; omega
    · split at h
      · simp only [List.mem_cons, List.not_mem_nil, or_false] at h
        subst h; simp
      · rename_i x y he
        rcases List.mem_cons.1 h with rfl | h
        · have := splits_le p l x (by rw [he]; exact List.mem_cons_self ..); simp; omega
        · have := splits_le p l r (by rw [he]; exact List.mem_cons_of_mem _ h); simp; omega
theorem lnsOf_at : ∀ (l : List (List UInt8)) (n : Nat) p, p ∈ lnsOf n l → ∃ r ∈ l, p.2 = wrds (ahead [35] r)
  | [], _, _, h => by simp [lnsOf] at h
  | row :: t, n, p, h => by
    unfold lnsOf at h
    rcases List.mem_append.1 h with h | h
    · split at h
      · simp at h
      · simp only [List.mem_cons, List.not_mem_nil, or_false] at h
        subst h
        exact ⟨row, List.mem_cons_self .., rfl⟩
    · obtain ⟨r, hr, e⟩ := lnsOf_at t (n + 1) p h
      exact ⟨r, List.mem_cons_of_mem _ hr, e⟩
theorem lns_wl (n : Nat) (l : List UInt8) : ∀ p ∈ lns n l, p.2.length ≤ l.length + 1 ∧ ∀ u ∈ p.2, u.length ≤ l.length := by
  intro p hp
  obtain ⟨r, hr, e⟩ := lnsOf_at _ _ _ hp
  have h1 := splits_le _ _ _ hr
  have h2 := ahead_le [35] r
  have h3 := wrds_len (ahead [35] r)
  refine ⟨by rw [e]; omega, fun u hu => ?_⟩
  rw [e] at hu
  unfold wrds at hu
  have := splits_le _ _ _ ((List.mem_filter.1 hu).1)
  omega
theorem rd0_ef (l : List UInt8) : Ef (rd0 l) := .inr ⟨lns 1 l, cnt l + 1, rfl⟩
theorem rd0_okr {P : List UInt8 → Prop} (l : List UInt8) (hl : l.length ≤ 4000) (h0 : P []) (hP : ∀ p ∈ lns 1 l, ∀ u ∈ p.2, P u) : Okr P (rd0 l) := by
  have hlen := lns_len 1 l
  refine ⟨h0, Nat.zero_le _, fun u hu => by simp [rd0] at hu, ?_, ?_⟩
  · show (lns 1 l ++ [(cnt l + 1, [])]).length ≤ _
    simp; omega
  · intro p hp
    rcases List.mem_append.1 (show p ∈ lns 1 l ++ [(cnt l + 1, [])] from hp) with h | h
    · have h1 := lns_wl 1 l p h
      exact ⟨by omega, fun u hu => ⟨by have := h1.2 u hu; omega, hP p h u hu⟩⟩
    · simp only [List.mem_cons, List.not_mem_nil, or_false] at h
      subst h
      exact ⟨Nat.zero_le _, fun u hu => by simp at hu⟩
theorem builtD0 : Tryz.prog.built 26 [] = some (c3v (.slice none 0 0) (.slice none 0 0) (.slice none 0 0)).toArray := by kernel_rfl
/-- What Parse answers. -/
def prs (fq : List UInt8 → Int × Int) (ok : List UInt8 → Bool) (l : List UInt8) : Dr × Nat :=
  if (drw fq ok (rd0 l)).2.bad then (⟨[], [], []⟩, (drw fq ok (rd0 l)).2.n) else ((drw fq ok (rd0 l)).1, 0)
/-- These slices hold this drawing. -/
def Dw (w : World) (B : Nat) (v s t : Value) (D : Dr) : Prop := w.ownsRow B 38 3 v D.V.length (D.V.flatMap celI) ∧ w.ownsRow B 41 3 s D.S.length (D.S.flatMap celI) ∧ w.ownsRow B 51 132 t D.H.length (D.H.flatMap celH)
theorem Dw.call {w w' : World} {B : Nat} {v s t : Value} {D : Dr} (h : Dw w B v s t D) (hb : Below w.heap.size w w') : Dw w' B v s t D := ⟨owns_below h.1 hb, owns_below h.2.1 hb, owns_below h.2.2 hb⟩
theorem Dw.mono {w : World} {B B' : Nat} {v s t : Value} {D : Dr} (h : Dw w B v s t D) (hb : B' ≤ B) : Dw w B' v s t D := ⟨owns_mono h.1 hb, owns_mono h.2.1 hb, owns_mono h.2.2 hb⟩
theorem Dw.set {w : World} {B : Nat} {v s t : Value} {D : Dr} (h : Dw w B v s t D) {g : Nat} {cs : List Value} (hB : Blk w g cs 26) (i : Nat) (u : Value) : Dw (w.setCell ⟨g, i, none⟩ u) B v s t D := ⟨owns_set h.1 hB (by decide) i u, owns_set h.2.1 hB (by decide) i u, owns_set h.2.2 hB (by decide) i u⟩
theorem Dw.row {w : World} {B : Nat} {v s t : Value} {D : Dr} (h : Dw w B v s t D) {g : Nat} {cs : List Value} (hB : Blk w g cs 26) (vs : Array Value) : Dw (w.setRow g vs) B v s t D := ⟨owns_row h.1 hB (by decide) vs, owns_row h.2.1 hB (by decide) vs, owns_row h.2.2 hB (by decide) vs⟩
theorem Dw.shape {w : World} {B : Nat} {v s t : Value} {D : Dr} (h : Dw w B v s t D) : ∃ va vc sa sc ta tc, v = .slice va D.V.length vc ∧ s = .slice sa D.S.length sc ∧ t = .slice ta D.H.length tc := by
  obtain ⟨a, b, rfl⟩ := owns_shape h.1
  obtain ⟨c, d, rfl⟩ := owns_shape h.2.1
  obtain ⟨e, f, rfl⟩ := owns_shape h.2.2
  exact ⟨a, b, c, d, e, f, rfl, rfl, rfl⟩
theorem Dw.none (w : World) (B : Nat) : Dw w B (.slice none 0 0) (.slice none 0 0) (.slice none 0 0) ⟨[], [], []⟩ := ⟨World.ownsRow_nil _ _ _ _, World.ownsRow_nil _ _ _ _, World.ownsRow_nil _ _ _ _⟩
set_option maxHeartbeats 8000000 in
theorem Parse_any {fq : List UInt8 → Int × Int} {ok : List UInt8 → Bool} {P : List UInt8 → Prop} (HP : Pq fq ok P) (l : List UInt8) (w : World) (hl : l.length ≤ 4000) (h0 : P []) (hP : ∀ p ∈ lns 1 l, ∀ u ∈ p.2, P u) :
    Calls Tryz.prog 10 #[.string (tx l)] w fun e w' => ∃ v s t, e = .returned (.tuple #[.agg (c3v v s t).toArray, .int .i64 ((prs fq ok l).2 : Int)]) ∧ Dw w' w.heap.size v s t (prs fq ok l).1 ∧ Below w.heap.size w w' := by
  have ok0 := rd0_okr (P := P) l hl h0 hP
  have g0 : ¬ (4000 : Int) < (l.length : Int) := by omega
  have hsz := tx_size l
  obtain ⟨R, hR⟩ : ∃ R, prs fq ok l = R := ⟨_, rfl⟩
  have HR := Lib.hid hR
  rw [hR]
  clear hR hP h0
  have HRD := Lib.hid fun w => readerOf_any l w (by omega)
  have B2 := Blk.new w (c3v (.slice none 0 0) (.slice none 0 0) (.slice none 0 0)) 26 rfl
  have HB := Lib.hid ((Below.refl w.heap.size w).alloc (Nat.le_refl _) (.cells (c3v (.slice none 0 0) (.slice none 0 0) (.slice none 0 0)).toArray 26))
  go_enter Tryz.func10, Tryz.ntmps10
  go_wp2_with (first | (with_reducible refine al_blk rfl rfl zeroD ?_))
  obtain ⟨W, hW⟩ : ∃ W, w.alloc (.cells (c3v (.slice none 0 0) (.slice none 0 0) (.slice none 0 0)).toArray 26) = W := ⟨_, rfl⟩
  rw [hW] at B2 HB ⊢
  clear hW
  obtain ⟨p2, hp2⟩ : ∃ p, w.heap.size = p := ⟨_, rfl⟩
  have HP2 := Lib.hid hp2
  rw [hp2] at B2 ⊢
  clear hp2
  refine (HRD.out _).mono ?_
  rintro e w1 ⟨w0, b, rfl, hr, hb1, hb2⟩
  have lp2 := B2.lt
  have lb := hr.2.1
  have lb1 := hb1.size
  have lb2 := hb2.size
  have n2 : p2 ≠ b := by omega
  have hbB : p2 ≤ b := by omega
  replace B2 := B2.call hb2
  replace HB := Lib.hid (bthen HB.out hb2)
  have hrl := hr.lt
  clear hb1 hb2 lb lb1 lp2
  go_wp2_with fail
  refine (drawing_any HP hr ok0 (rd0_ef l)).mono ?_
  rintro e w2 ⟨v, s, t, rfl, o1, o2, o3, k1, k2⟩
  have hbs := HB.out.size
  rw [HP2.out] at hbs
  have HD := Lib.hid (Dw.mono (B' := p2) (show Dw w2 w1.heap.size v s t (drw fq ok (rd0 l)).1 from ⟨o1, o2, o3⟩) hbs)
  replace B2 := B2.oth k2 n2
  replace HB := Lib.hid (HB.out.trans (k2.below (by rw [HP2.out]; exact hbB) (by rw [HP2.out]; exact hbs)))
  have hz2 := k2.size
  obtain ⟨h1, h2, wv, rv, h3, h4, h5⟩ := k1
  clear o1 o2 o3 k2 hr h1 h2 h4 h5 hbs
  obtain ⟨va, vc, sa, sc, ta, tc, rfl, rfl, rfl⟩ := HD.out.shape
  obtain ⟨D, hD⟩ : ∃ D, drw fq ok (rd0 l) = D := ⟨_, rfl⟩
  have HRD2 := Lib.hid (show prs fq ok l = if D.2.bad then (⟨[], [], []⟩, D.2.n) else (D.1, 0) by unfold prs; rw [hD])
  rw [hD] at HD h3 ⊢
  clear hD ok0
  have l2 := B2.lt
  have l3 := h3.lt
  have f5 := Blk.new w2 (c3v (.slice none 0 0) (.slice none 0 0) (.slice none 0 0)) 26 rfl
  have B5 := f5.row (c3v (.slice va D.1.V.length vc) (.slice sa D.1.S.length sc) (.slice ta D.1.H.length tc))
  replace B2 := (B2.old (.cells (c3v (.slice none 0 0) (.slice none 0 0) (.slice none 0 0)).toArray 26)).rowOther (g := w2.heap.size) (c3v (.slice va D.1.V.length vc) (.slice sa D.1.S.length sc) (.slice ta D.1.H.length tc)).toArray (by omega)
  have B6 := (h3.old (.cells (c3v (.slice none 0 0) (.slice none 0 0) (.slice none 0 0)).toArray 26)).rowOther (g := w2.heap.size) (c3v (.slice va D.1.V.length vc) (.slice sa D.1.S.length sc) (.slice ta D.1.H.length tc)).toArray (by omega)
  replace HD := Lib.hid ((HD.out.call ((Below.refl _ _).alloc (Nat.le_refl _) (.cells (c3v (.slice none 0 0) (.slice none 0 0) (.slice none 0 0)).toArray 26))).row f5 (c3v (.slice va D.1.V.length vc) (.slice sa D.1.S.length sc) (.slice ta D.1.H.length tc)).toArray)
  have hbz := HB.out.size
  replace HB := Lib.hid (below_row (HB.out.alloc hbz (.cells (c3v (.slice none 0 0) (.slice none 0 0) (.slice none 0 0)).toArray 26)) (g := w2.heap.size) hbz (c3v (.slice va D.1.V.length vc) (.slice sa D.1.S.length sc) (.slice ta D.1.H.length tc)).toArray)
  have n5 : p2 ≠ w2.heap.size := by omega
  clear h3 hbz hz2 l3
  have c2 := B6.cell (i := 2) (v := .bool D.2.bad) rfl
  have c0 := B6.cell (i := 0) (v := .int .i64 (D.2.n : Int)) rfl
  cases hbad : D.2.bad
  · rw [hbad] at c2 HRD2
    go_wp2_with (first | (with_reducible refine al_blk rfl rfl zeroD ?_) | (with_reducible refine st_blk (vs := c3v (.slice va D.1.V.length vc) (.slice sa D.1.S.length sc) (.slice ta D.1.H.length tc)) rfl rfl rfl rfl f5 rfl (by kernel_rfl) (c3v_one _ _ _ _ _ _ _ _ _) ?_) | (with_reducible refine st_blk (vs := c3v (.slice va D.1.V.length vc) (.slice sa D.1.S.length sc) (.slice ta D.1.H.length tc)) rfl rfl rfl rfl B2 rfl (by kernel_rfl) (c3v_one _ _ _ _ _ _ _ _ _) ?_) | (with_reducible refine ldP rfl rfl rfl B5 (part_all _) (wholeD _ _ _) ?_))
    have e1 := HR.out.symm.trans HRD2.out
    rw [e1]
    exact ret_ct (cs := c3v (.slice va D.1.V.length vc) (.slice sa D.1.S.length sc) (.slice ta D.1.H.length tc)) (v := .int .i64 0) rfl rfl rfl rfl (wholeD _ _ _) (B2.row _) ⟨_, _, _, rfl, by rw [HP2.out]; exact HD.out.row B2 _, below_row HB.out (by rw [HP2.out]; exact Nat.le_refl _) _⟩
  · rw [hbad] at c2 HRD2
    go_wp2_with (first | (with_reducible refine al_blk rfl rfl zeroD ?_) | (with_reducible refine st_blk (vs := c3v (.slice va D.1.V.length vc) (.slice sa D.1.S.length sc) (.slice ta D.1.H.length tc)) rfl rfl rfl rfl f5 rfl (by kernel_rfl) (c3v_one _ _ _ _ _ _ _ _ _) ?_))
    generalize (w2.alloc (.cells (c3v (.slice none 0 0) (.slice none 0 0) (.slice none 0 0)).toArray 26)).setRow w2.heap.size (c3v (.slice va D.1.V.length vc) (.slice sa D.1.S.length sc) (.slice ta D.1.H.length tc)).toArray = W5 at *
    clear c2 c0 f5 B5
    refine rg_start [p2] (by kernel_rfl) (fun hS => ?_)
    refine rg_build 0 rfl (by kernel_rfl) (by kernel_rfl) (by kernel_rfl) (by rfl) hS rfl builtD0 (by simp [Act.eval]) ?_
    try simp only [Act.put, List.setIfInBounds_toArray, List.set_cons_zero, List.set_cons_succ]
    refine rg_take 1 rfl (by kernel_rfl) (by kernel_rfl) (by kernel_rfl) (by rfl) hS (v := ?_) ?_ ?_
    rotate_left
    · (intro w' hS'; go_simp <;> try with_reducible rfl)
    try simp only [Act.put, List.setIfInBounds_toArray, List.set_cons_zero, List.set_cons_succ]
    refine rg_take 2 rfl (by kernel_rfl) (by kernel_rfl) (by kernel_rfl) (by rfl) hS (v := ?_) ?_ ?_
    rotate_left
    · (intro w' hS'; go_simp <;> try with_reducible rfl)
    try simp only [Act.put, List.setIfInBounds_toArray, List.set_cons_zero, List.set_cons_succ]
    refine rg_take 3 rfl (by kernel_rfl) (by kernel_rfl) (by kernel_rfl) (by rfl) hS (v := ?_) ?_ ?_
    rotate_left
    · (intro w' hS'; go_simp <;> try with_reducible rfl)
    try simp only [Act.put, List.setIfInBounds_toArray, List.set_cons_zero, List.set_cons_succ]
    refine rg_take 4 rfl (by kernel_rfl) (by kernel_rfl) (by kernel_rfl) (by rfl) hS (v := ?_) ?_ ?_
    rotate_left
    · (intro w' hS'; go_simp <;> try with_reducible rfl)
    try simp only [Act.put, List.setIfInBounds_toArray, List.set_cons_zero, List.set_cons_succ]
    refine rg_take 5 rfl (by kernel_rfl) (by kernel_rfl) (by kernel_rfl) (by rfl) hS (v := ?_) ?_ ?_
    rotate_left
    · (intro w' hS'; go_simp <;> try with_reducible rfl)
    try simp only [Act.put, List.setIfInBounds_toArray, List.set_cons_zero, List.set_cons_succ]
    refine rg_take 6 rfl (by kernel_rfl) (by kernel_rfl) (by kernel_rfl) (by rfl) hS (v := ?_) ?_ ?_
    rotate_left
    · (intro w' hS'; have hc := (B6.keep hS' (by simp <;> omega)).cell (i := 0) (v := (.int .i64 (D.2.n : Int))) rfl; go_simp <;> try with_reducible rfl)
    try simp only [Act.put, List.setIfInBounds_toArray, List.set_cons_zero, List.set_cons_succ]
    refine rg_eff 7 rfl (by kernel_rfl) (by rfl) (fun K hK => ?_)
    refine wp_st (vs := c3v (.slice none 0 0) (.slice none 0 0) (.slice none 0 0)) rfl rfl rfl B2.drew rfl (wholeD _ _ _) (c3v_one _ _ _ _ _ _ _ _ _) ?_
    refine hK _ _ (hS.row (.inl (by simp)) _) (fun hS => ?_)
    clear hK K
    try simp only [Act.put, List.setIfInBounds_toArray, List.set_cons_zero, List.set_cons_succ]
    refine rg_take 8 rfl (by kernel_rfl) (by kernel_rfl) (by kernel_rfl) (by rfl) hS (v := ?_) ?_ ?_
    rotate_left
    · (intro w' hS'; go_simp <;> try with_reducible rfl)
    try simp only [Act.put, List.setIfInBounds_toArray, List.set_cons_zero, List.set_cons_succ]
    refine rg_done (by kernel_rfl) ?_
    go_wp2_with fail
    have e1 := HR.out.symm.trans HRD2.out
    rw [e1]
    exact ret_ct (cs := c3v (.slice none 0 0) (.slice none 0 0) (.slice none 0 0)) (v := .int .i64 (D.2.n : Int)) rfl rfl rfl rfl (wholeD _ _ _) (B2.drew.row _) ⟨_, _, _, rfl, Dw.none _ _, below_row (HB.out.trans (Below.refl _ _).drew) (by rw [HP2.out]; exact Nat.le_refl _) _⟩
end Go.Proofs.YtpalfmgloddhcaaGreatDoor
