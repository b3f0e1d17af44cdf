/- OptionBack: the words of a text are taken apart. -/
import Derived.Test.YthcgbchgfdkhiaaDoorZpk
import Derived.Deep.DeepCutAuto
namespace Go.Proofs.YthcgbchgfdkhiaaDoor
set_option linter.unusedSimpArgs false
set_option linter.unusedVariables false
open Go.RowKit
set_option maxRecDepth 100000
theorem info_str2 : (Tryd.prog.info? 9).map (fun i => (i.zero, i.size, i.bytes)) = some (some (.string ⟨#[]⟩), 1, 16) := by kernel_rfl
/-- append of two strings that were just laid. -/
theorem app_str2 {ops : Array Oper} {rest : List Oper} {o : Oper} {a : Act} {w : World} {Q : Exit → Act → World → Prop} {s x : Operand} {B n g : Nat} {v : Value} {xs : List Value} {u u' : ByteArray} (hgd : o.guard = none)
    (ho : o.op = .call { callee := .builtin .append, args := #[s, x], argTypes := #[22, 22] }) (hs : a.eval s = v) (hx : a.eval x = .slice (some ⟨g, 0, none⟩) 2 2)
    (hown : w.ownsRow B 9 1 v n xs) (hg : Blk w g [.string u, .string u'] 9) (hn : n ≤ 2000000) (hB : B ≤ w.heap.size)
    (hr : ∀ v' w', w'.ownsRow B 9 1 v' (n + 2) (xs ++ [.string u, .string u']) → w.grownBy w' v.ownBlock → wpList Tryd.prog ops Q rest (a.put o.dst v') w') : wpList Tryd.prog ops Q (o :: rest) a w := by
  obtain ⟨i0, hi0, hz0, hz1, hz2⟩ := info_parts info_str2
  refine wpList_append_own w hgd s x 22 ho B 9 i0 _ 1 16 Tryd.underlying22 hi0 hz0 hz1 hz2 rfl (by decide) v n xs hs hown ⟨g, 0, none⟩ 2 2 [.string u, .string u'] hx rfl ?_ (by intro u hu; simp at hu; rcases hu with rfl | rfl <;> rfl) ?_ ?_ hB ?_
  · intro j y hj
    have := hg.cell hj
    rw [show (⟨g, j, none⟩ : Addr) = (⟨g, 0, none⟩ : Addr).add j by cases j <;> simp [Addr.add]] at this
    exact this
  · unfold maxLen; omega
  · omega
  · intro v' w' k1 k2 _
    exact hr v' w' k1 k2
theorem pow_all : ((List.range 7).all fun k => sideI (wrap64 (2 ^ k))) = true := by kernel_rfl
theorem pow_side (k : Nat) (hk : k < 7) : sideI (wrap64 (2 ^ k)) = true := List.all_eq_true.1 pow_all k (List.mem_range.2 hk)
theorem Oth.ofG {b : Nat} {w w' : World} (hg : w.grownBy w' (some b)) : Oth b w w' := ⟨hg.os, hg.tape, hg.output, hg.size, fun k hk hne => hg.block k hk (fun e => hne (by injection e))⟩
set_option maxHeartbeats 8000000 in
theorem back_walk (h c : Int) (zv : Value) (Z : List (Int × Int × Int)) (a b : Nat) (ha : a ≤ 255) (hb : b ≤ 255) (w : World) (hZ : RdZ w zv Z) (lZ : Z.length ≤ maxLen) (oz : ∀ p ∈ Z, z3ok p) (oh : i64ok h) (oc : i64ok c) (hE : Env w) :
    Calls Tryd.prog 4 #[.agg #[.int .i64 h, .int .i64 c, zv], .int .u8 (a : Int), .int .u8 (b : Int)] w fun e w' => e = .returned (.bool true) ∧ Below w.heap.size w w' := by
  have lZ63 : Z.length ≤ 9223372036854775807 := lZ
  obtain ⟨za, zc, rfl⟩ := hZ.shape
  have hb0 : Below w.heap.size w (w.alloc (.cells #[.int .i64 h, .int .i64 c, .slice za Z.length zc] 25)) := (Below.refl _ _).alloc (Nat.le_refl _) _
  have B0 := Blk.new w [.int .i64 h, .int .i64 c, .slice za Z.length zc] 25 rfl
  have HK := Lib.hid (known8_any _ (hE.below hb0))
  have HZ := Lib.hid hZ
  have OZ := Lib.hid oz
  have OH := Lib.hid oh
  have OC := Lib.hid oc
  have HE := Lib.hid hE
  have HB0 := Lib.hid hb0
  have HBL := Lib.hid B0
  clear hZ oz oh oc hE hb0 B0 lZ
  go_enter Tryd.func4, Tryd.ntmps4
  go_wp2_with fail
  refine HK.out.mono ?_
  rintro e w1 ⟨rfl, h1⟩
  have hb1 := bthen HB0.out h1
  have B1 := HBL.out.call h1
  have c0 := B1.cell (i := 0) rfl
  have c1 := B1.cell (i := 1) rfl
  have c2 := B1.cell (i := 2) rfl
  have HB1 := Lib.hid hb1
  have HBL1 := Lib.hid B1
  clear HK h1 HB0 HBL hb1 B1
  by_cases g2 : 8 < Z.length
  · have g2' : (8 : Int) < (Z.length : Int) := by omega
    clear g2
    go_wp2_with fail
    go_ret
    exact ⟨rfl, HB1.out⟩
  · have g2' : ¬ (8 : Int) < (Z.length : Int) := by omega
    have HI := Lib.hid (is_any h c za zc Z w1 (HZ.out.below HB1.out) (by omega))
    cases hok : opOk h c Z
    · rw [hok] at HI
      clear hok g2
      go_wp2_with fail
      refine HI.out.mono ?_
      rintro e w2 ⟨rfl, h2⟩
      have HB2 := Lib.hid (bthen HB1.out h2)
      clear h2
      go_wp2_with fail
      go_ret
      exact ⟨rfl, HB2.out⟩
    · rw [hok] at HI
      have KP := Lib.hid (okP_of hok)
      clear hok
      go_wp2_with fail
      refine HI.out.mono ?_
      rintro e w2 ⟨rfl, h2⟩
      have hb2 := bthen HB1.out h2
      have B2 := HBL1.out.call h2
      have c0 := B2.cell (i := 0) rfl
      have c1 := B2.cell (i := 1) rfl
      have c2 := B2.cell (i := 2) rfl
      have HB2 := Lib.hid hb2
      have HBL2 := Lib.hid B2
      have HPR := print_any h c za zc Z w2 (HZ.out.below hb2) (by omega) OH.out OC.out OZ.out (HE.out.below hb2)
      have hTl := ows_len h c Z
      have hPT := KP.out.parts
      obtain ⟨T, hT⟩ : ∃ T, Lib.join (ows h c Z) [32] = T := ⟨_, rfl⟩
      rw [hT] at HPR hTl hPT
      have HPR1 := Lib.hid HPR
      have HPT := Lib.hid hPT
      have hTT : T.length ≤ 1000 := by omega
      have hsz := tx_size T
      clear HPR hT hTl hPT h2 hb2 B2 HI HBL1
      go_wp2_with fail
      refine HPR1.out.mono ?_
      rintro e w3 ⟨rfl, h3⟩
      have hb3 := bthen HB2.out h3
      have B3 := HBL2.out.call h3
      have HB3 := Lib.hid hb3
      have HBL3 := Lib.hid B3
      clear h3 hb3 B3 HPR1 HBL2 HB2 c0 c1 c2
      go_wp2_with fail
      obtain ⟨P, hP⟩ : ∃ P, ows h c Z = P := ⟨_, rfl⟩
      rw [hP] at HPT
      have HPE := Lib.hid hP
      clear hP
      go_loopw [8, 9, 10] (fun v a6 a7 wr => ∃ (i f : Nat) (Q : List (List UInt8)), i ≤ T.length + 1 ∧ f ≤ T.length + 1 ∧ Q.length ≤ i ∧ a7 = .int .i64 (i : Int) ∧ a6 = .int .i64 (f : Int) ∧
        (i ≤ T.length → f ≤ i ∧ (∀ x ∈ (T.take i).drop f, x ∉ ([32] : List UInt8)) ∧ P = Q ++ splits [32] (T.drop f)) ∧ (T.length < i → P = Q) ∧ wr.ownsRow w3.heap.size 9 1 v Q.length (strs Q) ∧ Below w3.heap.size w3 wr) (fun _ _ j _ => T.length + 1 - (intOf j).toNat)
      case atStart => exact ⟨0, 0, [], by omega, by omega, by simp, rfl, rfl, fun _ => ⟨by omega, by simp, by rw [List.nil_append, List.drop_zero, HPT.out]⟩, fun h => by omega, World.ownsRow_nil _ _ _ _, Below.refl _ _⟩
      case round =>
        obtain ⟨i, f, Q, hi, hf, hQ3, rfl, rfl, hin, hout, hO, hb⟩ := hrel
        have HO := Lib.hid hO
        have Hb := Lib.hid hb
        have HOUT := Lib.hid hout
        clear hout hO hb
        by_cases hle : i ≤ T.length
        · obtain ⟨hfi, hA44, hPQ⟩ := hin hle
          have hmid := mid_drop T f i hfi hle
          obtain ⟨A, hA⟩ : ∃ A, (T.take i).drop f = A := ⟨_, rfl⟩
          rw [hA] at hmid hA44
          have hle2 : (i : Int) ≤ (T.length : Int) := by omega
          clear hin
          by_cases hlt : i < T.length
          · obtain ⟨q, hd, HG, HT⟩ : ∃ q, T.drop i = q :: T.drop (i + 1) ∧ Hid (∀ h : i < (tx T).size, (tx T)[i] = q) ∧ (T.take (i + 1)).drop f = A ++ [q] :=
              ⟨T[i]'hlt, at_drop T i hlt, fun _ => tx_get T i _, by
                rw [List.take_add_one, List.getElem?_eq_getElem hlt, List.drop_append_of_le_length (by simp; omega), hA]; rfl⟩
            have hs : i < (tx T).size := by rw [tx_size]; exact hlt
            have c3 : ((i : Int) == (T.length : Int)) = false := by rw [beq_eq_false_iff_ne]; omega
            rw [hd] at hmid
            by_cases h44 : q = 32
            · subst h44
              have d1 : (((tx T)[i].toNat : Int) == 32) = true := by rw [HG.out hs]; rfl
              rw [hmid, splits_at _ _ (by simp) _ hA44] at hPQ
              clear hd HG HT hmid
              have hX : (tx T).extract f i = tx A := by rw [tx_extract, hA]
              have HPQ := Lib.hid hPQ
              have hQl : Q.length ≤ T.length := by omega
              clear hPQ hA
              go_wp2_with (first | (at_builtin; refine app_str rfl rfl rfl rfl (HO.out.alloc _) (Blk.new _ _ _ rfl) (by omega) (by have := Hb.out.size; simp; omega) ?_; intro v' w3 hown3 h3; have HO4 := Lib.hid hown3; have H3 := Lib.hid h3; clear hown3 h3))
              go_roundw
              case rel =>
                have b3 := (Hb.out.alloc Hb.out.size (.cells #[.string (tx A)] 9)).trans H3.out
                first
                | exact ⟨i + 1, i + 1, Q ++ [A], by omega, by omega, by simp; omega, by go_num, by go_num, fun _ => ⟨by omega, by simp, by rw [HPQ.out]; simp⟩, fun h => absurd h (by omega), by rw [List.length_append]; simpa [strs] using HO4.out, b3⟩
                | exact ⟨i + 1, i + 1, Q ++ [A], by omega, by omega, by simp; omega, by go_num, by go_num, fun h => absurd h (by omega), fun _ => HPQ.out, by rw [List.length_append]; simpa [strs] using HO4.out, b3⟩
              case measure => simp [intOf]; omega
            · have d1 : (((tx T)[i].toNat : Int) == 32) = false := by
                rw [HG.out hs, beq_eq_false_iff_ne]
                intro h
                exact h44 (UInt8.toNat_inj.1 (by show q.toNat = 32; omega))
              have HT' := Lib.hid HT
              have HA44 := Lib.hid hA44
              have HPQ := Lib.hid hPQ
              clear hd HG HT hmid hA hA44 hPQ
              go_wp2_with fail
              go_roundw
              case rel => exact ⟨i + 1, f, Q, by omega, hf, by omega, by go_num, rfl, fun _ => ⟨by omega, by
                rw [HT'.out]
                intro x hx
                rcases List.mem_append.1 hx with hx | hx
                · exact HA44.out x hx
                · simp only [List.mem_cons, List.not_mem_nil, or_false] at hx ⊢
                  subst hx; exact h44, HPQ.out⟩, fun h => absurd h (by omega), HO.out, Hb.out⟩
              case measure => simp [intOf]; omega
          · have c3 : ((i : Int) == (T.length : Int)) = true := by rw [beq_iff_eq]; omega
            have hil : i = T.length := by omega
            rw [hmid, List.drop_of_length_le (show T.length ≤ i by omega), List.append_nil, splits_all _ _ hA44] at hPQ
            have HIL := Lib.hid hil
            clear hmid hil
            have hX : (tx T).extract f i = tx A := by rw [tx_extract, hA]
            have HPQ := Lib.hid hPQ
            have hQl : Q.length ≤ T.length := by omega
            clear hPQ hA
            go_wp2_with (first | (at_builtin; refine app_str rfl rfl rfl rfl (HO.out.alloc _) (Blk.new _ _ _ rfl) (by omega) (by have := Hb.out.size; simp; omega) ?_; intro v' w3 hown3 h3; have HO4 := Lib.hid hown3; have H3 := Lib.hid h3; clear hown3 h3))
            go_roundw
            case rel =>
              have b3 := (Hb.out.alloc Hb.out.size (.cells #[.string (tx A)] 9)).trans H3.out
              first
              | exact ⟨i + 1, i + 1, Q ++ [A], by omega, by omega, by simp; omega, by go_num, by go_num, fun _ => ⟨by omega, by simp, by rw [HPQ.out]; simp⟩, fun h => absurd h (by omega), by rw [List.length_append]; simpa [strs] using HO4.out, b3⟩
              | exact ⟨i + 1, i + 1, Q ++ [A], by omega, by omega, by simp; omega, by go_num, by go_num, fun h => absurd h (by omega), fun _ => HPQ.out, by rw [List.length_append]; simpa [strs] using HO4.out, b3⟩
            case measure => simp [intOf]; omega
        · have hle2 : ¬ (i : Int) ≤ (T.length : Int) := by omega
          have hPQ := Lib.hid (HOUT.out (by omega))
          clear hin
          have hO2 := HO.out
          rw [← hPQ.out] at hO2
          have hPl : P.length = 2 + Z.length := by rw [← HPE.out]; simp [ows]; omega
          have hPu : ∀ u ∈ P, u.length ≤ 1000000 := fun u hx => by
            rw [← HPT.out] at hx
            exact Nat.le_trans (splits_part [32] T u hx) (by omega)
          have hbw := bthen HB3.out Hb.out
          have hprs := KP.out.prs
          rw [HPE.out] at hprs
          have HP := parse_any P _ wr (RdS.of_owns hO2) (by omega) hPu (HE.out.below hbw)
          rw [hprs] at HP
          have HP1 := Lib.hid HP
          obtain ⟨gl, cl, rfl, hcapl, hgl0, hgl1, _⟩ := owns_cells hO2 (by omega)
          have hw3 := HBL3.out.lt
          have HO2 := Lib.hid hO2
          have HBW := Lib.hid hbw
          have HBB := Lib.hid (HBL3.out.call Hb.out)
          have HPU := Lib.hid hPu
          have HPL := Lib.hid hPl
          have hP6 : P.length ≤ 10 := by omega
          clear HO HOUT hf hQ3 hle2 HP hO2 hbw hPu hPQ hprs Hb hPl HB3 HBL3 hi
          go_wp2_with fail
          refine HP1.out.mono ?_
          rintro e w4 ⟨h4, zv1, rfl, hown1⟩
          obtain ⟨z1a, z1c, rfl⟩ := (RdZ.of_owns (Z := Z) hown1).shape
          have q4 : Below w4.heap.size w4 (w4.alloc (.cells #[.int .i64 h, .int .i64 c, .slice z1a Z.length z1c] 25)) := (Below.refl _ _).alloc (Nat.le_refl _) _
          have q5 := bthen h4 q4
          have hw4 := h4.size
          have HR1 := Lib.hid (owns_below hown1 q4)
          have HD1 := Lib.hid (Blk.new w4 [.int .i64 h, .int .i64 c, .slice z1a Z.length z1c] 25 rfl)
          have HB5 := Lib.hid (bthen HBW.out q5)
          have HBO := Lib.hid (HBB.out.call q5)
          have HO5 := Lib.hid (owns_below HO2.out q5)
          clear h4 hown1 q4 q5 HP1 HBW HBB HO2
          go_upto_region 15 with fail
          generalize w4.alloc (.cells #[.int .i64 h, .int .i64 c, .slice z1a Z.length z1c] 25) = w5 at *
          go_upto_region 16 with fail
          obtain ⟨X, hX, hXs⟩ : ∃ X : Int, wrap64 (2 ^ (a % 7)) = X ∧ sideI X = true := by
            exact ⟨_, rfl, pow_side _ (Nat.mod_lt _ (by decide))⟩
          rw [hX]
          have hXr := side_in hXs
          have hbi : inI 1 4096 ((b : Int) + 1) = true := (inI_iff _ _ _).2 ⟨by omega, by omega⟩
          have hlast := KP.out.last hXs hbi
          rw [HPE.out] at hlast
          have HLS := Lib.hid hlast
          have kb : IntKind.i64.wrap ((b : Int) + 1) = (b : Int) + 1 := by rw [IntKind.wrap_i64]; omega
          have HN1 := Lib.hid fun w => Num_all X w ⟨by omega, by omega⟩
          have HN2 := Lib.hid fun w => Num_all ((b : Int) + 1) w ⟨by omega, by omega⟩
          have l1 := numA_len X
          have l2 := numA_len ((b : Int) + 1)
          have z1 := tx_size (numA X)
          have z2 := tx_size (numA ((b : Int) + 1))
          have y1 : ¬ 9223372036854775807 < 1 + (numA X).length := by omega
          have y2 : ¬ 9223372036854775807 < 1 + (numA ((b : Int) + 1)).length := by omega
          have t1 : (⟨#[104]⟩ : ByteArray) ++ tx (numA X) = tx (wtx 104 [X]) := by rw [wtx1]; exact tx_app [104] _
          have t2 : (⟨#[99]⟩ : ByteArray) ++ tx (numA ((b : Int) + 1)) = tx (wtx 99 [(b : Int) + 1]) := by rw [wtx1]; exact tx_app [99] _
          have lw1 : (wtx 104 [X]).length ≤ 1000000 := Nat.le_trans (wtx_len _ _) (by simp)
          have lw2 : (wtx 99 [(b : Int) + 1]).length ≤ 1000000 := Nat.le_trans (wtx_len _ _) (by simp)
          have LW1 := Lib.hid lw1
          have LW2 := Lib.hid lw2
          clear hX hXs hbi hlast lw1 lw2
          go_wp2_with fail
          refine (HN1.out _).mono ?_
          rintro e w6 ⟨rfl, h6⟩
          have HB6 := Lib.hid (bthen HB5.out h6)
          have HO6 := Lib.hid (owns_below HO5.out h6)
          have HBO6 := Lib.hid (HBO.out.call h6)
          have HD6 := Lib.hid (HD1.out.call h6)
          have HR6 := Lib.hid (owns_below HR1.out h6)
          clear h6 HB5 HO5 HBO HD1 HR1 HN1
          go_wp2_with fail
          refine (HN2.out _).mono ?_
          rintro e w7 ⟨rfl, h7⟩
          have HB7 := Lib.hid (bthen HB6.out h7)
          have HO7 := Lib.hid (owns_below HO6.out h7)
          have HBO7 := Lib.hid (HBO6.out.call h7)
          have HD7 := Lib.hid (HD6.out.call h7)
          have HR7 := Lib.hid (owns_below HR6.out h7)
          clear h7 HB6 HO6 HBO6 HD6 HR6 HN2
          have hs3 : gl < w7.heap.size := (HO7.out.lt gl rfl).2
          go_wp2_with (first | (at_builtin; refine app_str2 rfl rfl rfl rfl (HO7.out.alloc _) (Blk.new _ [.string (tx (wtx 104 [X])), .string (tx (wtx 99 [(b : Int) + 1]))] _ rfl) (by omega) (by simp; omega) ?_; intro v' w8 hown8 h8; have HO8 := Lib.hid hown8; have H8 := Lib.hid (Oth.ofG h8); clear hown8 h8))
          have q7 : Below w7.heap.size w7 (w7.alloc (.cells #[.string (tx (wtx 104 [X])), .string (tx (wtx 99 [(b : Int) + 1]))] 9)) := (Below.refl _ _).alloc (Nat.le_refl _) _
          have hb7 := bthen HB7.out q7
          have hb8 : Below w.heap.size w w8 := hb7.trans (H8.out.below (by omega) hb7.size)
          have hD8 := (HD7.out.call q7).oth H8.out (by omega)
          have hBO8 := (HBO7.out.call q7).oth H8.out (by omega)
          have hR8 := owns_oth (owns_below HR7.out q7) H8.out (by omega)
          have hO8 : w8.ownsRow w3.heap.size 9 1 v' (P ++ [wtx 104 [X], wtx 99 [(b : Int) + 1]]).length (strs (P ++ [wtx 104 [X], wtx 99 [(b : Int) + 1]])) := by
            have := HO8.out
            simpa [strs] using this
          have HP := parse_any (P ++ [wtx 104 [X], wtx 99 [(b : Int) + 1]]) _ w8 (RdS.of_owns hO8) (by simp; omega) (by
            intro u hu
            rcases List.mem_append.1 hu with hu | hu
            · exact HPU.out u hu
            · simp only [List.mem_cons, List.not_mem_nil, or_false] at hu
              rcases hu with rfl | rfl
              · exact LW1.out
              · exact LW2.out) (HE.out.below hb8)
          rw [HLS.out] at HP
          have HP2 := Lib.hid HP
          have HB8 := Lib.hid hb8
          have HD8 := Lib.hid hD8
          have HBO8 := Lib.hid hBO8
          have HR8 := Lib.hid hR8
          clear HP q7 hb7 hb8 hD8 hBO8 hR8 hO8 HO8 H8 HB7 HO7 HBO7 HD7 HR7 t1 t2
          go_wp2_with fail
          refine HP2.out.mono ?_
          rintro e w9 ⟨h9, zv2, rfl, hown2⟩
          obtain ⟨z2a, z2c, rfl⟩ := (RdZ.of_owns (Z := Z) hown2).shape
          have q9 : Below w9.heap.size w9 (w9.alloc (.cells #[.int .i64 X, .int .i64 ((b : Int) + 1), .slice z2a Z.length z2c] 25)) := (Below.refl _ _).alloc (Nat.le_refl _) _
          have q10 := bthen h9 q9
          have hbb := bthen HB8.out q10
          have D1 := HD8.out.call q10
          have D0 := HBO8.out.call q10
          have D2 := Blk.new w9 [.int .i64 X, .int .i64 ((b : Int) + 1), .slice z2a Z.length z2c] 25 rfl
          have HR10 := Lib.hid (RdZ.of_owns (Z := Z) (owns_below HR8.out q10))
          have HZ10 := Lib.hid (HZ.out.below hbb)
          have HBB := Lib.hid hbb
          clear h9 q9 q10 hbb hown2 HP2 HB8 HD8 HBO8 HR8 HLS
          have p0 := D1.cell (i := 0) rfl
          have p1 := D1.cell (i := 1) rfl
          have p2 := D1.cell (i := 2) rfl
          have o0' := D0.cell (i := 0) rfl
          have o1' := D0.cell (i := 1) rfl
          have o2' := D0.cell (i := 2) rfl
          have r0 := D2.cell (i := 0) rfl
          have r1 := D2.cell (i := 1) rfl
          have r2 := D2.cell (i := 2) rfl
          have HD0 := Lib.hid D0
          have HD2 := Lib.hid D2
          clear D0 D1 D2
          have HSM := Lib.hid (same_any h c _ _ Z _ HR10.out HZ10.out (by omega))
          go_wp2_with fail
          refine HSM.out.mono ?_
          rintro e w10 ⟨rfl, h10⟩
          have HF := Lib.hid (bthen HBB.out h10)
          have o2' := (HD0.out.call h10).cell (i := 2) rfl
          have r0 := (HD2.out.call h10).cell (i := 0) rfl
          have r1 := (HD2.out.call h10).cell (i := 1) rfl
          have r2 := (HD2.out.call h10).cell (i := 2) rfl
          have gx : (X == X) = true := by simp
          have gy : (((b : Int) + 1) == ((b : Int) + 1)) = true := by simp
          have gz : ((Z.length : Int) == (Z.length : Int)) = true := by simp
          clear h10 HSM
          go_wp2
          go_ret
          exact ⟨rfl, HF.out⟩
end Go.Proofs.YthcgbchgfdkhiaaDoor
