/- Joined of: Ybd Ywo Ype. -/
import Derived.Test.YtpalfmgloddhcaaGreatDoorYsl
import Derived.Test.YtpalfmgloddhcaaGreatDoorYrw
import Derived.Shelf.Strings.Builder1
import Derived.Shelf.RegionOpenPlain
import Derived.Deep.RegionWith
/- The text that is written: a strings.Builder within. -/
namespace Go.Proofs.YtpalfmgloddhcaaGreatDoor
set_option linter.unusedSimpArgs false
set_option linter.unusedVariables false
open Go.RowKit
set_option maxRecDepth 100000
theorem infoByte : (Tryz.prog.info? 5).map (fun i => (i.zero, i.size, i.bytes)) = some (some (.int .u8 0), 1, 1) := by kernel_rfl
theorem sizeBd : (Tryz.prog.info? 55).map (·.size) = some 2 := by kernel_rfl
theorem liesBd : liesAt Tryz.prog Tryz.prog.depth 57 (2 / Tryz.prog.cellsOf 57) 0 55 1 = true := by kernel_rfl
/-- The text at b holds these bytes. -/
def Bld (B b : Nat) (l : List UInt8) (w : World) : Prop := ∃ p, (p = .pointer none ∨ p = .pointer (some ⟨b, 0, none⟩)) ∧ Lib.BuilderAt 57 5 B b p (Lib.byteCells l) w
theorem Bld.below {B b : Nat} {l : List UInt8} {w w' : World} (h : Bld B b l w) (hb : Below w.heap.size w w') : Bld B b l w' := by
  obtain ⟨p, hp, h1, v, h2, h3, h4⟩ := h
  exact ⟨p, hp, h1, v, (hb.block b (Array.getElem?_eq_some_iff.1 h2).1).trans h2, ⟨h3.1, h3.2.imp id fun ⟨g, cap, cur, hv, hg, hc, rest⟩ => ⟨g, cap, cur, hv, hg, (hb.block g (Array.getElem?_eq_some_iff.1 hc).1).trans hc, rest⟩⟩, h4⟩
set_option maxHeartbeats 1000000 in
theorem copyCheck_any (B b : Nat) (l : List UInt8) (w : World) (h : Bld B b l w) :
    Calls Tryz.prog 50 #[.pointer (some ⟨b, 0, none⟩)] w fun e w' => e = .returned (.tuple #[]) ∧ Lib.BuilderAt 57 5 B b (.pointer (some ⟨b, 0, none⟩)) (Lib.byteCells l) w' ∧ Below B w w' := by
  obtain ⟨j, hj, hjs⟩ := Option.map_eq_some_iff.1 sizeBd
  obtain ⟨p, hp | hp, h⟩ := h
  · subst hp
    have h0 := h.cell0
    have hsh := h.shape
    have hfz := h.frozen0
    have HU := Lib.hid (h.used (.pointer (some ⟨b, 0, none⟩)))
    have hB := h.1
    clear h
    go_enter Tryz.func50, Tryz.ntmps50
    go_wp2
    rw [Lib.run_to_unsafe w ⟨b, 0, none⟩ Tryz.underlying52 Tryz.underlying145 hj (by rw [hjs]; decide) hsh (Nat.zero_lt_succ 1)]
    simp only [Result.andThen]
    rw [Oper.upon_value]
    go_wp2
    rw [run_callFunc_extern Tryz.func90 (by kernel_rfl) (by kernel_rfl) (by kernel_rfl) (e := Extern.AbiNoEscape.same) (by kernel_rfl)]
    rw [Lib.run_noEscape]
    simp only [Result.andThen]
    rw [Oper.upon_value]
    go_wp2
    rw [Lib.run_from_unsafe w ⟨b, 0, none⟩ Tryz.underlying145 Tryz.underlying52 hj hsh liesBd]
    simp only [Result.andThen]
    rw [Oper.upon_value]
    go_wp2
    go_end0
    exact ⟨rfl, HU.out, (Below.refl B w).setCell (p := ⟨b, 0, none⟩) hB _⟩
  · subst hp
    have h0 := h.cell0
    have H := Lib.hid h
    clear h
    go_enter Tryz.func50, Tryz.ntmps50
    go_wp2
    rw [Lib.run_neq_ptr_same w _ Tryz.underlying52 hj]
    go_wp2
    go_end0
    exact ⟨rfl, H.out, Below.refl _ _⟩
theorem strCells_tx (u : List UInt8) : Lib.strCells (tx u) = Lib.byteCells u := rfl
theorem byteCells_app (l u : List UInt8) : Lib.byteCells l ++ Lib.byteCells u = Lib.byteCells (l ++ u) := by simp [Lib.byteCells]
set_option maxHeartbeats 2000000 in
theorem write_any (B b : Nat) (l u : List UInt8) (w : World) (h : Bld B b l w) (hlen : l.length + u.length ≤ 1000000) (hBw : B ≤ w.heap.size) :
    Calls Tryz.prog 30 #[.pointer (some ⟨b, 0, none⟩), .string (tx u)] w fun e w' => (∃ v, e = .returned v) ∧ Bld B b (l ++ u) w' ∧ Below B w w' := by
  obtain ⟨i0, hi, hz0, hz1, hz2⟩ := info_parts infoByte
  have HCC := Lib.hid (copyCheck_any B b l w h)
  have hus := tx_size u
  clear h
  go_enter Tryz.func30, Tryz.ntmps30
  go_wp2_with fail
  refine HCC.out.mono ?_
  rintro e w1 ⟨rfl, h1, hb1⟩
  obtain ⟨hB, v, hbk, hown, hne⟩ := h1
  have c0 : w1.cell? ⟨b, 0, none⟩ = some (.pointer (some ⟨b, 0, none⟩)) := by rw [Lib.cell_of_heap hbk]; rfl
  have c1 : w1.cell? ⟨b, 1, none⟩ = some v := by rw [Lib.cell_of_heap hbk]; rfl
  have hbl := Lib.byteCells_length l
  go_wp2_with (at_builtin; refine Lib.wpList_append_own_string _ rfl _ _ 53 9 rfl B 5 i0 Tryz.underlying53 Tryz.underlying9 hi hz0 hz1 hz2 _ _ _ rfl hown (tx u) rfl ?c3 ?c4 ?c5 ?_)
  case c3 => unfold maxLen; omega
  case c4 => omega
  case c5 => have := hb1.size; omega
  intro v' w2 hown' hgrow _
  have hlt : b < w1.heap.size := (Array.getElem?_eq_some_iff.1 hbk).1
  have hb2 : w2.heap[b]? = some (.cells #[.pointer (some ⟨b, 0, none⟩), v] 57 (0, 0)) := by
    rw [hgrow.block b hlt (fun e => hne e.symm)]
    exact hbk
  have d0 : w2.cell? ⟨b, 0, none⟩ = some (.pointer (some ⟨b, 0, none⟩)) := by rw [Lib.cell_of_heap hb2]; rfl
  have d1 : w2.cell? ⟨b, 1, none⟩ = some v := by rw [Lib.cell_of_heap hb2]; rfl
  have f1 : w2.frozen? ⟨b, 1, none⟩ = false := Lib.frozen_of_heap hb2 1
  obtain ⟨ao, n', cap, rfl⟩ : ∃ ao n' cap, v' = .slice ao n' cap := by
    rcases hown'.2 with ⟨hv, _⟩ | ⟨g, cap, cur, hv, _⟩
    · exact ⟨_, _, _, hv⟩
    · exact ⟨_, _, _, hv⟩
  have HA : Hid (Lib.BuilderAt 57 5 B b (.pointer (some ⟨b, 0, none⟩)) (Lib.byteCells (l ++ u)) (w2.setCell ⟨b, 1, none⟩ (.slice ao n' cap))) := by
    refine Lib.BuilderAt.put (T := 57) (e := 5) hB hb2 (bs' := Lib.byteCells (l ++ u)) ?_ (by decide)
    rw [← byteCells_app, show (Lib.byteCells l ++ Lib.byteCells u).length = l.length + u.length by simp [Lib.byteCells]]
    exact hown'
  have HB : Hid (Below B w (w2.setCell ⟨b, 1, none⟩ (.slice ao n' cap))) := (hb1.grown hgrow (by have := hb1.size; omega) (fun k hk => (hown.lt k hk).1)).setCell (p := ⟨b, 1, none⟩) hB _
  clear hown hown' hgrow hb1 hbk hb2 hne c0 c1
  go_wp2
  go_ret2
  exact ⟨⟨_, rfl⟩, ⟨_, .inr rfl, HA.out⟩, HB.out⟩
set_option maxHeartbeats 2000000 in
theorem string_any (B b : Nat) (l : List UInt8) (w : World) (h : Bld B b l w) (h0 : l ≠ []) :
    Calls Tryz.prog 21 #[.pointer (some ⟨b, 0, none⟩)] w fun e w' => e = .returned (.string (tx l)) ∧ Below B w w' := by
  obtain ⟨p, _, hB, v, hbk, hown, hne⟩ := h
  have hl0 : l.length ≠ 0 := by simpa using h0
  rw [Lib.byteCells_length] at hown
  obtain ⟨g, cap, cur, rfl, hbg, hg, hnc, hcm, hcs, htake⟩ : ∃ g cap cur, v = .slice (some ⟨g, 0, none⟩) l.length cap ∧ B ≤ g ∧ w.heap[g]? = some (.cells cur 5 (0, 0)) ∧ l.length ≤ cap ∧ cap ≤ maxLen ∧ cur.size = cap * 1 ∧ cur.toList.take (l.length * 1) = Lib.byteCells l := by
    rcases hown.2 with ⟨_, hz⟩ | ⟨g, cap, cur, hv, r⟩
    · exact absurd hz hl0
    · exact ⟨g, cap, cur, hv, r⟩
  have c1 : w.drew.cell? ⟨b, 1, none⟩ = some (.slice (some ⟨g, 0, none⟩) l.length cap) := by
    have : w.drew.heap[b]? = some (.cells #[p, .slice (some ⟨g, 0, none⟩) l.length cap] 57 (0, 0)) := hbk
    rw [Lib.cell_of_heap this]; rfl
  have hSD : (Builtin.unsafeSliceData_ #[53] 87 #[.slice (some ⟨g, 0, none⟩) l.length cap]).run Tryz.prog w.drew = .ok (.pointer (some ⟨g, 0, none⟩)) w.drew :=
    Lib.run_unsafeSliceData_row _ _ _ _ _ _ (by omega)
  have hUS : (Builtin.unsafeString_ #[87, 3] 9 #[.pointer (some ⟨g, 0, none⟩), .int .i64 l.length]).run Tryz.prog w.drew = .ok (.string ⟨l.toArray⟩) (w.drew.freeze ⟨g, 0, none⟩ l.length) := by
    refine Lib.run_unsafeString_row w.drew 87 3 9 5 Tryz.underlying87 (by kernel_rfl) g cur.size (by have hg' : w.drew.heap[g]? = some (.cells cur 5 (0, 0)) := hg; simp [World.shape?, hg']) l h0 (by omega) (by unfold maxLen at hcm; omega) ?_
    intro j x hx
    have := hown.cells (g := g) rfl j (.int .u8 x.toNat) (by simp [Lib.byteCells, hx])
    exact this
  clear hown hne hbk hg hnc hcm hcs htake
  have mixed : Tryz.prog.follows Departure.mixedOrders = true := by kernel_rfl
  go_enter Tryz.func21, Tryz.ntmps21
  go_wp2
  go_region_o
  all_goals (go_wp2; go_ret; exact ⟨rfl, Lib.below_freeze (Below.drew (Below.refl B w)) (p := ⟨g, 0, none⟩) hbg _⟩)
end Go.Proofs.YtpalfmgloddhcaaGreatDoor

/- Lines of words, of numbers are written. -/
namespace Go.Proofs.YtpalfmgloddhcaaGreatDoor
set_option linter.unusedSimpArgs false
set_option linter.unusedVariables false
open Go.RowKit
set_option maxRecDepth 100000
theorem tail_body : ∀ r : List (List UInt8), Lib.joinTail [32] r = body [32] r
  | [] => rfl
  | w :: r => by
    have := tail_body r
    unfold Lib.joinTail at this ⊢
    rw [List.map_cons, List.flatten_cons, this, body]
theorem join_rowW (ws : List (List UInt8)) : Lib.join ws [32] = rowW ws := by
  cases ws with
  | nil => rfl
  | cons w r => rw [Lib.join_cons, tail_body]; rfl
theorem toL (u : List UInt8) : (tx u).data.toList = u := rfl
set_option maxHeartbeats 2000000 in
theorem words_line (B b : Nat) (l : List UInt8) (ws : List (List UInt8)) (v : Value) (w : World) (h : Bld B b l w) (hne : ws ≠ []) (hv : RdS w v ws) (hN : ws.length ≤ 1000) (hlen : l.length + (rowW ws).length + 1 ≤ 1000000) (hBw : B ≤ w.heap.size) :
    Calls Tryz.prog 18 #[.pointer (some ⟨b, 0, none⟩), v] w fun e w' => e = .returned (.tuple #[]) ∧ Bld B b (l ++ rowW ws ++ [10]) w' ∧ Below B w w' := by
  obtain ⟨g, o, c, rfl, hc, hcell⟩ : ∃ g o c, v = .slice (some ⟨g, o, none⟩) ws.length c ∧ ws.length ≤ c ∧ ∀ (j : Nat) u, ws[j]? = some u → w.cell? ⟨g, o + j, none⟩ = some (.string (tx u)) := by
    rcases hv with ⟨h, _⟩ | h
    · exact absurd h hne
    · exact h
  have hg : g < w.heap.size := by
    obtain ⟨u, r, rfl⟩ := List.exists_cons_of_ne_nil hne
    exact World.block_lt_of_cell? w _ (hcell 0 u rfl)
  have HJ : Hid (Calls Tryz.prog 31 #[.slice (some ⟨g, o, none⟩) ws.length c, .string ⟨#[32]⟩] w.drew fun e w' => e = .returned (.string (tx (rowW ws))) ∧ Below w.heap.size w.drew w') := by
    have e1 : (ws.map tx).map (·.data.toList) = ws := by
      rw [List.map_map]
      conv => rhs; rw [← List.map_id ws]
      rfl
    have := Tryz.strings_Join g o c (ws.map tx) ⟨#[32]⟩ w.drew (fun j x hx => by
      obtain ⟨u, hu, rfl⟩ := List.getElem?_eq_some_iff.1 hx |> fun ⟨hj, e⟩ => (⟨ws[j]'(by simpa using hj), List.getElem?_eq_getElem (by simpa using hj), by rw [← e]; simp⟩ : ∃ u, ws[j]? = some u ∧ tx u = x)
      exact hcell j u hu) hg (by simp; omega) (by simpa using hc) (by rw [e1]; show (Lib.join ws [32]).length ≤ _; rw [join_rowW]; omega)
    rw [e1, List.length_map] at this
    rw [show Lib.join ws (⟨#[32]⟩ : ByteArray).data.toList = rowW ws from join_rowW ws] at this
    exact this
  have hbb := h.below (w' := w.drew) (Below.refl _ _).drew
  clear hcell hc hv h
  go_enter Tryz.func18, Tryz.ntmps18
  go_wp2_with fail
  go_region_with (first | (go_at_call 31; refine HJ.out.mono ?_; rintro e w1 ⟨rfl, h1⟩; have hb1 := Bld.below (w' := w1) hbb h1; have hz1 := h1.size) | (go_at_call 30; refine (write_any B b l (rowW ws) _ hb1 (by omega) (Nat.le_trans hBw hz1)).mono ?_; rintro e w2 ⟨⟨rv, rfl⟩, hb2, h2⟩; have H2 := Lib.hid h2; have hz2 := Nat.le_trans (Nat.le_trans hBw hz1) h2.size))
  have HB1 := Lib.hid ((Below.mono (show Below w.heap.size w w1 from (Below.refl _ _).drew.trans h1) hBw).trans h2)
  clear h1 hb1 hz1 h2 hbb HJ
  go_wp2_with fail
  have HW := write_any B b (l ++ rowW ws) [10] w2 hb2 (by simp; omega) hz2
  refine HW.mono ?_
  rintro e w3 ⟨⟨rv2, rfl⟩, hb3, h3⟩
  have HB2 := Lib.hid (HB1.out.trans h3)
  clear h3 hb2 HW
  go_wp2
  go_end0
  exact ⟨rfl, hb3, HB2.out⟩
set_option maxHeartbeats 4000000 in
theorem numbers_line (Tb : World → Prop) (B b : Nat) (l : List UInt8) (xs : List Int) (g o c : Nat) (w : World) (h : Bld B b l w) (hne : xs ≠ []) (hN : xs.length ≤ 1000) (hx : ∀ x ∈ xs, (numT x).length ≤ 30) (hc : ∀ (i : Nat) x, xs[i]? = some x → w.cell? ⟨g, o + i, none⟩ = some (.int .i64 x)) (hlen : l.length + (rowW (xs.map numT)).length + 1 ≤ 1000000) (hBw : B ≤ w.heap.size)
    (hT : Tb w) (hTb : ∀ x y, Tb x → Below w.heap.size x y → Tb y) (HI : ∀ x ∈ xs, ∀ w', Tb w' → Calls Tryz.prog 19 #[.int .i64 x] w' fun e w'' => e = .returned (.string (tx (numT x))) ∧ Below w'.heap.size w' w'') :
    Calls Tryz.prog 17 #[.pointer (some ⟨b, 0, none⟩), .slice (some ⟨g, o, none⟩) xs.length c] w fun e w' => e = .returned (.tuple #[]) ∧ Bld B b (l ++ rowW (xs.map numT) ++ [10]) w' ∧ Below B w w' := by
  have HC := Lib.hid hc
  have H := Lib.hid h
  have HII := Lib.hid HI
  have HTB := Lib.hid hTb
  clear hc h HI hTb
  go_enter Tryz.func17, Tryz.ntmps17
  go_wp2_with fail
  go_loopw [4, 9] (fun v j wr => ∃ i : Nat, i ≤ xs.length ∧ j = .int .i64 (i : Int) ∧ wr.ownsRow w.heap.size 9 1 v i (strs ((xs.take i).map numT)) ∧ Tb wr ∧ Below w.heap.size w wr) (fun _ j _ => xs.length - (intOf j).toNat)
  case atStart => exact ⟨0, Nat.zero_le _, rfl, World.ownsRow_nil _ _ _ _, hT, Below.refl _ _⟩
  case round =>
    obtain ⟨i, hi, rfl, ho, ht, hb⟩ := hrel
    have HO := Lib.hid ho
    have HTT := Lib.hid ht
    clear ho ht
    by_cases hlt : i < xs.length
    · obtain ⟨x, hxi⟩ : ∃ x, xs[i]? = some x := ⟨_, List.getElem?_eq_getElem hlt⟩
      have c1 := cell_below hb (HC.out i x hxi)
      have HN := Lib.hid (HII.out x (List.mem_of_getElem? hxi) wr HTT.out)
      have htk : (xs.take (i + 1)).map numT = (xs.take i).map numT ++ [numT x] := by rw [List.take_add_one, hxi]; simp
      have HTK := Lib.hid htk
      clear hxi htk
      go_wp2_with fail
      refine HN.out.mono ?_
      rintro e w1 ⟨rfl, h1⟩
      have HO1 := Lib.hid (owns_below HO.out h1)
      have HT1 := Lib.hid (HTB.out _ _ HTT.out (h1.mono hb.size))
      have hb1 := bthen hb h1
      have hbs := hb1.size
      clear HO h1 hb c1
      go_wp2_with (first | (at_builtin; refine app_str rfl rfl rfl rfl (HO1.out.alloc _) (Blk.new _ _ _ rfl) (by omega) (by simp; omega) ?_; intro v' w3 hown3 h3; have HO4 := Lib.hid hown3; have H3 := Lib.hid h3; clear hown3 h3))
      go_roundw
      case rel =>
        have b3 := (hb1.alloc hbs (.cells #[.string (tx (numT x))] 9)).trans H3.out
        refine ⟨i + 1, by omega, by go_num, ?_, HTB.out _ _ (HTB.out _ _ HT1.out ((Below.refl _ _).alloc hbs (.cells #[.string (tx (numT x))] 9))) H3.out, b3⟩
        rw [HTK.out]
        have := HO4.out
        simpa [strs] using this
      case measure => simp [intOf]; omega
    · obtain rfl : i = xs.length := by omega
      have HO2 := HO.out
      rw [List.take_length] at HO2
      have hrd : RdS wr _ (xs.map numT) := RdS.of_owns (by rw [List.length_map]; exact HO2)
      have HW := Lib.hid (words_line B b l (xs.map numT) _ wr (H.out.below hb) (by simpa using hne) hrd (by rw [List.length_map]; exact hN) hlen (Nat.le_trans hBw hb.size))
      have HBB := Lib.hid (hb.mono hBw)
      clear HO2 hrd hb HO
      go_wp2_with fail
      refine HW.out.mono ?_
      rintro e w1 ⟨rfl, k1, k2⟩
      have K2 := Lib.hid (HBB.out.trans k2)
      clear k2
      go_wp2
      go_end0
      exact ⟨rfl, k1, K2.out⟩
end Go.Proofs.YtpalfmgloddhcaaGreatDoor

/- What Print tells of the drawing of nothing. -/
namespace Go.Proofs.YtpalfmgloddhcaaGreatDoor
set_option linter.unusedSimpArgs false
set_option linter.unusedVariables false
open Go.RowKit
set_option maxRecDepth 100000
theorem itoa_low (x : Int) (hx : x = 0 ∨ x = 1 ∨ x = 2) (w : World) : Calls Tryz.prog 19 #[.int .i64 x] w fun e w' => e = .returned (.string (tx (numT x))) ∧ Below w.heap.size w w' := by
  rcases hx with rfl | rfl | rfl
  · refine (Tryz.strconv_Itoa_small 0 (by decide) w).mono ?_
    rintro e w' ⟨rfl, rfl⟩
    exact ⟨by with_unfolding_all rfl, Below.refl _ _⟩
  · refine (Tryz.strconv_Itoa_small 1 (by decide) w).mono ?_
    rintro e w' ⟨rfl, rfl⟩
    exact ⟨by with_unfolding_all rfl, Below.refl _ _⟩
  · refine (Tryz.strconv_Itoa_small 2 (by decide) w).mono ?_
    rintro e w' ⟨rfl, rfl⟩
    exact ⟨by with_unfolding_all rfl, Below.refl _ _⟩
theorem zeroTx : (Tryz.prog.info? 57).map (·.zero) = some (some (.agg [Value.pointer none, .slice none 0 0].toArray)) := by kernel_rfl
theorem numbers_low (B b : Nat) (l : List UInt8) (xs : List Int) (g o c : Nat) (w : World) (h : Bld B b l w) (hne : xs ≠ []) (hN : xs.length ≤ 10) (hx : ∀ x ∈ xs, x = 0 ∨ x = 1 ∨ x = 2) (hc : ∀ (i : Nat) x, xs[i]? = some x → w.cell? ⟨g, o + i, none⟩ = some (.int .i64 x)) (hlen : l.length + (rowW (xs.map numT)).length + 1 ≤ 1000000) (hBw : B ≤ w.heap.size) :
    Calls Tryz.prog 17 #[.pointer (some ⟨b, 0, none⟩), .slice (some ⟨g, o, none⟩) xs.length c] w fun e w' => e = .returned (.tuple #[]) ∧ Bld B b (l ++ rowW (xs.map numT) ++ [10]) w' ∧ Below B w w' :=
  numbers_line (fun _ => True) B b l xs g o c w h hne (by omega) (fun x hx' => Nat.le_trans (numT_len x) (by decide)) hc hlen hBw trivial (fun _ _ _ _ => trivial) (fun x hx' w' _ => itoa_low x (hx x hx') w')
theorem bld_new (w : World) (B : Nat) (hB : B ≤ w.heap.size) : Bld B w.heap.size [] (w.alloc (.cells #[Value.pointer none, .slice none 0 0] 57)) :=
  ⟨_, .inl rfl, hB, _, heap_alloc_new w _, World.ownsRow_nil _ _ _ _, by simp [Value.ownBlock]⟩
set_option maxHeartbeats 4000000 in
theorem Print_none (w : World) : Calls Tryz.prog 9 #[.agg #[.slice none 0 0, .slice none 0 0, .slice none 0 0]] w fun e w' => e = .returned (.string ⟨#[48, 32, 50, 32, 48, 32, 49, 10, 48, 32, 49, 10, 48, 10]⟩) ∧ Below w.heap.size w w' := by
  have B1 := Blk.new w [.slice none 0 0, .slice none 0 0, .slice none 0 0] 26 rfl
  have hb : Below w.heap.size w (w.alloc (.cells #[.slice none 0 0, .slice none 0 0, .slice none 0 0] 26)) := (Below.refl _ _).alloc (Nat.le_refl _) _
  go_enter Tryz.func9, Tryz.ntmps9
  go_wp2_with (first | (with_reducible refine al_blk rfl rfl zeroTx ?_))
  have hz1 : (w.alloc (.cells #[.slice none 0 0, .slice none 0 0, .slice none 0 0] 26)).heap.size = w.heap.size + 1 := by simp
  have hz2 : ((w.alloc (.cells #[.slice none 0 0, .slice none 0 0, .slice none 0 0] 26)).alloc (.cells #[.pointer none, .slice none 0 0] 57)).heap.size = w.heap.size + 1 + 1 := by simp
  have BD := bld_new (w.alloc (.cells #[.slice none 0 0, .slice none 0 0, .slice none 0 0] 26)) (w.heap.size + 1) (by omega)
  rw [hz1] at BD
  generalize w.alloc (.cells #[.slice none 0 0, .slice none 0 0, .slice none 0 0] 26) = W1 at *
  have C1 := Blk.new (W1.alloc (.cells #[.pointer none, .slice none 0 0] 57)) [.int .i64 0, .int .i64 2, .int .i64 0, .int .i64 1] 3 rfl
  rw [hz2] at C1
  replace BD := BD.below ((Below.refl _ _).alloc (Nat.le_refl _) (.cells #[.int .i64 0, .int .i64 2, .int .i64 0, .int .i64 1] 3))
  replace B1 := (B1.old (.cells #[.pointer none, .slice none 0 0] 57)).old (.cells #[.int .i64 0, .int .i64 2, .int .i64 0, .int .i64 1] 3)
  replace hb := (hb.alloc hb.size (.cells #[.pointer none, .slice none 0 0] 57)).alloc (by omega) (.cells #[.int .i64 0, .int .i64 2, .int .i64 0, .int .i64 1] 3)
  have hz3 : ((W1.alloc (.cells #[.pointer none, .slice none 0 0] 57)).alloc (.cells #[.int .i64 0, .int .i64 2, .int .i64 0, .int .i64 1] 3)).heap.size = w.heap.size + 1 + 1 + 1 := by simp [hz1]
  generalize (W1.alloc (.cells #[.pointer none, .slice none 0 0] 57)).alloc (.cells #[.int .i64 0, .int .i64 2, .int .i64 0, .int .i64 1] 3) = W at *
  clear hz1 hz2
  have N1 := numbers_low (w.heap.size + 1) (w.heap.size + 1) [] [0, 2, 0, 1] (w.heap.size + 1 + 1) 0 4 W BD (by decide) (by decide) (by decide) (fun i x hi => by
    rw [Nat.zero_add]
    match i, hi with
    | 0, hi => simp at hi; subst hi; exact C1.cell rfl
    | 1, hi => simp at hi; subst hi; exact C1.cell rfl
    | 2, hi => simp at hi; subst hi; exact C1.cell rfl
    | 3, hi => simp at hi; subst hi; exact C1.cell rfl
    | n + 4, hi => simp at hi) (by decide) (by omega)
  clear BD C1
  refine N1.mono ?_
  rintro e w1 ⟨rfl, BD, h1⟩
  have hs1 : w.heap.size + 1 + 1 + 1 ≤ w1.heap.size := by have := h1.size; omega
  replace B1 := B1.below h1 (by omega)
  replace hb := hb.trans (h1.mono (by omega))
  clear N1 h1
  have c0 := B1.cell (i := 0) rfl
  have c1 := B1.cell (i := 1) rfl
  have c2 := B1.cell (i := 2) rfl
  go_wp2_with fail
  refine wp_loop_rounds 1 ?_
  rw [rounds_succ]
  clear hz3
  have C1 := Blk.new w1 [.int .i64 0, .int .i64 1] 3 rfl
  replace BD := BD.below ((Below.refl _ _).alloc (Nat.le_refl _) (.cells #[.int .i64 0, .int .i64 1] 3))
  replace B1 := B1.old (.cells #[.int .i64 0, .int .i64 1] 3)
  replace hb := hb.alloc hb.size (.cells #[.int .i64 0, .int .i64 1] 3)
  go_wp2_with fail
  clear c0 c1 c2
  have N1 := numbers_low (w.heap.size + 1) (w.heap.size + 1) _ [0, 1] w1.heap.size 0 2 (w1.alloc (.cells #[.int .i64 0, .int .i64 1] 3)) BD (by decide) (by decide) (by decide) (fun i x hi => by
    rw [Nat.zero_add]
    match i, hi with
    | 0, hi => simp at hi; subst hi; exact C1.cell rfl
    | 1, hi => simp at hi; subst hi; exact C1.cell rfl
    | n + 2, hi => simp at hi) (by decide) (by simp; omega)
  clear BD C1
  refine N1.mono ?_
  rintro e w2 ⟨rfl, BD, h1⟩
  have hs2 : w1.heap.size + 1 ≤ w2.heap.size := by have := h1.size; simpa using this
  replace B1 := B1.below h1 (by omega)
  replace hb := hb.trans (h1.mono (by omega))
  clear N1 h1
  have c0 := B1.cell (i := 0) rfl
  have c1 := B1.cell (i := 1) rfl
  have c2 := B1.cell (i := 2) rfl
  go_wp2_with fail
  refine wp_loop_rounds 1 ?_
  rw [rounds_succ]
  have C1 := Blk.new w2 [.int .i64 0] 3 rfl
  replace BD := BD.below ((Below.refl _ _).alloc (Nat.le_refl _) (.cells #[.int .i64 0] 3))
  replace B1 := B1.old (.cells #[.int .i64 0] 3)
  replace hb := hb.alloc hb.size (.cells #[.int .i64 0] 3)
  go_wp2_with fail
  clear c0 c1 c2
  have N1 := numbers_low (w.heap.size + 1) (w.heap.size + 1) _ [0] w2.heap.size 0 1 (w2.alloc (.cells #[.int .i64 0] 3)) BD (by decide) (by decide) (by decide) (fun i x hi => by
    rw [Nat.zero_add]
    match i, hi with
    | 0, hi => simp at hi; subst hi; exact C1.cell rfl
    | n + 1, hi => simp at hi) (by decide) (by simp; omega)
  clear BD C1
  refine N1.mono ?_
  rintro e w3 ⟨rfl, BD, h1⟩
  have hs3 : w2.heap.size + 1 ≤ w3.heap.size := by have := h1.size; simpa using this
  replace B1 := B1.below h1 (by omega)
  replace hb := hb.trans (h1.mono (by omega))
  clear N1 h1
  have c2 := B1.cell (i := 2) rfl
  go_wp2_with fail
  refine wp_loop_rounds 1 ?_
  rw [rounds_succ]
  go_wp2_with fail
  have N2 := string_any (w.heap.size + 1) (w.heap.size + 1) _ w3 BD (by decide)
  refine N2.mono ?_
  rintro e w4 ⟨rfl, h1⟩
  replace hb := hb.trans (h1.mono (by omega))
  clear N2 h1 BD B1
  go_wp2
  go_ret
  exact ⟨by with_unfolding_all rfl, hb⟩
end Go.Proofs.YtpalfmgloddhcaaGreatDoor
