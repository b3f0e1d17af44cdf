/- option.Parse: the walk. -/
import Derived.Test.YthcgbchgfdkhiaaDoorZpa
namespace Go.Proofs.YthcgbchgfdkhiaaDoor
set_option linter.unusedSimpArgs false
set_option linter.unusedVariables false
open Go.RowKit
set_option maxRecDepth 100000
def o0 : Opt := ⟨64, 4096, []⟩
def zO : List Value := [.int .i64 0, .int .i64 0, .slice none 0 0]
/-- What Parse answers. -/
def Ans (w' : World) (B : Nat) (e : Ending) (r : Option Opt) : Prop := match r with
  | none => e = .returned (.tuple #[.agg #[.int .i64 0, .int .i64 0, .slice none 0 0], .bool false])
  | some o => ∃ zv, e = .returned (.tuple #[.agg #[.int .i64 o.h, .int .i64 o.c, zv], .bool true]) ∧ w'.ownsRow B 40 3 zv o.z.length (o.z.flatMap celZ)
theorem wOp {a b : Int} {v : Value} : Whole Tryd.prog 25 ([.int .i64 a, .int .i64 b, v] : List Value).length := ⟨_, Tryd.underlying25, rfl, by kernel_rfl⟩
theorem prs_none {l t : List (List UInt8)} {u : List UInt8} {o : Opt} (h : parseL o0 l = some o) (hu : takeO o u = none) : prs (l ++ u :: t) = none := by
  have e : parseL o0 (l ++ [u]) = none := by rw [parseL_snoc, h]; exact hu
  have := parseL_none (l ++ [u]) t o0 e
  rw [List.append_assoc] at this
  unfold prs
  rw [show parseL ⟨64, 4096, []⟩ (l ++ u :: t) = none from this]
theorem at_drop2 {l : List (List UInt8)} {i : Nat} {u : List UInt8} (h : l[i]? = some u) : l.drop i = u :: l.drop (i + 1) := by
  obtain ⟨hi, rfl⟩ := List.getElem?_eq_some_iff.1 h
  exact (List.getElem_cons_drop hi).symm
theorem own_le {w wr : World} {zv : Value} {n : Nat} {xs : List Value} (h : wr.ownsRow (w.heap.size + 2) 40 3 zv n xs) : wr.ownsRow w.heap.size 40 3 zv n xs := Go.Joins.ownsRow_le h (by omega)
theorem zO_set (a b : Int) (v : Value) : ((zO.set 0 (.int .i64 a)).set 1 (.int .i64 b)).set 2 v = [.int .i64 a, .int .i64 b, v] := rfl
theorem res25 {w wr : World} (hR : Blk wr w.heap.size zO 25) (hb : Below w.heap.size w wr) (a b : Int) (v : Value) : Blk (((wr.setCell ⟨w.heap.size, 0, none⟩ (.int .i64 a)).setCell ⟨w.heap.size, 1, none⟩ (.int .i64 b)).setCell ⟨w.heap.size, 2, none⟩ v) w.heap.size [.int .i64 a, .int .i64 b, v] 25 ∧
    Below w.heap.size w (((wr.setCell ⟨w.heap.size, 0, none⟩ (.int .i64 a)).setCell ⟨w.heap.size, 1, none⟩ (.int .i64 b)).setCell ⟨w.heap.size, 2, none⟩ v) :=
  ⟨((hR.set 0 (.int .i64 a)).set 1 (.int .i64 b)).set 2 v, ((hb.setCell (Nat.le_refl _) _).setCell (Nat.le_refl _) _).setCell (Nat.le_refl _) _⟩
theorem own25 {w wr : World} {zv : Value} {n : Nat} {xs : List Value} {B : Nat} (h : wr.ownsRow B 40 3 zv n xs) (hB : w.heap.size < B) (a b : Int) (v : Value) : (((wr.setCell ⟨w.heap.size, 0, none⟩ (.int .i64 a)).setCell ⟨w.heap.size, 1, none⟩ (.int .i64 b)).setCell ⟨w.heap.size, 2, none⟩ v).ownsRow B 40 3 zv n xs :=
  ownsRow_setCell_below (ownsRow_setCell_below (ownsRow_setCell_below h (show (⟨w.heap.size, 0, none⟩ : Addr).block < B from hB) _) (show (⟨w.heap.size, 1, none⟩ : Addr).block < B from hB) _) (show (⟨w.heap.size, 2, none⟩ : Addr).block < B from hB) _
def iO : List Value := [.int .i64 64, .int .i64 4096, .slice none 0 0]
def w3O (w : World) : World := (w.alloc (.cells zO.toArray 25)).alloc (.cells iO.toArray 25)
theorem init25 (w : World) : Opb (w.heap.size + 2) (w.heap.size + 1) o0 (w3O w) ∧ Blk (w3O w) w.heap.size zO 25 ∧ Below w.heap.size w (w3O w) ∧ (w3O w).heap.size = w.heap.size + 2 :=
  ⟨⟨.slice none 0 0, Blk.new (w.alloc (.cells zO.toArray 25)) iO 25 (show w.heap.size + 1 = _ by simp), World.ownsRow_nil _ _ _ _⟩, (Blk.new w zO 25 rfl).old (.cells iO.toArray 25),
    ((Below.refl w.heap.size w).alloc (Nat.le_refl _) (.cells zO.toArray 25)).alloc (by simp) (.cells iO.toArray 25), by simp [w3O]⟩
set_option maxHeartbeats 8000000 in
theorem parse_any (l : List (List UInt8)) (v : Value) (w : World) (hv : RdS w v l) (hl : l.length ≤ 1000) (hu : ∀ u ∈ l, u.length ≤ 1000000) (hE : Env w) :
    Calls Tryd.prog 7 #[v] w fun e w' => Below w.heap.size w w' ∧ Ans w' w.heap.size e (prs l) := by
  have hsh : ∃ a c, v = .slice a l.length c := by
    rcases hv with ⟨rfl, a, c, rfl⟩ | ⟨b, o, c, rfl, _⟩
    · exact ⟨a, c, rfl⟩
    · exact ⟨_, _, rfl⟩
  obtain ⟨sa, sc, rfl⟩ := hsh
  have hat : ∀ (i : Nat) u, l[i]? = some u → ∃ b o, sa = some ⟨b, o, none⟩ ∧ w.cell? ⟨b, o + i, none⟩ = some (.string (tx u)) := by
    intro i u hi
    rcases hv with ⟨rfl, _⟩ | ⟨b, o, c, e, _, hc⟩
    · simp at hi
    · exact ⟨b, o, by injection e, hc i u hi⟩
  have hi := init25 w
  have HAT := Lib.hid hat
  have HU := Lib.hid hu
  have HE := Lib.hid hE
  clear hv hat hu hE
  go_enter Tryd.func7, Tryd.ntmps7
  go_wp2_with fail
  rw [show (w.alloc (.cells #[.int .i64 0, .int .i64 0, .slice none 0 0] 25)).alloc (.cells #[.int .i64 64, .int .i64 4096, .slice none 0 0] 25) = w3O w from rfl]
  generalize w3O w = W0 at hi ⊢
  obtain ⟨hi1, hi2, hi3, hi4⟩ := hi
  have HI1 := Lib.hid hi1
  clear hi1
  go_loopw [10] (fun j wr => ∃ (i : Nat) (o : Opt), i ≤ l.length ∧ j = .int .i64 (i : Int) ∧ parseL o0 (l.take i) = some o ∧ o.z.length ≤ i ∧ Opb (w.heap.size + 2) (w.heap.size + 1) o wr ∧ Blk wr w.heap.size zO 25 ∧ w.heap.size + 2 ≤ wr.heap.size ∧ Below w.heap.size w wr) (fun j _ => l.length - (intOf j).toNat)
  case atStart => exact ⟨0, o0, Nat.zero_le _, rfl, rfl, Nat.zero_le _, HI1.out, hi2, by omega, hi3⟩
  case round =>
    generalize wr = W1 at *
    obtain ⟨i, o, hi, rfl, hp, hz, hO, hR, hsz, hb⟩ := hrel
    clear hi2 hi3 hi4 HI1
    by_cases hlt : i < l.length
    · obtain ⟨u, hui⟩ : ∃ u, l[i]? = some u := ⟨_, List.getElem?_eq_getElem hlt⟩
      obtain ⟨gb, go, rfl, hc⟩ := HAT.out i u hui
      have c1 := cell_below hb hc
      have HT := Lib.hid (take_any u (w.heap.size + 2) (w.heap.size + 1) o W1 (HU.out u (List.mem_of_getElem? hui)) hO (by omega) hsz (HE.out.below hb) (by omega))
      have HUI := Lib.hid hui
      have HP := Lib.hid hp
      have HR := Lib.hid hR
      have HB := Lib.hid hb
      clear hui hc hp hO hR hb
      go_wp2_with fail
      refine HT.out.mono ?_
      rintro e w2 ⟨hb2, ⟨o', rfl, ht, hz2, hO2⟩ | ⟨rfl, ht⟩⟩
      · have hR2 := HR.out.below hb2 (by omega)
        have hb3 := HB.out.trans (hb2.mono (by omega))
        have hsz2 := Nat.le_trans hsz hb2.size
        have HP2 : Hid (parseL o0 (l.take (i + 1)) = some o') := by
          show _ = _
          rw [List.take_add_one, HUI.out, Option.toList_some, parseL_snoc, HP.out]; exact ht
        clear hb2 ht
        go_wp2_with fail
        go_roundw
        case rel => exact ⟨i + 1, o', by omega, by go_num, HP2.out, by omega, hO2, hR2, hsz2, hb3⟩
        case measure => simp [intOf]; omega
      · have hR2 := HR.out.below hb2 (by omega)
        have hb3 := HB.out.trans (hb2.mono (by omega))
        have HN : Hid (prs l = none) := by
          show _ = _
          have e : l = l.take i ++ u :: l.drop (i + 1) := by
            rw [← at_drop2 HUI.out, List.take_append_drop]
          rw [e]
          exact prs_none HP.out ht
        have r0 : w2.cell? ⟨w.heap.size, 0, none⟩ = some (.int .i64 0) := hR2.cell rfl
        have r1 : w2.cell? ⟨w.heap.size, 1, none⟩ = some (.int .i64 0) := hR2.cell rfl
        have r2 : w2.cell? ⟨w.heap.size, 2, none⟩ = some (.slice none 0 0) := hR2.cell rfl
        have f0 := hR2.frozen 0
        have f1 := hR2.frozen 1
        have f2 := hR2.frozen 2
        have HR2 := Lib.hid hR2
        have HB3 := Lib.hid hb3
        clear hb2 ht hR2 hb3
        go_wp2_with fail
        have K := res25 HR2.out HB3.out 0 0 (.slice none 0 0)
        exact ret_ct (cs := [.int .i64 0, .int .i64 0, .slice none 0 0]) (v := .bool false) rfl rfl rfl rfl wOp K.1 ⟨K.2, by rw [HN.out]; rfl⟩
    · obtain rfl : l.length = i := by omega
      rw [List.take_length] at hp
      obtain ⟨zv, hB, hown⟩ := hO
      obtain ⟨za, zc, rfl⟩ := (RdZ.of_owns hown).shape
      have HI := Lib.hid (is_any o.h o.c za zc o.z W1 (RdZ.of_owns hown) (by omega))
      have c0 := hB.cell (i := 0) rfl
      have c1 := hB.cell (i := 1) rfl
      have c2 := hB.cell (i := 2) rfl
      have HP := Lib.hid hp
      have HB := Lib.hid hB
      have HR := Lib.hid hR
      have HBB := Lib.hid hb
      have HOW := Lib.hid hown
      clear hp hB hR hb hown
      cases hok : opOk o.h o.c o.z
      · rw [hok] at HI
        have HN : Hid (prs l = none) := by
          show _ = _
          unfold prs
          rw [show parseL ⟨64, 4096, []⟩ l = some o from HP.out]
          show (if okO o = true then some o else none) = none
          rw [show okO o = false from hok]; rfl
        clear hok
        go_wp2_with fail
        refine HI.out.mono ?_
        rintro e w2 ⟨rfl, hb2⟩
        have hR2 := HR.out.call hb2
        have hb3 := bthen HBB.out hb2
        have r0 : w2.cell? ⟨w.heap.size, 0, none⟩ = some (.int .i64 0) := hR2.cell rfl
        have r1 : w2.cell? ⟨w.heap.size, 1, none⟩ = some (.int .i64 0) := hR2.cell rfl
        have r2 : w2.cell? ⟨w.heap.size, 2, none⟩ = some (.slice none 0 0) := hR2.cell rfl
        have f0 := hR2.frozen 0
        have f1 := hR2.frozen 1
        have f2 := hR2.frozen 2
        have HR2 := Lib.hid hR2
        have HB3 := Lib.hid hb3
        clear hb2 hR2 hb3 c0 c1 c2
        go_wp2_with fail
        have K := res25 HR2.out HB3.out 0 0 (.slice none 0 0)
        exact ret_ct (cs := [.int .i64 0, .int .i64 0, .slice none 0 0]) (v := .bool false) rfl rfl rfl rfl wOp K.1 ⟨K.2, by rw [HN.out]; rfl⟩
      · rw [hok] at HI
        have HN : Hid (prs l = some o) := by
          show _ = _
          unfold prs
          rw [show parseL ⟨64, 4096, []⟩ l = some o from HP.out]
          show (if okO o = true then some o else none) = some o
          rw [show okO o = true from hok]; rfl
        clear hok
        go_wp2_with fail
        refine HI.out.mono ?_
        rintro e w2 ⟨rfl, hb2⟩
        have hB2 := HB.out.call hb2
        have hR2 := HR.out.call hb2
        have hb3 := bthen HBB.out hb2
        have hO2 := owns_below HOW.out hb2
        clear c0 c1 c2
        have c0 := hB2.cell (i := 0) rfl
        have c1 := hB2.cell (i := 1) rfl
        have c2 := hB2.cell (i := 2) rfl
        have r0 : w2.cell? ⟨w.heap.size, 0, none⟩ = some (.int .i64 0) := hR2.cell rfl
        have r1 : w2.cell? ⟨w.heap.size, 1, none⟩ = some (.int .i64 0) := hR2.cell rfl
        have r2 : w2.cell? ⟨w.heap.size, 2, none⟩ = some (.slice none 0 0) := hR2.cell rfl
        have f0 := hR2.frozen 0
        have f1 := hR2.frozen 1
        have f2 := hR2.frozen 2
        have HR2 := Lib.hid hR2
        have HB3 := Lib.hid hb3
        have HO2 := Lib.hid hO2
        clear hb2 hR2 hb3 hO2 hB2
        go_wp2_with fail
        have K := res25 HR2.out HB3.out o.h o.c (.slice za o.z.length zc)
        exact ret_ct (cs := [.int .i64 o.h, .int .i64 o.c, .slice za o.z.length zc]) (v := .bool true) rfl rfl rfl rfl wOp K.1 ⟨K.2, by rw [HN.out]; exact ⟨_, rfl, own_le (own25 HO2.out (by omega) o.h o.c _)⟩⟩
end Go.Proofs.YthcgbchgfdkhiaaDoor
