/- A hole's point of a list is read. -/
import Derived.Test.YtpalfmgloddhcaaGreatDoorYis
import Derived.Test.YtpalfmgloddhcaaGreatDoorPnt
namespace Go.Proofs.YtpalfmgloddhcaaGreatDoor
set_option linter.unusedSimpArgs false
set_option linter.unusedVariables false
open Go.RowKit
set_option maxRecDepth 100000
/-- What ratio.Parse answers of such words. -/
def Pq (fq : List UInt8 → Int × Int) (ok : List UInt8 → Bool) (P : List UInt8 → Prop) : Prop := ∀ u, P u → ∀ w, Calls Tryz.prog 109 #[.string (tx u)] w fun e w' => e = .returned (.tuple #[.agg (fr (fq u).1 (fq u).2).toArray, .bool (ok u)]) ∧ Below w.heap.size w w'
theorem Rdr.old {w0 : World} {b : Nat} {r : Rd} {w : World} (h : Rdr w0 b r w) (o : Obj) : Rdr w0 b r (w.alloc o) := h.call ((Below.refl _ _).alloc (Nat.le_refl _) o)
theorem Oth.old {b : Nat} {x y : World} (h : Oth b x y) (o : Obj) : Oth b x (y.alloc o) := h.then ((Below.refl _ _).alloc (Nat.le_refl _) o)
set_option maxHeartbeats 4000000 in
theorem fraction_any {fq : List UInt8 → Int × Int} {ok : List UInt8 → Bool} {P : List UInt8 → Prop} (HP : Pq fq ok P) {w0 : World} {b : Nat} {r : Rd} {w : World} (h : Rdr w0 b r w) (hok : Okr P r) :
    Calls Tryz.prog 74 #[.pointer (some ⟨b, 0, none⟩)] w fun e w' => e = .returned (.agg (fr (fq r.hd).1 (fq r.hd).2).toArray) ∧ Rdr w0 b (r.frac ok) w' ∧ Oth b w w' := by
  obtain ⟨n, hn⟩ : ∃ n, (fq r.hd).1 = n := ⟨_, rfl⟩
  obtain ⟨d, hd⟩ : ∃ d, (fq r.hd).2 = d := ⟨_, rfl⟩
  have HC := HP r.hd hok.hd.2
  rw [hn, hd] at HC ⊢
  replace HC := Lib.hid HC
  clear HP hn hd
  have b2 := Blk.new w (rr false 0 false 0) 49 rfl
  have h0 := h.old (.cells (rr false 0 false 0).toArray 49)
  have HO := Lib.hid ((Oth.refl b w).old (.cells (rr false 0 false 0).toArray 49))
  have hsw := Lib.hid h.1.size
  have n2 := h0.ne b2 (by rw [rr_length]; decide)
  go_enter Tryz.func74, Tryz.ntmps74
  go_wp2_with (first | (with_reducible refine alR rfl rfl ?_))
  refine (word_any h0 hok.wl).mono ?_
  rintro e w1 ⟨rfl, k1, k2⟩
  replace b2 := b2.oth k2 n2
  replace HO := Lib.hid (HO.out.trans k2)
  clear h0 k2 h
  go_wp2_with fail
  refine (HC.out _).mono ?_
  rintro e w2 ⟨rfl, h2⟩
  replace b2 := b2.call h2
  replace HO := Lib.hid (HO.out.then h2)
  replace k1 := k1.call h2
  clear h2
  have f := Blk.new w2 (rr false 0 false 0) 49 rfl
  have nf := (k1.old (.cells (rr false 0 false 0).toArray 49)).ne f (by rw [rr_length]; decide)
  have lb := b2.lt
  have lo := HO.out.size
  have ho := hsw.out
  have b3 := f.row (fr n d)
  replace b2 := (b2.old (.cells (rr false 0 false 0).toArray 49)).rowOther (g := w2.heap.size) (fr n d).toArray (by omega)
  have k3 := Lib.hid ((k1.old (.cells (rr false 0 false 0).toArray 49)).setRow (Ne.symm nf) (by omega) (fr n d).toArray)
  replace HO := Lib.hid ((HO.out.old (.cells (rr false 0 false 0).toArray 49)).setRow (g := w2.heap.size) lo (fr n d).toArray)
  clear k1 lo ho
  go_wp2_with (first | (with_reducible refine alR rfl rfl ?_) | (with_reducible refine stR rfl rfl rfl rfl f (rr_length _ _ _ _) ?_))
  clear f
  generalize (w2.alloc (.cells (rr false 0 false 0).toArray 49)).setRow w2.heap.size (fr n d).toArray = W at *
  generalize w2.heap.size = p3 at *
  refine (must_any k3.out (ok r.hd)).mono ?_
  rintro e w3 ⟨rfl, k1, k2⟩
  replace b2 := b2.oth k2 n2
  replace b3 := b3.oth k2 nf
  replace HO := Lib.hid (HO.out.trans k2)
  clear k2 k3
  go_wp2_with (first | (with_reducible refine ldFr rfl rfl rfl b3 ?_) | (with_reducible refine stR rfl rfl rfl rfl b2 (rr_length _ _ _ _) ?_))
  exact ret_c (cs := fr n d) rfl rfl rfl (wholeF _ _) (b2.row _) ⟨rfl, k1.setRow (Ne.symm n2) hsw.out _, HO.out.setRow (Nat.le_refl _) _⟩
set_option maxHeartbeats 8000000 in
theorem hItem {fq : List UInt8 → Int × Int} {ok : List UInt8 → Bool} {P : List UInt8 → Prop} (HP : Pq fq ok P) {w0 : World} {b g1 : Nat} {r : Rd} {w : World} (h : Rdr w0 b r w) (hok : Okr P r)
    (B1 : Blk w g1 [.pointer (some ⟨b, 0, none⟩)] 62) :
    Calls Tryz.prog 73 #[.pointer (some ⟨g1, 0, none⟩)] w fun e w' =>
      e = .returned (.agg (fr (hVal fq ok r).1.1 (hVal fq ok r).1.2 ++ fr (hVal fq ok r).2.1 (hVal fq ok r).2.2).toArray) ∧ Rdr w0 b (hSt ok r) w' ∧ Oth b w w' := by
  have n1 := h.ne B1 (by simp)
  have HO := Lib.hid (Oth.refl b w)
  have HR := Lib.hid h
  have hsw := h.1.size
  clear h
  have e1 := Lib.hid (show hVal fq ok r = (fq r.hd, fq (r.frac ok).hd) from rfl)
  obtain ⟨x1, hx1⟩ : ∃ x, fq r.hd = x := ⟨_, rfl⟩
  obtain ⟨x2, hx2⟩ : ∃ x, fq (r.frac ok).hd = x := ⟨_, rfl⟩
  have HX1 := Lib.hid hx1
  have HX2 := Lib.hid hx2
  rw [e1.out, hx1, hx2]
  clear hx1 hx2
  go_enter Tryz.func73, Tryz.ntmps73
  have B0 := Blk.new w p0 51 rfl
  have HR0 := Lib.hid (HR.out.old (.cells p0.toArray 51))
  have n0 := HR0.out.ne B0 (by rw [p0_len]; decide)
  replace B1 := B1.old (.cells p0.toArray 51)
  have m1 := B1.apart B0 (by rw [p0_len]; simp)
  have HO0 := Lib.hid (HO.out.old (.cells p0.toArray 51))
  clear HR HO
  go_wp2_with (first | (with_reducible refine alP rfl rfl ?_))
  generalize w.alloc (.cells p0.toArray 51) = W at *
  obtain ⟨pr, HP0, HS0⟩ : ∃ p, Hid (w.heap.size = p) ∧ Hid (w0.heap.size ≤ p) := ⟨_, rfl, hsw⟩
  have hp0 := HP0.out
  rw [hp0] at B0 n0 m1 ⊢
  clear hp0 hsw
  have ok1 := hok.frac ok
  try simp only [Act.put, List.setIfInBounds_toArray, List.set_cons_zero, List.set_cons_succ]
  refine rg_start [b, pr] (by kernel_rfl) (fun hS => ?_)
  have HR1 := HR0.out.call ((Below.refl _ _).drew)
  have HO1 := Lib.hid (HO0.out.then ((Below.refl _ _).drew))
  replace B0 := B0.drew
  refine rg_take 0 rfl (by kernel_rfl) (by kernel_rfl) (by kernel_rfl) (by rfl) hS (v := ?_) ?_ ?_
  rotate_left
  · (intro w' hS'; have hc := (B1.keep hS' (by simp <;> omega)).cell (i := 0) (v := (.pointer (some ⟨b, 0, none⟩))) rfl; go_simp <;> try with_reducible rfl)
  try simp only [Act.put, List.setIfInBounds_toArray, List.set_cons_zero, List.set_cons_succ]
  refine rg_take 1 rfl (by kernel_rfl) (by kernel_rfl) (by kernel_rfl) (by rfl) hS (v := ?_) ?_ ?_
  rotate_left
  · (intro w' hS'; go_simp <;> try with_reducible rfl)
  try simp only [Act.put, List.setIfInBounds_toArray, List.set_cons_zero, List.set_cons_succ]
  refine rg_take 2 rfl (by kernel_rfl) (by kernel_rfl) (by kernel_rfl) (by rfl) hS (v := ?_) ?_ ?_
  rotate_left
  · (intro w' hS'; go_simp <;> try with_reducible rfl)
  try simp only [Act.put, List.setIfInBounds_toArray, List.set_cons_zero, List.set_cons_succ]
  refine rg_take 4 rfl (by kernel_rfl) (by kernel_rfl) (by kernel_rfl) (by rfl) hS (v := ?_) ?_ ?_
  rotate_left
  · (intro w' hS'; have hc := (B1.keep hS' (by simp <;> omega)).cell (i := 0) (v := (.pointer (some ⟨b, 0, none⟩))) rfl; go_simp <;> try with_reducible rfl)
  try simp only [Act.put, List.setIfInBounds_toArray, List.set_cons_zero, List.set_cons_succ]
  refine rg_take 5 rfl (by kernel_rfl) (by kernel_rfl) (by kernel_rfl) (by rfl) hS (v := ?_) ?_ ?_
  rotate_left
  · (intro w' hS'; go_simp <;> try with_reducible rfl)
  try simp only [Act.put, List.setIfInBounds_toArray, List.set_cons_zero, List.set_cons_succ]
  refine rg_take 6 rfl (by kernel_rfl) (by kernel_rfl) (by kernel_rfl) (by rfl) hS (v := ?_) ?_ ?_
  rotate_left
  · (intro w' hS'; go_simp <;> try with_reducible rfl)
  try simp only [Act.put, List.setIfInBounds_toArray, List.set_cons_zero, List.set_cons_succ]
  refine rg_eff 3 rfl (by kernel_rfl) (by rfl) (fun K hK => ?_)
  go_simp
  have HF := fraction_any HP HR1 hok
  rw [HX1.out] at HF
  refine HF.mono ?_
  rintro e w1 ⟨rfl, k1, k2⟩
  refine hK _ _ (hS.oth k2 (by simp)) (fun hS => ?_)
  clear hK K HF
  replace HR1 := k1
  replace B0 := B0.oth k2 (by omega)
  replace HO1 := Lib.hid (HO1.out.trans k2)
  clear k1 k2
  try simp only [Act.put, List.setIfInBounds_toArray, List.set_cons_zero, List.set_cons_succ]
  refine rg_eff 7 rfl (by kernel_rfl) (by rfl) (fun K hK => ?_)
  go_simp
  have HF := fraction_any HP HR1 ok1
  rw [HX2.out] at HF
  refine HF.mono ?_
  rintro e w2 ⟨rfl, k1, k2⟩
  refine hK _ _ (hS.oth k2 (by simp)) (fun hS => ?_)
  clear hK K HF
  replace HR1 := k1
  replace B0 := B0.oth k2 (by omega)
  replace HO1 := Lib.hid (HO1.out.trans k2)
  clear k1 k2
  try simp only [Act.put, List.setIfInBounds_toArray, List.set_cons_zero, List.set_cons_succ]
  refine rg_build 8 rfl (by kernel_rfl) (by kernel_rfl) (by kernel_rfl) (by rfl) hS rfl (builtP (rc_fr x1.1 x1.2) (rc_fr x2.1 x2.2)) (by simp [Act.eval]) ?_
  try simp only [Act.put, List.setIfInBounds_toArray, List.set_cons_zero, List.set_cons_succ]
  refine rg_eff 9 rfl (by kernel_rfl) (by rfl) (fun K hK => ?_)
  refine wp_st (vs := fr x1.1 x1.2 ++ fr x2.1 x2.2) rfl rfl rfl B0 (p0_len.trans (pt_len (rc_fr _ _) (rc_fr _ _)).symm) (wholeP (rc_fr _ _) (rc_fr _ _)) (pt_one (rc_fr _ _) (rc_fr _ _)) ?_
  refine hK _ _ (hS.row (.inl (by simp)) _) (fun hS => ?_)
  clear hK K
  try simp only [Act.put, List.setIfInBounds_toArray, List.set_cons_zero, List.set_cons_succ]
  refine rg_done (by kernel_rfl) ?_
  go_wp2
  have HR3 := HR1.setRow (Ne.symm n0) HS0.out (fr x1.1 x1.2 ++ fr x2.1 x2.2).toArray
  exact ret_c (cs := fr x1.1 x1.2 ++ fr x2.1 x2.2) rfl rfl rfl (wholeP (rc_fr _ _) (rc_fr _ _)) (B0.row _) ⟨rfl, HR3, HO1.out.setRow (by rw [HP0.out]; exact Nat.le_refl _) _⟩
end Go.Proofs.YtpalfmgloddhcaaGreatDoor
