/- Options as a function of words. -/
import Derived.Test.YthcgbchgfdkhiaaDoorZth
import Derived.Test.YthcgbchgfdkhiaaDoorZri
namespace Go.Proofs.YthcgbchgfdkhiaaDoor
set_option linter.unusedSimpArgs false
set_option linter.unusedVariables false
open Go.RowKit
set_option maxRecDepth 100000
structure Opt where
  h : Int
  c : Int
  z : List (Int × Int × Int)
def rdOk (k : Nat) (P : List (List UInt8)) : Bool := P.length == k && P.all intOk
def trip (P : List (List UInt8)) : Int × Int × Int := match P.map intV with
  | [x, y, z] => (x, y, z)
  | _ => (0, 0, 0)
/-- What one word does. -/
def takeO (o : Opt) : List UInt8 → Option Opt
  | [] => none
  | a :: r => if a = 104 then (if intOk r then some { o with h := intV r } else none) else if a = 99 then (if intOk r then some { o with c := intV r } else none)
    else if a = 115 then (if rdOk 3 (splits [44] r) then some { o with z := o.z ++ [trip (splits [44] r)] } else none) else none
def parseL : Opt → List (List UInt8) → Option Opt
  | o, [] => some o
  | o, u :: t => match takeO o u with
    | none => none
    | some o' => parseL o' t
def okO (o : Opt) : Bool := opOk o.h o.c o.z
def prs (l : List (List UInt8)) : Option Opt := match parseL ⟨64, 4096, []⟩ l with
  | none => none
  | some o => if okO o then some o else none
theorem natOk_no {l : List UInt8} (h : natOk l = true) : ∀ x ∈ l, x ∉ ([44] : List UInt8) := by
  unfold natOk at h
  simp only [Bool.and_eq_true] at h
  intro x hx
  have := List.all_eq_true.1 h.2 x hx
  intro e
  simp only [List.mem_cons, List.not_mem_nil, or_false] at e
  subst e
  revert this
  decide
theorem intOk_no {l : List UInt8} (h : intOk l = true) : ∀ x ∈ l, x ∉ ([44] : List UInt8) := by
  unfold intOk at h
  split at h
  · rename_i h0
    simp only [Bool.and_eq_true] at h
    cases l with
    | nil => simp at h0
    | cons a r =>
      have : a = 45 := by simpa using h0
      subst this
      intro x hx
      rcases List.mem_cons.1 hx with rfl | hx
      · decide
      · exact natOk_no h.1 x hx
  · exact natOk_no h
theorem rd_one (r : List UInt8) : rdOk 1 (splits [44] r) = intOk r := by
  rcases parted [44] r with h | ⟨a, c, t, e, h, hc⟩
  · rw [splits_all _ _ h]; unfold rdOk; simp
  · have h1 : rdOk 1 (splits [44] r) = false := by
      rw [e, splits_at _ _ hc _ h]
      have := splits_pos [44] t
      unfold rdOk
      rw [Bool.and_eq_false_iff]
      left
      rw [beq_eq_false_iff_ne, List.length_cons]; omega
    have h2 : intOk r = false := by
      cases hi : intOk r
      · rfl
      · exact absurd hc (intOk_no hi c (by rw [e]; simp))
    rw [h1, h2]
theorem rd_one_val {r : List UInt8} (h : intOk r = true) : (splits [44] r).map intV = [intV r] := by
  rw [splits_all _ _ (intOk_no h)]; rfl
theorem rd_three {P : List (List UInt8)} (h : rdOk 3 P = true) : Nms P (trip P).1 (trip P).2.1 (trip P).2.2 := by
  unfold rdOk at h
  rw [Bool.and_eq_true, beq_iff_eq] at h
  unfold Nms trip
  match P, h.1 with
  | [a, b, c], _ => rfl
theorem rd_thr (P : List (List UInt8)) : Thr P ↔ rdOk 3 P = true := by
  unfold Thr rdOk; rw [Bool.and_eq_true, beq_iff_eq]
theorem Nms.trip {P : List (List UInt8)} {x y z : Int} (h : Nms P x y z) : Proofs.YthcgbchgfdkhiaaDoor.trip P = (x, y, z) := by
  unfold Proofs.YthcgbchgfdkhiaaDoor.trip; rw [show P.map intV = [x, y, z] from h]
theorem read_two (l : List UInt8) (g c b : Nat) (os : List Nat) (cs : List Value) (t : TypeId) (w : World) (hl : l.length ≤ 1000000) (hk : os.length ≤ 100) (hE : Env w) (hp : ∀ (i : Nat) o, os[i]? = some o → w.cell? ⟨g, i, none⟩ = some (.pointer (some ⟨b, o, none⟩)))
    (hgb : g ≠ b) (hB : Blk w b cs t) (ho : ∀ o ∈ os, o < cs.length) :
    Calls Tryd.prog 24 #[.string (tx l), .slice (some ⟨g, 0, none⟩) os.length c] w fun e w' => e = .returned (.bool (rdOk os.length (splits [44] l))) ∧ Oth b w w' ∧ ∃ ns, Blk w' b (putZ cs os ns) t ∧ (rdOk os.length (splits [44] l) = true → ns = (splits [44] l).map intV) := by
  refine (read_any l g c b os cs t w hl hk hE hp hgb hB ho).mono ?_
  rintro e w' ⟨hO, ⟨rfl, h1, h2, h3⟩ | ⟨rfl, h1, ns, h3⟩⟩
  · have e : rdOk os.length (splits [44] l) = true := by unfold rdOk; rw [h2, h1]; simp
    exact ⟨by rw [e], hO, _, h3, fun _ => rfl⟩
  · have e : rdOk os.length (splits [44] l) = false := by
      cases hr : rdOk os.length (splits [44] l)
      · rfl
      · unfold rdOk at hr
        rw [Bool.and_eq_true, beq_iff_eq] at hr
        exact absurd hr h1
    exact ⟨by rw [e], hO, ns, h3, fun h => by rw [e] at h; cases h⟩
end Go.Proofs.YthcgbchgfdkhiaaDoor
