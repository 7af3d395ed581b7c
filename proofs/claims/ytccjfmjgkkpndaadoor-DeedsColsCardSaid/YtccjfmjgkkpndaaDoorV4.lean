/-
  The document's answers for package deeds: Write.
-/
import Derived.Test.YtccjfmjgkkpndaaDoorV3
namespace Go.Proofs.YtccjfmjgkkpndaaDoor
open Go.RowKit
open Ty (I64)
open Ig (encI)
open Tx (encT)
theorem Dd.S_add (a b : List UInt8) : Ty.S a ++ Ty.S b = Ty.S (a ++ b) := by
  apply ByteArray.ext
  apply Array.toList_inj.1
  rw [ByteArray.data_append, Array.toList_append]
  simp [Ty.S]
/-- What Write returns. -/
def Dd.wS (s : List Kn.C) (d : Dd.D) : List UInt8 := if Dd.fitE s d = 0 then Dd.enc s d else []
def Dd.wV (s : List Kn.C) (d : Dd.D) : Value := .tuple #[.string (Ty.S (Dd.wS s d)), .int .i64 (Dd.fitE s d)]
theorem Dd.wV_bad {s : List Kn.C} {d : Dd.D} (h : Dd.fitE s d ≠ 0) : Dd.wV s d = .tuple #[.string (Ty.S []), .int .i64 (Dd.fitE s d)] := by
  unfold Dd.wV Dd.wS
  rw [if_neg h]
theorem Dd.wV_ok {s : List Kn.C} {d : Dd.D} (h : Dd.fitE s d = 0) : Dd.wV s d = .tuple #[.string (Ty.S (Dd.enc s d)), .int .i64 0] := by
  unfold Dd.wV Dd.wS
  rw [h, if_pos rfl]
/-- The bytes of the first k values. -/
def Dd.pre (s : List Kn.C) (g : Bool) (r : List Kn.V) (k : Nat) : List UInt8 := Dd.flag g :: Dd.encR (s.take k) (r.take k)
theorem Dd.pre_zero (s : List Kn.C) (g : Bool) (r : List Kn.V) : Dd.pre s g r 0 = [Dd.flag g] := rfl
theorem Dd.pre_step {s : List Kn.C} {g : Bool} {r : List Kn.V} {k : Nat} {c : Kn.C} {v : Kn.V} (hc : s[k]? = some c) (hv : r[k]? = some v) : Dd.pre s g r (k + 1) = Dd.pre s g r k ++ Dd.encV c v := by
  obtain ⟨h1, rfl⟩ := List.getElem?_eq_some_iff.1 hc
  obtain ⟨h2, rfl⟩ := List.getElem?_eq_some_iff.1 hv
  unfold Dd.pre
  rw [List.take_succ_eq_append_getElem h1, List.take_succ_eq_append_getElem h2, Dd.encR_snoc _ _ _ _ (by rw [List.length_take, List.length_take]; omega)]
  rfl
theorem Dd.pre_all {s : List Kn.C} {d : Dd.D} (h : Dd.fitE s d = 0) : Dd.pre s d.gone d.row d.row.length = Dd.enc s d := by
  obtain ⟨_, h2, _⟩ := Dd.fitE_0 h
  unfold Dd.pre Dd.enc
  rw [List.take_length]
  congr 1
  unfold Dd.cols at h2
  obtain ⟨g, r⟩ := d
  cases g
  · simp only [Bool.false_eq_true, if_false] at h2 ⊢
    rw [h2, List.take_length]
  · simp only [if_true] at h2 ⊢
    match s, r, h2 with
    | [], [], _ => rfl
    | [], _ :: _, h2 => simp at h2
    | c :: cs, [], h2 => simp at h2
    | c :: cs, [x], _ => simp [Dd.encR]
    | c :: cs, _ :: _ :: _, h2 => simp at h2
theorem Dd.encV_len {c : Kn.C} {v : Kn.V} (h : Kn.fits c v = true) : (Dd.encV c v).length ≤ 80 := by
  unfold Dd.encV
  rw [List.length_append]
  have h1 : (if c.null = true then [Dd.flag v.null] else []).length ≤ 1 := by split <;> simp
  have h2 : (if v.null = true then [] else Dd.encP c v).length ≤ 73 := by
    cases hn : v.null
    · rw [if_neg (by decide)]
      unfold Dd.encP
      by_cases hk : c.k = 1
      · rw [if_pos hk]
        have := Ty.encU_len9 (Ty.zig v.n).toNat
        unfold encI
        omega
      · rw [if_neg hk]
        have h64 := (Dd.fits_str hk h hn).2
        have := Ty.encU_len9 v.s.data.toList.length
        unfold encT
        rw [List.length_append]
        omega
    · simp
  omega
theorem Dd.encR_len : ∀ (s : List Kn.C) (r : List Kn.V), Kn.fitsAll s r = true → (Dd.encR s r).length ≤ 80 * r.length
  | [], [], _ => by simp [Dd.encR]
  | [], _ :: _, _ => by simp [Dd.encR]
  | _ :: _, [], _ => by simp [Dd.encR]
  | c :: cs, v :: vs, h => by
    simp only [Kn.fitsAll, Bool.and_eq_true] at h
    have h1 := Dd.encV_len h.1
    have h2 := Dd.encR_len cs vs h.2
    simp only [Dd.encR, List.length_append, List.length_cons]
    omega
theorem Dd.fitsAll_at : ∀ (s : List Kn.C) (r : List Kn.V) (k : Nat) (c : Kn.C) (v : Kn.V), Kn.fitsAll s r = true → s[k]? = some c → r[k]? = some v → Kn.fits c v = true
  | [], _, _, _, _, _, h, _ => by simp at h
  | _ :: _, [], _, _, _, _, _, h => by simp at h
  | a :: s, x :: r, 0, c, v, hf, hc, hv => by
    obtain rfl : a = c := by simpa using hc
    obtain rfl : x = v := by simpa using hv
    simp only [Kn.fitsAll, Bool.and_eq_true] at hf
    exact hf.1
  | a :: s, x :: r, k + 1, c, v, hf, hc, hv => by
    simp only [Kn.fitsAll, Bool.and_eq_true] at hf
    exact Dd.fitsAll_at s r k c v hf.2 (by simpa using hc) (by simpa using hv)
theorem Dd.fitsAll_take : ∀ (s : List Kn.C) (r : List Kn.V) (k : Nat), Kn.fitsAll s r = true → Kn.fitsAll (s.take k) (r.take k) = true
  | [], r, k, _ => by simp [Kn.fitsAll]
  | _ :: _, [], k, _ => by cases k <;> simp [Kn.fitsAll]
  | a :: s, x :: r, 0, _ => by simp [Kn.fitsAll]
  | a :: s, x :: r, k + 1, h => by
    simp only [Kn.fitsAll, Bool.and_eq_true, List.take_succ_cons] at h ⊢
    exact ⟨h.1, Dd.fitsAll_take s r k h.2⟩
/-- What a deed that fits has, place by place. -/
theorem Dd.fit_at {s : List Kn.C} {d : Dd.D} (h : Dd.fitE s d = 0) : d.row.length ≤ 6 ∧ d.row.length ≤ s.length ∧ ∀ (k : Nat) (c : Kn.C) (v : Kn.V), s[k]? = some c → d.row[k]? = some v → Kn.fits c v = true := by
  obtain ⟨h1, h2, h3⟩ := Dd.fitE_0 h
  have hl := Kn.right_len h1
  have hc : (Dd.cols s d.gone).length ≤ s.length := by
    unfold Dd.cols
    split
    · rw [List.length_take]; omega
    · exact Nat.le_refl _
  refine ⟨by omega, by omega, fun k c v hk hv => ?_⟩
  refine Dd.fitsAll_at _ _ k c v h3 ?_ hv
  have hkl := (List.getElem?_eq_some_iff.1 hv).1
  unfold Dd.cols at h2 ⊢
  split
  · rename_i hg
    rw [if_pos hg, List.length_take] at h2
    rw [List.getElem?_take_of_lt (by omega)]
    exact hk
  · exact hk
theorem Dd.pre_len {s : List Kn.C} {d : Dd.D} (h : Dd.fitE s d = 0) {k : Nat} (hk : k ≤ d.row.length) : (Dd.pre s d.gone d.row k).length ≤ 500 := by
  obtain ⟨h1, h2, h3⟩ := Dd.fit_at h
  have hf : Kn.fitsAll (s.take k) (d.row.take k) = true := by
    obtain ⟨_, a2, a3⟩ := Dd.fitE_0 h
    have e : s.take k = (Dd.cols s d.gone).take k := by
      unfold Dd.cols at a2 ⊢
      split
      · rename_i hg
        rw [if_pos hg, List.length_take] at a2
        rw [List.take_take]
        congr 1
        omega
      · rfl
    rw [e]
    exact Dd.fitsAll_take _ _ k a3
  have := Dd.encR_len _ _ hf
  unfold Dd.pre
  rw [List.length_cons]
  have hl : (d.row.take k).length ≤ 6 := by rw [List.length_take]; omega
  omega
end Go.Proofs.YtccjfmjgkkpndaaDoor
