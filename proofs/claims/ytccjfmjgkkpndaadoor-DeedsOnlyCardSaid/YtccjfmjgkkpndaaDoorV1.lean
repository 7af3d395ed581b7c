/-
  The plain mathematics of package deeds: the encoding of a deed, what is read of bytes, there and back, in one way. No program.
-/
import Derived.Test.YtccjfmjgkkpndaaDoorK5
import Derived.Test.YtccjfmjgkkpndaaDoorKV
namespace Go.Proofs.YtccjfmjgkkpndaaDoor
open Go.RowKit
open Ty (num txt encU U64 I64)
open Ig (rest sg encI read_encI splitI)
open Tx (encT restT read_encT splitT)
/-- A deed. -/
structure Dd.D where
  gone : Bool
  row : List Kn.V
/-- A truth's byte; the bytes of a value that is there; of a value; of values; of a deed. -/
def Dd.flag (b : Bool) : UInt8 := if b = true then 1 else 0
def Dd.encP (c : Kn.C) (v : Kn.V) : List UInt8 := if c.k = 1 then encI v.n else encT v.s.data.toList
def Dd.encV (c : Kn.C) (v : Kn.V) : List UInt8 := (if c.null = true then [Dd.flag v.null] else []) ++ (if v.null = true then [] else Dd.encP c v)
def Dd.encR : List Kn.C → List Kn.V → List UInt8
  | c :: cs, v :: vs => Dd.encV c v ++ Dd.encR cs vs
  | _, _ => []
def Dd.enc (s : List Kn.C) (d : Dd.D) : List UInt8 := Dd.flag d.gone :: Dd.encR s d.row
/-- The columns that a deed's values have. -/
def Dd.cols (s : List Kn.C) (g : Bool) : List Kn.C := if g = true then s.take 1 else s
/-- The error of a deed. -/
def Dd.fitE (s : List Kn.C) (d : Dd.D) : Int :=
  if d.gone = true then (if Kn.right s = true then (match d.row with | [k] => Kn.keyE s k | _ => 7) else 4) else Kn.fitsE s d.row
/-- What is read: a truth; a value that is there; a value; values; a deed: the first error, what it is, what is left. -/
def Dd.rdF : List UInt8 → Nat × Bool × List UInt8
  | [] => (2, false, [])
  | b :: r => if 1 < b.toNat then (4, false, r) else (0, b == 1, r)
def Dd.rdP (c : Kn.C) (l : List UInt8) : Nat × Kn.V × List UInt8 :=
  if c.k = 1 then ((num l).2.2, Cl.ofN (sg l), rest l) else ((txt l 64).2.2, Cl.ofS (txt l 64).1, restT l)
def Dd.rdV (c : Kn.C) (l : List UInt8) : Nat × Kn.V × List UInt8 :=
  if c.null = true then (if (Dd.rdF l).1 ≠ 0 then ((Dd.rdF l).1, Cl.ofN 0, (Dd.rdF l).2.2) else if (Dd.rdF l).2.1 = true then (0, Cl.nul, (Dd.rdF l).2.2) else Dd.rdP c (Dd.rdF l).2.2) else Dd.rdP c l
def Dd.rdR : List Kn.C → List UInt8 → Nat × List Kn.V × List UInt8
  | [], l => (0, [], l)
  | c :: cs, l => if (Dd.rdV c l).1 ≠ 0 then ((Dd.rdV c l).1, [], []) else ((Dd.rdR cs (Dd.rdV c l).2.2).1, (Dd.rdV c l).2.1 :: (Dd.rdR cs (Dd.rdV c l).2.2).2.1, (Dd.rdR cs (Dd.rdV c l).2.2).2.2)
def Dd.rd (s : List Kn.C) (l : List UInt8) : Nat × Dd.D :=
  if Kn.right s = false then (4, ⟨false, []⟩)
  else if (Dd.rdF l).1 ≠ 0 then ((Dd.rdF l).1, ⟨false, []⟩)
  else if (Dd.rdR (Dd.cols s (Dd.rdF l).2.1) (Dd.rdF l).2.2).1 ≠ 0 then ((Dd.rdR (Dd.cols s (Dd.rdF l).2.1) (Dd.rdF l).2.2).1, ⟨false, []⟩)
  else if (Dd.rdR (Dd.cols s (Dd.rdF l).2.1) (Dd.rdF l).2.2).2.2 ≠ [] then (5, ⟨false, []⟩)
  else (0, ⟨(Dd.rdF l).2.1, (Dd.rdR (Dd.cols s (Dd.rdF l).2.1) (Dd.rdF l).2.2).2.1⟩)
theorem Dd.toList_nil {s : ByteArray} (h : (s.toList == (⟨#[]⟩ : ByteArray).toList) = true) : s = ⟨#[]⟩ := by
  rw [beq_iff_eq, ByteArray.toList_eq, ByteArray.toList_eq] at h
  have h2 : s.data.toList = [] := h
  apply ByteArray.ext
  exact Array.toList_inj.1 (by rw [h2])
theorem Dd.good_iff (c : Kn.C) : c.good = true ↔ c.k = 1 ∨ c.k = 2 := by
  unfold Kn.C.good
  by_cases h1 : c.k = 1
  · simp [h1]
  · by_cases h2 : c.k = 2
    · simp [h2]
    · have e1 : (c.k != 1) = true := by rw [bne_iff_ne]; exact h1
      have e2 : (c.k != 2) = true := by rw [bne_iff_ne]; exact h2
      simp [e1, e2, h1, h2]
theorem Dd.rdF_flag (b : Bool) (r : List UInt8) : Dd.rdF (Dd.flag b :: r) = (0, b, r) := by
  cases b <;> simp [Dd.rdF, Dd.flag]
theorem Dd.rdF_only {l : List UInt8} (h : (Dd.rdF l).1 = 0) : l = Dd.flag (Dd.rdF l).2.1 :: (Dd.rdF l).2.2 := by
  cases l with
  | nil => cases h
  | cons b r =>
    simp only [Dd.rdF] at h ⊢
    by_cases h1 : 1 < b.toNat
    · rw [if_pos h1] at h; cases h
    · rw [if_neg h1]
      simp only [Dd.flag]
      congr 1
      by_cases e : b = 1
      · rw [e]; rfl
      · have e0 : b = 0 := by
          apply UInt8.toNat_inj.1
          have : b.toNat ≠ 1 := fun h => e (UInt8.toNat_inj.1 h)
          show b.toNat = 0
          omega
        rw [e0]; rfl
/-- What fits is of this form. -/
theorem Dd.fits_null {c : Kn.C} {v : Kn.V} (h : Kn.fits c v = true) (hv : v.null = true) : v = Cl.nul ∧ c.null = true := by
  unfold Kn.fits at h
  rw [if_pos hv] at h
  simp only [Bool.and_eq_true] at h
  obtain ⟨vn, vi, vs⟩ := v
  simp only at hv h
  rw [hv, Dd.toList_nil h.2, show vi = 0 by simpa using h.1.2]
  exact ⟨rfl, h.1.1⟩
theorem Dd.fits_num {c : Kn.C} {v : Kn.V} (hk : c.k = 1) (h : Kn.fits c v = true) (hv : v.null = false) : v = Cl.ofN v.n := by
  unfold Kn.fits at h
  rw [hv, if_neg (by decide), if_pos hk] at h
  obtain ⟨vn, vi, vs⟩ := v
  simp only at hv h
  rw [hv, Dd.toList_nil h]
  rfl
theorem Dd.fits_str {c : Kn.C} {v : Kn.V} (hk : c.k ≠ 1) (h : Kn.fits c v = true) (hv : v.null = false) : v = Cl.ofS v.s.data.toList ∧ v.s.data.toList.length ≤ 64 := by
  unfold Kn.fits at h
  rw [hv, if_neg (by decide), if_neg hk] at h
  simp only [Bool.and_eq_true, decide_eq_true_iff] at h
  obtain ⟨vn, vi, vs⟩ := v
  simp only at hv h ⊢
  rw [hv, show vi = 0 by simpa using h.1]
  exact ⟨rfl, by rw [Ty.length_data]; exact h.2⟩
theorem Dd.fits_nul {c : Kn.C} (h : c.null = true) : Kn.fits c Cl.nul = true := by simp [Kn.fits, Cl.nul, h]
theorem Dd.fits_ofN {c : Kn.C} (hk : c.k = 1) (x : Int) : Kn.fits c (Cl.ofN x) = true := by simp [Kn.fits, Cl.ofN, hk]
theorem Dd.fits_ofS {c : Kn.C} (hk : c.k ≠ 1) {t : List UInt8} (h : t.length ≤ 64) : Kn.fits c (Cl.ofS t) = true := by
  have : (Ty.S t).size ≤ 64 := h
  simp [Kn.fits, Cl.ofS, hk, this]
theorem Dd.rdP_back {c : Kn.C} {v : Kn.V} (h : Kn.fits c v = true) (hv : v.null = false) (hi : I64 v.n) (r : List UInt8) : Dd.rdP c (Dd.encP c v ++ r) = (0, v, r) := by
  unfold Dd.rdP Dd.encP
  by_cases hk : c.k = 1
  · obtain ⟨h1, h2, h3⟩ := read_encI v.n hi r
    rw [if_pos hk, if_pos hk, h1, h2, h3, ← Dd.fits_num hk h hv]
  · obtain ⟨e, hl⟩ := Dd.fits_str hk h hv
    obtain ⟨h1, h2, h3⟩ := read_encT v.s.data.toList hl r
    rw [if_neg hk, if_neg hk, h1, h2, h3, ← e]
theorem Dd.rdV_back {c : Kn.C} {v : Kn.V} (h : Kn.fits c v = true) (hi : I64 v.n) (r : List UInt8) : Dd.rdV c (Dd.encV c v ++ r) = (0, v, r) := by
  unfold Dd.rdV Dd.encV
  cases hn : v.null
  · simp only [Bool.false_eq_true, if_false]
    by_cases hc : c.null = true
    · rw [if_pos hc, if_pos hc, List.append_assoc, List.singleton_append, Dd.rdF_flag]
      simp only [ne_eq, not_true_eq_false, if_false, Bool.false_eq_true]
      exact Dd.rdP_back h hn hi r
    · rw [if_neg hc, if_neg hc, List.nil_append]
      exact Dd.rdP_back h hn hi r
  · obtain ⟨e, hc⟩ := Dd.fits_null h hn
    simp only [if_true]
    rw [if_pos hc, if_pos hc, List.append_nil, List.singleton_append, Dd.rdF_flag]
    simp only [ne_eq, not_true_eq_false, if_false, if_true]
    rw [e]
theorem Dd.rdP_only {c : Kn.C} {l : List UInt8} (h : (Dd.rdP c l).1 = 0) : l = Dd.encP c (Dd.rdP c l).2.1 ++ (Dd.rdP c l).2.2 ∧ Kn.fits c (Dd.rdP c l).2.1 = true ∧ (Dd.rdP c l).2.1.null = false ∧ I64 (Dd.rdP c l).2.1.n := by
  by_cases hk : c.k = 1
  · have e : Dd.rdP c l = ((num l).2.2, Cl.ofN (sg l), rest l) := by unfold Dd.rdP; rw [if_pos hk]
    rw [e] at h ⊢
    refine ⟨?_, Dd.fits_ofN hk _, rfl, Ig.sg_i64 l⟩
    unfold Dd.encP
    rw [if_pos hk]
    exact splitI h
  · have e : Dd.rdP c l = ((txt l 64).2.2, Cl.ofS (txt l 64).1, restT l) := by unfold Dd.rdP; rw [if_neg hk]
    rw [e] at h ⊢
    obtain ⟨h1, h2⟩ := splitT h
    refine ⟨?_, Dd.fits_ofS hk h2, rfl, ⟨by show _ ≤ (0 : Int); omega, by show (0 : Int) ≤ _; omega⟩⟩
    unfold Dd.encP
    rw [if_neg hk]
    show l = encT (Ty.S (txt l 64).1).data.toList ++ restT l
    rw [Ty.data_S]
    exact h1
theorem Dd.rdV_only {c : Kn.C} {l : List UInt8} (h : (Dd.rdV c l).1 = 0) : l = Dd.encV c (Dd.rdV c l).2.1 ++ (Dd.rdV c l).2.2 ∧ Kn.fits c (Dd.rdV c l).2.1 = true ∧ I64 (Dd.rdV c l).2.1.n := by
  unfold Dd.rdV at h ⊢
  by_cases hc : c.null = true
  · rw [if_pos hc] at h ⊢
    by_cases h1 : (Dd.rdF l).1 ≠ 0
    · rw [if_pos h1] at h; exact absurd h h1
    · rw [if_neg h1] at h ⊢
      have hl := Dd.rdF_only (by simpa using h1)
      cases hb : (Dd.rdF l).2.1
      · rw [hb] at h hl
        rw [if_neg (by decide)] at h ⊢
        obtain ⟨e1, e2, e3, e4⟩ := Dd.rdP_only h
        refine ⟨?_, e2, e4⟩
        unfold Dd.encV
        rw [if_pos hc, e3, if_neg (by decide), List.append_assoc, List.singleton_append, ← e1]
        exact hl
      · rw [hb] at hl
        rw [if_pos rfl]
        refine ⟨?_, Dd.fits_nul hc, ⟨by show _ ≤ (0 : Int); omega, by show (0 : Int) ≤ _; omega⟩⟩
        show l = Dd.encV c Cl.nul ++ (Dd.rdF l).2.2
        unfold Dd.encV
        rw [if_pos hc, show Cl.nul.null = true from rfl, if_pos rfl, List.append_nil, List.singleton_append]
        exact hl
  · rw [if_neg hc] at h ⊢
    obtain ⟨e1, e2, e3, e4⟩ := Dd.rdP_only h
    refine ⟨?_, e2, e4⟩
    unfold Dd.encV
    rw [if_neg hc, e3, if_neg (by decide), List.nil_append]
    exact e1
theorem Dd.rdR_back : ∀ (s : List Kn.C) (vs : List Kn.V), vs.length = s.length → Kn.fitsAll s vs = true → (∀ v ∈ vs, I64 v.n) → ∀ r, Dd.rdR s (Dd.encR s vs ++ r) = (0, vs, r)
  | [], [], _, _, _, r => rfl
  | [], _ :: _, h, _, _, _ => by simp at h
  | _ :: _, [], h, _, _, _ => by simp at h
  | c :: cs, v :: vs, hl, hf, hi, r => by
    simp only [Kn.fitsAll, Bool.and_eq_true] at hf
    have e := Dd.rdV_back hf.1 (hi v (by simp)) (Dd.encR cs vs ++ r)
    have ih := Dd.rdR_back cs vs (by simpa using hl) hf.2 (fun x hx => hi x (by simp [hx])) r
    simp only [Dd.encR, List.append_assoc, Dd.rdR, e, ih, ne_eq, not_true_eq_false, if_false]
theorem Dd.rdR_only : ∀ (s : List Kn.C) (l : List UInt8), (Dd.rdR s l).1 = 0 → l = Dd.encR s (Dd.rdR s l).2.1 ++ (Dd.rdR s l).2.2 ∧ (Dd.rdR s l).2.1.length = s.length ∧ Kn.fitsAll s (Dd.rdR s l).2.1 = true ∧ ∀ v ∈ (Dd.rdR s l).2.1, I64 v.n
  | [], l, _ => ⟨rfl, rfl, rfl, fun v hv => by cases hv⟩
  | c :: cs, l, h => by
    simp only [Dd.rdR] at h ⊢
    by_cases h1 : (Dd.rdV c l).1 ≠ 0
    · rw [if_pos h1] at h; exact absurd h h1
    · rw [if_neg h1] at h ⊢
      obtain ⟨a1, a2, a3⟩ := Dd.rdV_only (c := c) (l := l) (by simpa using h1)
      obtain ⟨b1, b2, b3, b4⟩ := Dd.rdR_only cs (Dd.rdV c l).2.2 h
      refine ⟨?_, by simp [b2], by simp [Kn.fitsAll, a2, b3], fun v hv => ?_⟩
      · simp only [Dd.encR, List.append_assoc]
        rw [← b1]
        exact a1
      · rcases List.mem_cons.1 hv with rfl | hv
        · exact a3
        · exact b4 v hv
/-- A deed that fits: its values have its columns. -/
theorem Dd.fitE_0 {s : List Kn.C} {d : Dd.D} (h : Dd.fitE s d = 0) : Kn.right s = true ∧ d.row.length = (Dd.cols s d.gone).length ∧ Kn.fitsAll (Dd.cols s d.gone) d.row = true := by
  unfold Dd.fitE at h
  unfold Dd.cols
  cases hg : d.gone
  · rw [hg, if_neg (by decide)] at h
    rw [if_neg (by decide)]
    unfold Kn.fitsE at h
    by_cases h1 : Kn.right s = true
    · rw [if_pos h1] at h
      by_cases h2 : d.row.length = s.length
      · rw [if_pos h2] at h
        by_cases h3 : Kn.fitsAll s d.row = true
        · exact ⟨h1, h2, h3⟩
        · rw [if_neg h3] at h; cases h
      · rw [if_neg h2] at h; cases h
    · rw [if_neg h1] at h; cases h
  · rw [hg, if_pos rfl] at h
    rw [if_pos rfl]
    by_cases h1 : Kn.right s = true
    · rw [if_pos h1] at h
      have hl := Kn.right_len h1
      obtain ⟨g, row⟩ := d
      simp only at h ⊢
      match row, s, h, hl with
      | [k], c :: cs, h, _ =>
        simp only at h
        unfold Kn.keyE at h
        rw [if_pos h1] at h
        simp only at h
        by_cases h3 : Kn.fits c k = true
        · exact ⟨h1, rfl, by simp [Kn.fitsAll, h3]⟩
        · rw [if_neg h3] at h; cases h
      | [], _, h, _ => cases h
      | _ :: _ :: _, _, h, _ => cases h
      | [_], [], _, hl => simp at hl
    · rw [if_neg h1] at h; cases h
theorem Dd.fitE_of {s : List Kn.C} {d : Dd.D} (h1 : Kn.right s = true) (h2 : d.row.length = (Dd.cols s d.gone).length) (h3 : Kn.fitsAll (Dd.cols s d.gone) d.row = true) : Dd.fitE s d = 0 := by
  unfold Dd.fitE
  unfold Dd.cols at h2 h3
  obtain ⟨g, row⟩ := d
  cases g
  · simp only [Bool.false_eq_true, if_false] at h2 h3 ⊢
    unfold Kn.fitsE
    rw [if_pos h1, if_pos h2, if_pos h3]
  · have hl := Kn.right_len h1
    simp only [if_true] at h2 h3 ⊢
    rw [if_pos h1]
    match s, row, h1, h2, h3, hl with
    | c :: cs, [k], h1, _, h3, _ =>
      simp only [Kn.fitsAll, List.take_succ_cons, List.take_zero, Bool.and_true] at h3
      show Kn.keyE (c :: cs) k = 0
      unfold Kn.keyE
      rw [if_pos h1]
      simp only
      rw [if_pos h3]
    | [], _, _, _, _, hl => simp at hl
    | c :: cs, [], _, h2, _, _ => simp at h2
    | c :: cs, _ :: _ :: _, _, h2, _, _ => simp at h2
theorem Dd.encR_cols {s : List Kn.C} {g : Bool} {row : List Kn.V} (h : row.length = (Dd.cols s g).length) : Dd.encR s row = Dd.encR (Dd.cols s g) row := by
  unfold Dd.cols at h ⊢
  cases g
  · rfl
  · rw [if_pos rfl] at h ⊢
    match s, row, h with
    | [], _, _ => rfl
    | c :: cs, [], h => simp at h
    | c :: cs, [v], _ => simp [Dd.encR]
    | c :: cs, _ :: _ :: _, h => simp at h
/-- THERE AND BACK, with whatever behind. -/
theorem Dd.rd_enc' {s : List Kn.C} {d : Dd.D} (h : Dd.fitE s d = 0) (hi : ∀ v ∈ d.row, I64 v.n) (r : List UInt8) : Dd.rd s (Dd.enc s d ++ r) = if r = [] then (0, d) else (5, ⟨false, []⟩) := by
  obtain ⟨h1, h2, h3⟩ := Dd.fitE_0 h
  have e := Dd.rdR_back (Dd.cols s d.gone) d.row h2 h3 hi r
  have ef : Dd.rdF (Dd.enc s d ++ r) = (0, d.gone, Dd.encR (Dd.cols s d.gone) d.row ++ r) := by
    unfold Dd.enc
    rw [List.cons_append, Dd.rdF_flag, Dd.encR_cols h2]
  unfold Dd.rd
  rw [ef]
  simp only [e, h1, ne_eq, not_true_eq_false, if_false, Bool.true_eq_false]
  by_cases hr : r = []
  · rw [if_pos hr, if_neg (by simp [hr])]
  · rw [if_neg hr, if_pos hr]
theorem Dd.rd_enc {s : List Kn.C} {d : Dd.D} (h : Dd.fitE s d = 0) (hi : ∀ v ∈ d.row, I64 v.n) : Dd.rd s (Dd.enc s d) = (0, d) := by
  have := Dd.rd_enc' h hi []
  rwa [List.append_nil, if_pos rfl] at this
/-- IN ONE WAY. -/
theorem Dd.enc_rd {s : List Kn.C} {l : List UInt8} (h : (Dd.rd s l).1 = 0) : Dd.fitE s (Dd.rd s l).2 = 0 ∧ Dd.enc s (Dd.rd s l).2 = l ∧ ∀ v ∈ (Dd.rd s l).2.row, I64 v.n := by
  unfold Dd.rd at h ⊢
  by_cases h1 : Kn.right s = false
  · rw [if_pos h1] at h; cases h
  · rw [if_neg h1] at h ⊢
    by_cases h2 : (Dd.rdF l).1 ≠ 0
    · rw [if_pos h2] at h; exact absurd h h2
    · rw [if_neg h2] at h ⊢
      by_cases h3 : (Dd.rdR (Dd.cols s (Dd.rdF l).2.1) (Dd.rdF l).2.2).1 ≠ 0
      · rw [if_pos h3] at h; exact absurd h h3
      · rw [if_neg h3] at h ⊢
        by_cases h4 : (Dd.rdR (Dd.cols s (Dd.rdF l).2.1) (Dd.rdF l).2.2).2.2 ≠ []
        · rw [if_pos h4] at h; cases h
        · rw [if_neg h4]
          obtain ⟨b1, b2, b3, b4⟩ := Dd.rdR_only _ _ (by simpa using h3 : (Dd.rdR (Dd.cols s (Dd.rdF l).2.1) (Dd.rdF l).2.2).1 = 0)
          have hl := Dd.rdF_only (by simpa using h2)
          have e4 : (Dd.rdR (Dd.cols s (Dd.rdF l).2.1) (Dd.rdF l).2.2).2.2 = [] := by simpa using h4
          rw [e4, List.append_nil] at b1
          refine ⟨Dd.fitE_of (by simpa using h1) b2 b3, ?_, b4⟩
          unfold Dd.enc
          rw [Dd.encR_cols b2, ← b1]
          exact hl.symm
theorem Dd.rd_bad {s : List Kn.C} {l : List UInt8} (h : (Dd.rd s l).1 ≠ 0) : (Dd.rd s l).2 = ⟨false, []⟩ := by
  unfold Dd.rd at h ⊢
  split
  · rfl
  · split
    · rfl
    · split
      · rfl
      · split
        · rfl
        · rename_i a1 a2 a3 a4
          rw [if_neg a1, if_neg a2, if_neg a3, if_neg a4] at h
          exact absurd rfl h
/-- A byte more, a byte less. -/
theorem Dd.more {s : List Kn.C} {l : List UInt8} (h : (Dd.rd s l).1 = 0) (x : UInt8) : (Dd.rd s (l ++ [x])).1 = 5 := by
  obtain ⟨h1, h2, h3⟩ := Dd.enc_rd h
  have := Dd.rd_enc' h1 h3 [x]
  rw [h2, if_neg (by simp)] at this
  rw [this]
theorem Dd.less {s : List Kn.C} {l : List UInt8} (h : (Dd.rd s l).1 = 0) : l ≠ [] ∧ (Dd.rd s l.dropLast).1 ≠ 0 := by
  have hne : l ≠ [] := by
    intro e
    obtain ⟨_, h2, _⟩ := Dd.enc_rd h
    rw [e] at h2
    cases h2
  refine ⟨hne, fun h0 => ?_⟩
  have := Dd.more h0 (l.getLast hne)
  rw [List.dropLast_concat_getLast] at this
  rw [this] at h
  cases h
/-- Bytes of deeds that fit are the same only if the deeds are. -/
theorem Dd.enc_inj {s : List Kn.C} {a b : Dd.D} (ha : Dd.fitE s a = 0) (hb : Dd.fitE s b = 0) (ia : ∀ v ∈ a.row, I64 v.n) (ib : ∀ v ∈ b.row, I64 v.n) (h : Dd.enc s a = Dd.enc s b) : a = b := by
  have h1 := Dd.rd_enc ha ia
  rw [h, Dd.rd_enc hb ib] at h1
  simpa using h1.symm
theorem Dd.encV_pos {c : Kn.C} {v : Kn.V} (h : Kn.fits c v = true) : Dd.encV c v ≠ [] := by
  unfold Dd.encV
  by_cases hc : c.null = true
  · rw [if_pos hc]; simp
  · rw [if_neg hc, List.nil_append]
    cases hn : v.null
    · rw [if_neg (by decide)]
      unfold Dd.encP
      split
      · intro e
        have : 0 < (encI v.n).length := by unfold encI; rw [Ty.encU_length]; omega
        rw [e] at this
        simp at this
      · intro e
        have : 0 < (encT v.s.data.toList).length := by unfold encT; rw [List.length_append, Ty.encU_length]; omega
        rw [e] at this
        simp at this
    · exact absurd (Dd.fits_null h hn).2 hc
theorem Dd.fitsAll_snoc : ∀ (s : List Kn.C) (c : Kn.C) (vs : List Kn.V) (v : Kn.V), vs.length = s.length → Kn.fitsAll (s ++ [c]) (vs ++ [v]) = (Kn.fitsAll s vs && Kn.fits c v)
  | [], c, [], v, _ => by simp [Kn.fitsAll]
  | [], _, _ :: _, _, h => by simp at h
  | _ :: _, _, [], _, h => by simp at h
  | a :: s, c, x :: vs, v, h => by
    simp only [List.cons_append, Kn.fitsAll]
    rw [Dd.fitsAll_snoc s c vs v (by simpa using h), Bool.and_assoc]
theorem Dd.encR_snoc : ∀ (s : List Kn.C) (c : Kn.C) (vs : List Kn.V) (v : Kn.V), vs.length = s.length → Dd.encR (s ++ [c]) (vs ++ [v]) = Dd.encR s vs ++ Dd.encV c v
  | [], c, [], v, _ => by simp [Dd.encR]
  | [], _, _ :: _, _, h => by simp at h
  | _ :: _, _, [], _, h => by simp at h
  | a :: s, c, x :: vs, v, h => by
    simp only [List.cons_append, Dd.encR]
    rw [Dd.encR_snoc s c vs v (by simpa using h), List.append_assoc]
theorem Dd.rdR_snoc : ∀ (s : List Kn.C) (c : Kn.C) (l : List UInt8), (Dd.rdR s l).1 = 0 → (Dd.rdR (s ++ [c]) l).1 = (Dd.rdV c (Dd.rdR s l).2.2).1
  | [], c, l, _ => by
    simp only [List.nil_append, Dd.rdR]
    by_cases h : (Dd.rdV c l).1 ≠ 0
    · rw [if_pos h]
    · rw [if_neg h]
      exact (by simpa using h : (Dd.rdV c l).1 = 0).symm
  | a :: s, c, l, h => by
    simp only [List.cons_append, Dd.rdR] at h ⊢
    by_cases h1 : (Dd.rdV a l).1 ≠ 0
    · rw [if_pos h1] at h; exact absurd h h1
    · rw [if_neg h1] at h ⊢
      rw [if_neg h1]
      exact Dd.rdR_snoc s c _ h
/-- One column less: bytes are left. -/
theorem Dd.cut {s : List Kn.C} {c : Kn.C} {vs : List Kn.V} (hs : Kn.right s = true) (h : Dd.fitE (s ++ [c]) ⟨false, vs⟩ = 0) (hi : ∀ v ∈ vs, I64 v.n) : (Dd.rd s (Dd.enc (s ++ [c]) ⟨false, vs⟩)).1 = 5 := by
  obtain ⟨h1, h2, h3⟩ := Dd.fitE_0 h
  have hl : vs.length = s.length + 1 := by simpa [Dd.cols] using h2
  have hne : vs ≠ [] := by intro e; rw [e] at hl; simp at hl
  have e := (List.dropLast_concat_getLast hne).symm
  have hdl : vs.dropLast.length = s.length := by rw [List.length_dropLast]; omega
  have h3' : Kn.fitsAll (s ++ [c]) (vs.dropLast ++ [vs.getLast hne]) = true := by rw [← e]; simpa [Dd.cols] using h3
  rw [Dd.fitsAll_snoc _ _ _ _ hdl, Bool.and_eq_true] at h3'
  have hf : Dd.fitE s ⟨false, vs.dropLast⟩ = 0 := Dd.fitE_of hs hdl h3'.1
  have := Dd.rd_enc' hf (fun v hv => hi v (List.dropLast_subset _ hv)) (Dd.encV c (vs.getLast hne))
  rw [if_neg (Dd.encV_pos h3'.2)] at this
  have e2 : Dd.enc (s ++ [c]) ⟨false, vs⟩ = Dd.enc s ⟨false, vs.dropLast⟩ ++ Dd.encV c (vs.getLast hne) := by
    show Dd.flag false :: Dd.encR (s ++ [c]) vs = Dd.flag false :: Dd.encR s vs.dropLast ++ _
    conv => lhs; rw [e]
    rw [Dd.encR_snoc _ _ _ _ hdl]
    rfl
  rw [e2, this]
/-- One column of numbers more: too short. -/
theorem Dd.wide {s : List Kn.C} {vs : List Kn.V} (hs : Kn.right (s ++ [⟨1, false⟩]) = true) (h : Dd.fitE s ⟨false, vs⟩ = 0) (hi : ∀ v ∈ vs, I64 v.n) : (Dd.rd (s ++ [⟨1, false⟩]) (Dd.enc s ⟨false, vs⟩)).1 = 2 := by
  obtain ⟨h1, h2, h3⟩ := Dd.fitE_0 h
  have e := Dd.rdR_back s vs h2 h3 hi []
  rw [List.append_nil] at e
  have e2 := Dd.rdR_snoc s ⟨1, false⟩ (Dd.encR s vs) (by rw [e])
  rw [e] at e2
  have e3 : (Dd.rdV ⟨1, false⟩ []).1 = 2 := rfl
  simp only at e2
  rw [e3] at e2
  have ef : Dd.rdF (Dd.enc s ⟨false, vs⟩) = (0, false, Dd.encR s vs) := Dd.rdF_flag false _
  have ec : Dd.cols (s ++ [⟨1, false⟩]) false = s ++ [⟨1, false⟩] := rfl
  unfold Dd.rd
  rw [ef]
  simp only [hs, ne_eq, not_true_eq_false, if_false, Bool.true_eq_false, ec]
  rw [if_pos (by rw [e2]; decide), e2]
end Go.Proofs.YtccjfmjgkkpndaaDoor
