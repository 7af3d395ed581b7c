/-
  The plain mathematics of package deeds: the encoding of a deed, what is read of bytes, there and back, in one way. No program.
  The plain mathematics of package skip: deeds by their keys, in order, each once. No program.
  The plain mathematics of package disk: directories, changes, files, and what a call and a crash do. No program.
-/
import Derived.Test.YtfjhffldhpcdmaaDoorZAA
import Derived.Test.YtfjhffldhpcdmaaDoorZAC
namespace Go.Proofs.YtfjhffldhpcdmaaDoor
open Go.RowKit
open Ty (num txt encU U64 I64)
open Ig (rest sg encI read_encI splitI)
open Tx (encT restT read_encT splitT)
/-- A deed. -/
structure Dd.D where
  gone : Bool
  row : List Kn.V
/-- A truth's byte; the bytes of a value that is there; of a value; of values; of a deed. -/
def Dd.flag (b : Bool) : UInt8 := if b = true then 1 else 0
def Dd.encP (c : Kn.C) (v : Kn.V) : List UInt8 := if c.k = 1 then encI v.n else encT v.s.data.toList
def Dd.encV (c : Kn.C) (v : Kn.V) : List UInt8 := (if c.null = true then [Dd.flag v.null] else []) ++ (if v.null = true then [] else Dd.encP c v)
def Dd.encR : List Kn.C → List Kn.V → List UInt8
  | c :: cs, v :: vs => Dd.encV c v ++ Dd.encR cs vs
  | _, _ => []
def Dd.enc (s : List Kn.C) (d : Dd.D) : List UInt8 := Dd.flag d.gone :: Dd.encR s d.row
/-- The columns that a deed's values have. -/
def Dd.cols (s : List Kn.C) (g : Bool) : List Kn.C := if g = true then s.take 1 else s
/-- The error of a deed. -/
def Dd.fitE (s : List Kn.C) (d : Dd.D) : Int :=
  if d.gone = true then (if Kn.right s = true then (match d.row with | [k] => Kn.keyE s k | _ => 7) else 4) else Kn.fitsE s d.row
/-- What is read: a truth; a value that is there; a value; values; a deed: the first error, what it is, what is left. -/
def Dd.rdF : List UInt8 → Nat × Bool × List UInt8
  | [] => (2, false, [])
  | b :: r => if 1 < b.toNat then (4, false, r) else (0, b == 1, r)
def Dd.rdP (c : Kn.C) (l : List UInt8) : Nat × Kn.V × List UInt8 :=
  if c.k = 1 then ((num l).2.2, Cl.ofN (sg l), rest l) else ((txt l 64).2.2, Cl.ofS (txt l 64).1, restT l)
def Dd.rdV (c : Kn.C) (l : List UInt8) : Nat × Kn.V × List UInt8 :=
  if c.null = true then (if (Dd.rdF l).1 ≠ 0 then ((Dd.rdF l).1, Cl.ofN 0, (Dd.rdF l).2.2) else if (Dd.rdF l).2.1 = true then (0, Cl.nul, (Dd.rdF l).2.2) else Dd.rdP c (Dd.rdF l).2.2) else Dd.rdP c l
def Dd.rdR : List Kn.C → List UInt8 → Nat × List Kn.V × List UInt8
  | [], l => (0, [], l)
  | c :: cs, l => if (Dd.rdV c l).1 ≠ 0 then ((Dd.rdV c l).1, [], []) else ((Dd.rdR cs (Dd.rdV c l).2.2).1, (Dd.rdV c l).2.1 :: (Dd.rdR cs (Dd.rdV c l).2.2).2.1, (Dd.rdR cs (Dd.rdV c l).2.2).2.2)
def Dd.rd (s : List Kn.C) (l : List UInt8) : Nat × Dd.D :=
  if Kn.right s = false then (4, ⟨false, []⟩)
  else if (Dd.rdF l).1 ≠ 0 then ((Dd.rdF l).1, ⟨false, []⟩)
  else if (Dd.rdR (Dd.cols s (Dd.rdF l).2.1) (Dd.rdF l).2.2).1 ≠ 0 then ((Dd.rdR (Dd.cols s (Dd.rdF l).2.1) (Dd.rdF l).2.2).1, ⟨false, []⟩)
  else if (Dd.rdR (Dd.cols s (Dd.rdF l).2.1) (Dd.rdF l).2.2).2.2 ≠ [] then (5, ⟨false, []⟩)
  else (0, ⟨(Dd.rdF l).2.1, (Dd.rdR (Dd.cols s (Dd.rdF l).2.1) (Dd.rdF l).2.2).2.1⟩)
theorem Dd.toList_nil {s : ByteArray} (h : (s.toList == (⟨#[]⟩ : ByteArray).toList) = true) : s = ⟨#[]⟩ := by
  rw [beq_iff_eq, ByteArray.toList_eq, ByteArray.toList_eq] at h
  have h2 : s.data.toList = [] := h
  apply ByteArray.ext
  exact Array.toList_inj.1 (by rw [h2])
theorem Dd.good_iff (c : Kn.C) : c.good = true ↔ c.k = 1 ∨ c.k = 2 := by
  unfold Kn.C.good
  by_cases h1 : c.k = 1
  · simp [h1]
  · by_cases h2 : c.k = 2
    · simp [h2]
    · have e1 : (c.k != 1) = true := by rw [bne_iff_ne]; exact h1
      have e2 : (c.k != 2) = true := by rw [bne_iff_ne]; exact h2
      simp [e1, e2, h1, h2]
theorem Dd.rdF_flag (b : Bool) (r : List UInt8) : Dd.rdF (Dd.flag b :: r) = (0, b, r) := by
  cases b <;> simp [Dd.rdF, Dd.flag]
theorem Dd.rdF_only {l : List UInt8} (h : (Dd.rdF l).1 = 0) : l = Dd.flag (Dd.rdF l).2.1 :: (Dd.rdF l).2.2 := by
  cases l with
  | nil => cases h
  | cons b r =>
    simp only [Dd.rdF] at h ⊢
    by_cases h1 : 1 < b.toNat
    · rw [if_pos h1] at h; cases h
    · rw [if_neg h1]
      simp only [Dd.flag]
      congr 1
      by_cases e : b = 1
      · rw [e]; rfl
      · have e0 : b = 0 := by
          apply UInt8.toNat_inj.1
          have : b.toNat ≠ 1 := fun h => e (UInt8.toNat_inj.1 h)
          show b.toNat = 0
          omega
        rw [e0]; rfl
/-- What fits is of this form. -/
theorem Dd.fits_null {c : Kn.C} {v : Kn.V} (h : Kn.fits c v = true) (hv : v.null = true) : v = Cl.nul ∧ c.null = true := by
  unfold Kn.fits at h
  rw [if_pos hv] at h
  simp only [Bool.and_eq_true] at h
  obtain ⟨vn, vi, vs⟩ := v
  simp only at hv h
  rw [hv, Dd.toList_nil h.2, show vi = 0 by simpa using h.1.2]
  exact ⟨rfl, h.1.1⟩
theorem Dd.fits_num {c : Kn.C} {v : Kn.V} (hk : c.k = 1) (h : Kn.fits c v = true) (hv : v.null = false) : v = Cl.ofN v.n := by
  unfold Kn.fits at h
  rw [hv, if_neg (by decide), if_pos hk] at h
  obtain ⟨vn, vi, vs⟩ := v
  simp only at hv h
  rw [hv, Dd.toList_nil h]
  rfl
theorem Dd.fits_str {c : Kn.C} {v : Kn.V} (hk : c.k ≠ 1) (h : Kn.fits c v = true) (hv : v.null = false) : v = Cl.ofS v.s.data.toList ∧ v.s.data.toList.length ≤ 64 := by
  unfold Kn.fits at h
  rw [hv, if_neg (by decide), if_neg hk] at h
  simp only [Bool.and_eq_true, decide_eq_true_iff] at h
  obtain ⟨vn, vi, vs⟩ := v
  simp only at hv h ⊢
  rw [hv, show vi = 0 by simpa using h.1]
  exact ⟨rfl, by rw [Ty.length_data]; exact h.2⟩
theorem Dd.fits_nul {c : Kn.C} (h : c.null = true) : Kn.fits c Cl.nul = true := by simp [Kn.fits, Cl.nul, h]
theorem Dd.fits_ofN {c : Kn.C} (hk : c.k = 1) (x : Int) : Kn.fits c (Cl.ofN x) = true := by simp [Kn.fits, Cl.ofN, hk]
theorem Dd.fits_ofS {c : Kn.C} (hk : c.k ≠ 1) {t : List UInt8} (h : t.length ≤ 64) : Kn.fits c (Cl.ofS t) = true := by
  have : (Ty.S t).size ≤ 64 := h
  simp [Kn.fits, Cl.ofS, hk, this]
theorem Dd.rdP_back {c : Kn.C} {v : Kn.V} (h : Kn.fits c v = true) (hv : v.null = false) (hi : I64 v.n) (r : List UInt8) : Dd.rdP c (Dd.encP c v ++ r) = (0, v, r) := by
  unfold Dd.rdP Dd.encP
  by_cases hk : c.k = 1
  · obtain ⟨h1, h2, h3⟩ := read_encI v.n hi r
    rw [if_pos hk, if_pos hk, h1, h2, h3, ← Dd.fits_num hk h hv]
  · obtain ⟨e, hl⟩ := Dd.fits_str hk h hv
    obtain ⟨h1, h2, h3⟩ := read_encT v.s.data.toList hl r
    rw [if_neg hk, if_neg hk, h1, h2, h3, ← e]
theorem Dd.rdV_back {c : Kn.C} {v : Kn.V} (h : Kn.fits c v = true) (hi : I64 v.n) (r : List UInt8) : Dd.rdV c (Dd.encV c v ++ r) = (0, v, r) := by
  unfold Dd.rdV Dd.encV
  cases hn : v.null
  · simp only [Bool.false_eq_true, if_false]
    by_cases hc : c.null = true
    · rw [if_pos hc, if_pos hc, List.append_assoc, List.singleton_append, Dd.rdF_flag]
      simp only [ne_eq, not_true_eq_false, if_false, Bool.false_eq_true]
      exact Dd.rdP_back h hn hi r
    · rw [if_neg hc, if_neg hc, List.nil_append]
      exact Dd.rdP_back h hn hi r
  · obtain ⟨e, hc⟩ := Dd.fits_null h hn
    simp only [if_true]
    rw [if_pos hc, if_pos hc, List.append_nil, List.singleton_append, Dd.rdF_flag]
    simp only [ne_eq, not_true_eq_false, if_false, if_true]
    rw [e]
theorem Dd.rdP_only {c : Kn.C} {l : List UInt8} (h : (Dd.rdP c l).1 = 0) : l = Dd.encP c (Dd.rdP c l).2.1 ++ (Dd.rdP c l).2.2 ∧ Kn.fits c (Dd.rdP c l).2.1 = true ∧ (Dd.rdP c l).2.1.null = false ∧ I64 (Dd.rdP c l).2.1.n := by
  by_cases hk : c.k = 1
  · have e : Dd.rdP c l = ((num l).2.2, Cl.ofN (sg l), rest l) := by unfold Dd.rdP; rw [if_pos hk]
    rw [e] at h ⊢
    refine ⟨?_, Dd.fits_ofN hk _, rfl, Ig.sg_i64 l⟩
    unfold Dd.encP
    rw [if_pos hk]
    exact splitI h
  · have e : Dd.rdP c l = ((txt l 64).2.2, Cl.ofS (txt l 64).1, restT l) := by unfold Dd.rdP; rw [if_neg hk]
    rw [e] at h ⊢
    obtain ⟨h1, h2⟩ := splitT h
    refine ⟨?_, Dd.fits_ofS hk h2, rfl, ⟨by show _ ≤ (0 : Int); omega, by show (0 : Int) ≤ _; omega⟩⟩
    unfold Dd.encP
    rw [if_neg hk]
    show l = encT (Ty.S (txt l 64).1).data.toList ++ restT l
    rw [Ty.data_S]
    exact h1
theorem Dd.rdV_only {c : Kn.C} {l : List UInt8} (h : (Dd.rdV c l).1 = 0) : l = Dd.encV c (Dd.rdV c l).2.1 ++ (Dd.rdV c l).2.2 ∧ Kn.fits c (Dd.rdV c l).2.1 = true ∧ I64 (Dd.rdV c l).2.1.n := by
  unfold Dd.rdV at h ⊢
  by_cases hc : c.null = true
  · rw [if_pos hc] at h ⊢
    by_cases h1 : (Dd.rdF l).1 ≠ 0
    · rw [if_pos h1] at h; exact absurd h h1
    · rw [if_neg h1] at h ⊢
      have hl := Dd.rdF_only (by simpa using h1)
      cases hb : (Dd.rdF l).2.1
      · rw [hb] at h hl
        rw [if_neg (by decide)] at h ⊢
        obtain ⟨e1, e2, e3, e4⟩ := Dd.rdP_only h
        refine ⟨?_, e2, e4⟩
        unfold Dd.encV
        rw [if_pos hc, e3, if_neg (by decide), List.append_assoc, List.singleton_append, ← e1]
        exact hl
      · rw [hb] at hl
        rw [if_pos rfl]
        refine ⟨?_, Dd.fits_nul hc, ⟨by show _ ≤ (0 : Int); omega, by show (0 : Int) ≤ _; omega⟩⟩
        show l = Dd.encV c Cl.nul ++ (Dd.rdF l).2.2
        unfold Dd.encV
        rw [if_pos hc, show Cl.nul.null = true from rfl, if_pos rfl, List.append_nil, List.singleton_append]
        exact hl
  · rw [if_neg hc] at h ⊢
    obtain ⟨e1, e2, e3, e4⟩ := Dd.rdP_only h
    refine ⟨?_, e2, e4⟩
    unfold Dd.encV
    rw [if_neg hc, e3, if_neg (by decide), List.nil_append]
    exact e1
theorem Dd.rdR_back : ∀ (s : List Kn.C) (vs : List Kn.V), vs.length = s.length → Kn.fitsAll s vs = true → (∀ v ∈ vs, I64 v.n) → ∀ r, Dd.rdR s (Dd.encR s vs ++ r) = (0, vs, r)
  | [], [], _, _, _, r => rfl
  | [], _ :: _, h, _, _, _ => by simp at h
  | _ :: _, [], h, _, _, _ => by simp at h
  | c :: cs, v :: vs, hl, hf, hi, r => by
    simp only [Kn.fitsAll, Bool.and_eq_true] at hf
    have e := Dd.rdV_back hf.1 (hi v (by simp)) (Dd.encR cs vs ++ r)
    have ih := Dd.rdR_back cs vs (by simpa using hl) hf.2 (fun x hx => hi x (by simp [hx])) r
    simp only [Dd.encR, List.append_assoc, Dd.rdR, e, ih, ne_eq, not_true_eq_false, if_false]
theorem Dd.rdR_only : ∀ (s : List Kn.C) (l : List UInt8), (Dd.rdR s l).1 = 0 → l = Dd.encR s (Dd.rdR s l).2.1 ++ (Dd.rdR s l).2.2 ∧ (Dd.rdR s l).2.1.length = s.length ∧ Kn.fitsAll s (Dd.rdR s l).2.1 = true ∧ ∀ v ∈ (Dd.rdR s l).2.1, I64 v.n
  | [], l, _ => ⟨rfl, rfl, rfl, fun v hv => by cases hv⟩
  | c :: cs, l, h => by
    simp only [Dd.rdR] at h ⊢
    by_cases h1 : (Dd.rdV c l).1 ≠ 0
    · rw [if_pos h1] at h; exact absurd h h1
    · rw [if_neg h1] at h ⊢
      obtain ⟨a1, a2, a3⟩ := Dd.rdV_only (c := c) (l := l) (by simpa using h1)
      obtain ⟨b1, b2, b3, b4⟩ := Dd.rdR_only cs (Dd.rdV c l).2.2 h
      refine ⟨?_, by simp [b2], by simp [Kn.fitsAll, a2, b3], fun v hv => ?_⟩
      · simp only [Dd.encR, List.append_assoc]
        rw [← b1]
        exact a1
      · rcases List.mem_cons.1 hv with rfl | hv
        · exact a3
        · exact b4 v hv
/-- A deed that fits: its values have its columns. -/
theorem Dd.fitE_0 {s : List Kn.C} {d : Dd.D} (h : Dd.fitE s d = 0) : Kn.right s = true ∧ d.row.length = (Dd.cols s d.gone).length ∧ Kn.fitsAll (Dd.cols s d.gone) d.row = true := by
  unfold Dd.fitE at h
  unfold Dd.cols
  cases hg : d.gone
  · rw [hg, if_neg (by decide)] at h
    rw [if_neg (by decide)]
    unfold Kn.fitsE at h
    by_cases h1 : Kn.right s = true
    · rw [if_pos h1] at h
      by_cases h2 : d.row.length = s.length
      · rw [if_pos h2] at h
        by_cases h3 : Kn.fitsAll s d.row = true
        · exact ⟨h1, h2, h3⟩
        · rw [if_neg h3] at h; cases h
      · rw [if_neg h2] at h; cases h
    · rw [if_neg h1] at h; cases h
  · rw [hg, if_pos rfl] at h
    rw [if_pos rfl]
    by_cases h1 : Kn.right s = true
    · rw [if_pos h1] at h
      have hl := Kn.right_len h1
      obtain ⟨g, row⟩ := d
      simp only at h ⊢
      match row, s, h, hl with
      | [k], c :: cs, h, _ =>
        simp only at h
        unfold Kn.keyE at h
        rw [if_pos h1] at h
        simp only at h
        by_cases h3 : Kn.fits c k = true
        · exact ⟨h1, rfl, by simp [Kn.fitsAll, h3]⟩
        · rw [if_neg h3] at h; cases h
      | [], _, h, _ => cases h
      | _ :: _ :: _, _, h, _ => cases h
      | [_], [], _, hl => simp at hl
    · rw [if_neg h1] at h; cases h
theorem Dd.fitE_of {s : List Kn.C} {d : Dd.D} (h1 : Kn.right s = true) (h2 : d.row.length = (Dd.cols s d.gone).length) (h3 : Kn.fitsAll (Dd.cols s d.gone) d.row = true) : Dd.fitE s d = 0 := by
  unfold Dd.fitE
  unfold Dd.cols at h2 h3
  obtain ⟨g, row⟩ := d
  cases g
  · simp only [Bool.false_eq_true, if_false] at h2 h3 ⊢
    unfold Kn.fitsE
    rw [if_pos h1, if_pos h2, if_pos h3]
  · have hl := Kn.right_len h1
    simp only [if_true] at h2 h3 ⊢
    rw [if_pos h1]
    match s, row, h1, h2, h3, hl with
    | c :: cs, [k], h1, _, h3, _ =>
      simp only [Kn.fitsAll, List.take_succ_cons, List.take_zero, Bool.and_true] at h3
      show Kn.keyE (c :: cs) k = 0
      unfold Kn.keyE
      rw [if_pos h1]
      simp only
      rw [if_pos h3]
    | [], _, _, _, _, hl => simp at hl
    | c :: cs, [], _, h2, _, _ => simp at h2
    | c :: cs, _ :: _ :: _, _, h2, _, _ => simp at h2
theorem Dd.encR_cols {s : List Kn.C} {g : Bool} {row : List Kn.V} (h : row.length = (Dd.cols s g).length) : Dd.encR s row = Dd.encR (Dd.cols s g) row := by
  unfold Dd.cols at h ⊢
  cases g
  · rfl
  · rw [if_pos rfl] at h ⊢
    match s, row, h with
    | [], _, _ => rfl
    | c :: cs, [], h => simp at h
    | c :: cs, [v], _ => simp [Dd.encR]
    | c :: cs, _ :: _ :: _, h => simp at h
/-- THERE AND BACK, with whatever behind. -/
theorem Dd.rd_enc' {s : List Kn.C} {d : Dd.D} (h : Dd.fitE s d = 0) (hi : ∀ v ∈ d.row, I64 v.n) (r : List UInt8) : Dd.rd s (Dd.enc s d ++ r) = if r = [] then (0, d) else (5, ⟨false, []⟩) := by
  obtain ⟨h1, h2, h3⟩ := Dd.fitE_0 h
  have e := Dd.rdR_back (Dd.cols s d.gone) d.row h2 h3 hi r
  have ef : Dd.rdF (Dd.enc s d ++ r) = (0, d.gone, Dd.encR (Dd.cols s d.gone) d.row ++ r) := by
    unfold Dd.enc
    rw [List.cons_append, Dd.rdF_flag, Dd.encR_cols h2]
  unfold Dd.rd
  rw [ef]
  simp only [e, h1, ne_eq, not_true_eq_false, if_false, Bool.true_eq_false]
  by_cases hr : r = []
  · rw [if_pos hr, if_neg (by simp [hr])]
  · rw [if_neg hr, if_pos hr]
theorem Dd.rd_enc {s : List Kn.C} {d : Dd.D} (h : Dd.fitE s d = 0) (hi : ∀ v ∈ d.row, I64 v.n) : Dd.rd s (Dd.enc s d) = (0, d) := by
  have := Dd.rd_enc' h hi []
  rwa [List.append_nil, if_pos rfl] at this
/-- IN ONE WAY. -/
theorem Dd.enc_rd {s : List Kn.C} {l : List UInt8} (h : (Dd.rd s l).1 = 0) : Dd.fitE s (Dd.rd s l).2 = 0 ∧ Dd.enc s (Dd.rd s l).2 = l ∧ ∀ v ∈ (Dd.rd s l).2.row, I64 v.n := by
  unfold Dd.rd at h ⊢
  by_cases h1 : Kn.right s = false
  · rw [if_pos h1] at h; cases h
  · rw [if_neg h1] at h ⊢
    by_cases h2 : (Dd.rdF l).1 ≠ 0
    · rw [if_pos h2] at h; exact absurd h h2
    · rw [if_neg h2] at h ⊢
      by_cases h3 : (Dd.rdR (Dd.cols s (Dd.rdF l).2.1) (Dd.rdF l).2.2).1 ≠ 0
      · rw [if_pos h3] at h; exact absurd h h3
      · rw [if_neg h3] at h ⊢
        by_cases h4 : (Dd.rdR (Dd.cols s (Dd.rdF l).2.1) (Dd.rdF l).2.2).2.2 ≠ []
        · rw [if_pos h4] at h; cases h
        · rw [if_neg h4]
          obtain ⟨b1, b2, b3, b4⟩ := Dd.rdR_only _ _ (by simpa using h3 : (Dd.rdR (Dd.cols s (Dd.rdF l).2.1) (Dd.rdF l).2.2).1 = 0)
          have hl := Dd.rdF_only (by simpa using h2)
          have e4 : (Dd.rdR (Dd.cols s (Dd.rdF l).2.1) (Dd.rdF l).2.2).2.2 = [] := by simpa using h4
          rw [e4, List.append_nil] at b1
          refine ⟨Dd.fitE_of (by simpa using h1) b2 b3, ?_, b4⟩
          unfold Dd.enc
          rw [Dd.encR_cols b2, ← b1]
          exact hl.symm
theorem Dd.rd_bad {s : List Kn.C} {l : List UInt8} (h : (Dd.rd s l).1 ≠ 0) : (Dd.rd s l).2 = ⟨false, []⟩ := by
  unfold Dd.rd at h ⊢
  split
  · rfl
  · split
    · rfl
    · split
      · rfl
      · split
        · rfl
        · rename_i a1 a2 a3 a4
          rw [if_neg a1, if_neg a2, if_neg a3, if_neg a4] at h
          exact absurd rfl h
/-- A byte more, a byte less. -/
theorem Dd.more {s : List Kn.C} {l : List UInt8} (h : (Dd.rd s l).1 = 0) (x : UInt8) : (Dd.rd s (l ++ [x])).1 = 5 := by
  obtain ⟨h1, h2, h3⟩ := Dd.enc_rd h
  have := Dd.rd_enc' h1 h3 [x]
  rw [h2, if_neg (by simp)] at this
  rw [this]
theorem Dd.less {s : List Kn.C} {l : List UInt8} (h : (Dd.rd s l).1 = 0) : l ≠ [] ∧ (Dd.rd s l.dropLast).1 ≠ 0 := by
  have hne : l ≠ [] := by
    intro e
    obtain ⟨_, h2, _⟩ := Dd.enc_rd h
    rw [e] at h2
    cases h2
  refine ⟨hne, fun h0 => ?_⟩
  have := Dd.more h0 (l.getLast hne)
  rw [List.dropLast_concat_getLast] at this
  rw [this] at h
  cases h
/-- Bytes of deeds that fit are the same only if the deeds are. -/
theorem Dd.enc_inj {s : List Kn.C} {a b : Dd.D} (ha : Dd.fitE s a = 0) (hb : Dd.fitE s b = 0) (ia : ∀ v ∈ a.row, I64 v.n) (ib : ∀ v ∈ b.row, I64 v.n) (h : Dd.enc s a = Dd.enc s b) : a = b := by
  have h1 := Dd.rd_enc ha ia
  rw [h, Dd.rd_enc hb ib] at h1
  simpa using h1.symm
theorem Dd.encV_pos {c : Kn.C} {v : Kn.V} (h : Kn.fits c v = true) : Dd.encV c v ≠ [] := by
  unfold Dd.encV
  by_cases hc : c.null = true
  · rw [if_pos hc]; simp
  · rw [if_neg hc, List.nil_append]
    cases hn : v.null
    · rw [if_neg (by decide)]
      unfold Dd.encP
      split
      · intro e
        have : 0 < (encI v.n).length := by unfold encI; rw [Ty.encU_length]; omega
        rw [e] at this
        simp at this
      · intro e
        have : 0 < (encT v.s.data.toList).length := by unfold encT; rw [List.length_append, Ty.encU_length]; omega
        rw [e] at this
        simp at this
    · exact absurd (Dd.fits_null h hn).2 hc
theorem Dd.fitsAll_snoc : ∀ (s : List Kn.C) (c : Kn.C) (vs : List Kn.V) (v : Kn.V), vs.length = s.length → Kn.fitsAll (s ++ [c]) (vs ++ [v]) = (Kn.fitsAll s vs && Kn.fits c v)
  | [], c, [], v, _ => by simp [Kn.fitsAll]
  | [], _, _ :: _, _, h => by simp at h
  | _ :: _, _, [], _, h => by simp at h
  | a :: s, c, x :: vs, v, h => by
    simp only [List.cons_append, Kn.fitsAll]
    rw [Dd.fitsAll_snoc s c vs v (by simpa using h), Bool.and_assoc]
theorem Dd.encR_snoc : ∀ (s : List Kn.C) (c : Kn.C) (vs : List Kn.V) (v : Kn.V), vs.length = s.length → Dd.encR (s ++ [c]) (vs ++ [v]) = Dd.encR s vs ++ Dd.encV c v
  | [], c, [], v, _ => by simp [Dd.encR]
  | [], _, _ :: _, _, h => by simp at h
  | _ :: _, _, [], _, h => by simp at h
  | a :: s, c, x :: vs, v, h => by
    simp only [List.cons_append, Dd.encR]
    rw [Dd.encR_snoc s c vs v (by simpa using h), List.append_assoc]
theorem Dd.rdR_snoc : ∀ (s : List Kn.C) (c : Kn.C) (l : List UInt8), (Dd.rdR s l).1 = 0 → (Dd.rdR (s ++ [c]) l).1 = (Dd.rdV c (Dd.rdR s l).2.2).1
  | [], c, l, _ => by
    simp only [List.nil_append, Dd.rdR]
    by_cases h : (Dd.rdV c l).1 ≠ 0
    · rw [if_pos h]
    · rw [if_neg h]
      exact (by simpa using h : (Dd.rdV c l).1 = 0).symm
  | a :: s, c, l, h => by
    simp only [List.cons_append, Dd.rdR] at h ⊢
    by_cases h1 : (Dd.rdV a l).1 ≠ 0
    · rw [if_pos h1] at h; exact absurd h h1
    · rw [if_neg h1] at h ⊢
      rw [if_neg h1]
      exact Dd.rdR_snoc s c _ h
/-- One column less: bytes are left. -/
theorem Dd.cut {s : List Kn.C} {c : Kn.C} {vs : List Kn.V} (hs : Kn.right s = true) (h : Dd.fitE (s ++ [c]) ⟨false, vs⟩ = 0) (hi : ∀ v ∈ vs, I64 v.n) : (Dd.rd s (Dd.enc (s ++ [c]) ⟨false, vs⟩)).1 = 5 := by
  obtain ⟨h1, h2, h3⟩ := Dd.fitE_0 h
  have hl : vs.length = s.length + 1 := by simpa [Dd.cols] using h2
  have hne : vs ≠ [] := by intro e; rw [e] at hl; simp at hl
  have e := (List.dropLast_concat_getLast hne).symm
  have hdl : vs.dropLast.length = s.length := by rw [List.length_dropLast]; omega
  have h3' : Kn.fitsAll (s ++ [c]) (vs.dropLast ++ [vs.getLast hne]) = true := by rw [← e]; simpa [Dd.cols] using h3
  rw [Dd.fitsAll_snoc _ _ _ _ hdl, Bool.and_eq_true] at h3'
  have hf : Dd.fitE s ⟨false, vs.dropLast⟩ = 0 := Dd.fitE_of hs hdl h3'.1
  have := Dd.rd_enc' hf (fun v hv => hi v (List.dropLast_subset _ hv)) (Dd.encV c (vs.getLast hne))
  rw [if_neg (Dd.encV_pos h3'.2)] at this
  have e2 : Dd.enc (s ++ [c]) ⟨false, vs⟩ = Dd.enc s ⟨false, vs.dropLast⟩ ++ Dd.encV c (vs.getLast hne) := by
    show Dd.flag false :: Dd.encR (s ++ [c]) vs = Dd.flag false :: Dd.encR s vs.dropLast ++ _
    conv => lhs; rw [e]
    rw [Dd.encR_snoc _ _ _ _ hdl]
    rfl
  rw [e2, this]
/-- One column of numbers more: too short. -/
theorem Dd.wide {s : List Kn.C} {vs : List Kn.V} (hs : Kn.right (s ++ [⟨1, false⟩]) = true) (h : Dd.fitE s ⟨false, vs⟩ = 0) (hi : ∀ v ∈ vs, I64 v.n) : (Dd.rd (s ++ [⟨1, false⟩]) (Dd.enc s ⟨false, vs⟩)).1 = 2 := by
  obtain ⟨h1, h2, h3⟩ := Dd.fitE_0 h
  have e := Dd.rdR_back s vs h2 h3 hi []
  rw [List.append_nil] at e
  have e2 := Dd.rdR_snoc s ⟨1, false⟩ (Dd.encR s vs) (by rw [e])
  rw [e] at e2
  have e3 : (Dd.rdV ⟨1, false⟩ []).1 = 2 := rfl
  simp only at e2
  rw [e3] at e2
  have ef : Dd.rdF (Dd.enc s ⟨false, vs⟩) = (0, false, Dd.encR s vs) := Dd.rdF_flag false _
  have ec : Dd.cols (s ++ [⟨1, false⟩]) false = s ++ [⟨1, false⟩] := rfl
  unfold Dd.rd
  rw [ef]
  simp only [hs, ne_eq, not_true_eq_false, if_false, Bool.true_eq_false, ec]
  rw [if_pos (by rw [e2]; decide), e2]
end Go.Proofs.YtfjhffldhpcdmaaDoor

namespace Go.Proofs.YtfjhffldhpcdmaaDoor
open Go Go.RowKit
section
variable {α : Type} (key : α → Kn.V)
/-- Where a key stands, or would. -/
def Sk.at_ (L : List α) (k : Kn.V) : Nat := (L.takeWhile fun x => decide (Kn.cmp (key x) k < 0)).length
/-- Whether it is there. -/
def Sk.there (L : List α) (k : Kn.V) : Bool := match L[Sk.at_ key L k]? with | none => false | some x => !decide (Kn.cmp k (key x) < 0)
def Sk.put (L : List α) (x : α) : List α := L.take (Sk.at_ key L (key x)) ++ x :: L.drop (if Sk.there key L (key x) = true then Sk.at_ key L (key x) + 1 else Sk.at_ key L (key x))
def Sk.get (L : List α) (k : Kn.V) : Option α := if Sk.there key L k = true then L[Sk.at_ key L k]? else none
def Sk.from_ (L : List α) (k : Kn.V) : List α := L.drop (Sk.at_ key L k)
/-- In order, each once. -/
def Sk.Asc (L : List α) : Prop := L.Pairwise fun x y => Kn.cmp (key x) (key y) < 0
end
theorem Sk.cmp_self (a : Kn.V) : Kn.cmp a a = 0 := by have := (Kn.cmp_fair a a a).xa; omega
theorem Sk.cmp_anti (a b : Kn.V) : Kn.cmp b a = -Kn.cmp a b := (Kn.cmp_fair a b b).xa
theorem Sk.lt_trans {a b c : Kn.V} (h : Kn.cmp a b < 0) (g : Kn.cmp b c < 0) : Kn.cmp a c < 0 := by
  have f := Kn.cmp_fair a b c
  have h1 := f.le (by omega) (by omega)
  have h2 := f.lt (by omega) (by omega)
  by_cases e : Kn.cmp a c = 0
  · have := h2 e; omega
  · omega
/-- A key that is the other's may stand in its place. -/
theorem Sk.eq_left {a b c : Kn.V} (h : Kn.cmp a b = 0) : Kn.cmp a c = Kn.cmp b c := by
  have f := Kn.cmp_fair a b c
  have g := Kn.cmp_fair b a c
  have ha := Sk.cmp_anti a b
  have h1 := f.xr
  have h2 := f.yr
  have h3 := f.zr
  have h4 := f.le
  have h5 := f.lt
  have h6 := f.ge
  have h7 := f.gt
  have g4 := g.le
  have g5 := g.lt
  have g6 := g.ge
  have g7 := g.gt
  omega
theorem Sk.eq_right {a b c : Kn.V} (h : Kn.cmp b c = 0) : Kn.cmp a b = Kn.cmp a c := by
  have := Sk.eq_left (a := b) (b := c) (c := a) h
  have h1 := Sk.cmp_anti b a
  have h2 := Sk.cmp_anti c a
  omega
section
variable {α : Type} {key : α → Kn.V}
theorem Sk.at_le (L : List α) (k : Kn.V) : Sk.at_ key L k ≤ L.length := by
  unfold Sk.at_
  exact (List.takeWhile_prefix _).length_le
theorem Sk.at_nil (k : Kn.V) : Sk.at_ key [] k = 0 := rfl
theorem Sk.at_cons (x : α) (L : List α) (k : Kn.V) : Sk.at_ key (x :: L) k = if Kn.cmp (key x) k < 0 then Sk.at_ key L k + 1 else 0 := by
  unfold Sk.at_
  by_cases h : Kn.cmp (key x) k < 0
  · rw [if_pos h, List.takeWhile_cons_of_pos (by simpa using h), List.length_cons]
  · rw [if_neg h, List.takeWhile_cons_of_neg (by simpa using h), List.length_nil]
/-- All ahead of the place are ahead. -/
theorem Sk.at_lt {L : List α} {k : Kn.V} : ∀ {i : Nat} {x : α}, i < Sk.at_ key L k → L[i]? = some x → Kn.cmp (key x) k < 0 := by
  induction L with
  | nil => intro i x h; simp [Sk.at_nil] at h
  | cons y L ih =>
    intro i x h hx
    rw [Sk.at_cons] at h
    by_cases hy : Kn.cmp (key y) k < 0
    · rw [if_pos hy] at h
      cases i with
      | zero => obtain rfl : y = x := by simpa using hx
                exact hy
      | succ i => exact ih (i := i) (by omega) (by simpa using hx)
    · rw [if_neg hy] at h; omega
/-- The one at the place is not. -/
theorem Sk.at_ge {L : List α} {k : Kn.V} {x : α} (hx : L[Sk.at_ key L k]? = some x) : ¬ Kn.cmp (key x) k < 0 := by
  induction L with
  | nil => simp at hx
  | cons y L ih =>
    rw [Sk.at_cons] at hx
    by_cases hy : Kn.cmp (key y) k < 0
    · rw [if_pos hy] at hx
      exact ih (by simpa using hx)
    · rw [if_neg hy] at hx
      obtain rfl : y = x := by simpa using hx
      exact hy
theorem Sk.at_is {L : List α} {k : Kn.V} {i : Nat} (hi : i ≤ L.length) (h : ∀ j x, j < i → L[j]? = some x → Kn.cmp (key x) k < 0) (hg : ∀ x, L[i]? = some x → ¬ Kn.cmp (key x) k < 0) : Sk.at_ key L k = i := by
  rcases Nat.lt_trichotomy (Sk.at_ key L k) i with h1 | h1 | h1
  · have hx : L[Sk.at_ key L k]? = some (L[Sk.at_ key L k]'(by omega)) := List.getElem?_eq_getElem _
    exact absurd (h _ _ h1 hx) (Sk.at_ge hx)
  · exact h1
  · have := Sk.at_le (key := key) L k
    have hx : L[i]? = some (L[i]'(by omega)) := List.getElem?_eq_getElem _
    exact absurd (Sk.at_lt h1 hx) (hg _ hx)
theorem Sk.map_at {β : Type} (f : α → β) (kb : β → Kn.V) (hk : ∀ x, kb (f x) = key x) (L : List α) (k : Kn.V) : Sk.at_ kb (L.map f) k = Sk.at_ key L k := by
  induction L with
  | nil => rfl
  | cons y L ih => rw [List.map_cons, Sk.at_cons, Sk.at_cons, hk, ih]
theorem Sk.map_there {β : Type} (f : α → β) (kb : β → Kn.V) (hk : ∀ x, kb (f x) = key x) (L : List α) (k : Kn.V) : Sk.there kb (L.map f) k = Sk.there key L k := by
  unfold Sk.there
  rw [Sk.map_at f kb hk, List.getElem?_map]
  cases L[Sk.at_ key L k]? with
  | none => rfl
  | some x => simp only [Option.map_some, hk]
theorem Sk.map_put {β : Type} (f : α → β) (kb : β → Kn.V) (hk : ∀ x, kb (f x) = key x) (L : List α) (x : α) : Sk.put kb (L.map f) (f x) = (Sk.put key L x).map f := by
  unfold Sk.put
  rw [hk, Sk.map_at f kb hk, Sk.map_there f kb hk, List.map_append, List.map_cons, List.map_take, List.map_drop]
theorem Sk.map_get {β : Type} (f : α → β) (kb : β → Kn.V) (hk : ∀ x, kb (f x) = key x) (L : List α) (k : Kn.V) : Sk.get kb (L.map f) k = (Sk.get key L k).map f := by
  unfold Sk.get
  rw [Sk.map_there f kb hk, Sk.map_at f kb hk, List.getElem?_map]
  split <;> rfl
theorem Sk.map_from {β : Type} (f : α → β) (kb : β → Kn.V) (hk : ∀ x, kb (f x) = key x) (L : List α) (k : Kn.V) : Sk.from_ kb (L.map f) k = (Sk.from_ key L k).map f := by
  unfold Sk.from_
  rw [Sk.map_at f kb hk, List.map_drop]
theorem Sk.there_some {L : List α} {k : Kn.V} (h : Sk.there key L k = true) : ∃ x, L[Sk.at_ key L k]? = some x ∧ Kn.cmp (key x) k = 0 := by
  unfold Sk.there at h
  cases hx : L[Sk.at_ key L k]? with
  | none => rw [hx] at h; cases h
  | some x =>
    rw [hx] at h
    have h1 := Sk.at_ge hx
    have h2 := Sk.cmp_anti k (key x)
    refine ⟨x, rfl, ?_⟩
    simp only [Bool.not_eq_true', decide_eq_false_iff_not] at h
    omega
theorem Sk.there_none {L : List α} {k : Kn.V} (h : Sk.there key L k = false) : ∀ x, L[Sk.at_ key L k]? = some x → 0 < Kn.cmp (key x) k := by
  intro x hx
  unfold Sk.there at h
  rw [hx] at h
  have h2 := Sk.cmp_anti k (key x)
  simp only [Bool.not_eq_false', decide_eq_true_eq] at h
  omega
/-- What stands behind the place is behind the key. -/
theorem Sk.asc_behind {L : List α} (ha : Sk.Asc key L) {i j : Nat} {x y : α} (hij : i < j) (hx : L[i]? = some x) (hy : L[j]? = some y) : Kn.cmp (key x) (key y) < 0 := by
  have hj : j < L.length := (List.getElem?_eq_some_iff.1 hy).1
  obtain ⟨h1, rfl⟩ := List.getElem?_eq_some_iff.1 hx
  obtain ⟨h2, rfl⟩ := List.getElem?_eq_some_iff.1 hy
  exact List.pairwise_iff_getElem.1 ha i j h1 h2 hij
theorem Sk.get_mem {L : List α} (ha : Sk.Asc key L) {k : Kn.V} {x : α} : Sk.get key L k = some x ↔ x ∈ L ∧ Kn.cmp (key x) k = 0 := by
  constructor
  · intro h
    unfold Sk.get at h
    split at h
    · next ht =>
      obtain ⟨y, hy, he⟩ := Sk.there_some ht
      rw [hy] at h
      obtain rfl : y = x := by simpa using h
      exact ⟨List.mem_of_getElem? hy, he⟩
    · cases h
  · rintro ⟨hm, he⟩
    obtain ⟨i, hi, e⟩ := List.getElem_of_mem hm
    have hx : L[i]? = some x := by rw [List.getElem?_eq_getElem hi, e]
    have hat : Sk.at_ key L k = i := Sk.at_is (Nat.le_of_lt hi) (fun j y hj hy => by
      have := Sk.asc_behind ha hj hy hx
      rw [Sk.eq_right he] at this
      exact this) (fun y hy => by
      rw [hx] at hy
      obtain rfl : x = y := by simpa using hy
      omega)
    have ht : Sk.there key L k = true := by
      unfold Sk.there
      rw [hat, hx]
      have := Sk.cmp_anti k (key x)
      simp only [Bool.not_eq_true', decide_eq_false_iff_not]
      omega
    unfold Sk.get
    rw [if_pos ht, hat, hx]
theorem Sk.get_none {L : List α} (ha : Sk.Asc key L) {k : Kn.V} : Sk.get key L k = none ↔ ∀ x ∈ L, Kn.cmp (key x) k ≠ 0 := by
  constructor
  · intro h x hx he
    have := (Sk.get_mem ha).2 ⟨hx, he⟩
    rw [h] at this
    cases this
  · intro h
    cases hg : Sk.get key L k with
    | none => rfl
    | some x =>
      obtain ⟨h1, h2⟩ := (Sk.get_mem ha).1 hg
      exact absurd h2 (h x h1)
theorem Sk.mem_put {L : List α} (ha : Sk.Asc key L) {x y : α} : y ∈ Sk.put key L x ↔ y = x ∨ (y ∈ L ∧ Kn.cmp (key y) (key x) ≠ 0) := by
  unfold Sk.put
  rw [List.mem_append, List.mem_cons]
  have htk : y ∈ L.take (Sk.at_ key L (key x)) → y ∈ L ∧ Kn.cmp (key y) (key x) ≠ 0 := fun h => by
    obtain ⟨i, hi, e⟩ := List.getElem_of_mem h
    rw [List.length_take] at hi
    have hy : L[i]? = some y := by
      rw [List.getElem_take] at e
      rw [List.getElem?_eq_getElem (by omega), e]
    have := Sk.at_lt (key := key) (k := key x) (by omega) hy
    exact ⟨List.mem_of_mem_take h, by omega⟩
  constructor
  · rintro (h | h | h)
    · exact .inr (htk h)
    · exact .inl h
    · refine .inr ⟨List.mem_of_mem_drop h, ?_⟩
      obtain ⟨i, hi, e⟩ := List.getElem_of_mem h
      rw [List.length_drop] at hi
      rw [List.getElem_drop] at e
      have hy : L[(if Sk.there key L (key x) = true then Sk.at_ key L (key x) + 1 else Sk.at_ key L (key x)) + i]? = some y := by
        rw [List.getElem?_eq_getElem (by omega), e]
      by_cases ht : Sk.there key L (key x) = true
      · rw [if_pos ht] at hy
        obtain ⟨z, hz, he⟩ := Sk.there_some ht
        have := Sk.asc_behind ha (i := Sk.at_ key L (key x)) (j := Sk.at_ key L (key x) + 1 + i) (by omega) hz hy
        rw [Sk.eq_left he] at this
        have h2 := Sk.cmp_anti (key x) (key y)
        omega
      · rw [if_neg ht] at hy
        have ht' : Sk.there key L (key x) = false := by simpa using ht
        cases i with
        | zero => have := Sk.there_none ht' y (by simpa using hy); omega
        | succ i =>
          have hlt : Sk.at_ key L (key x) < L.length := by
            have := (List.getElem?_eq_some_iff.1 hy).1
            omega
          have hz : L[Sk.at_ key L (key x)]? = some L[Sk.at_ key L (key x)] := List.getElem?_eq_getElem hlt
          have h1 := Sk.there_none ht' _ hz
          have h2 := Sk.asc_behind ha (i := Sk.at_ key L (key x)) (j := Sk.at_ key L (key x) + (i + 1)) (by omega) hz hy
          have h3 := Sk.cmp_anti (key x) (key y)
          have h4 := Sk.cmp_anti (key x) (key L[Sk.at_ key L (key x)])
          have h5 := Sk.lt_trans (a := key x) (by omega) h2
          omega
  · rintro (h | ⟨h, hne⟩)
    · exact .inr (.inl h)
    · obtain ⟨i, hi, e⟩ := List.getElem_of_mem h
      have hy : L[i]? = some y := by rw [List.getElem?_eq_getElem hi, e]
      rcases Nat.lt_or_ge i (Sk.at_ key L (key x)) with h1 | h1
      · refine .inl (List.mem_of_getElem? (i := i) ?_)
        rw [List.getElem?_take, if_pos h1, hy]
      · refine .inr (.inr ?_)
        by_cases ht : Sk.there key L (key x) = true
        · rw [if_pos ht]
          obtain ⟨z, hz, he⟩ := Sk.there_some ht
          rcases Nat.lt_or_ge (Sk.at_ key L (key x)) i with h2 | h2
          · refine List.mem_of_getElem? (i := i - (Sk.at_ key L (key x) + 1)) ?_
            rw [List.getElem?_drop, show Sk.at_ key L (key x) + 1 + (i - (Sk.at_ key L (key x) + 1)) = i by omega, hy]
          · have : i = Sk.at_ key L (key x) := by omega
            rw [← this, hy] at hz
            obtain rfl : y = z := by simpa using hz
            exact absurd he hne
        · rw [if_neg ht]
          refine List.mem_of_getElem? (i := i - Sk.at_ key L (key x)) ?_
          rw [List.getElem?_drop, show Sk.at_ key L (key x) + (i - Sk.at_ key L (key x)) = i by omega, hy]
theorem Sk.put_asc {L : List α} (ha : Sk.Asc key L) (x : α) : Sk.Asc key (Sk.put key L x) := by
  have hsub : ∀ y, y ∈ L.drop (if Sk.there key L (key x) = true then Sk.at_ key L (key x) + 1 else Sk.at_ key L (key x)) → Kn.cmp (key x) (key y) < 0 := fun y hy => by
    obtain ⟨i, hi, e⟩ := List.getElem_of_mem hy
    rw [List.length_drop] at hi
    rw [List.getElem_drop] at e
    have hy : L[(if Sk.there key L (key x) = true then Sk.at_ key L (key x) + 1 else Sk.at_ key L (key x)) + i]? = some y := by
      rw [List.getElem?_eq_getElem (by omega), e]
    by_cases ht : Sk.there key L (key x) = true
    · rw [if_pos ht] at hy
      obtain ⟨z, hz, he⟩ := Sk.there_some ht
      have := Sk.asc_behind ha (i := Sk.at_ key L (key x)) (j := Sk.at_ key L (key x) + 1 + i) (by omega) hz hy
      rwa [Sk.eq_left he] at this
    · rw [if_neg ht] at hy
      have ht' : Sk.there key L (key x) = false := by simpa using ht
      have hlt : Sk.at_ key L (key x) < L.length := by
        have := (List.getElem?_eq_some_iff.1 hy).1
        omega
      have hz : L[Sk.at_ key L (key x)]? = some L[Sk.at_ key L (key x)] := List.getElem?_eq_getElem hlt
      have h1 := Sk.there_none ht' _ hz
      have h4 := Sk.cmp_anti (key x) (key L[Sk.at_ key L (key x)])
      cases i with
      | zero =>
        rw [Nat.add_zero, hz] at hy
        obtain rfl : L[Sk.at_ key L (key x)] = y := by simpa using hy
        omega
      | succ i => exact Sk.lt_trans (a := key x) (by omega) (Sk.asc_behind ha (i := Sk.at_ key L (key x)) (j := Sk.at_ key L (key x) + (i + 1)) (by omega) hz hy)
  have htk : ∀ y, y ∈ L.take (Sk.at_ key L (key x)) → Kn.cmp (key y) (key x) < 0 := fun y h => by
    obtain ⟨i, hi, e⟩ := List.getElem_of_mem h
    rw [List.length_take] at hi
    rw [List.getElem_take] at e
    exact Sk.at_lt (key := key) (k := key x) (L := L) (i := i) (by omega) (by rw [List.getElem?_eq_getElem (by omega), e])
  unfold Sk.put Sk.Asc
  rw [List.pairwise_append, List.pairwise_cons]
  refine ⟨List.Pairwise.sublist (List.take_sublist _ _) ha, ⟨hsub, List.Pairwise.sublist (List.drop_sublist _ _) ha⟩, fun y hy z hz => ?_⟩
  rcases List.mem_cons.1 hz with rfl | hz
  · exact htk y hy
  · exact Sk.lt_trans (htk y hy) (hsub z hz)
theorem Sk.get_put {L : List α} (ha : Sk.Asc key L) (x : α) (k : Kn.V) : Sk.get key (Sk.put key L x) k = if Kn.cmp (key x) k = 0 then some x else Sk.get key L k := by
  have hp := Sk.put_asc ha x
  by_cases h : Kn.cmp (key x) k = 0
  · rw [if_pos h]
    exact (Sk.get_mem hp).2 ⟨(Sk.mem_put ha).2 (.inl rfl), h⟩
  · rw [if_neg h]
    cases hg : Sk.get key L k with
    | none =>
      rw [Sk.get_none hp]
      intro y hy
      rcases (Sk.mem_put ha).1 hy with rfl | ⟨hy, _⟩
      · exact h
      · exact (Sk.get_none ha).1 hg y hy
    | some y =>
      obtain ⟨hy, he⟩ := (Sk.get_mem ha).1 hg
      refine (Sk.get_mem hp).2 ⟨(Sk.mem_put ha).2 (.inr ⟨hy, fun e => h ?_⟩), he⟩
      rw [← he, Sk.eq_left e]
/-- Two lists of the same things, in order, are one. -/
theorem Sk.asc_ext : ∀ {L M : List α}, Sk.Asc key L → Sk.Asc key M → (∀ y, y ∈ L ↔ y ∈ M) → L = M
  | [], [], _, _, _ => rfl
  | [], y :: M, _, _, h => absurd ((h y).2 List.mem_cons_self) (by simp)
  | x :: L, [], _, _, h => absurd ((h x).1 List.mem_cons_self) (by simp)
  | x :: L, y :: M, ha, hb, h => by
    unfold Sk.Asc at ha hb
    rw [List.pairwise_cons] at ha hb
    have hxy : x = y := by
      rcases List.mem_cons.1 ((h x).1 List.mem_cons_self) with e | hx
      · exact e
      · rcases List.mem_cons.1 ((h y).2 List.mem_cons_self) with e | hy
        · exact e.symm
        · have h1 := ha.1 y hy
          have h2 := hb.1 x hx
          have h3 := Sk.cmp_anti (key x) (key y)
          omega
    subst hxy
    congr 1
    refine Sk.asc_ext ha.2 hb.2 fun z => ?_
    constructor
    · intro hz
      rcases List.mem_cons.1 ((h z).1 (List.mem_cons_of_mem _ hz)) with e | hz'
      · have := ha.1 z hz
        rw [e, Sk.cmp_self] at this
        omega
      · exact hz'
    · intro hz
      rcases List.mem_cons.1 ((h z).2 (List.mem_cons_of_mem _ hz)) with e | hz'
      · have := hb.1 z hz
        rw [e, Sk.cmp_self] at this
        omega
      · exact hz'
theorem Sk.put_len (L : List α) (x : α) : (Sk.put key L x).length ≤ L.length + 1 := by
  have := Sk.at_le (key := key) L (key x)
  unfold Sk.put
  rw [List.length_append, List.length_cons, List.length_take, List.length_drop]
  split <;> omega
end
end Go.Proofs.YtfjhffldhpcdmaaDoor

namespace Go.Proofs.YtfjhffldhpcdmaaDoor.Dk
open Go
abbrev Str := List UInt8
/-- A directory: names and their files, in order. -/
abbrev Dir := List (Str × Nat)
/-- A change: b empty: a is made (of the file f), or, f below 0, goes; else a is called b. -/
structure Ch where
  a : Str
  b : Str
  f : Int
/-- A disk. -/
structure D where
  files : List (Str × Nat)
  dir : Dir
  sure : Dir
  chg : List Ch
  room : Int
  halt : Int
  deny : Int
  calls : Nat
def okc (b : UInt8) : Bool := (97 ≤ b.toNat && b.toNat ≤ 122) || (48 ≤ b.toNat && b.toNat ≤ 57) || b.toNat == 46
def right (s : Str) : Bool := s.all okc && (1 ≤ s.length && s.length ≤ 12)
def lt (a b : Str) : Bool := Op.bytesLess a b
theorem lt_irrefl (a : Str) : lt a a = false := Kn.bl_irrefl a
theorem lt_trans {a b c : Str} : lt a b = true → lt b c = true → lt a c = true := Kn.bl_trans a b c
theorem lt_ne {a b : Str} (h : lt a b = true) : a ≠ b := (Kn.bl_ne h).2
theorem lt_total {a b : Str} (h : lt a b = false) (n : a ≠ b) : lt b a = true := by
  rcases Kn.bl_total a b with g | g | g
  · rw [lt, g] at h; cases h
  · exact absurd g n
  · exact g
def look (l : Dir) (s : Str) : Option Nat := (l.find? fun y => y.1 == s).map (·.2)
def wo (l : Dir) (s : Str) : Dir := l.filter fun y => y.1 != s
def wi (l : Dir) (x : Str × Nat) : Dir := (wo l x.1).takeWhile (fun y => lt y.1 x.1) ++ x :: (wo l x.1).dropWhile (fun y => lt y.1 x.1)
def Asc (l : Dir) : Prop := l.Pairwise fun x y => lt x.1 y.1 = true
theorem mem_wo {l : Dir} {s : Str} {y : Str × Nat} : y ∈ wo l s ↔ y ∈ l ∧ y.1 ≠ s := by
  unfold wo
  rw [List.mem_filter]
  simp
theorem mem_split (p : (Str × Nat) → Bool) (l : Dir) (y : Str × Nat) : y ∈ l ↔ y ∈ l.takeWhile p ∨ y ∈ l.dropWhile p := by
  conv => lhs; rw [← List.takeWhile_append_dropWhile (p := p) (l := l)]
  rw [List.mem_append]
theorem mem_wi {l : Dir} {x y : Str × Nat} : y ∈ wi l x ↔ y = x ∨ (y ∈ l ∧ y.1 ≠ x.1) := by
  unfold wi
  rw [List.mem_append, List.mem_cons, ← mem_wo, mem_split (fun y => lt y.1 x.1) (wo l x.1) y]
  constructor
  · rintro (h | h | h)
    · exact .inr (.inl h)
    · exact .inl h
    · exact .inr (.inr h)
  · rintro (h | h | h)
    · exact .inr (.inl h)
    · exact .inl h
    · exact .inr (.inr h)
theorem asc_wo {l : Dir} (h : Asc l) (s : Str) : Asc (wo l s) := List.Pairwise.filter _ h
theorem asc_drop {l : Dir} (h : Asc l) (x : Str) (hx : ∀ y ∈ l, y.1 ≠ x) : ∀ y ∈ l.dropWhile (fun y => lt y.1 x), lt x y.1 = true := by
  induction l with
  | nil => simp
  | cons a l ih =>
    rw [Asc, List.pairwise_cons] at h
    by_cases hl : lt a.1 x = true
    · rw [List.dropWhile_cons_of_pos (p := fun y : Str × Nat => lt y.1 x) hl]
      exact ih h.2 fun y hy => hx y (List.mem_cons_of_mem _ hy)
    · rw [List.dropWhile_cons_of_neg (p := fun y : Str × Nat => lt y.1 x) hl]
      have ha := lt_total (by simpa using hl) (hx a List.mem_cons_self)
      intro y hy
      rcases List.mem_cons.1 hy with rfl | hy
      · exact ha
      · exact lt_trans ha (h.1 y hy)
theorem take_lt (p : (Str × Nat) → Bool) (l : Dir) : ∀ y ∈ l.takeWhile p, p y = true := by
  induction l with
  | nil => simp
  | cons a l ih =>
    by_cases ha : p a = true
    · rw [List.takeWhile_cons_of_pos ha]
      intro y hy
      rcases List.mem_cons.1 hy with rfl | hy
      · exact ha
      · exact ih y hy
    · rw [List.takeWhile_cons_of_neg ha]
      simp
theorem asc_wi {l : Dir} (h : Asc l) (x : Str × Nat) : Asc (wi l x) := by
  have hw := asc_wo h x.1
  have hd := asc_drop hw x.1 fun y hy => (mem_wo.1 hy).2
  have ht := take_lt (fun y => lt y.1 x.1) (wo l x.1)
  unfold wi Asc
  rw [List.pairwise_append]
  refine ⟨hw.sublist (List.takeWhile_sublist _), ?_, ?_⟩
  · rw [List.pairwise_cons]
    exact ⟨hd, hw.sublist (List.dropWhile_sublist _)⟩
  · intro a ha b hb
    have h1 := ht a ha
    rcases List.mem_cons.1 hb with rfl | hb
    · exact h1
    · exact lt_trans h1 (hd b hb)
theorem asc_inj {l : Dir} (h : Asc l) {x y : Str × Nat} (hx : x ∈ l) (hy : y ∈ l) (e : x.1 = y.1) : x = y := by
  induction l with
  | nil => cases hx
  | cons a l ih =>
    rw [Asc, List.pairwise_cons] at h
    rcases List.mem_cons.1 hx with gx | gx <;> rcases List.mem_cons.1 hy with gy | gy
    · rw [gx, gy]
    · exact absurd e (by rw [gx]; exact lt_ne (h.1 y gy))
    · exact absurd e.symm (by rw [gy]; exact lt_ne (h.1 x gx))
    · exact ih h.2 gx gy
theorem look_some {l : Dir} (h : Asc l) {s : Str} {f : Nat} : look l s = some f ↔ (s, f) ∈ l := by
  unfold look
  constructor
  · intro e
    cases hf : l.find? fun y => y.1 == s with
    | none => rw [hf] at e; cases e
    | some y =>
      rw [hf] at e
      have h1 := List.mem_of_find?_eq_some hf
      have h2 := List.find?_some hf
      simp only [beq_iff_eq] at h2
      simp only [Option.map_some, Option.some.injEq] at e
      rw [← h2, ← e]
      exact h1
  · intro hm
    cases hf : l.find? fun y => y.1 == s with
    | none =>
      have := List.find?_eq_none.1 hf _ hm
      simp at this
    | some y =>
      have h1 := List.mem_of_find?_eq_some hf
      have h2 := List.find?_some hf
      simp only [beq_iff_eq] at h2
      rw [asc_inj h h1 hm h2]
      rfl
theorem look_none {l : Dir} {s : Str} : look l s = none ↔ ∀ y ∈ l, y.1 ≠ s := by
  unfold look
  rw [Option.map_eq_none_iff, List.find?_eq_none]
  simp
theorem look_wo {l : Dir} (s t : Str) : look (wo l s) t = if t = s then none else look l t := by
  by_cases h : t = s
  · rw [if_pos h, look_none]
    intro y hy
    rw [h]
    exact (mem_wo.1 hy).2
  · rw [if_neg h]
    unfold look wo
    rw [List.find?_filter]
    congr 1
    congr 1
    funext y
    by_cases hy : y.1 = t
    · simp [hy, h]
    · simp [hy]
theorem look_wi {l : Dir} (h : Asc l) (x : Str × Nat) (t : Str) : look (wi l x) t = if t = x.1 then some x.2 else look l t := by
  have ha := asc_wi h x
  by_cases e : t = x.1
  · rw [if_pos e, look_some ha, e]
    exact mem_wi.2 (.inl rfl)
  · rw [if_neg e]
    cases hl : look l t with
    | none =>
      rw [look_none] at hl ⊢
      intro y hy
      rcases mem_wi.1 hy with rfl | ⟨hy, _⟩
      · exact fun e' => e e'.symm
      · exact hl y hy
    | some f =>
      rw [look_some h] at hl
      rw [look_some ha]
      exact mem_wi.2 (.inr ⟨hl, e⟩)
theorem len_wo (l : Dir) (s : Str) : (wo l s).length ≤ l.length := List.length_filter_le _ _
theorem len_wi (l : Dir) (x : Str × Nat) : (wi l x).length ≤ l.length + 1 := by
  have := len_wo l x.1
  have e : ((wo l x.1).takeWhile (fun y => lt y.1 x.1)).length + ((wo l x.1).dropWhile (fun y => lt y.1 x.1)).length = (wo l x.1).length := by
    rw [← List.length_append, List.takeWhile_append_dropWhile]
  unfold wi
  rw [List.length_append, List.length_cons]
  omega
/-- A directory with a change made. -/
def apply (l : Dir) (c : Ch) : Dir :=
  if c.b ≠ [] then (match look l c.a with | none => l | some f => wi (wo l c.a) (c.b, f))
  else if c.f < 0 then wo l c.a else wi l (c.a, c.f.toNat)
/-- This change may be made. -/
def Ok (n : Nat) (l : Dir) (c : Ch) : Prop :=
  if c.b ≠ [] then ∃ f, look l c.a = some f ∧ c.a ≠ c.b
  else if c.f < 0 then ∃ f, look l c.a = some f else look l c.a = none ∧ c.f.toNat < n ∧ ∀ y ∈ l, y.2 ≠ c.f.toNat
/-- A directory of n files. -/
structure Well (n : Nat) (l : Dir) : Prop where
  asc : Asc l
  one : (l.map (·.2)).Nodup
  lim : ∀ y ∈ l, y.2 < n
theorem Well.mono {n m : Nat} {l : Dir} (h : Well n l) (hm : n ≤ m) : Well m l := ⟨h.asc, h.one, fun y hy => Nat.lt_of_lt_of_le (h.lim y hy) hm⟩
theorem Well.nil (n : Nat) : Well n [] := ⟨List.Pairwise.nil, List.nodup_nil, by simp⟩
theorem Well.wo {n : Nat} {l : Dir} (h : Well n l) (s : Str) : Well n (wo l s) :=
  ⟨asc_wo h.asc s, h.one.sublist ((List.filter_sublist (p := fun y : Str × Nat => y.1 != s) (l := l)).map _), fun y hy => h.lim y (mem_wo.1 hy).1⟩
theorem perm_wi (l : Dir) (x : Str × Nat) : (wi l x).Perm (x :: Dk.wo l x.1) := by
  have h : (wi l x).Perm (x :: ((Dk.wo l x.1).takeWhile (fun y => lt y.1 x.1) ++ (Dk.wo l x.1).dropWhile (fun y => lt y.1 x.1))) := List.perm_middle
  rwa [List.takeWhile_append_dropWhile] at h
theorem Well.wi {n : Nat} {l : Dir} (h : Well n l) (x : Str × Nat) (hx : x.2 < n) (hf : ∀ y ∈ Dk.wo l x.1, y.2 ≠ x.2) : Well n (wi l x) := by
  refine ⟨asc_wi h.asc x, ?_, fun y hy => ?_⟩
  · have hp := (perm_wi l x).map (fun y : Str × Nat => y.2)
    rw [hp.nodup_iff, List.map_cons, List.nodup_cons]
    refine ⟨fun hm => ?_, (h.wo x.1).one⟩
    obtain ⟨y, hy, e⟩ := List.mem_map.1 hm
    exact hf y hy e
  · rcases mem_wi.1 hy with rfl | ⟨hy, _⟩
    · exact hx
    · exact h.lim y hy
theorem Well.inj {n : Nat} {l : Dir} (h : Well n l) {x y : Str × Nat} (hx : x ∈ l) (hy : y ∈ l) (e : x.2 = y.2) : x = y := by
  have h1 := h.one
  induction l with
  | nil => cases hx
  | cons a l ih =>
    rw [List.map_cons, List.nodup_cons] at h1
    have ha := h.asc
    rw [Asc, List.pairwise_cons] at ha
    rcases List.mem_cons.1 hx with gx | gx <;> rcases List.mem_cons.1 hy with gy | gy
    · rw [gx, gy]
    · exact absurd (List.mem_map.2 ⟨y, gy, by rw [← gx]; exact e.symm⟩) h1.1
    · exact absurd (List.mem_map.2 ⟨x, gx, by rw [← gy]; exact e⟩) h1.1
    · exact ih ⟨ha.2, h1.2, fun y hy => h.lim y (List.mem_cons_of_mem _ hy)⟩ gx gy h1.2
theorem Well.apply {n : Nat} {l : Dir} (h : Well n l) {c : Ch} (hc : Ok n l c) : Well n (apply l c) := by
  unfold Ok at hc
  unfold Dk.apply
  by_cases hb : c.b ≠ []
  · rw [if_pos hb] at hc ⊢
    obtain ⟨f, hf, hne⟩ := hc
    rw [hf]
    have hm := (look_some h.asc).1 hf
    refine (h.wo c.a).wi (c.b, f) (h.lim (c.a, f) hm) fun y hy e => ?_
    have h1 := mem_wo.1 hy
    have h2 := mem_wo.1 h1.1
    exact h2.2 (congrArg Prod.fst (h.inj h2.1 hm e))
  · rw [if_neg hb] at hc ⊢
    by_cases hf : c.f < 0
    · rw [if_pos hf]; exact h.wo _
    · rw [if_neg hf] at hc ⊢
      exact h.wi _ hc.2.1 fun y hy => hc.2.2 y (mem_wo.1 hy).1
theorem len_apply (l : Dir) (c : Ch) : (apply l c).length ≤ l.length + 1 := by
  unfold apply
  split
  · split
    · omega
    · next f _ =>
      have := len_wo l c.a
      have := len_wi (wo l c.a) (c.b, f)
      omega
  · split
    · have := len_wo l c.a; omega
    · exact len_wi _ _
/-- From l by these changes to d. -/
def Chain (n : Nat) : Dir → List Ch → Dir → Prop
  | l, [], d => l = d
  | l, c :: cs, d => Ok n l c ∧ Chain n (apply l c) cs d
def fold (l : Dir) (cs : List Ch) : Dir := cs.foldl apply l
theorem Chain.fold {n : Nat} : ∀ {l : Dir} {cs : List Ch} {d : Dir}, Chain n l cs d → d = Dk.fold l cs
  | _, [], _, h => h.symm
  | _, _ :: _, _, h => by
    have := Chain.fold h.2
    exact this
theorem Ok.mono {n m : Nat} {l : Dir} {c : Ch} (h : Ok n l c) (hm : n ≤ m) : Ok m l c := by
  unfold Ok at h ⊢
  split
  · next hb => rwa [if_pos hb] at h
  · next hb =>
    rw [if_neg hb] at h
    split
    · next hf => rwa [if_pos hf] at h
    · next hf => rw [if_neg hf] at h; exact ⟨h.1, by omega, h.2.2⟩
theorem Chain.mono {n m : Nat} (hm : n ≤ m) : ∀ {l : Dir} {cs : List Ch} {d : Dir}, Chain n l cs d → Chain m l cs d
  | _, [], _, h => h
  | _, _ :: _, _, h => ⟨h.1.mono hm, Chain.mono hm h.2⟩
theorem Chain.snoc {n : Nat} {c : Ch} : ∀ {l : Dir} {cs : List Ch} {d : Dir}, Chain n l cs d → Ok n d c → Chain n l (cs ++ [c]) (apply d c)
  | _, [], _, h, hc => by
    cases h
    exact ⟨hc, rfl⟩
  | _, _ :: _, _, h, hc => ⟨h.1, Chain.snoc h.2 hc⟩
theorem Chain.take {n : Nat} : ∀ {l : Dir} {cs : List Ch} {d : Dir} (k : Nat), Chain n l cs d → Chain n l (cs.take k) (Dk.fold l (cs.take k))
  | _, [], _, k, h => by rw [List.take_nil]; rfl
  | _, _ :: _, _, 0, h => rfl
  | _, c :: cs, _, k + 1, h => ⟨h.1, Chain.take k h.2⟩
theorem Chain.well {n : Nat} : ∀ {l : Dir} {cs : List Ch} {d : Dir}, Well n l → Chain n l cs d → Well n d
  | _, [], _, hw, h => by cases h; exact hw
  | _, _ :: _, _, hw, h => Chain.well (hw.apply h.1) h.2
theorem len_fold : ∀ (cs : List Ch) (l : Dir), (fold l cs).length ≤ l.length + cs.length
  | [], l => by simp [fold]
  | c :: cs, l => by
    have h1 := len_fold cs (apply l c)
    have h2 := len_apply l c
    rw [List.length_cons]
    have : fold l (c :: cs) = fold (apply l c) cs := rfl
    rw [this]
    omega
/-- What is always so of a disk. -/
structure Inv (d : D) : Prop where
  chain : Chain d.files.length d.sure d.chg d.dir
  well : Well d.files.length d.sure
  part : ∀ x ∈ d.files, x.2 ≤ x.1.length
theorem Inv.dir {d : D} (h : Inv d) : Well d.files.length d.dir := h.chain.well h.well
def size (fs : List (Str × Nat)) : Nat := (fs.map fun x => x.1.length).sum
/-- So great at most. -/
structure Sz (n : Nat) (d : D) : Prop where
  files : d.files.length ≤ n
  dirs : d.sure.length + d.chg.length ≤ n
  bytes : size d.files ≤ n * 1048576
  calls : d.calls ≤ n
theorem Sz.dir {n : Nat} {d : D} (h : Sz n d) (hi : Inv d) : d.dir.length ≤ n := by
  have := len_fold d.chg d.sure
  rw [← hi.chain.fold] at this
  have := h.dirs
  omega
theorem Sz.mono {n m : Nat} {d : D} (h : Sz n d) (hm : n ≤ m) : Sz m d :=
  ⟨Nat.le_trans h.files hm, Nat.le_trans h.dirs hm, Nat.le_trans h.bytes (Nat.mul_le_mul_right _ hm), Nat.le_trans h.calls hm⟩
end Go.Proofs.YtfjhffldhpcdmaaDoor.Dk
