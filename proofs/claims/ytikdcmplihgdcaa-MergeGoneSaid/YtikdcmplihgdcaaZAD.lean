import Derived.Test.YtikdcmplihgdcaaZAA
import Derived.Test.YtikdcmplihgdcaaZAC
import Derived.Test.YtikdcmplihgdcaaZAB
import Derived.RegionCalls
import Derived.Deep.RegionWith
namespace Go.Proofs.Ytikdcmplihgdcaa
open Go.RowKit
open Ty (num txt encU U64 I64)
open Ig (rest sg encI read_encI splitI)
open Tx (encT restT read_encT splitT)
structure Dd.D where
 gone : Bool
 row : List Kn.V
def Dd.flag (b : Bool) : UInt8 := if b = true then 1 else 0
def Dd.encP (c : Kn.C) (v : Kn.V) : List UInt8 := if c.k = 1 then Ig.encI v.n else encT v.s.data.toList
def Dd.encV (c : Kn.C) (v : Kn.V) : List UInt8 := (if c.null = true then [Dd.flag v.null] else []) ++ (if v.null = true then [] else Dd.encP c v)
def Dd.encR : List Kn.C → List Kn.V → List UInt8
 | c :: cs, v :: vs => Dd.encV c v ++ Dd.encR cs vs
 | _, _ => []
def Dd.enc (s : List Kn.C) (d : Dd.D) : List UInt8 := Dd.flag d.gone :: Dd.encR s d.row
def Dd.cols (s : List Kn.C) (g : Bool) : List Kn.C := if g = true then s.take 1 else s
def Dd.fitE (s : List Kn.C) (d : Dd.D) : Int :=
 if d.gone = true then (if Kn.right s = true then (match d.row with | [k] => Kn.keyE s k | _ => 7) else 4) else Kn.fitsE s d.row
def Dd.rdF : List UInt8 → Nat × Bool × List UInt8
 | [] => (2, false, [])
 | b :: r => if 1 < b.toNat then (4, false, r) else (0, b == 1, r)
def Dd.rdP (c : Kn.C) (l : List UInt8) : Nat × Kn.V × List UInt8 :=
 if c.k = 1 then ((num l).2.2, Cl.ofN (sg l), rest l) else ((txt l 64).2.2, Cl.ofS (txt l 64).1, restT l)
def Dd.rdV (c : Kn.C) (l : List UInt8) : Nat × Kn.V × List UInt8 :=
 if c.null = true then (if (Dd.rdF l).1 ≠ 0 then ((Dd.rdF l).1, Cl.ofN 0, (Dd.rdF l).2.2) else if (Dd.rdF l).2.1 = true then (0, Cl.nul, (Dd.rdF l).2.2) else Dd.rdP c (Dd.rdF l).2.2) else Dd.rdP c l
def Dd.rdR : List Kn.C → List UInt8 → Nat × List Kn.V × List UInt8
 | [], l => (0, [], l)
 | c :: cs, l => if (Dd.rdV c l).1 ≠ 0 then ((Dd.rdV c l).1, [], []) else ((Dd.rdR cs (Dd.rdV c l).2.2).1, (Dd.rdV c l).2.1 :: (Dd.rdR cs (Dd.rdV c l).2.2).2.1, (Dd.rdR cs (Dd.rdV c l).2.2).2.2)
def Dd.rd (s : List Kn.C) (l : List UInt8) : Nat × Dd.D :=
 if Kn.right s = false then (4, ⟨false, []⟩)
 else if (Dd.rdF l).1 ≠ 0 then ((Dd.rdF l).1, ⟨false, []⟩)
 else if (Dd.rdR (Dd.cols s (Dd.rdF l).2.1) (Dd.rdF l).2.2).1 ≠ 0 then ((Dd.rdR (Dd.cols s (Dd.rdF l).2.1) (Dd.rdF l).2.2).1, ⟨false, []⟩)
 else if (Dd.rdR (Dd.cols s (Dd.rdF l).2.1) (Dd.rdF l).2.2).2.2 ≠ [] then (5, ⟨false, []⟩)
 else (0, ⟨(Dd.rdF l).2.1, (Dd.rdR (Dd.cols s (Dd.rdF l).2.1) (Dd.rdF l).2.2).2.1⟩)
theorem Dd.toList_nil {s : ByteArray} (h : (s.toList == (⟨#[]⟩ : ByteArray).toList) = true) : s = ⟨#[]⟩ := by
 rw [beq_iff_eq, ByteArray.toList_eq, ByteArray.toList_eq] at h
 have h2 : s.data.toList = [] := h
 apply ByteArray.ext
 exact Array.toList_inj.1 (by rw [h2])
theorem Dd.rdF_flag (b : Bool) (r : List UInt8) : Dd.rdF (Dd.flag b :: r) = (0, b, r) := by
 cases b <;> simp [Dd.rdF, Dd.flag]
theorem Dd.rdF_only {l : List UInt8} (h : (Dd.rdF l).1 = 0) : l = Dd.flag (Dd.rdF l).2.1 :: (Dd.rdF l).2.2 := by
 cases l with
 | nil => cases h
 | cons b r =>
   simp only [Dd.rdF] at h ⊢
   by_cases h1 : 1 < b.toNat
   ·rw [if_pos h1] at h; cases h
   ·rw [if_neg h1]
    simp only [Dd.flag]
    congr 1
    by_cases e : b = 1
    ·rw [e]; rfl
    ·have e0 : b = 0 := by
      apply UInt8.toNat_inj.1
      have : b.toNat ≠ 1 := fun h => e (UInt8.toNat_inj.1 h)
      show b.toNat = 0
      omega
     rw [e0]; rfl
theorem Dd.fits_null {c : Kn.C} {v : Kn.V} (h : Kn.fits c v = true) (hv : v.null = true) : v = Cl.nul ∧ c.null = true := by
 unfold Kn.fits at h
 rw [if_pos hv] at h
 simp only [Bool.and_eq_true] at h
 obtain ⟨vn, vi, vs⟩ := v
 simp only at hv h
 rw [hv, Dd.toList_nil h.2, show vi = 0 by simpa using h.1.2]
 exact ⟨rfl, h.1.1⟩
theorem Dd.fits_num {c : Kn.C} {v : Kn.V} (hk : c.k = 1) (h : Kn.fits c v = true) (hv : v.null = false) : v = Cl.ofN v.n := by
 unfold Kn.fits at h
 rw [hv, if_neg (by decide), if_pos hk] at h
 obtain ⟨vn, vi, vs⟩ := v
 simp only at hv h
 rw [hv, Dd.toList_nil h]
 rfl
theorem Dd.fits_str {c : Kn.C} {v : Kn.V} (hk : c.k ≠ 1) (h : Kn.fits c v = true) (hv : v.null = false) : v = Cl.ofS v.s.data.toList ∧ v.s.data.toList.length ≤ 64 := by
 unfold Kn.fits at h
 rw [hv, if_neg (by decide), if_neg hk] at h
 simp only [Bool.and_eq_true, decide_eq_true_iff] at h
 obtain ⟨vn, vi, vs⟩ := v
 simp only at hv h ⊢
 rw [hv, show vi = 0 by simpa using h.1]
 exact ⟨rfl, by rw [Ty.length_data]; exact h.2⟩
theorem Dd.fits_nul {c : Kn.C} (h : c.null = true) : Kn.fits c Cl.nul = true := by simp [Kn.fits, Cl.nul, h]
theorem Dd.fits_ofN {c : Kn.C} (hk : c.k = 1) (x : Int) : Kn.fits c (Cl.ofN x) = true := by simp [Kn.fits, Cl.ofN, hk]
theorem Dd.fits_ofS {c : Kn.C} (hk : c.k ≠ 1) {t : List UInt8} (h : t.length ≤ 64) : Kn.fits c (Cl.ofS t) = true := by
 have : (Ty.S t).size ≤ 64 := h
 simp [Kn.fits, Cl.ofS, hk, this]
theorem Dd.rdP_back {c : Kn.C} {v : Kn.V} (h : Kn.fits c v = true) (hv : v.null = false) (hi : I64 v.n) (r : List UInt8) : Dd.rdP c (Dd.encP c v ++ r) = (0, v, r) := by
 unfold Dd.rdP Dd.encP
 by_cases hk : c.k = 1
 ·obtain ⟨h1, h2, h3⟩ := read_encI v.n hi r
  rw [if_pos hk, if_pos hk, h1, h2, h3, ← Dd.fits_num hk h hv]
 ·obtain ⟨e, hl⟩ := Dd.fits_str hk h hv
  obtain ⟨h1, h2, h3⟩ := read_encT v.s.data.toList hl r
  rw [if_neg hk, if_neg hk, h1, h2, h3, ← e]
theorem Dd.rdV_back {c : Kn.C} {v : Kn.V} (h : Kn.fits c v = true) (hi : I64 v.n) (r : List UInt8) : Dd.rdV c (Dd.encV c v ++ r) = (0, v, r) := by
 unfold Dd.rdV Dd.encV
 cases hn : v.null
 ·simp only [Bool.false_eq_true, if_false]
  by_cases hc : c.null = true
  ·rw [if_pos hc, if_pos hc, List.append_assoc, List.singleton_append, Dd.rdF_flag]
   simp only [ne_eq, not_true_eq_false, if_false, Bool.false_eq_true]
   exact Dd.rdP_back h hn hi r
  ·rw [if_neg hc, if_neg hc, List.nil_append]
   exact Dd.rdP_back h hn hi r
 ·obtain ⟨e, hc⟩ := Dd.fits_null h hn
  simp only [if_true]
  rw [if_pos hc, if_pos hc, List.append_nil, List.singleton_append, Dd.rdF_flag]
  simp only [ne_eq, not_true_eq_false, if_false, if_true]
  rw [e]
theorem Dd.rdP_only {c : Kn.C} {l : List UInt8} (h : (Dd.rdP c l).1 = 0) : l = Dd.encP c (Dd.rdP c l).2.1 ++ (Dd.rdP c l).2.2 ∧ Kn.fits c (Dd.rdP c l).2.1 = true ∧ (Dd.rdP c l).2.1.null = false ∧ I64 (Dd.rdP c l).2.1.n := by
 by_cases hk : c.k = 1
 ·have e : Dd.rdP c l = ((num l).2.2, Cl.ofN (sg l), rest l) := by unfold Dd.rdP; rw [if_pos hk]
  rw [e] at h ⊢
  refine ⟨?_, Dd.fits_ofN hk _, rfl, Ig.sg_i64 l⟩
  unfold Dd.encP
  rw [if_pos hk]
  exact splitI h
 ·have e : Dd.rdP c l = ((txt l 64).2.2, Cl.ofS (txt l 64).1, restT l) := by unfold Dd.rdP; rw [if_neg hk]
  rw [e] at h ⊢
  obtain ⟨h1, h2⟩ := splitT h
  refine ⟨?_, Dd.fits_ofS hk h2, rfl, ⟨by show _ ≤ (0 : Int); omega, by show (0 : Int) ≤ _; omega⟩⟩
  unfold Dd.encP
  rw [if_neg hk]
  show l = encT (Ty.S (txt l 64).1).data.toList ++ restT l
  rw [Ty.data_S]
  exact h1
theorem Dd.rdV_only {c : Kn.C} {l : List UInt8} (h : (Dd.rdV c l).1 = 0) : l = Dd.encV c (Dd.rdV c l).2.1 ++ (Dd.rdV c l).2.2 ∧ Kn.fits c (Dd.rdV c l).2.1 = true ∧ I64 (Dd.rdV c l).2.1.n := by
 unfold Dd.rdV at h ⊢
 by_cases hc : c.null = true
 ·rw [if_pos hc] at h ⊢
  by_cases h1 : (Dd.rdF l).1 ≠ 0
  ·rw [if_pos h1] at h; exact absurd h h1
  ·rw [if_neg h1] at h ⊢
   have hl := Dd.rdF_only (by simpa using h1)
   cases hb : (Dd.rdF l).2.1
   ·rw [hb] at h hl
    rw [if_neg (by decide)] at h ⊢
    obtain ⟨e1, e2, e3, e4⟩ := Dd.rdP_only h
    refine ⟨?_, e2, e4⟩
    unfold Dd.encV
    rw [if_pos hc, e3, if_neg (by decide), List.append_assoc, List.singleton_append, ← e1]
    exact hl
   ·rw [hb] at hl
    rw [if_pos rfl]
    refine ⟨?_, Dd.fits_nul hc, ⟨by show _ ≤ (0 : Int); omega, by show (0 : Int) ≤ _; omega⟩⟩
    show l = Dd.encV c Cl.nul ++ (Dd.rdF l).2.2
    unfold Dd.encV
    rw [if_pos hc, show Cl.nul.null = true from rfl, if_pos rfl, List.append_nil, List.singleton_append]
    exact hl
 ·rw [if_neg hc] at h ⊢
  obtain ⟨e1, e2, e3, e4⟩ := Dd.rdP_only h
  refine ⟨?_, e2, e4⟩
  unfold Dd.encV
  rw [if_neg hc, e3, if_neg (by decide), List.nil_append]
  exact e1
theorem Dd.rdR_back : ∀ (s : List Kn.C) (vs : List Kn.V), vs.length = s.length → Kn.fitsAll s vs = true → (∀ v ∈ vs, I64 v.n) → ∀ r, Dd.rdR s (Dd.encR s vs ++ r) = (0, vs, r)
 | [], [], _, _, _, r => rfl
 | [], _ :: _, h, _, _, _ => by simp at h
 | _ :: _, [], h, _, _, _ => by simp at h
 | c :: cs, v :: vs, hl, hf, hi, r => by
   simp only [Kn.fitsAll, Bool.and_eq_true] at hf
   have e := Dd.rdV_back hf.1 (hi v (by simp)) (Dd.encR cs vs ++ r)
   have ih := Dd.rdR_back cs vs (by simpa using hl) hf.2 (fun x hx => hi x (by simp [hx])) r
   simp only [Dd.encR, List.append_assoc, Dd.rdR, e, ih, ne_eq, not_true_eq_false, if_false]
theorem Dd.rdR_only : ∀ (s : List Kn.C) (l : List UInt8), (Dd.rdR s l).1 = 0 → l = Dd.encR s (Dd.rdR s l).2.1 ++ (Dd.rdR s l).2.2 ∧ (Dd.rdR s l).2.1.length = s.length ∧ Kn.fitsAll s (Dd.rdR s l).2.1 = true ∧ ∀ v ∈ (Dd.rdR s l).2.1, I64 v.n
 | [], l, _ => ⟨rfl, rfl, rfl, fun v hv => by cases hv⟩
 | c :: cs, l, h => by
   simp only [Dd.rdR] at h ⊢
   by_cases h1 : (Dd.rdV c l).1 ≠ 0
   ·rw [if_pos h1] at h; exact absurd h h1
   ·rw [if_neg h1] at h ⊢
    obtain ⟨a1, a2, a3⟩ := Dd.rdV_only (c := c) (l := l) (by simpa using h1)
    obtain ⟨b1, b2, b3, b4⟩ := Dd.rdR_only cs (Dd.rdV c l).2.2 h
    refine ⟨?_, by simp [b2], by simp [Kn.fitsAll, a2, b3], fun v hv => ?_⟩
    ·simp only [Dd.encR, List.append_assoc]
     rw [← b1]
     exact a1
    ·rcases List.mem_cons.1 hv with rfl | hv
     ·exact a3
     ·exact b4 v hv
theorem Dd.fitE_0 {s : List Kn.C} {d : Dd.D} (h : Dd.fitE s d = 0) : Kn.right s = true ∧ d.row.length = (Dd.cols s d.gone).length ∧ Kn.fitsAll (Dd.cols s d.gone) d.row = true := by
 unfold Dd.fitE at h
 unfold Dd.cols
 cases hg : d.gone
 ·rw [hg, if_neg (by decide)] at h
  rw [if_neg (by decide)]
  unfold Kn.fitsE at h
  by_cases h1 : Kn.right s = true
  ·rw [if_pos h1] at h
   by_cases h2 : d.row.length = s.length
   ·rw [if_pos h2] at h
    by_cases h3 : Kn.fitsAll s d.row = true
    ·exact ⟨h1, h2, h3⟩
    ·rw [if_neg h3] at h; cases h
   ·rw [if_neg h2] at h; cases h
  ·rw [if_neg h1] at h; cases h
 ·rw [hg, if_pos rfl] at h
  rw [if_pos rfl]
  by_cases h1 : Kn.right s = true
  ·rw [if_pos h1] at h
   have hl := Kn.right_len h1
   obtain ⟨g, row⟩ := d
   simp only at h ⊢
   match row, s, h, hl with
   | [k], c :: cs, h, _ =>
     simp only at h
     unfold Kn.keyE at h
     rw [if_pos h1] at h
     simp only at h
     by_cases h3 : Kn.fits c k = true
     ·exact ⟨h1, rfl, by simp [Kn.fitsAll, h3]⟩
     ·rw [if_neg h3] at h; cases h
   | [], _, h, _ => cases h
   | _ :: _ :: _, _, h, _ => cases h
   | [_], [], _, hl => simp at hl
  ·rw [if_neg h1] at h; cases h
theorem Dd.fitE_of {s : List Kn.C} {d : Dd.D} (h1 : Kn.right s = true) (h2 : d.row.length = (Dd.cols s d.gone).length) (h3 : Kn.fitsAll (Dd.cols s d.gone) d.row = true) : Dd.fitE s d = 0 := by
 unfold Dd.fitE
 unfold Dd.cols at h2 h3
 obtain ⟨g, row⟩ := d
 cases g
 ·simp only [Bool.false_eq_true, if_false] at h2 h3 ⊢
  unfold Kn.fitsE
  rw [if_pos h1, if_pos h2, if_pos h3]
 ·have hl := Kn.right_len h1
  simp only [if_true] at h2 h3 ⊢
  rw [if_pos h1]
  match s, row, h1, h2, h3, hl with
  | c :: cs, [k], h1, _, h3, _ =>
    simp only [Kn.fitsAll, List.take_succ_cons, List.take_zero, Bool.and_true] at h3
    show Kn.keyE (c :: cs) k = 0
    unfold Kn.keyE
    rw [if_pos h1]
    simp only
    rw [if_pos h3]
  | [], _, _, _, _, hl => simp at hl
  | c :: cs, [], _, h2, _, _ => simp at h2
  | c :: cs, _ :: _ :: _, _, h2, _, _ => simp at h2
theorem Dd.encR_cols {s : List Kn.C} {g : Bool} {row : List Kn.V} (h : row.length = (Dd.cols s g).length) : Dd.encR s row = Dd.encR (Dd.cols s g) row := by
 unfold Dd.cols at h ⊢
 cases g
 ·rfl
 ·rw [if_pos rfl] at h ⊢
  match s, row, h with
  | [], _, _ => rfl
  | c :: cs, [], h => simp at h
  | c :: cs, [v], _ => simp [Dd.encR]
  | c :: cs, _ :: _ :: _, h => simp at h
theorem Dd.rd_enc' {s : List Kn.C} {d : Dd.D} (h : Dd.fitE s d = 0) (hi : ∀ v ∈ d.row, I64 v.n) (r : List UInt8) : Dd.rd s (Dd.enc s d ++ r) = if r = [] then (0, d) else (5, ⟨false, []⟩) := by
 obtain ⟨h1, h2, h3⟩ := Dd.fitE_0 h
 have e := Dd.rdR_back (Dd.cols s d.gone) d.row h2 h3 hi r
 have ef : Dd.rdF (Dd.enc s d ++ r) = (0, d.gone, Dd.encR (Dd.cols s d.gone) d.row ++ r) := by
  unfold Dd.enc
  rw [List.cons_append, Dd.rdF_flag, Dd.encR_cols h2]
 unfold Dd.rd
 rw [ef]
 simp only [e, h1, ne_eq, not_true_eq_false, if_false, Bool.true_eq_false]
 by_cases hr : r = []
 ·rw [if_pos hr, if_neg (by simp [hr])]
 ·rw [if_neg hr, if_pos hr]
theorem Dd.enc_rd {s : List Kn.C} {l : List UInt8} (h : (Dd.rd s l).1 = 0) : Dd.fitE s (Dd.rd s l).2 = 0 ∧ Dd.enc s (Dd.rd s l).2 = l ∧ ∀ v ∈ (Dd.rd s l).2.row, I64 v.n := by
 unfold Dd.rd at h ⊢
 by_cases h1 : Kn.right s = false
 ·rw [if_pos h1] at h; cases h
 ·rw [if_neg h1] at h ⊢
  by_cases h2 : (Dd.rdF l).1 ≠ 0
  ·rw [if_pos h2] at h; exact absurd h h2
  ·rw [if_neg h2] at h ⊢
   by_cases h3 : (Dd.rdR (Dd.cols s (Dd.rdF l).2.1) (Dd.rdF l).2.2).1 ≠ 0
   ·rw [if_pos h3] at h; exact absurd h h3
   ·rw [if_neg h3] at h ⊢
    by_cases h4 : (Dd.rdR (Dd.cols s (Dd.rdF l).2.1) (Dd.rdF l).2.2).2.2 ≠ []
    ·rw [if_pos h4] at h; cases h
    ·rw [if_neg h4]
     obtain ⟨b1, b2, b3, b4⟩ := Dd.rdR_only _ _ (by simpa using h3 : (Dd.rdR (Dd.cols s (Dd.rdF l).2.1) (Dd.rdF l).2.2).1 = 0)
     have hl := Dd.rdF_only (by simpa using h2)
     have e4 : (Dd.rdR (Dd.cols s (Dd.rdF l).2.1) (Dd.rdF l).2.2).2.2 = [] := by simpa using h4
     rw [e4, List.append_nil] at b1
     refine ⟨Dd.fitE_of (by simpa using h1) b2 b3, ?_, b4⟩
     unfold Dd.enc
     rw [Dd.encR_cols b2, ← b1]
     exact hl.symm
theorem Dd.more {s : List Kn.C} {l : List UInt8} (h : (Dd.rd s l).1 = 0) (x : UInt8) : (Dd.rd s (l ++ [x])).1 = 5 := by
 obtain ⟨h1, h2, h3⟩ := Dd.enc_rd h
 have := Dd.rd_enc' h1 h3 [x]
 rw [h2, if_neg (by simp)] at this
 rw [this]
theorem Dd.encV_pos {c : Kn.C} {v : Kn.V} (h : Kn.fits c v = true) : Dd.encV c v ≠ [] := by
 unfold Dd.encV
 by_cases hc : c.null = true
 ·rw [if_pos hc]; simp
 ·rw [if_neg hc, List.nil_append]
  cases hn : v.null
  ·rw [if_neg (by decide)]
   unfold Dd.encP
   split
   ·intro e
    have : 0 < (Ig.encI v.n).length := by unfold Ig.encI; rw [Ty.encU_length]; omega
    rw [e] at this
    simp at this
   ·intro e
    have : 0 < (encT v.s.data.toList).length := by unfold encT; rw [List.length_append, Ty.encU_length]; omega
    rw [e] at this
    simp at this
  ·exact absurd (Dd.fits_null h hn).2 hc
theorem Dd.fitsAll_snoc : ∀ (s : List Kn.C) (c : Kn.C) (vs : List Kn.V) (v : Kn.V), vs.length = s.length → Kn.fitsAll (s ++ [c]) (vs ++ [v]) = (Kn.fitsAll s vs && Kn.fits c v)
 | [], c, [], v, _ => by simp [Kn.fitsAll]
 | [], _, _ :: _, _, h => by simp at h
 | _ :: _, _, [], _, h => by simp at h
 | a :: s, c, x :: vs, v, h => by
   simp only [List.cons_append, Kn.fitsAll]
   rw [Dd.fitsAll_snoc s c vs v (by simpa using h), Bool.and_assoc]
theorem Dd.encR_snoc : ∀ (s : List Kn.C) (c : Kn.C) (vs : List Kn.V) (v : Kn.V), vs.length = s.length → Dd.encR (s ++ [c]) (vs ++ [v]) = Dd.encR s vs ++ Dd.encV c v
 | [], c, [], v, _ => by simp [Dd.encR]
 | [], _, _ :: _, _, h => by simp at h
 | _ :: _, _, [], _, h => by simp at h
 | a :: s, c, x :: vs, v, h => by
   simp only [List.cons_append, Dd.encR]
   rw [Dd.encR_snoc s c vs v (by simpa using h), List.append_assoc]
theorem Dd.rdR_snoc : ∀ (s : List Kn.C) (c : Kn.C) (l : List UInt8), (Dd.rdR s l).1 = 0 → (Dd.rdR (s ++ [c]) l).1 = (Dd.rdV c (Dd.rdR s l).2.2).1
 | [], c, l, _ => by
   simp only [List.nil_append, Dd.rdR]
   by_cases h : (Dd.rdV c l).1 ≠ 0
   ·rw [if_pos h]
   ·rw [if_neg h]
    exact (by simpa using h : (Dd.rdV c l).1 = 0).symm
 | a :: s, c, l, h => by
   simp only [List.cons_append, Dd.rdR] at h ⊢
   by_cases h1 : (Dd.rdV a l).1 ≠ 0
   ·rw [if_pos h1] at h; exact absurd h h1
   ·rw [if_neg h1] at h ⊢
    rw [if_neg h1]
    exact Dd.rdR_snoc s c _ h
theorem Dd.cut {s : List Kn.C} {c : Kn.C} {vs : List Kn.V} (hs : Kn.right s = true) (h : Dd.fitE (s ++ [c]) ⟨false, vs⟩ = 0) (hi : ∀ v ∈ vs, I64 v.n) : (Dd.rd s (Dd.enc (s ++ [c]) ⟨false, vs⟩)).1 = 5 := by
 obtain ⟨h1, h2, h3⟩ := Dd.fitE_0 h
 have hl : vs.length = s.length + 1 := by simpa [Dd.cols] using h2
 have hne : vs ≠ [] := by intro e; rw [e] at hl; simp at hl
 have e := (List.dropLast_concat_getLast hne).symm
 have hdl : vs.dropLast.length = s.length := by rw [List.length_dropLast]; omega
 have h3' : Kn.fitsAll (s ++ [c]) (vs.dropLast ++ [vs.getLast hne]) = true := by rw [← e]; simpa [Dd.cols] using h3
 rw [Dd.fitsAll_snoc _ _ _ _ hdl, Bool.and_eq_true] at h3'
 have hf : Dd.fitE s ⟨false, vs.dropLast⟩ = 0 := Dd.fitE_of hs hdl h3'.1
 have := Dd.rd_enc' hf (fun v hv => hi v (List.dropLast_subset _ hv)) (Dd.encV c (vs.getLast hne))
 rw [if_neg (Dd.encV_pos h3'.2)] at this
 have e2 : Dd.enc (s ++ [c]) ⟨false, vs⟩ = Dd.enc s ⟨false, vs.dropLast⟩ ++ Dd.encV c (vs.getLast hne) := by
  show Dd.flag false :: Dd.encR (s ++ [c]) vs = Dd.flag false :: Dd.encR s vs.dropLast ++ _
  conv => lhs; rw [e]
  rw [Dd.encR_snoc _ _ _ _ hdl]
  rfl
 rw [e2, this]
theorem Dd.wide {s : List Kn.C} {vs : List Kn.V} (hs : Kn.right (s ++ [⟨1, false⟩]) = true) (h : Dd.fitE s ⟨false, vs⟩ = 0) (hi : ∀ v ∈ vs, I64 v.n) : (Dd.rd (s ++ [⟨1, false⟩]) (Dd.enc s ⟨false, vs⟩)).1 = 2 := by
 obtain ⟨h1, h2, h3⟩ := Dd.fitE_0 h
 have e := Dd.rdR_back s vs h2 h3 hi []
 rw [List.append_nil] at e
 have e2 := Dd.rdR_snoc s ⟨1, false⟩ (Dd.encR s vs) (by rw [e])
 rw [e] at e2
 have e3 : (Dd.rdV ⟨1, false⟩ []).1 = 2 := rfl
 simp only at e2
 rw [e3] at e2
 have ef : Dd.rdF (Dd.enc s ⟨false, vs⟩) = (0, false, Dd.encR s vs) := Dd.rdF_flag false _
 have ec : Dd.cols (s ++ [⟨1, false⟩]) false = s ++ [⟨1, false⟩] := rfl
 unfold Dd.rd
 rw [ef]
 simp only [hs, ne_eq, not_true_eq_false, if_false, Bool.true_eq_false, ec]
 rw [if_pos (by rw [e2]; decide), e2]
end Go.Proofs.Ytikdcmplihgdcaa
namespace Go.Proofs.Ytikdcmplihgdcaa
open Go Go.RowKit
section
variable {α : Type} (key : α → Kn.V)
def Sk.at_ (L : List α) (k : Kn.V) : Nat := (L.takeWhile fun x => decide (Kn.cmp (key x) k < 0)).length
def Sk.there (L : List α) (k : Kn.V) : Bool := match L[Sk.at_ key L k]? with | none => false | some x => !decide (Kn.cmp k (key x) < 0)
def Sk.put (L : List α) (x : α) : List α := L.take (Sk.at_ key L (key x)) ++ x :: L.drop (if Sk.there key L (key x) = true then Sk.at_ key L (key x) + 1 else Sk.at_ key L (key x))
def Sk.get (L : List α) (k : Kn.V) : Option α := if Sk.there key L k = true then L[Sk.at_ key L k]? else none
def Sk.from_ (L : List α) (k : Kn.V) : List α := L.drop (Sk.at_ key L k)
def Sk.Asc (L : List α) : Prop := L.Pairwise fun x y => Kn.cmp (key x) (key y) < 0
end
theorem Sk.cmp_self (a : Kn.V) : Kn.cmp a a = 0 := by have := (Kn.cmp_fair a a a).xa; omega
theorem Sk.cmp_anti (a b : Kn.V) : Kn.cmp b a = -Kn.cmp a b := (Kn.cmp_fair a b b).xa
theorem Sk.lt_trans {a b c : Kn.V} (h : Kn.cmp a b < 0) (g : Kn.cmp b c < 0) : Kn.cmp a c < 0 := by
 have f := Kn.cmp_fair a b c
 have h1 := f.le (by omega) (by omega)
 have h2 := f.lt (by omega) (by omega)
 by_cases e : Kn.cmp a c = 0
 ·have := h2 e; omega
 ·omega
theorem Sk.eq_left {a b c : Kn.V} (h : Kn.cmp a b = 0) : Kn.cmp a c = Kn.cmp b c := by
 have f := Kn.cmp_fair a b c
 have g := Kn.cmp_fair b a c
 have ha := Sk.cmp_anti a b
 have h1 := f.xr
 have h2 := f.yr
 have h3 := f.zr
 have h4 := f.le
 have h5 := f.lt
 have h6 := f.ge
 have h7 := f.gt
 have g4 := g.le
 have g5 := g.lt
 have g6 := g.ge
 have g7 := g.gt
 omega
theorem Sk.eq_right {a b c : Kn.V} (h : Kn.cmp b c = 0) : Kn.cmp a b = Kn.cmp a c := by
 have := Sk.eq_left (a := b) (b := c) (c := a) h
 have h1 := Sk.cmp_anti b a
 have h2 := Sk.cmp_anti c a
 omega
section
variable {α : Type} {key : α → Kn.V}
theorem Sk.at_le (L : List α) (k : Kn.V) : Sk.at_ key L k ≤ L.length := by
 unfold Sk.at_
 exact (List.takeWhile_prefix _).length_le
theorem Sk.at_nil (k : Kn.V) : Sk.at_ key [] k = 0 := rfl
theorem Sk.at_cons (x : α) (L : List α) (k : Kn.V) : Sk.at_ key (x :: L) k = if Kn.cmp (key x) k < 0 then Sk.at_ key L k + 1 else 0 := by
 unfold Sk.at_
 by_cases h : Kn.cmp (key x) k < 0
 ·rw [if_pos h, List.takeWhile_cons_of_pos (by simpa using h), List.length_cons]
 ·rw [if_neg h, List.takeWhile_cons_of_neg (by simpa using h), List.length_nil]
theorem Sk.at_lt {L : List α} {k : Kn.V} : ∀ {i : Nat} {x : α}, i < Sk.at_ key L k → L[i]? = some x → Kn.cmp (key x) k < 0 := by
 induction L with
 | nil => intro i x h; simp [Sk.at_nil] at h
 | cons y L ih =>
   intro i x h hx
   rw [Sk.at_cons] at h
   by_cases hy : Kn.cmp (key y) k < 0
   ·rw [if_pos hy] at h
    cases i with
    | zero => obtain rfl : y = x := by simpa using hx
              exact hy
    | succ i => exact ih (i := i) (by omega) (by simpa using hx)
   ·rw [if_neg hy] at h; omega
theorem Sk.at_ge {L : List α} {k : Kn.V} {x : α} (hx : L[Sk.at_ key L k]? = some x) : ¬ Kn.cmp (key x) k < 0 := by
 induction L with
 | nil => simp at hx
 | cons y L ih =>
   rw [Sk.at_cons] at hx
   by_cases hy : Kn.cmp (key y) k < 0
   ·rw [if_pos hy] at hx
    exact ih (by simpa using hx)
   ·rw [if_neg hy] at hx
    obtain rfl : y = x := by simpa using hx
    exact hy
theorem Sk.at_is {L : List α} {k : Kn.V} {i : Nat} (hi : i ≤ L.length) (h : ∀ j x, j < i → L[j]? = some x → Kn.cmp (key x) k < 0) (hg : ∀ x, L[i]? = some x → ¬ Kn.cmp (key x) k < 0) : Sk.at_ key L k = i := by
 rcases Nat.lt_trichotomy (Sk.at_ key L k) i with h1 | h1 | h1
 ·have hx : L[Sk.at_ key L k]? = some (L[Sk.at_ key L k]'(by omega)) := List.getElem?_eq_getElem _
  exact absurd (h _ _ h1 hx) (Sk.at_ge hx)
 ·exact h1
 ·have := Sk.at_le (key := key) L k
  have hx : L[i]? = some (L[i]'(by omega)) := List.getElem?_eq_getElem _
  exact absurd (Sk.at_lt h1 hx) (hg _ hx)
theorem Sk.map_at {β : Type} (f : α → β) (kb : β → Kn.V) (hk : ∀ x, kb (f x) = key x) (L : List α) (k : Kn.V) : Sk.at_ kb (L.map f) k = Sk.at_ key L k := by
 induction L with
 | nil => rfl
 | cons y L ih => rw [List.map_cons, Sk.at_cons, Sk.at_cons, hk, ih]
theorem Sk.map_there {β : Type} (f : α → β) (kb : β → Kn.V) (hk : ∀ x, kb (f x) = key x) (L : List α) (k : Kn.V) : Sk.there kb (L.map f) k = Sk.there key L k := by
 unfold Sk.there
 rw [Sk.map_at f kb hk, List.getElem?_map]
 cases L[Sk.at_ key L k]? with
 | none => rfl
 | some x => simp only [Option.map_some, hk]
theorem Sk.map_put {β : Type} (f : α → β) (kb : β → Kn.V) (hk : ∀ x, kb (f x) = key x) (L : List α) (x : α) : Sk.put kb (L.map f) (f x) = (Sk.put key L x).map f := by
 unfold Sk.put
 rw [hk, Sk.map_at f kb hk, Sk.map_there f kb hk, List.map_append, List.map_cons, List.map_take, List.map_drop]
theorem Sk.there_some {L : List α} {k : Kn.V} (h : Sk.there key L k = true) : ∃ x, L[Sk.at_ key L k]? = some x ∧ Kn.cmp (key x) k = 0 := by
 unfold Sk.there at h
 cases hx : L[Sk.at_ key L k]? with
 | none => rw [hx] at h; cases h
 | some x =>
   rw [hx] at h
   have h1 := Sk.at_ge hx
   have h2 := Sk.cmp_anti k (key x)
   refine ⟨x, rfl, ?_⟩
   simp only [Bool.not_eq_true', decide_eq_false_iff_not] at h
   omega
theorem Sk.there_none {L : List α} {k : Kn.V} (h : Sk.there key L k = false) : ∀ x, L[Sk.at_ key L k]? = some x → 0 < Kn.cmp (key x) k := by
 intro x hx
 unfold Sk.there at h
 rw [hx] at h
 have h2 := Sk.cmp_anti k (key x)
 simp only [Bool.not_eq_false', decide_eq_true_eq] at h
 omega
theorem Sk.asc_behind {L : List α} (ha : Sk.Asc key L) {i j : Nat} {x y : α} (hij : i < j) (hx : L[i]? = some x) (hy : L[j]? = some y) : Kn.cmp (key x) (key y) < 0 := by
 have hj : j < L.length := (List.getElem?_eq_some_iff.1 hy).1
 obtain ⟨h1, rfl⟩ := List.getElem?_eq_some_iff.1 hx
 obtain ⟨h2, rfl⟩ := List.getElem?_eq_some_iff.1 hy
 exact List.pairwise_iff_getElem.1 ha i j h1 h2 hij
theorem Sk.get_mem {L : List α} (ha : Sk.Asc key L) {k : Kn.V} {x : α} : Sk.get key L k = some x ↔ x ∈ L ∧ Kn.cmp (key x) k = 0 := by
 constructor
 ·intro h
  unfold Sk.get at h
  split at h
  ·next ht =>
   obtain ⟨y, hy, he⟩ := Sk.there_some ht
   rw [hy] at h
   obtain rfl : y = x := by simpa using h
   exact ⟨List.mem_of_getElem? hy, he⟩
  ·cases h
 ·rintro ⟨hm, he⟩
  obtain ⟨i, hi, e⟩ := List.getElem_of_mem hm
  have hx : L[i]? = some x := by rw [List.getElem?_eq_getElem hi, e]
  have hat : Sk.at_ key L k = i := Sk.at_is (Nat.le_of_lt hi) (fun j y hj hy => by
   have := Sk.asc_behind ha hj hy hx
   rw [Sk.eq_right he] at this
   exact this) (fun y hy => by
   rw [hx] at hy
   obtain rfl : x = y := by simpa using hy
   omega)
  have ht : Sk.there key L k = true := by
   unfold Sk.there
   rw [hat, hx]
   have := Sk.cmp_anti k (key x)
   simp only [Bool.not_eq_true', decide_eq_false_iff_not]
   omega
  unfold Sk.get
  rw [if_pos ht, hat, hx]
theorem Sk.get_none {L : List α} (ha : Sk.Asc key L) {k : Kn.V} : Sk.get key L k = none ↔ ∀ x ∈ L, Kn.cmp (key x) k ≠ 0 := by
 constructor
 ·intro h x hx he
  have := (Sk.get_mem ha).2 ⟨hx, he⟩
  rw [h] at this
  cases this
 ·intro h
  cases hg : Sk.get key L k with
  | none => rfl
  | some x =>
    obtain ⟨h1, h2⟩ := (Sk.get_mem ha).1 hg
    exact absurd h2 (h x h1)
theorem Sk.mem_put {L : List α} (ha : Sk.Asc key L) {x y : α} : y ∈ Sk.put key L x ↔ y = x ∨ (y ∈ L ∧ Kn.cmp (key y) (key x) ≠ 0) := by
 unfold Sk.put
 rw [List.mem_append, List.mem_cons]
 have htk : y ∈ L.take (Sk.at_ key L (key x)) → y ∈ L ∧ Kn.cmp (key y) (key x) ≠ 0 := fun h => by
  obtain ⟨i, hi, e⟩ := List.getElem_of_mem h
  rw [List.length_take] at hi
  have hy : L[i]? = some y := by
   rw [List.getElem_take] at e
   rw [List.getElem?_eq_getElem (by omega), e]
  have := Sk.at_lt (key := key) (k := key x) (by omega) hy
  exact ⟨List.mem_of_mem_take h, by omega⟩
 constructor
 ·rintro (h | h | h)
  ·exact .inr (htk h)
  ·exact .inl h
  ·refine .inr ⟨List.mem_of_mem_drop h, ?_⟩
   obtain ⟨i, hi, e⟩ := List.getElem_of_mem h
   rw [List.length_drop] at hi
   rw [List.getElem_drop] at e
   have hy : L[(if Sk.there key L (key x) = true then Sk.at_ key L (key x) + 1 else Sk.at_ key L (key x)) + i]? = some y := by
    rw [List.getElem?_eq_getElem (by omega), e]
   by_cases ht : Sk.there key L (key x) = true
   ·rw [if_pos ht] at hy
    obtain ⟨z, hz, he⟩ := Sk.there_some ht
    have := Sk.asc_behind ha (i := Sk.at_ key L (key x)) (j := Sk.at_ key L (key x) + 1 + i) (by omega) hz hy
    rw [Sk.eq_left he] at this
    have h2 := Sk.cmp_anti (key x) (key y)
    omega
   ·rw [if_neg ht] at hy
    have ht' : Sk.there key L (key x) = false := by simpa using ht
    cases i with
    | zero => have := Sk.there_none ht' y (by simpa using hy); omega
    | succ i =>
      have hlt : Sk.at_ key L (key x) < L.length := by
       have := (List.getElem?_eq_some_iff.1 hy).1
       omega
      have hz : L[Sk.at_ key L (key x)]? = some L[Sk.at_ key L (key x)] := List.getElem?_eq_getElem hlt
      have h1 := Sk.there_none ht' _ hz
      have h2 := Sk.asc_behind ha (i := Sk.at_ key L (key x)) (j := Sk.at_ key L (key x) + (i + 1)) (by omega) hz hy
      have h3 := Sk.cmp_anti (key x) (key y)
      have h4 := Sk.cmp_anti (key x) (key L[Sk.at_ key L (key x)])
      have h5 := Sk.lt_trans (a := key x) (by omega) h2
      omega
 ·rintro (h | ⟨h, hne⟩)
  ·exact .inr (.inl h)
  ·obtain ⟨i, hi, e⟩ := List.getElem_of_mem h
   have hy : L[i]? = some y := by rw [List.getElem?_eq_getElem hi, e]
   rcases Nat.lt_or_ge i (Sk.at_ key L (key x)) with h1 | h1
   ·refine .inl (List.mem_of_getElem? (i := i) ?_)
    rw [List.getElem?_take, if_pos h1, hy]
   ·refine .inr (.inr ?_)
    by_cases ht : Sk.there key L (key x) = true
    ·rw [if_pos ht]
     obtain ⟨z, hz, he⟩ := Sk.there_some ht
     rcases Nat.lt_or_ge (Sk.at_ key L (key x)) i with h2 | h2
     ·refine List.mem_of_getElem? (i := i - (Sk.at_ key L (key x) + 1)) ?_
      rw [List.getElem?_drop, show Sk.at_ key L (key x) + 1 + (i - (Sk.at_ key L (key x) + 1)) = i by omega, hy]
     ·have : i = Sk.at_ key L (key x) := by omega
      rw [← this, hy] at hz
      obtain rfl : y = z := by simpa using hz
      exact absurd he hne
    ·rw [if_neg ht]
     refine List.mem_of_getElem? (i := i - Sk.at_ key L (key x)) ?_
     rw [List.getElem?_drop, show Sk.at_ key L (key x) + (i - Sk.at_ key L (key x)) = i by omega, hy]
theorem Sk.put_asc {L : List α} (ha : Sk.Asc key L) (x : α) : Sk.Asc key (Sk.put key L x) := by
 have hsub : ∀ y, y ∈ L.drop (if Sk.there key L (key x) = true then Sk.at_ key L (key x) + 1 else Sk.at_ key L (key x)) → Kn.cmp (key x) (key y) < 0 := fun y hy => by
  obtain ⟨i, hi, e⟩ := List.getElem_of_mem hy
  rw [List.length_drop] at hi
  rw [List.getElem_drop] at e
  have hy : L[(if Sk.there key L (key x) = true then Sk.at_ key L (key x) + 1 else Sk.at_ key L (key x)) + i]? = some y := by
   rw [List.getElem?_eq_getElem (by omega), e]
  by_cases ht : Sk.there key L (key x) = true
  ·rw [if_pos ht] at hy
   obtain ⟨z, hz, he⟩ := Sk.there_some ht
   have := Sk.asc_behind ha (i := Sk.at_ key L (key x)) (j := Sk.at_ key L (key x) + 1 + i) (by omega) hz hy
   rwa [Sk.eq_left he] at this
  ·rw [if_neg ht] at hy
   have ht' : Sk.there key L (key x) = false := by simpa using ht
   have hlt : Sk.at_ key L (key x) < L.length := by
    have := (List.getElem?_eq_some_iff.1 hy).1
    omega
   have hz : L[Sk.at_ key L (key x)]? = some L[Sk.at_ key L (key x)] := List.getElem?_eq_getElem hlt
   have h1 := Sk.there_none ht' _ hz
   have h4 := Sk.cmp_anti (key x) (key L[Sk.at_ key L (key x)])
   cases i with
   | zero =>
     rw [Nat.add_zero, hz] at hy
     obtain rfl : L[Sk.at_ key L (key x)] = y := by simpa using hy
     omega
   | succ i => exact Sk.lt_trans (a := key x) (by omega) (Sk.asc_behind ha (i := Sk.at_ key L (key x)) (j := Sk.at_ key L (key x) + (i + 1)) (by omega) hz hy)
 have htk : ∀ y, y ∈ L.take (Sk.at_ key L (key x)) → Kn.cmp (key y) (key x) < 0 := fun y h => by
  obtain ⟨i, hi, e⟩ := List.getElem_of_mem h
  rw [List.length_take] at hi
  rw [List.getElem_take] at e
  exact Sk.at_lt (key := key) (k := key x) (L := L) (i := i) (by omega) (by rw [List.getElem?_eq_getElem (by omega), e])
 unfold Sk.put Sk.Asc
 rw [List.pairwise_append, List.pairwise_cons]
 refine ⟨List.Pairwise.sublist (List.take_sublist _ _) ha, ⟨hsub, List.Pairwise.sublist (List.drop_sublist _ _) ha⟩, fun y hy z hz => ?_⟩
 rcases List.mem_cons.1 hz with rfl | hz
 ·exact htk y hy
 ·exact Sk.lt_trans (htk y hy) (hsub z hz)
theorem Sk.get_put {L : List α} (ha : Sk.Asc key L) (x : α) (k : Kn.V) : Sk.get key (Sk.put key L x) k = if Kn.cmp (key x) k = 0 then some x else Sk.get key L k := by
 have hp := Sk.put_asc ha x
 by_cases h : Kn.cmp (key x) k = 0
 ·rw [if_pos h]
  exact (Sk.get_mem hp).2 ⟨(Sk.mem_put ha).2 (.inl rfl), h⟩
 ·rw [if_neg h]
  cases hg : Sk.get key L k with
  | none =>
    rw [Sk.get_none hp]
    intro y hy
    rcases (Sk.mem_put ha).1 hy with rfl | ⟨hy, _⟩
    ·exact h
    ·exact (Sk.get_none ha).1 hg y hy
  | some y =>
    obtain ⟨hy, he⟩ := (Sk.get_mem ha).1 hg
    refine (Sk.get_mem hp).2 ⟨(Sk.mem_put ha).2 (.inr ⟨hy, fun e => h ?_⟩), he⟩
    rw [← he, Sk.eq_left e]
theorem Sk.asc_ext : ∀ {L M : List α}, Sk.Asc key L → Sk.Asc key M → (∀ y, y ∈ L ↔ y ∈ M) → L = M
 | [], [], _, _, _ => rfl
 | [], y :: M, _, _, h => absurd ((h y).2 List.mem_cons_self) (by simp)
 | x :: L, [], _, _, h => absurd ((h x).1 List.mem_cons_self) (by simp)
 | x :: L, y :: M, ha, hb, h => by
   unfold Sk.Asc at ha hb
   rw [List.pairwise_cons] at ha hb
   have hxy : x = y := by
    rcases List.mem_cons.1 ((h x).1 List.mem_cons_self) with e | hx
    ·exact e
    ·rcases List.mem_cons.1 ((h y).2 List.mem_cons_self) with e | hy
     ·exact e.symm
     ·have h1 := ha.1 y hy
      have h2 := hb.1 x hx
      have h3 := Sk.cmp_anti (key x) (key y)
      omega
   subst hxy
   congr 1
   refine Sk.asc_ext ha.2 hb.2 fun z => ?_
   constructor
   ·intro hz
    rcases List.mem_cons.1 ((h z).1 (List.mem_cons_of_mem _ hz)) with e | hz'
    ·have := ha.1 z hz
     rw [e, Sk.cmp_self] at this
     omega
    ·exact hz'
   ·intro hz
    rcases List.mem_cons.1 ((h z).2 (List.mem_cons_of_mem _ hz)) with e | hz'
    ·have := hb.1 z hz
     rw [e, Sk.cmp_self] at this
     omega
    ·exact hz'
theorem Sk.put_len (L : List α) (x : α) : (Sk.put key L x).length ≤ L.length + 1 := by
 have := Sk.at_le (key := key) L (key x)
 unfold Sk.put
 rw [List.length_append, List.length_cons, List.length_take, List.length_drop]
 split <;> omega
end
end Go.Proofs.Ytikdcmplihgdcaa
namespace Go.Proofs.Ytikdcmplihgdcaa
section
variable {α : Type}
structure Mh.Ord (lt : α → α → Bool) : Prop where
 asym : ∀ a b, lt a b = true → lt b a = false
 trans : ∀ a b c, lt b a = false → lt c b = false → lt c a = false
theorem Mh.Ord.self {lt : α → α → Bool} (h : Mh.Ord lt) (a : α) : lt a a = false := by
 cases e : lt a a with
 | false => rfl
 | true => rw [h.asym a a e] at e; cases e
def Mh.sw (H : List α) (i j : Nat) (a b : α) : List α := (H.set i b).set j a
theorem Mh.sw_len (H : List α) (i j : Nat) (a b : α) : (Mh.sw H i j a b).length = H.length := by unfold Mh.sw; rw [List.length_set, List.length_set]
theorem Mh.sw_at {H : List α} {i j : Nat} {a b : α} (hi : H[i]? = some a) (hj : H[j]? = some b) (k : Nat) : (Mh.sw H i j a b)[k]? = if k = j then some a else if k = i then some b else H[k]? := by
 have h1 := (List.getElem?_eq_some_iff.1 hi).1
 have h2 := (List.getElem?_eq_some_iff.1 hj).1
 unfold Mh.sw
 rw [List.getElem?_set, List.length_set, List.getElem?_set]
 by_cases hk : k = j
 ·subst hk; rw [if_pos rfl, if_pos h2, if_pos rfl]
 ·rw [if_neg (Ne.symm hk), if_neg hk]
  by_cases hk2 : k = i
  ·subst hk2; rw [if_pos rfl, if_pos h1, if_pos rfl]
  ·rw [if_neg (Ne.symm hk2), if_neg hk2]
theorem Mh.sw_perm {H : List α} {i j : Nat} {a b : α} (hi : H[i]? = some a) (hj : H[j]? = some b) : (Mh.sw H i j a b).Perm H := by
 obtain ⟨h1, rfl⟩ := List.getElem?_eq_some_iff.1 hi
 obtain ⟨h2, rfl⟩ := List.getElem?_eq_some_iff.1 hj
 exact List.set_set_perm h1 h2
variable {lt : α → α → Bool}
def Mh.Hp (lt : α → α → Bool) (n lo : Nat) (H : List α) : Prop := ∀ j a b, 0 < j → j < n → lo ≤ (j - 1) / 2 → H[(j - 1) / 2]? = some a → H[j]? = some b → lt b a = false
def Mh.Dn (lt : α → α → Bool) (n lo i : Nat) (H : List α) : Prop :=
 (∀ j a b, 0 < j → j < n → lo ≤ (j - 1) / 2 → (j - 1) / 2 ≠ i → H[(j - 1) / 2]? = some a → H[j]? = some b → lt b a = false) ∧
 (∀ j a b, 0 < j → j < n → (j - 1) / 2 = i → 0 < i → lo ≤ (i - 1) / 2 → H[(i - 1) / 2]? = some a → H[j]? = some b → lt b a = false)
theorem Mh.Hp.none {n lo : Nat} (H : List α) (h : n / 2 ≤ lo) : Mh.Hp lt n lo H := fun j a b h0 h1 h2 _ _ => by omega
theorem Mh.Hp.dn {n lo : Nat} {H : List α} (h : Mh.Hp lt n (lo + 1) H) : Mh.Dn lt n lo lo H :=
 ⟨fun j a b h0 h1 h2 h3 ha hb => h j a b h0 h1 (by omega) ha hb, fun j a b h0 h1 h2 h3 h4 ha hb => by omega⟩
theorem Mh.Dn.leaf {n lo i : Nat} {H : List α} (h : Mh.Dn lt n lo i H) (hi : n ≤ 2 * i + 1) : Mh.Hp lt n lo H := fun j a b h0 h1 h2 ha hb =>
 h.1 j a b h0 h1 h2 (by omega) ha hb
def Mh.Kid (lt : α → α → Bool) (n i c : Nat) (H : List α) : Prop := c < n ∧ (c = 2 * i + 1 ∨ c = 2 * i + 2) ∧ ∀ s x y, s < n → (s = 2 * i + 1 ∨ s = 2 * i + 2) → H[c]? = some x → H[s]? = some y → lt y x = false
theorem Mh.kid_one (ho : Mh.Ord lt) {n i : Nat} {H : List α} (h1 : 2 * i + 1 < n) (h2 : ¬ 2 * i + 2 < n) : Mh.Kid lt n i (2 * i + 1) H :=
 ⟨h1, .inl rfl, fun s x y hs hc hx hy => by
  obtain rfl : s = 2 * i + 1 := by omega
  rw [hx] at hy
  obtain rfl : x = y := by simpa using hy
  exact ho.self x⟩
theorem Mh.kid_left (ho : Mh.Ord lt) {n i : Nat} {H : List α} (h2 : 2 * i + 2 < n) {a b : α} (ha : H[2 * i + 1]? = some a) (hb : H[2 * i + 2]? = some b) (hl : lt b a = false) : Mh.Kid lt n i (2 * i + 1) H :=
 ⟨by omega, .inl rfl, fun s x y hs hc hx hy => by
  rw [ha] at hx
  obtain rfl : a = x := by simpa using hx
  rcases hc with rfl | rfl
  ·rw [ha] at hy
   obtain rfl : a = y := by simpa using hy
   exact ho.self a
  ·rw [hb] at hy
   obtain rfl : b = y := by simpa using hy
   exact hl⟩
theorem Mh.kid_right (ho : Mh.Ord lt) {n i : Nat} {H : List α} (h2 : 2 * i + 2 < n) {a b : α} (ha : H[2 * i + 1]? = some a) (hb : H[2 * i + 2]? = some b) (hl : lt b a = true) : Mh.Kid lt n i (2 * i + 2) H :=
 ⟨h2, .inr rfl, fun s x y hs hc hx hy => by
  rw [hb] at hx
  obtain rfl : b = x := by simpa using hx
  rcases hc with rfl | rfl
  ·rw [ha] at hy
   obtain rfl : a = y := by simpa using hy
   exact ho.asym _ _ hl
  ·rw [hb] at hy
   obtain rfl : b = y := by simpa using hy
   exact ho.self b⟩
theorem Mh.Dn.stop (ho : Mh.Ord lt) {n lo i c : Nat} {H : List α} (h : Mh.Dn lt n lo i H) (hk : Mh.Kid lt n i c H) {x y : α} (hx : H[i]? = some x) (hy : H[c]? = some y) (hl : lt y x = false) : Mh.Hp lt n lo H := fun j a b h0 h1 h2 ha hb => by
 by_cases hj : (j - 1) / 2 = i
 ·rw [hj, hx] at ha
  obtain rfl : x = a := by simpa using ha
  exact ho.trans _ _ _ hl (hk.2.2 j y b h1 (by omega) hy hb)
 ·exact h.1 j a b h0 h1 h2 hj ha hb
theorem Mh.Dn.next (ho : Mh.Ord lt) {n lo i c : Nat} {H : List α} (h : Mh.Dn lt n lo i H) (hk : Mh.Kid lt n i c H) {x y : α} (hx : H[i]? = some x) (hy : H[c]? = some y) (hl : lt y x = true) (hlo : lo ≤ i) : Mh.Dn lt n lo c (Mh.sw H i c x y) := by
 have hs := Mh.sw_at hx hy
 have hc := hk.2.1
 refine ⟨fun j a b h0 h1 h2 h3 ha hb => ?_, fun j a b h0 h1 h2 h3 h4 ha hb => ?_⟩
 ·rw [hs] at ha hb
  by_cases hji : (j - 1) / 2 = i
  ·rw [if_neg (by omega), if_pos hji] at ha
   obtain rfl : y = a := by simpa using ha
   by_cases hjc : j = c
   ·rw [if_pos hjc] at hb
    obtain rfl : x = b := by simpa using hb
    exact ho.asym _ _ hl
   ·rw [if_neg hjc, if_neg (by omega)] at hb
    exact hk.2.2 j y b h1 (by omega) hy hb
  ·rw [if_neg h3, if_neg hji] at ha
   by_cases hj : j = i
   ·rw [if_neg (by omega), if_pos hj] at hb
    obtain rfl : y = b := by simpa using hb
    subst hj
    exact h.2 c a y (by omega) hk.1 (by omega) h0 h2 ha hy
   ·rw [if_neg (by omega), if_neg hj] at hb
    exact h.1 j a b h0 h1 h2 hji ha hb
 ·rw [hs] at ha hb
  have hci : (c - 1) / 2 = i := by omega
  rw [hci, if_neg (by omega), if_pos rfl] at ha
  obtain rfl : y = a := by simpa using ha
  rw [if_neg (by omega), if_neg (by omega)] at hb
  exact h.1 j y b h0 h1 (by omega) (by omega) (by rw [h2]; exact hy) hb
def Mh.Up (lt : α → α → Bool) (n j : Nat) (H : List α) : Prop :=
 (∀ k a b, 0 < k → k < n → k ≠ j → H[(k - 1) / 2]? = some a → H[k]? = some b → lt b a = false) ∧
 (∀ k a b, 0 < k → k < n → (k - 1) / 2 = j → 0 < j → H[(j - 1) / 2]? = some a → H[k]? = some b → lt b a = false)
theorem Mh.Hp.up {n : Nat} {H : List α} (h : Mh.Hp lt n 0 H) (x : α) (hn : H.length = n) : Mh.Up lt (n + 1) n (H ++ [x]) := by
 refine ⟨fun k a b h0 h1 h2 ha hb => ?_, fun k a b h0 h1 h2 h3 ha hb => by omega⟩
 rw [List.getElem?_append_left (by omega)] at ha hb
 exact h k a b h0 (by omega) (Nat.zero_le _) ha hb
theorem Mh.Up.top {n : Nat} {H : List α} (h : Mh.Up lt n 0 H) : Mh.Hp lt n 0 H := fun k a b h0 h1 _ ha hb => h.1 k a b h0 h1 (by omega) ha hb
theorem Mh.Up.stop {n j : Nat} {H : List α} (h : Mh.Up lt n j H) {x y : α} (hx : H[(j - 1) / 2]? = some x) (hy : H[j]? = some y) (hl : lt y x = false) : Mh.Hp lt n 0 H := fun k a b h0 h1 _ ha hb => by
 by_cases hk : k = j
 ·subst hk
  rw [hx] at ha; rw [hy] at hb
  obtain rfl : x = a := by simpa using ha
  obtain rfl : y = b := by simpa using hb
  exact hl
 ·exact h.1 k a b h0 h1 hk ha hb
theorem Mh.lt_le (ho : Mh.Ord lt) {a b c : α} (h : lt b a = false) (g : lt c a = true) : lt b c = false := by
 exact ho.trans c a b (ho.asym _ _ g) h
theorem Mh.Up.next (ho : Mh.Ord lt) {n j : Nat} {H : List α} (h : Mh.Up lt n j H) (hj : 0 < j) (hjn : j < n) {x y : α} (hx : H[(j - 1) / 2]? = some x) (hy : H[j]? = some y) (hl : lt y x = true) : Mh.Up lt n ((j - 1) / 2) (Mh.sw H ((j - 1) / 2) j x y) := by
 have hs := Mh.sw_at hx hy
 refine ⟨fun k a b h0 h1 h2 ha hb => ?_, fun k a b h0 h1 h2 h3 ha hb => ?_⟩
 ·rw [hs] at ha hb
  by_cases hkj : k = j
  ·rw [if_pos hkj] at hb
   obtain rfl : x = b := by simpa using hb
   rw [hkj, if_neg (by omega), if_pos rfl] at ha
   obtain rfl : y = a := by simpa using ha
   exact ho.asym _ _ hl
  ·rw [if_neg hkj, if_neg h2] at hb
   by_cases hp : (k - 1) / 2 = j
   ·rw [if_pos hp] at ha
    obtain rfl : x = a := by simpa using ha
    exact h.2 k x b h0 h1 hp hj hx hb
   ·rw [if_neg hp] at ha
    by_cases hq : (k - 1) / 2 = (j - 1) / 2
    ·rw [if_pos hq] at ha
     obtain rfl : y = a := by simpa using ha
     exact Mh.lt_le ho (h.1 k x b h0 h1 hkj (by rw [hq]; exact hx) hb) hl
    ·rw [if_neg hq] at ha
     exact h.1 k a b h0 h1 hkj ha hb
 ·rw [hs] at ha hb
  rw [if_neg (by omega), if_neg (by omega)] at ha
  have hpx := h.1 ((j - 1) / 2) a x h3 (by omega) (by omega) ha hx
  by_cases hkj : k = j
  ·rw [if_pos hkj] at hb
   obtain rfl : x = b := by simpa using hb
   exact hpx
  ·rw [if_neg hkj, if_neg (by omega)] at hb
   exact ho.trans _ _ _ hpx (h.1 k x b h0 h1 hkj (by rw [h2]; exact hx) hb)
theorem Mh.Hp.root (ho : Mh.Ord lt) {H : List α} (h : Mh.Hp lt H.length 0 H) {x : α} (hx : H[0]? = some x) : ∀ (n k : Nat), k < n → ∀ y, H[k]? = some y → lt y x = false
 | 0, k, hk, y, hy => by omega
 | n + 1, k, hk, y, hy => by
   cases k with
   | zero =>
     rw [hx] at hy
     obtain rfl : x = y := by simpa using hy
     exact ho.self x
   | succ k =>
     have hl := (List.getElem?_eq_some_iff.1 hy).1
     have hp : H[(k + 1 - 1) / 2]? = some (H[(k + 1 - 1) / 2]'(by omega)) := List.getElem?_eq_getElem _
     exact ho.trans _ _ _ (Mh.Hp.root ho h hx n _ (by omega) _ hp) (h (k + 1) _ y (by omega) hl (Nat.zero_le _) hp hy)
theorem Mh.Hp.least (ho : Mh.Ord lt) {H : List α} (h : Mh.Hp lt H.length 0 H) {x y : α} (hx : H[0]? = some x) (hy : y ∈ H) : lt y x = false := by
 obtain ⟨k, hk, e⟩ := List.getElem_of_mem hy
 exact Mh.Hp.root ho h hx _ k (Nat.lt_succ_self k) y (by rw [List.getElem?_eq_getElem hk, e])
theorem Mh.Hp.pop {n : Nat} {H : List α} (h : Mh.Hp lt (n + 1) 0 H) {x y : α} (hx : H[0]? = some x) (hy : H[n]? = some y) : Mh.Dn lt n 0 0 (Mh.sw H 0 n x y) := by
 have hs := Mh.sw_at hx hy
 refine ⟨fun j a b h0 h1 h2 h3 ha hb => ?_, fun j a b h0 h1 h2 h3 h4 ha hb => by omega⟩
 rw [hs, if_neg (by omega), if_neg (by omega)] at ha hb
 exact h j a b h0 (by omega) (Nat.zero_le _) ha hb
theorem Mh.take_last {H : List α} {n : Nat} {x : α} (hl : H.length = n + 1) (hx : H[n]? = some x) : H = H.take n ++ [x] := by
 obtain ⟨h1, rfl⟩ := List.getElem?_eq_some_iff.1 hx
 have := List.take_succ_eq_append_getElem h1
 rw [← this, List.take_of_length_le (by omega)]
theorem Mh.Hp.take {n lo : Nat} {H : List α} (h : Mh.Hp lt n lo H) : Mh.Hp lt n lo (H.take n) := fun j a b h0 h1 h2 ha hb => by
 rw [List.getElem?_take, if_pos (by omega)] at ha
 rw [List.getElem?_take, if_pos h1] at hb
 exact h j a b h0 h1 h2 ha hb
end
end Go.Proofs.Ytikdcmplihgdcaa
namespace Go.Proofs.Ytikdcmplihgdcaa
open Go.RowKit
def Kn.isK (k : Int) (v : Kn.V) : Bool :=
 if v.null = true then (v.n == 0) && (v.s.toList == (⟨#[]⟩ : ByteArray).toList)
 else if k = 1 then v.s.toList == (⟨#[]⟩ : ByteArray).toList
 else (k == 2) && ((v.n == 0) && decide (v.s.size ≤ 64))
theorem Kn.isK_fits (c : Kn.C) (v : Kn.V) (h : c.good = true) : Kn.fits c v = (Kn.isK c.k v && !(v.null && !c.null)) := by
 obtain ⟨ck, cn⟩ := c
 obtain ⟨vn, vi, vs⟩ := v
 have hk : ck = 1 ∨ ck = 2 := by
  unfold Kn.C.good at h
  by_cases h1 : ck = 1
  ·exact .inl h1
  ·by_cases h2 : ck = 2
   ·exact .inr h2
   ·have e1 : (ck != 1) = true := by rw [bne_iff_ne]; exact h1
    have e2 : (ck != 2) = true := by rw [bne_iff_ne]; exact h2
    simp only [e1, e2] at h
    cases h
 unfold Kn.fits Kn.isK
 rcases hk with rfl | rfl <;> cases vn <;> cases cn <;> simp
end Go.Proofs.Ytikdcmplihgdcaa
namespace Go.Proofs.Ytikdcmplihgdcaa.Ig
open Go.RowKit
open Ty (num encU zig zag I64 U64)
def nth (L : List Int) (i : Nat) : Int := L.getD i 0
def prv (L : List Int) : Nat → Int
 | 0 => 0
 | k + 1 => nth L k
def Run (L : List Int) (k : Nat) : Prop := 0 < k ∧ k ≤ L.length ∧ (∀ j, j < k → nth L j = nth L 0) ∧ (k < L.length → nth L k ≠ nth L 0)
theorem nth_drop (L : List Int) (k i : Nat) : nth (L.drop k) i = nth L (k + i) := by
 unfold nth
 rw [List.getD, List.getD, List.getElem?_drop]
end Go.Proofs.Ytikdcmplihgdcaa.Ig
namespace Go.Proofs.Ytikdcmplihgdcaa
open Go.RowKit
def Ty.rdU (l : List UInt8) (e : Nat) : Nat × List UInt8 × Nat := if e ≠ 0 then (0, l, e) else ((Ty.num l).1, l.drop (Ty.num l).2.1, (Ty.num l).2.2)
def Ty.rdT (most : Int) (l : List UInt8) (e : Nat) : List UInt8 × List UInt8 × Nat := if e ≠ 0 then ([], l, e) else ((Ty.txt l most).1, l.drop (Ty.txt l most).2.1, (Ty.txt l most).2.2)
def Ty.rdB (l : List UInt8) (e : Nat) : Nat × List UInt8 × Nat := if e ≠ 0 then (0, l, e) else match l with
 | [] => (0, [], 2)
 | b :: r => (b.toNat, r, 0)
end Go.Proofs.Ytikdcmplihgdcaa
namespace Go.Proofs.Ytikdcmplihgdcaa
open Go.RowKit
def Ty.fin (l : List UInt8) (e : Nat) : Nat := if e = 0 ∧ l ≠ [] then 5 else e
end Go.Proofs.Ytikdcmplihgdcaa
namespace Go.Proofs.Ytikdcmplihgdcaa
open Go.RowKit
end Go.Proofs.Ytikdcmplihgdcaa
namespace Go.Proofs.Ytikdcmplihgdcaa
open Go.RowKit
theorem Ty.Buf.later {base : Nat} {w w' : World} {v : Value} {bs : List UInt8} (h : Ty.Buf base w v bs) (hb : Below w.heap.size w w') : Ty.Buf base w' v bs :=
 h.kept fun k hk => hb.block k (h.lt k hk).2
end Go.Proofs.Ytikdcmplihgdcaa
namespace Go.Proofs.Ytikdcmplihgdcaa
open Go.RowKit
def Ty.RMid (base n sz k : Nat) (wr : World) (v : Value) : Prop :=
 (k = sz ∧ Ty.Buf base wr v []) ∨ (k < sz ∧ ∃ done, Ty.encU n = done ++ Ty.low k n ∧ done.length + k ≤ 9 ∧ Ty.Buf base wr v done)
theorem Ty.Buf.base {base : Nat} {w : World} {v : Value} {bs : List UInt8} (h : Ty.Buf base w v bs) : ∀ k, v.ownBlock = some k → base ≤ k := fun k hk => (h.lt k hk).1
def Ty.Str (w : World) (bs : List UInt8) (e : Ending) (w' : World) : Prop := e = .returned (.string (Ty.S bs)) ∧ Below w.heap.size w w'
theorem Ty.RMid.first {base n sz k : Nat} {w1 : World} {v1 : Value} (hk : k = Ty.after (Ty.form n)) (hs : sz = k + 1) {X : Int} (hX : X = ((Ty.head n).toNat : Int)) (h1 : ∀ u : UInt8, X = (u.toNat : Int) → Ty.Buf base w1 v1 ([] ++ [u])) : Ty.RMid base n sz k w1 v1 :=
 .inr ⟨by omega, [Ty.head n], by rw [hk]; exact Ty.encU_split n, by have := Ty.after_le n; simp; omega, h1 _ hX⟩
theorem Ty.RMid.next {base n sz k : Nat} {done : List UInt8} {w1 : World} {v1 : Value} (hd : Ty.encU n = done ++ Ty.low (k + 1) n) (hl : done.length + (k + 1) ≤ 9) (hk : k + 1 < sz)
 (h1 : ∀ u : UInt8, ((n : Int) / 2 ^ (8 * k) % 256) = (u.toNat : Int) → Ty.Buf base w1 v1 (done ++ [u])) : Ty.RMid base n sz k w1 v1 :=
 .inr ⟨by omega, done ++ [UInt8.ofNat (n / 256 ^ k % 256)], by rw [hd, Ty.low_succ]; simp, by simp; omega, h1 _ (Ty.low_byte n k)⟩
end Go.Proofs.Ytikdcmplihgdcaa
namespace Go.Proofs.Ytikdcmplihgdcaa
open Go.RowKit
end Go.Proofs.Ytikdcmplihgdcaa
