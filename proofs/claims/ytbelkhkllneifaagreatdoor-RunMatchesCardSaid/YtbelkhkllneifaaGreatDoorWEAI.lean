import Derived.Test.YtbelkhkllneifaaGreatDoorWEAA
import Derived.Test.YtbelkhkllneifaaGreatDoorWEAD
import Derived.Test.YtbelkhkllneifaaGreatDoorWEAH
import Derived.Test.YtbelkhkllneifaaGreatDoorWEAB
namespace Go.Proofs.YtbelkhkllneifaaGreatDoor
open Go.RowKit
open Ty (num txt encU U64 I64)
open Ig (rest sg encI read_encI splitI)
open Tx (encT restT read_encT splitT)
structure Dd.D where
 gone : Bool
 row : List Kn.V
def Dd.flag (b : Bool) : UInt8 := if b = true then 1 else 0
def Dd.encP (c : Kn.C) (v : Kn.V) : List UInt8 := if c.k = 1 then Ig.encI v.n else encT v.s.data.toList
def Dd.encV (c : Kn.C) (v : Kn.V) : List UInt8 := (if c.null = true then [Dd.flag v.null] else []) ++ (if v.null = true then [] else Dd.encP c v)
def Dd.encR : List Kn.C → List Kn.V → List UInt8
 | c :: cs, v :: vs => Dd.encV c v ++ Dd.encR cs vs
 | _, _ => []
def Dd.enc (s : List Kn.C) (d : Dd.D) : List UInt8 := Dd.flag d.gone :: Dd.encR s d.row
def Dd.cols (s : List Kn.C) (g : Bool) : List Kn.C := if g = true then s.take 1 else s
def Dd.fitE (s : List Kn.C) (d : Dd.D) : Int :=
 if d.gone = true then (if Kn.right s = true then (match d.row with | [k] => Kn.keyE s k | _ => 7) else 4) else Kn.fitsE s d.row
def Dd.rdF : List UInt8 → Nat × Bool × List UInt8
 | [] => (2, false, [])
 | b :: r => if 1 < b.toNat then (4, false, r) else (0, b == 1, r)
def Dd.rdP (c : Kn.C) (l : List UInt8) : Nat × Kn.V × List UInt8 :=
 if c.k = 1 then ((num l).2.2, Cl.ofN (sg l), rest l) else ((txt l 64).2.2, Cl.ofS (txt l 64).1, restT l)
def Dd.rdV (c : Kn.C) (l : List UInt8) : Nat × Kn.V × List UInt8 :=
 if c.null = true then (if (Dd.rdF l).1 ≠ 0 then ((Dd.rdF l).1, Cl.ofN 0, (Dd.rdF l).2.2) else if (Dd.rdF l).2.1 = true then (0, Cl.nul, (Dd.rdF l).2.2) else Dd.rdP c (Dd.rdF l).2.2) else Dd.rdP c l
def Dd.rdR : List Kn.C → List UInt8 → Nat × List Kn.V × List UInt8
 | [], l => (0, [], l)
 | c :: cs, l => if (Dd.rdV c l).1 ≠ 0 then ((Dd.rdV c l).1, [], []) else ((Dd.rdR cs (Dd.rdV c l).2.2).1, (Dd.rdV c l).2.1 :: (Dd.rdR cs (Dd.rdV c l).2.2).2.1, (Dd.rdR cs (Dd.rdV c l).2.2).2.2)
def Dd.rd (s : List Kn.C) (l : List UInt8) : Nat × Dd.D :=
 if Kn.right s = false then (4, ⟨false, []⟩)
 else if (Dd.rdF l).1 ≠ 0 then ((Dd.rdF l).1, ⟨false, []⟩)
 else if (Dd.rdR (Dd.cols s (Dd.rdF l).2.1) (Dd.rdF l).2.2).1 ≠ 0 then ((Dd.rdR (Dd.cols s (Dd.rdF l).2.1) (Dd.rdF l).2.2).1, ⟨false, []⟩)
 else if (Dd.rdR (Dd.cols s (Dd.rdF l).2.1) (Dd.rdF l).2.2).2.2 ≠ [] then (5, ⟨false, []⟩)
 else (0, ⟨(Dd.rdF l).2.1, (Dd.rdR (Dd.cols s (Dd.rdF l).2.1) (Dd.rdF l).2.2).2.1⟩)
theorem Dd.toList_nil {s : ByteArray} (h : (s.toList == (⟨#[]⟩ : ByteArray).toList) = true) : s = ⟨#[]⟩ := by
 rw [beq_iff_eq, ByteArray.toList_eq, ByteArray.toList_eq] at h
 have h2 : s.data.toList = [] := h
 apply ByteArray.ext
 exact Array.toList_inj.1 (by rw [h2])
theorem Dd.good_iff (c : Kn.C) : c.good = true ↔ c.k = 1 ∨ c.k = 2 := by
 unfold Kn.C.good
 by_cases h1 : c.k = 1
 ·simp [h1]
 ·by_cases h2 : c.k = 2
  ·simp [h2]
  ·have e1 : (c.k != 1) = true := by rw [bne_iff_ne]; exact h1
   have e2 : (c.k != 2) = true := by rw [bne_iff_ne]; exact h2
   simp [e1, e2, h1, h2]
theorem Dd.rdF_flag (b : Bool) (r : List UInt8) : Dd.rdF (Dd.flag b :: r) = (0, b, r) := by
 cases b <;> simp [Dd.rdF, Dd.flag]
theorem Dd.rdF_only {l : List UInt8} (h : (Dd.rdF l).1 = 0) : l = Dd.flag (Dd.rdF l).2.1 :: (Dd.rdF l).2.2 := by
 cases l with
 | nil => cases h
 | cons b r =>
   simp only [Dd.rdF] at h ⊢
   by_cases h1 : 1 < b.toNat
   ·rw [if_pos h1] at h; cases h
   ·rw [if_neg h1]
    simp only [Dd.flag]
    congr 1
    by_cases e : b = 1
    ·rw [e]; rfl
    ·have e0 : b = 0 := by
      apply UInt8.toNat_inj.1
      have : b.toNat ≠ 1 := fun h => e (UInt8.toNat_inj.1 h)
      show b.toNat = 0
      omega
     rw [e0]; rfl
theorem Dd.fits_null {c : Kn.C} {v : Kn.V} (h : Kn.fits c v = true) (hv : v.null = true) : v = Cl.nul ∧ c.null = true := by
 unfold Kn.fits at h
 rw [if_pos hv] at h
 simp only [Bool.and_eq_true] at h
 obtain ⟨vn, vi, vs⟩ := v
 simp only at hv h
 rw [hv, Dd.toList_nil h.2, show vi = 0 by simpa using h.1.2]
 exact ⟨rfl, h.1.1⟩
theorem Dd.fits_num {c : Kn.C} {v : Kn.V} (hk : c.k = 1) (h : Kn.fits c v = true) (hv : v.null = false) : v = Cl.ofN v.n := by
 unfold Kn.fits at h
 rw [hv, if_neg (by decide), if_pos hk] at h
 obtain ⟨vn, vi, vs⟩ := v
 simp only at hv h
 rw [hv, Dd.toList_nil h]
 rfl
theorem Dd.fits_str {c : Kn.C} {v : Kn.V} (hk : c.k ≠ 1) (h : Kn.fits c v = true) (hv : v.null = false) : v = Cl.ofS v.s.data.toList ∧ v.s.data.toList.length ≤ 64 := by
 unfold Kn.fits at h
 rw [hv, if_neg (by decide), if_neg hk] at h
 simp only [Bool.and_eq_true, decide_eq_true_iff] at h
 obtain ⟨vn, vi, vs⟩ := v
 simp only at hv h ⊢
 rw [hv, show vi = 0 by simpa using h.1]
 exact ⟨rfl, by rw [Ty.length_data]; exact h.2⟩
theorem Dd.fits_nul {c : Kn.C} (h : c.null = true) : Kn.fits c Cl.nul = true := by simp [Kn.fits, Cl.nul, h]
theorem Dd.fits_ofN {c : Kn.C} (hk : c.k = 1) (x : Int) : Kn.fits c (Cl.ofN x) = true := by simp [Kn.fits, Cl.ofN, hk]
theorem Dd.fits_ofS {c : Kn.C} (hk : c.k ≠ 1) {t : List UInt8} (h : t.length ≤ 64) : Kn.fits c (Cl.ofS t) = true := by
 have : (Ty.S t).size ≤ 64 := h
 simp [Kn.fits, Cl.ofS, hk, this]
theorem Dd.rdP_back {c : Kn.C} {v : Kn.V} (h : Kn.fits c v = true) (hv : v.null = false) (hi : I64 v.n) (r : List UInt8) : Dd.rdP c (Dd.encP c v ++ r) = (0, v, r) := by
 unfold Dd.rdP Dd.encP
 by_cases hk : c.k = 1
 ·obtain ⟨h1, h2, h3⟩ := read_encI v.n hi r
  rw [if_pos hk, if_pos hk, h1, h2, h3, ← Dd.fits_num hk h hv]
 ·obtain ⟨e, hl⟩ := Dd.fits_str hk h hv
  obtain ⟨h1, h2, h3⟩ := read_encT v.s.data.toList hl r
  rw [if_neg hk, if_neg hk, h1, h2, h3, ← e]
theorem Dd.rdV_back {c : Kn.C} {v : Kn.V} (h : Kn.fits c v = true) (hi : I64 v.n) (r : List UInt8) : Dd.rdV c (Dd.encV c v ++ r) = (0, v, r) := by
 unfold Dd.rdV Dd.encV
 cases hn : v.null
 ·simp only [Bool.false_eq_true, if_false]
  by_cases hc : c.null = true
  ·rw [if_pos hc, if_pos hc, List.append_assoc, List.singleton_append, Dd.rdF_flag]
   simp only [ne_eq, not_true_eq_false, if_false, Bool.false_eq_true]
   exact Dd.rdP_back h hn hi r
  ·rw [if_neg hc, if_neg hc, List.nil_append]
   exact Dd.rdP_back h hn hi r
 ·obtain ⟨e, hc⟩ := Dd.fits_null h hn
  simp only [if_true]
  rw [if_pos hc, if_pos hc, List.append_nil, List.singleton_append, Dd.rdF_flag]
  simp only [ne_eq, not_true_eq_false, if_false, if_true]
  rw [e]
theorem Dd.rdP_only {c : Kn.C} {l : List UInt8} (h : (Dd.rdP c l).1 = 0) : l = Dd.encP c (Dd.rdP c l).2.1 ++ (Dd.rdP c l).2.2 ∧ Kn.fits c (Dd.rdP c l).2.1 = true ∧ (Dd.rdP c l).2.1.null = false ∧ I64 (Dd.rdP c l).2.1.n := by
 by_cases hk : c.k = 1
 ·have e : Dd.rdP c l = ((num l).2.2, Cl.ofN (sg l), rest l) := by unfold Dd.rdP; rw [if_pos hk]
  rw [e] at h ⊢
  refine ⟨?_, Dd.fits_ofN hk _, rfl, Ig.sg_i64 l⟩
  unfold Dd.encP
  rw [if_pos hk]
  exact splitI h
 ·have e : Dd.rdP c l = ((txt l 64).2.2, Cl.ofS (txt l 64).1, restT l) := by unfold Dd.rdP; rw [if_neg hk]
  rw [e] at h ⊢
  obtain ⟨h1, h2⟩ := splitT h
  refine ⟨?_, Dd.fits_ofS hk h2, rfl, ⟨by show _ ≤ (0 : Int); omega, by show (0 : Int) ≤ _; omega⟩⟩
  unfold Dd.encP
  rw [if_neg hk]
  show l = encT (Ty.S (txt l 64).1).data.toList ++ restT l
  rw [Ty.data_S]
  exact h1
theorem Dd.rdV_only {c : Kn.C} {l : List UInt8} (h : (Dd.rdV c l).1 = 0) : l = Dd.encV c (Dd.rdV c l).2.1 ++ (Dd.rdV c l).2.2 ∧ Kn.fits c (Dd.rdV c l).2.1 = true ∧ I64 (Dd.rdV c l).2.1.n := by
 unfold Dd.rdV at h ⊢
 by_cases hc : c.null = true
 ·rw [if_pos hc] at h ⊢
  by_cases h1 : (Dd.rdF l).1 ≠ 0
  ·rw [if_pos h1] at h; exact absurd h h1
  ·rw [if_neg h1] at h ⊢
   have hl := Dd.rdF_only (by simpa using h1)
   cases hb : (Dd.rdF l).2.1
   ·rw [hb] at h hl
    rw [if_neg (by decide)] at h ⊢
    obtain ⟨e1, e2, e3, e4⟩ := Dd.rdP_only h
    refine ⟨?_, e2, e4⟩
    unfold Dd.encV
    rw [if_pos hc, e3, if_neg (by decide), List.append_assoc, List.singleton_append, ← e1]
    exact hl
   ·rw [hb] at hl
    rw [if_pos rfl]
    refine ⟨?_, Dd.fits_nul hc, ⟨by show _ ≤ (0 : Int); omega, by show (0 : Int) ≤ _; omega⟩⟩
    show l = Dd.encV c Cl.nul ++ (Dd.rdF l).2.2
    unfold Dd.encV
    rw [if_pos hc, show Cl.nul.null = true from rfl, if_pos rfl, List.append_nil, List.singleton_append]
    exact hl
 ·rw [if_neg hc] at h ⊢
  obtain ⟨e1, e2, e3, e4⟩ := Dd.rdP_only h
  refine ⟨?_, e2, e4⟩
  unfold Dd.encV
  rw [if_neg hc, e3, if_neg (by decide), List.nil_append]
  exact e1
theorem Dd.rdR_back : ∀ (s : List Kn.C) (vs : List Kn.V), vs.length = s.length → Kn.fitsAll s vs = true → (∀ v ∈ vs, I64 v.n) → ∀ r, Dd.rdR s (Dd.encR s vs ++ r) = (0, vs, r)
 | [], [], _, _, _, r => rfl
 | [], _ :: _, h, _, _, _ => by simp at h
 | _ :: _, [], h, _, _, _ => by simp at h
 | c :: cs, v :: vs, hl, hf, hi, r => by
   simp only [Kn.fitsAll, Bool.and_eq_true] at hf
   have e := Dd.rdV_back hf.1 (hi v (by simp)) (Dd.encR cs vs ++ r)
   have ih := Dd.rdR_back cs vs (by simpa using hl) hf.2 (fun x hx => hi x (by simp [hx])) r
   simp only [Dd.encR, List.append_assoc, Dd.rdR, e, ih, ne_eq, not_true_eq_false, if_false]
theorem Dd.rdR_only : ∀ (s : List Kn.C) (l : List UInt8), (Dd.rdR s l).1 = 0 → l = Dd.encR s (Dd.rdR s l).2.1 ++ (Dd.rdR s l).2.2 ∧ (Dd.rdR s l).2.1.length = s.length ∧ Kn.fitsAll s (Dd.rdR s l).2.1 = true ∧ ∀ v ∈ (Dd.rdR s l).2.1, I64 v.n
 | [], l, _ => ⟨rfl, rfl, rfl, fun v hv => by cases hv⟩
 | c :: cs, l, h => by
   simp only [Dd.rdR] at h ⊢
   by_cases h1 : (Dd.rdV c l).1 ≠ 0
   ·rw [if_pos h1] at h; exact absurd h h1
   ·rw [if_neg h1] at h ⊢
    obtain ⟨a1, a2, a3⟩ := Dd.rdV_only (c := c) (l := l) (by simpa using h1)
    obtain ⟨b1, b2, b3, b4⟩ := Dd.rdR_only cs (Dd.rdV c l).2.2 h
    refine ⟨?_, by simp [b2], by simp [Kn.fitsAll, a2, b3], fun v hv => ?_⟩
    ·simp only [Dd.encR, List.append_assoc]
     rw [← b1]
     exact a1
    ·rcases List.mem_cons.1 hv with rfl | hv
     ·exact a3
     ·exact b4 v hv
theorem Dd.fitE_0 {s : List Kn.C} {d : Dd.D} (h : Dd.fitE s d = 0) : Kn.right s = true ∧ d.row.length = (Dd.cols s d.gone).length ∧ Kn.fitsAll (Dd.cols s d.gone) d.row = true := by
 unfold Dd.fitE at h
 unfold Dd.cols
 cases hg : d.gone
 ·rw [hg, if_neg (by decide)] at h
  rw [if_neg (by decide)]
  unfold Kn.fitsE at h
  by_cases h1 : Kn.right s = true
  ·rw [if_pos h1] at h
   by_cases h2 : d.row.length = s.length
   ·rw [if_pos h2] at h
    by_cases h3 : Kn.fitsAll s d.row = true
    ·exact ⟨h1, h2, h3⟩
    ·rw [if_neg h3] at h; cases h
   ·rw [if_neg h2] at h; cases h
  ·rw [if_neg h1] at h; cases h
 ·rw [hg, if_pos rfl] at h
  rw [if_pos rfl]
  by_cases h1 : Kn.right s = true
  ·rw [if_pos h1] at h
   have hl := Kn.right_len h1
   obtain ⟨g, row⟩ := d
   simp only at h ⊢
   match row, s, h, hl with
   | [k], c :: cs, h, _ =>
     simp only at h
     unfold Kn.keyE at h
     rw [if_pos h1] at h
     simp only at h
     by_cases h3 : Kn.fits c k = true
     ·exact ⟨h1, rfl, by simp [Kn.fitsAll, h3]⟩
     ·rw [if_neg h3] at h; cases h
   | [], _, h, _ => cases h
   | _ :: _ :: _, _, h, _ => cases h
   | [_], [], _, hl => simp at hl
  ·rw [if_neg h1] at h; cases h
theorem Dd.fitE_of {s : List Kn.C} {d : Dd.D} (h1 : Kn.right s = true) (h2 : d.row.length = (Dd.cols s d.gone).length) (h3 : Kn.fitsAll (Dd.cols s d.gone) d.row = true) : Dd.fitE s d = 0 := by
 unfold Dd.fitE
 unfold Dd.cols at h2 h3
 obtain ⟨g, row⟩ := d
 cases g
 ·simp only [Bool.false_eq_true, if_false] at h2 h3 ⊢
  unfold Kn.fitsE
  rw [if_pos h1, if_pos h2, if_pos h3]
 ·have hl := Kn.right_len h1
  simp only [if_true] at h2 h3 ⊢
  rw [if_pos h1]
  match s, row, h1, h2, h3, hl with
  | c :: cs, [k], h1, _, h3, _ =>
    simp only [Kn.fitsAll, List.take_succ_cons, List.take_zero, Bool.and_true] at h3
    show Kn.keyE (c :: cs) k = 0
    unfold Kn.keyE
    rw [if_pos h1]
    simp only
    rw [if_pos h3]
  | [], _, _, _, _, hl => simp at hl
  | c :: cs, [], _, h2, _, _ => simp at h2
  | c :: cs, _ :: _ :: _, _, h2, _, _ => simp at h2
theorem Dd.encR_cols {s : List Kn.C} {g : Bool} {row : List Kn.V} (h : row.length = (Dd.cols s g).length) : Dd.encR s row = Dd.encR (Dd.cols s g) row := by
 unfold Dd.cols at h ⊢
 cases g
 ·rfl
 ·rw [if_pos rfl] at h ⊢
  match s, row, h with
  | [], _, _ => rfl
  | c :: cs, [], h => simp at h
  | c :: cs, [v], _ => simp [Dd.encR]
  | c :: cs, _ :: _ :: _, h => simp at h
theorem Dd.rd_enc' {s : List Kn.C} {d : Dd.D} (h : Dd.fitE s d = 0) (hi : ∀ v ∈ d.row, I64 v.n) (r : List UInt8) : Dd.rd s (Dd.enc s d ++ r) = if r = [] then (0, d) else (5, ⟨false, []⟩) := by
 obtain ⟨h1, h2, h3⟩ := Dd.fitE_0 h
 have e := Dd.rdR_back (Dd.cols s d.gone) d.row h2 h3 hi r
 have ef : Dd.rdF (Dd.enc s d ++ r) = (0, d.gone, Dd.encR (Dd.cols s d.gone) d.row ++ r) := by
  unfold Dd.enc
  rw [List.cons_append, Dd.rdF_flag, Dd.encR_cols h2]
 unfold Dd.rd
 rw [ef]
 simp only [e, h1, ne_eq, not_true_eq_false, if_false, Bool.true_eq_false]
 by_cases hr : r = []
 ·rw [if_pos hr, if_neg (by simp [hr])]
 ·rw [if_neg hr, if_pos hr]
theorem Dd.rd_enc {s : List Kn.C} {d : Dd.D} (h : Dd.fitE s d = 0) (hi : ∀ v ∈ d.row, I64 v.n) : Dd.rd s (Dd.enc s d) = (0, d) := by
 have := Dd.rd_enc' h hi []
 rwa [List.append_nil, if_pos rfl] at this
theorem Dd.enc_rd {s : List Kn.C} {l : List UInt8} (h : (Dd.rd s l).1 = 0) : Dd.fitE s (Dd.rd s l).2 = 0 ∧ Dd.enc s (Dd.rd s l).2 = l ∧ ∀ v ∈ (Dd.rd s l).2.row, I64 v.n := by
 unfold Dd.rd at h ⊢
 by_cases h1 : Kn.right s = false
 ·rw [if_pos h1] at h; cases h
 ·rw [if_neg h1] at h ⊢
  by_cases h2 : (Dd.rdF l).1 ≠ 0
  ·rw [if_pos h2] at h; exact absurd h h2
  ·rw [if_neg h2] at h ⊢
   by_cases h3 : (Dd.rdR (Dd.cols s (Dd.rdF l).2.1) (Dd.rdF l).2.2).1 ≠ 0
   ·rw [if_pos h3] at h; exact absurd h h3
   ·rw [if_neg h3] at h ⊢
    by_cases h4 : (Dd.rdR (Dd.cols s (Dd.rdF l).2.1) (Dd.rdF l).2.2).2.2 ≠ []
    ·rw [if_pos h4] at h; cases h
    ·rw [if_neg h4]
     obtain ⟨b1, b2, b3, b4⟩ := Dd.rdR_only _ _ (by simpa using h3 : (Dd.rdR (Dd.cols s (Dd.rdF l).2.1) (Dd.rdF l).2.2).1 = 0)
     have hl := Dd.rdF_only (by simpa using h2)
     have e4 : (Dd.rdR (Dd.cols s (Dd.rdF l).2.1) (Dd.rdF l).2.2).2.2 = [] := by simpa using h4
     rw [e4, List.append_nil] at b1
     refine ⟨Dd.fitE_of (by simpa using h1) b2 b3, ?_, b4⟩
     unfold Dd.enc
     rw [Dd.encR_cols b2, ← b1]
     exact hl.symm
theorem Dd.more {s : List Kn.C} {l : List UInt8} (h : (Dd.rd s l).1 = 0) (x : UInt8) : (Dd.rd s (l ++ [x])).1 = 5 := by
 obtain ⟨h1, h2, h3⟩ := Dd.enc_rd h
 have := Dd.rd_enc' h1 h3 [x]
 rw [h2, if_neg (by simp)] at this
 rw [this]
theorem Dd.encV_pos {c : Kn.C} {v : Kn.V} (h : Kn.fits c v = true) : Dd.encV c v ≠ [] := by
 unfold Dd.encV
 by_cases hc : c.null = true
 ·rw [if_pos hc]; simp
 ·rw [if_neg hc, List.nil_append]
  cases hn : v.null
  ·rw [if_neg (by decide)]
   unfold Dd.encP
   split
   ·intro e
    have : 0 < (Ig.encI v.n).length := by unfold Ig.encI; rw [Ty.encU_length]; omega
    rw [e] at this
    simp at this
   ·intro e
    have : 0 < (encT v.s.data.toList).length := by unfold encT; rw [List.length_append, Ty.encU_length]; omega
    rw [e] at this
    simp at this
  ·exact absurd (Dd.fits_null h hn).2 hc
theorem Dd.fitsAll_snoc : ∀ (s : List Kn.C) (c : Kn.C) (vs : List Kn.V) (v : Kn.V), vs.length = s.length → Kn.fitsAll (s ++ [c]) (vs ++ [v]) = (Kn.fitsAll s vs && Kn.fits c v)
 | [], c, [], v, _ => by simp [Kn.fitsAll]
 | [], _, _ :: _, _, h => by simp at h
 | _ :: _, _, [], _, h => by simp at h
 | a :: s, c, x :: vs, v, h => by
   simp only [List.cons_append, Kn.fitsAll]
   rw [Dd.fitsAll_snoc s c vs v (by simpa using h), Bool.and_assoc]
theorem Dd.encR_snoc : ∀ (s : List Kn.C) (c : Kn.C) (vs : List Kn.V) (v : Kn.V), vs.length = s.length → Dd.encR (s ++ [c]) (vs ++ [v]) = Dd.encR s vs ++ Dd.encV c v
 | [], c, [], v, _ => by simp [Dd.encR]
 | [], _, _ :: _, _, h => by simp at h
 | _ :: _, _, [], _, h => by simp at h
 | a :: s, c, x :: vs, v, h => by
   simp only [List.cons_append, Dd.encR]
   rw [Dd.encR_snoc s c vs v (by simpa using h), List.append_assoc]
theorem Dd.rdR_snoc : ∀ (s : List Kn.C) (c : Kn.C) (l : List UInt8), (Dd.rdR s l).1 = 0 → (Dd.rdR (s ++ [c]) l).1 = (Dd.rdV c (Dd.rdR s l).2.2).1
 | [], c, l, _ => by
   simp only [List.nil_append, Dd.rdR]
   by_cases h : (Dd.rdV c l).1 ≠ 0
   ·rw [if_pos h]
   ·rw [if_neg h]
    exact (by simpa using h : (Dd.rdV c l).1 = 0).symm
 | a :: s, c, l, h => by
   simp only [List.cons_append, Dd.rdR] at h ⊢
   by_cases h1 : (Dd.rdV a l).1 ≠ 0
   ·rw [if_pos h1] at h; exact absurd h h1
   ·rw [if_neg h1] at h ⊢
    rw [if_neg h1]
    exact Dd.rdR_snoc s c _ h
theorem Dd.cut {s : List Kn.C} {c : Kn.C} {vs : List Kn.V} (hs : Kn.right s = true) (h : Dd.fitE (s ++ [c]) ⟨false, vs⟩ = 0) (hi : ∀ v ∈ vs, I64 v.n) : (Dd.rd s (Dd.enc (s ++ [c]) ⟨false, vs⟩)).1 = 5 := by
 obtain ⟨h1, h2, h3⟩ := Dd.fitE_0 h
 have hl : vs.length = s.length + 1 := by simpa [Dd.cols] using h2
 have hne : vs ≠ [] := by intro e; rw [e] at hl; simp at hl
 have e := (List.dropLast_concat_getLast hne).symm
 have hdl : vs.dropLast.length = s.length := by rw [List.length_dropLast]; omega
 have h3' : Kn.fitsAll (s ++ [c]) (vs.dropLast ++ [vs.getLast hne]) = true := by rw [← e]; simpa [Dd.cols] using h3
 rw [Dd.fitsAll_snoc _ _ _ _ hdl, Bool.and_eq_true] at h3'
 have hf : Dd.fitE s ⟨false, vs.dropLast⟩ = 0 := Dd.fitE_of hs hdl h3'.1
 have := Dd.rd_enc' hf (fun v hv => hi v (List.dropLast_subset _ hv)) (Dd.encV c (vs.getLast hne))
 rw [if_neg (Dd.encV_pos h3'.2)] at this
 have e2 : Dd.enc (s ++ [c]) ⟨false, vs⟩ = Dd.enc s ⟨false, vs.dropLast⟩ ++ Dd.encV c (vs.getLast hne) := by
  show Dd.flag false :: Dd.encR (s ++ [c]) vs = Dd.flag false :: Dd.encR s vs.dropLast ++ _
  conv => lhs; rw [e]
  rw [Dd.encR_snoc _ _ _ _ hdl]
  rfl
 rw [e2, this]
theorem Dd.wide {s : List Kn.C} {vs : List Kn.V} (hs : Kn.right (s ++ [⟨1, false⟩]) = true) (h : Dd.fitE s ⟨false, vs⟩ = 0) (hi : ∀ v ∈ vs, I64 v.n) : (Dd.rd (s ++ [⟨1, false⟩]) (Dd.enc s ⟨false, vs⟩)).1 = 2 := by
 obtain ⟨h1, h2, h3⟩ := Dd.fitE_0 h
 have e := Dd.rdR_back s vs h2 h3 hi []
 rw [List.append_nil] at e
 have e2 := Dd.rdR_snoc s ⟨1, false⟩ (Dd.encR s vs) (by rw [e])
 rw [e] at e2
 have e3 : (Dd.rdV ⟨1, false⟩ []).1 = 2 := rfl
 simp only at e2
 rw [e3] at e2
 have ef : Dd.rdF (Dd.enc s ⟨false, vs⟩) = (0, false, Dd.encR s vs) := Dd.rdF_flag false _
 have ec : Dd.cols (s ++ [⟨1, false⟩]) false = s ++ [⟨1, false⟩] := rfl
 unfold Dd.rd
 rw [ef]
 simp only [hs, ne_eq, not_true_eq_false, if_false, Bool.true_eq_false, ec]
 rw [if_pos (by rw [e2]; decide), e2]
end Go.Proofs.YtbelkhkllneifaaGreatDoor
namespace Go.Proofs.YtbelkhkllneifaaGreatDoor
open Go
open Ty (num txt encU U64 I64)
open Ig (rest)
open Tx (encT)
def Bk.key (d : Dd.D) : Kn.V := d.row.headD Cl.nul
def Bk.nod : Dd.D := ⟨false, []⟩
def Bk.step (L : List Dd.D) (k : Nat) : Bool := !(L.getD k Bk.nod).row.isEmpty && (k == 0 || decide (Kn.cmp (Bk.key (L.getD (k - 1) Bk.nod)) (Bk.key (L.getD k Bk.nod)) < 0))
def Bk.sorted (L : List Dd.D) : Bool := (List.range L.length).all (Bk.step L)
def Bk.firstE (s : List Kn.C) : List Dd.D → Int
 | [] => 0
 | d :: r => if Dd.fitE s d = 0 then Bk.firstE s r else Dd.fitE s d
def Bk.fitsE (s : List Kn.C) (L : List Dd.D) : Int := if Bk.firstE s L = 0 then (if Bk.sorted L = true then 0 else 1) else Bk.firstE s L
def Bk.wE (s : List Kn.C) (L : List Dd.D) : Int := if Kn.right s = true then (if L.length < 1 ∨ 8 < L.length then 1 else Bk.fitsE s L) else 4
def Bk.has (i : Nat) (d : Dd.D) : Bool := i == 0 || !d.gone
def Bk.col (L : List Dd.D) (i : Nat) : List Kn.V := (L.filter (Bk.has i)).map fun d => d.row.getD i Cl.nul
def Bk.gones (L : List Dd.D) (i : Nat) : Bool := (L.getD i Bk.nod).gone
def Bk.encC : Nat → List Kn.C → List Dd.D → List UInt8
 | _, [], _ => []
 | i, c :: s, L => encT (Cl.enc c (Bk.col L i)) ++ Bk.encC (i + 1) s L
def Bk.bools (L : List Dd.D) : List UInt8 := (Bt.bytes (Bt.need L.length) (Bt.tr L.length (Bk.gones L))).data.toList
def Bk.enc (s : List Kn.C) (L : List Dd.D) : List UInt8 := encU L.length ++ (Bk.bools L ++ Bk.encC 0 s L)
def Bk.dist (i : Nat) : List Dd.D → List Kn.V → List Dd.D
 | [], _ => []
 | d :: r, vs => if Bk.has i d = true then ⟨d.gone, d.row ++ [vs.headD Cl.nul]⟩ :: Bk.dist i r vs.tail else d :: Bk.dist i r vs
def Bk.most : Int := 1048576
def Bk.restM (l : List UInt8) : List UInt8 := l.drop (txt l Bk.most).2.1
def Bk.rdC : Nat → List Kn.C → List Dd.D → List UInt8 → Option (List Dd.D × List UInt8)
 | _, [], A, l => some (A, l)
 | i, c :: s, A, l => if (txt l Bk.most).2.2 = 0 ∧ (Cl.rd c (txt l Bk.most).1).1 = 0 ∧ (Cl.rd c (txt l Bk.most).1).2.length = (A.filter (Bk.has i)).length then Bk.rdC (i + 1) s (Bk.dist i A (Cl.rd c (txt l Bk.most).1).2) (Bk.restM l) else none
def Bk.none_ (n : Nat) (b : UInt8) : List Dd.D := (List.range n).map fun i => ⟨b.toNat.testBit i, []⟩
def Bk.rd (s : List Kn.C) (l : List UInt8) : Nat × List Dd.D :=
 if Kn.right s = false then (4, [])
 else if (num l).2.2 ≠ 0 then (8, [])
 else match rest l with
  | [] => (8, [])
  | b :: r => if (num l).1 < 1 ∨ 8 < (num l).1 ∨ b.toNat / 2 ^ (num l).1 ≠ 0 then (8, [])
    else match Bk.rdC 0 s (Bk.none_ (num l).1 b) r with
     | none => (8, [])
     | some (L, r') => if r' = [] ∧ Bk.sorted L = true then (0, L) else (8, [])
theorem Bk.read_txt (t : Tx.Str) (h : t.length ≤ 1048576) (r : List UInt8) : (txt (encT t ++ r) Bk.most).2.2 = 0 ∧ (txt (encT t ++ r) Bk.most).1 = t ∧ Bk.restM (encT t ++ r) = r := by
 have e : num (encT t ++ r) = (t.length, (encU t.length).length, 0) := by
  unfold encT
  rw [List.append_assoc]
  exact Ty.num_encU _ (by unfold U64; omega) _
 have e0 : (num (encT t ++ r)).2.2 = 0 := by rw [e]
 have e1 : (num (encT t ++ r)).1 = t.length := by rw [e]
 have e2 : (num (encT t ++ r)).2.1 = (encU t.length).length := by rw [e]
 have hl : (encT t ++ r).length = (encU t.length).length + (t.length + r.length) := by simp [encT]
 have hw := Ty.txt_whole (most := Bk.most) e0 (by rw [e1]; unfold Bk.most; omega) (by rw [e1, e2, hl]; omega)
 have hd : (encT t ++ r).drop (encU t.length).length = t ++ r := by simp [encT]
 refine ⟨by rw [hw], by rw [hw, e1, e2, hd]; simp, ?_⟩
 unfold Bk.restM
 rw [hw, e1, e2, ← List.drop_drop, hd]
 simp
theorem Bk.split_txt {l : List UInt8} (h : (txt l Bk.most).2.2 = 0) : l = encT (txt l Bk.most).1 ++ Bk.restM l := by
 have h1 : (num l).2.2 = 0 := by
  rcases Nat.eq_zero_or_pos (num l).2.2 with h1 | h1
  ·exact h1
  ·rw [Ty.txt_bad (by omega)] at h
   exact h
 by_cases h2 : Bk.most < 0 ∨ Bk.most < ((num l).1 : Int)
 ·rw [Ty.txt_long h1 h2] at h
  cases h
 ·by_cases h3 : l.length - (num l).2.1 < (num l).1
  ·rw [Ty.txt_short h1 h2 h3] at h
   cases h
  ·have hw := Ty.txt_whole h1 h2 h3
   have hs := Ty.encU_num l h1
   have hlen : ((l.drop (num l).2.1).take (num l).1).length = (num l).1 := by
    rw [List.length_take, List.length_drop]; omega
   unfold Bk.restM
   rw [hw]
   unfold encT
   rw [hlen, hs.1, ← List.drop_drop, List.append_assoc, List.take_append_drop, List.take_append_drop]
theorem Bk.flat_le {α : Type} (f : α → List UInt8) (m : Nat) : ∀ l : List α, (∀ x ∈ l, (f x).length ≤ m) → (l.flatMap f).length ≤ l.length * m
 | [], _ => by simp
 | x :: l, h => by
   have h1 := h x (List.mem_cons_self ..)
   have h2 := Bk.flat_le f m l fun y hy => h y (List.mem_cons_of_mem _ hy)
   rw [List.flatMap_cons, List.length_append, List.length_cons, Nat.succ_mul]
   omega
theorem Bk.encU_le (n : Nat) : (encU n).length ≤ 9 := Ty.encU_len9 n
theorem Bk.bestK_least (L : List Tx.Str) : (Tx.enc (Tx.bestK L) L).length ≤ (Tx.enc 0 L).length := by
 unfold Tx.bestK
 split
 ·omega
 ·exact Nat.le_refl _
theorem Bk.enc_le {c : Kn.C} {l : List Kn.V} (h : Cl.wE c l = 0) (hl : l.length ≤ 8) : (Cl.enc c l).length ≤ 1048576 := by
 have hall : l.all (Cl.is c) = true ∧ c.good = true := by
  unfold Cl.wE at h
  by_cases h1 : c.good = true
  ·rw [if_pos h1, if_neg (by omega)] at h
   by_cases h2 : l.all (Cl.is c) = true
   ·exact ⟨h2, h1⟩
   ·rw [if_neg h2] at h; cases h
  ·rw [if_neg h1] at h; cases h
 have hn := Cl.nums_len l
 have hw := Cl.words_len l
 have h1 := Bk.encU_le l.length
 have h2 : (Bt.bytes (Bt.need l.length) (Bt.tr l.length (Cl.nulls l))).data.toList.length ≤ 1 := by
  rw [Bt.length_data, Bt.size_bytes]
  unfold Bt.need
  omega
 have h3 : (Cl.vals c l).length ≤ 1000 := by
  unfold Cl.vals
  by_cases hk : c.k = 1
  ·rw [if_pos hk]
   have e1 := Ig.bk_least (Cl.nums l) 3 0 (by omega)
   have e2 : (Ig.enc 0 (Cl.nums l)).length ≤ 1 + 9 + (Cl.nums l).length * 9 := by
    unfold Ig.enc Ig.body
    rw [if_pos rfl, List.length_cons, List.length_append]
    have a := Bk.encU_le (Cl.nums l).length
    have b := Bk.flat_le Ig.encI 9 (Cl.nums l) fun x _ => by unfold Ig.encI; exact Bk.encU_le _
    omega
   omega
  ·rw [if_neg hk]
   have e1 := Bk.bestK_least (Cl.words l)
   have e2 : (Tx.enc 0 (Cl.words l)).length ≤ 1 + 9 + (Cl.words l).length * 73 := by
    unfold Tx.enc Tx.body
    rw [if_pos rfl, List.length_cons, List.length_append]
    have a := Bk.encU_le (Cl.words l).length
    have b := Bk.flat_le Tx.encT 73 (Cl.words l) fun x hx => by
     unfold Cl.words at hx
     obtain ⟨v, hv, rfl⟩ := List.mem_map.1 hx
     have := (Cl.is_str hk (Cl.live_is hall.1 v hv) (Cl.live_all v hv)).2
     unfold Tx.encT
     rw [List.length_append]
     have := Bk.encU_le v.s.data.toList.length
     omega
    omega
   omega
 unfold Cl.enc
 rw [List.length_append, List.length_append]
 omega
def Bk.cut (i : Nat) (L : List Dd.D) : List Dd.D := L.map fun d => ⟨d.gone, d.row.take i⟩
def Bk.Len (i : Nat) (A : List Dd.D) : Prop := ∀ d ∈ A, d.row.length = if d.gone = true then min i 1 else i
theorem Bk.has_gone {i : Nat} {d : Dd.D} (h : Bk.has i d = false) : d.gone = true ∧ 1 ≤ i := by
 unfold Bk.has at h
 rw [Bool.or_eq_false_iff] at h
 cases hg : d.gone
 ·rw [hg] at h; cases h.2
 ·have := h.1
  rw [beq_eq_false_iff_ne] at this
  exact ⟨rfl, by omega⟩
theorem Bk.has_len {i : Nat} {d : Dd.D} (h : Bk.has i d = true) (hl : d.row.length = if d.gone = true then min i 1 else i) : d.row.length = i := by
 unfold Bk.has at h
 rw [Bool.or_eq_true] at h
 rcases h with h | h
 ·have : i = 0 := by simpa using h
  subst this
  rw [hl]
  split <;> omega
 ·have hg : d.gone = false := by simpa using h
  rw [hl, hg]
  rfl
theorem Bk.dist_len : ∀ (i : Nat) (A : List Dd.D) (vs : List Kn.V), Bk.Len i A → Bk.Len (i + 1) (Bk.dist i A vs)
 | _, [], _, _ => fun d hd => by cases hd
 | i, x :: A, vs, h => fun d hd => by
   have hx := h x (List.mem_cons_self ..)
   have hA : Bk.Len i A := fun y hy => h y (List.mem_cons_of_mem _ hy)
   unfold Bk.dist at hd
   cases hh : Bk.has i x
   ·rw [hh, if_neg (by decide)] at hd
    obtain ⟨hg, hi⟩ := Bk.has_gone hh
    rcases List.mem_cons.1 hd with rfl | hd
    ·rw [hx, hg, if_pos rfl, if_pos rfl]
     omega
    ·exact Bk.dist_len i A vs hA d hd
   ·rw [hh, if_pos rfl] at hd
    have hl := Bk.has_len hh hx
    rcases List.mem_cons.1 hd with rfl | hd
    ·simp only [List.length_append, List.length_cons, List.length_nil]
     unfold Bk.has at hh
     cases hg : x.gone
     ·rw [if_neg (by decide)]; omega
     ·rw [hg] at hh
      have : i = 0 := by simpa using hh
      rw [if_pos rfl]
      omega
    ·exact Bk.dist_len i A vs.tail hA d hd
theorem Bk.dist_cut_back : ∀ (i : Nat) (A : List Dd.D) (vs : List Kn.V), Bk.Len i A → Bk.cut i (Bk.dist i A vs) = A
 | _, [], _, _ => rfl
 | i, x :: A, vs, h => by
   have hx := h x (List.mem_cons_self ..)
   have hA : Bk.Len i A := fun y hy => h y (List.mem_cons_of_mem _ hy)
   unfold Bk.dist
   cases hh : Bk.has i x
   ·rw [if_neg (by decide)]
    obtain ⟨hg, hi⟩ := Bk.has_gone hh
    have ih := Bk.dist_cut_back i A vs hA
    unfold Bk.cut at ih ⊢
    rw [List.map_cons, ih, List.take_of_length_le (by rw [hx, hg, if_pos rfl]; omega)]
   ·rw [if_pos rfl]
    have hl := Bk.has_len hh hx
    have ih := Bk.dist_cut_back i A vs.tail hA
    unfold Bk.cut at ih ⊢
    rw [List.map_cons, ih]
    simp only [← hl, List.take_left']
theorem Bk.dist_col : ∀ (i : Nat) (A : List Dd.D) (vs : List Kn.V), Bk.Len i A → vs.length = (A.filter (Bk.has i)).length → Bk.col (Bk.dist i A vs) i = vs
 | _, [], vs, _, h => by
   have : vs = [] := List.eq_nil_of_length_eq_zero (by simpa using h)
   subst this
   rfl
 | i, x :: A, vs, h, hn => by
   have hx := h x (List.mem_cons_self ..)
   have hA : Bk.Len i A := fun y hy => h y (List.mem_cons_of_mem _ hy)
   unfold Bk.dist
   cases hh : Bk.has i x
   ·rw [if_neg (by decide)]
    have ih := Bk.dist_col i A vs hA (by rw [List.filter_cons, hh] at hn; simpa using hn)
    unfold Bk.col at ih ⊢
    rw [List.filter_cons, hh, if_neg (by decide)]
    exact ih
   ·rw [if_pos rfl]
    have hl := Bk.has_len hh hx
    match vs, hn with
    | v :: vs, hn =>
      have ih := Bk.dist_col i A vs hA (by rw [List.filter_cons, hh, if_pos rfl] at hn; simpa using hn)
      unfold Bk.col at ih ⊢
      have hh2 : Bk.has i ⟨x.gone, x.row ++ [v]⟩ = true := hh
      simp only [List.headD_cons, List.tail_cons]
      rw [List.filter_cons, hh2, if_pos rfl, List.map_cons, ih]
      simp [← hl]
    | [], hn => rw [List.filter_cons, hh, if_pos rfl] at hn; simp at hn
theorem Bk.cut_cut {i j : Nat} (h : i ≤ j) (L : List Dd.D) : Bk.cut i (Bk.cut j L) = Bk.cut i L := by
 unfold Bk.cut
 rw [List.map_map]
 refine List.map_congr_left fun d _ => ?_
 simp only [Function.comp, List.take_take, Nat.min_eq_left h]
theorem Bk.col_cut {i j : Nat} (h : i < j) (L : List Dd.D) : Bk.col (Bk.cut j L) i = Bk.col L i := by
 unfold Bk.col Bk.cut
 rw [List.filter_map, List.map_map]
 have e : (Bk.has i ∘ fun d : Dd.D => (⟨d.gone, d.row.take j⟩ : Dd.D)) = Bk.has i := rfl
 rw [e]
 refine List.map_congr_left fun d _ => ?_
 simp only [Function.comp, List.getD_eq_getElem?_getD, List.getElem?_take, if_pos h]
theorem Bk.cut_has (i j : Nat) (L : List Dd.D) : ((Bk.cut j L).filter (Bk.has i)).length = (Bk.col L i).length := by
 unfold Bk.col Bk.cut
 rw [List.filter_map, List.length_map, List.length_map]
 rfl
end Go.Proofs.YtbelkhkllneifaaGreatDoor
namespace Go.Proofs.YtbelkhkllneifaaGreatDoor
open Go
open Ty (num txt encU U64 I64)
open Ig (rest)
open Tx (encT)
theorem Bk.cut_all {n : Nat} {L : List Dd.D} (h : Bk.Len n L) : Bk.cut n L = L := by
 unfold Bk.cut
 conv => rhs; rw [← List.map_id L]
 refine List.map_congr_left fun d hd => ?_
 have := h d hd
 rw [List.take_of_length_le (by rw [this]; split <;> omega)]
 rfl
theorem Bk.rdC_only : ∀ (s : List Kn.C) (i : Nat) (A : List Dd.D) (l : List UInt8) (L : List Dd.D) (l' : List UInt8), Bk.rdC i s A l = some (L, l') → Bk.Len i A →
 A = Bk.cut i L ∧ Bk.Len (i + s.length) L ∧ l = Bk.encC i s L ++ l' ∧ ∀ j c, s[j]? = some c → Cl.wE c (Bk.col L (i + j)) = 0 ∧ ∀ v ∈ Bk.col L (i + j), I64 v.n
 | [], i, A, l, L, l', h, hA => by
   simp only [Bk.rdC, Option.some.injEq, Prod.mk.injEq] at h
   obtain ⟨rfl, rfl⟩ := h
   exact ⟨(Bk.cut_all hA).symm, hA, rfl, fun j c hj => by simp at hj⟩
 | c :: s, i, A, l, L, l', h, hA => by
   unfold Bk.rdC at h
   by_cases hc : (txt l Bk.most).2.2 = 0 ∧ (Cl.rd c (txt l Bk.most).1).1 = 0 ∧ (Cl.rd c (txt l Bk.most).1).2.length = (A.filter (Bk.has i)).length
   ·rw [if_pos hc] at h
    obtain ⟨h1, h2, h3⟩ := hc
    obtain ⟨e1, e2, e3, e4⟩ := Bk.rdC_only s (i + 1) _ _ L l' h (Bk.dist_len i A _ hA)
    have hl := Bk.split_txt h1
    obtain ⟨k1, k2, _, k4⟩ := Cl.enc_rd h2
    have hcol := Bk.dist_col i A _ hA h3
    have hback := Bk.dist_cut_back i A (Cl.rd c (txt l Bk.most).1).2 hA
    rw [e1] at hcol hback
    rw [Bk.col_cut (by omega)] at hcol
    rw [Bk.cut_cut (by omega)] at hback
    refine ⟨hback.symm, by rw [List.length_cons, show i + (s.length + 1) = i + 1 + s.length by omega]; exact e2, ?_, fun j c' hj => ?_⟩
    ·unfold Bk.encC
     rw [hcol, k2, List.append_assoc, ← e3]
     exact hl
    ·match j, hj with
     | 0, hj =>
       obtain rfl : c = c' := by simpa using hj
       rw [Nat.add_zero, hcol]
       exact ⟨k1, k4⟩
     | j + 1, hj =>
       have := e4 j c' (by simpa using hj)
       rw [show i + (j + 1) = i + 1 + j by omega]
       exact this
   ·rw [if_neg hc] at h
    cases h
theorem Bk.dist_cut {n i : Nat} (hi : i < n) : ∀ L : List Dd.D, Bk.Len n L → Bk.dist i (Bk.cut i L) (Bk.col L i) = Bk.cut (i + 1) L
 | [], _ => rfl
 | d :: L, h => by
   have hd := h d (List.mem_cons_self ..)
   have ih := Bk.dist_cut hi L fun y hy => h y (List.mem_cons_of_mem _ hy)
   have hh : Bk.has i ⟨d.gone, d.row.take i⟩ = Bk.has i d := rfl
   unfold Bk.cut Bk.col at ih ⊢
   rw [List.map_cons, List.map_cons]
   unfold Bk.dist
   rw [hh]
   cases hb : Bk.has i d
   ·obtain ⟨hg, h1⟩ := Bk.has_gone hb
    rw [if_neg (by decide), List.filter_cons, hb, if_neg (by decide), ih]
    rw [hg, if_pos rfl] at hd
    rw [List.take_of_length_le (by omega), List.take_of_length_le (by omega)]
   ·rw [if_pos rfl, List.filter_cons, hb, if_pos rfl, List.map_cons, List.headD_cons, List.tail_cons, ih]
    have hlt : i < d.row.length := by
     unfold Bk.has at hb
     rw [hd]
     cases hg : d.gone
     ·rw [if_neg (by decide)]; exact hi
     ·rw [hg] at hb
      have : i = 0 := by simpa using hb
      rw [if_pos rfl]
      omega
    rw [List.take_succ_eq_append_getElem hlt, List.getD_eq_getElem?_getD, List.getElem?_eq_getElem hlt]
    rfl
theorem Bk.rdC_back : ∀ (s : List Kn.C) (i : Nat) (L : List Dd.D) (r : List UInt8), (∀ j c, s[j]? = some c → Cl.wE c (Bk.col L (i + j)) = 0 ∧ ∀ v ∈ Bk.col L (i + j), I64 v.n) → L.length ≤ 8 → Bk.Len (i + s.length) L →
 Bk.rdC i s (Bk.cut i L) (Bk.encC i s L ++ r) = some (L, r)
 | [], i, L, r, _, _, hL => by
   have hL : Bk.Len i L := hL
   unfold Bk.rdC Bk.encC
   rw [Bk.cut_all hL]
   rfl
 | c :: s, i, L, r, h, h8, hL => by
   obtain ⟨h1, h2⟩ := h 0 c rfl
   rw [Nat.add_zero] at h1 h2
   have hlen : (Bk.col L i).length ≤ 8 := by
    unfold Bk.col
    rw [List.length_map]
    exact Nat.le_trans (List.length_filter_le _ _) h8
   obtain ⟨t1, t2, t3⟩ := Bk.read_txt (Cl.enc c (Bk.col L i)) (Bk.enc_le h1 hlen) (Bk.encC (i + 1) s L ++ r)
   have hr := Cl.rd_enc h1 h2
   unfold Bk.rdC Bk.encC
   rw [List.append_assoc, t2, hr, t3, if_pos ⟨t1, rfl, (Bk.cut_has i i L).symm⟩]
   rw [List.length_cons] at hL
   rw [Bk.dist_cut (by omega) L hL]
   exact Bk.rdC_back s (i + 1) L r (fun j c' hj => by
    have := h (j + 1) c' (by simpa using hj)
    rw [show i + (j + 1) = i + 1 + j by omega] at this
    exact this) h8 (by rw [show i + 1 + s.length = i + (s.length + 1) by omega]; exact hL)
theorem Bk.firstE_0 {s : List Kn.C} : ∀ {L : List Dd.D}, Bk.firstE s L = 0 ↔ ∀ d ∈ L, Dd.fitE s d = 0
 | [] => by simp [Bk.firstE]
 | d :: L => by
   unfold Bk.firstE
   by_cases h : Dd.fitE s d = 0
   ·rw [if_pos h, Bk.firstE_0 (L := L)]
    simp [h]
   ·rw [if_neg h]
    simp [h]
theorem Bk.fitsAll_at : ∀ (s : List Kn.C) (r : List Kn.V), Kn.fitsAll s r = true → ∀ (j : Nat) (c : Kn.C) (v : Kn.V), s[j]? = some c → r[j]? = some v → Kn.fits c v = true
 | c :: s, v :: r, h, 0, c', v', hc, hv => by
   obtain rfl : c = c' := by simpa using hc
   obtain rfl : v = v' := by simpa using hv
   simp only [Kn.fitsAll, Bool.and_eq_true] at h
   exact h.1
 | c :: s, v :: r, h, j + 1, c', v', hc, hv => by
   simp only [Kn.fitsAll, Bool.and_eq_true] at h
   exact Bk.fitsAll_at s r h.2 j c' v' (by simpa using hc) (by simpa using hv)
 | [], _, _, _, _, _, hc, _ => by simp at hc
 | _ :: _, [], _, _, _, _, _, hv => by simp at hv
theorem Bk.fitsAll_of : ∀ (s : List Kn.C) (r : List Kn.V), (∀ (j : Nat) (c : Kn.C) (v : Kn.V), s[j]? = some c → r[j]? = some v → Kn.fits c v = true) → Kn.fitsAll s r = true
 | c :: s, v :: r, h => by
   simp only [Kn.fitsAll, Bool.and_eq_true]
   exact ⟨h 0 c v rfl rfl, Bk.fitsAll_of s r fun j c' v' hc hv => h (j + 1) c' v' (by simpa using hc) (by simpa using hv)⟩
 | [], _, _ => by simp [Kn.fitsAll]
 | _ :: _, [], _ => by simp [Kn.fitsAll]
theorem Bk.good_of {s : List Kn.C} (h : Kn.right s = true) {j : Nat} {c : Kn.C} (hc : s[j]? = some c) : c.good = true := by
 unfold Kn.right at h
 simp only [Bool.and_eq_true, List.all_eq_true] at h
 exact h.2 c (List.mem_of_getElem? hc)
theorem Bk.fits_is {c : Kn.C} (h : c.good = true) (v : Kn.V) : Kn.fits c v = Cl.is c v := by
 rw [Kn.isK_fits c v h]
 unfold Cl.is
 cases v.null <;> cases c.null <;> simp
theorem Bk.cols_at {s : List Kn.C} {g : Bool} {j : Nat} {c : Kn.C} : (Dd.cols s g)[j]? = some c ↔ (s[j]? = some c ∧ (g = true → j = 0)) := by
 unfold Dd.cols
 cases g
 ·simp
 ·rw [if_pos rfl, List.getElem?_take]
  by_cases hj : j < 1
  ·rw [if_pos hj]
   exact ⟨fun h => ⟨h, fun _ => by omega⟩, fun h => h.1⟩
  ·rw [if_neg hj]
   exact ⟨(fun h => by cases h), (fun h => by have := h.2 rfl; omega)⟩
theorem Bk.cols_len (s : List Kn.C) (g : Bool) : (Dd.cols s g).length = if g = true then min s.length 1 else s.length := by
 unfold Dd.cols
 cases g
 ·rfl
 ·rw [if_pos rfl, if_pos rfl, List.length_take]
  omega
theorem Bk.len_of {s : List Kn.C} {L : List Dd.D} (h : ∀ d ∈ L, Dd.fitE s d = 0) : Bk.Len s.length L := fun d hd => by
 rw [(Dd.fitE_0 (h d hd)).2.1, Bk.cols_len]
theorem Bk.has_zero {j : Nat} {d : Dd.D} : Bk.has j d = true ↔ (d.gone = true → j = 0) := by
 unfold Bk.has
 cases d.gone <;> simp
theorem Bk.mem_col {L : List Dd.D} {j : Nat} {v : Kn.V} : v ∈ Bk.col L j ↔ ∃ d ∈ L, Bk.has j d = true ∧ v = d.row.getD j Cl.nul := by
 unfold Bk.col
 constructor
 ·intro h
  obtain ⟨d, hd, rfl⟩ := List.mem_map.1 h
  obtain ⟨h1, h2⟩ := List.mem_filter.1 hd
  exact ⟨d, h1, h2, rfl⟩
 ·rintro ⟨d, h1, h2, rfl⟩
  exact List.mem_map.2 ⟨d, List.mem_filter.2 ⟨h1, h2⟩, rfl⟩
theorem Bk.col_fit {s : List Kn.C} {L : List Dd.D} (hr : Kn.right s = true) (h8 : L.length ≤ 8) (h : ∀ d ∈ L, Dd.fitE s d = 0) {j : Nat} {c : Kn.C} (hc : s[j]? = some c) : Cl.wE c (Bk.col L j) = 0 := by
 have hg := Bk.good_of hr hc
 have hlen : (Bk.col L j).length ≤ 8 := by
  unfold Bk.col
  rw [List.length_map]
  exact Nat.le_trans (List.length_filter_le _ _) h8
 unfold Cl.wE
 rw [if_pos hg, if_neg (by omega), if_pos]
 rw [List.all_eq_true]
 intro v hv
 obtain ⟨d, hd, hh, rfl⟩ := Bk.mem_col.1 hv
 obtain ⟨_, h2, h3⟩ := Dd.fitE_0 (h d hd)
 have hcol : (Dd.cols s d.gone)[j]? = some c := Bk.cols_at.2 ⟨hc, Bk.has_zero.1 hh⟩
 have hj : j < d.row.length := by rw [h2]; exact (List.getElem?_eq_some_iff.1 hcol).1
 rw [List.getD_eq_getElem?_getD, List.getElem?_eq_getElem hj, Option.getD_some, ← Bk.fits_is hg]
 exact Bk.fitsAll_at _ _ h3 j c _ hcol (List.getElem?_eq_getElem hj)
theorem Bk.fit_col {s : List Kn.C} {L : List Dd.D} (hr : Kn.right s = true) (hL : Bk.Len s.length L) (h : ∀ j c, s[j]? = some c → Cl.wE c (Bk.col L j) = 0) : ∀ d ∈ L, Dd.fitE s d = 0 := fun d hd => by
 refine Dd.fitE_of hr (by rw [hL d hd, Bk.cols_len]) (Bk.fitsAll_of _ _ fun j c v hc hv => ?_)
 obtain ⟨hc1, hc2⟩ := Bk.cols_at.1 hc
 have hg := Bk.good_of hr hc1
 have hw := h j c hc1
 unfold Cl.wE at hw
 rw [if_pos hg] at hw
 by_cases h1 : 65536 < (Bk.col L j).length
 ·rw [if_pos h1] at hw; cases hw
 ·rw [if_neg h1] at hw
  by_cases h2 : (Bk.col L j).all (Cl.is c) = true
  ·rw [Bk.fits_is hg]
   refine List.all_eq_true.1 h2 v (Bk.mem_col.2 ⟨d, hd, Bk.has_zero.2 hc2, ?_⟩)
   rw [List.getD_eq_getElem?_getD, hv]
   rfl
  ·rw [if_neg h2] at hw; cases hw
theorem Bk.bools_one {L : List Dd.D} (h1 : 1 ≤ L.length) (h8 : L.length ≤ 8) : Bk.bools L = [UInt8.ofNat (Bt.oct (Bt.tr L.length (Bk.gones L)) 0)] := by
 unfold Bk.bools Bt.bytes
 have : Bt.need L.length = 1 := by unfold Bt.need; omega
 rw [this]
 rfl
theorem Bk.bool_bit {n : Nat} {F : Nat → Bool} (h8 : n ≤ 8) : (∀ i, i < n → (UInt8.ofNat (Bt.oct (Bt.tr n F) 0)).toNat.testBit i = F i) ∧ (UInt8.ofNat (Bt.oct (Bt.tr n F) 0)).toNat / 2 ^ n = 0 := by
 rw [Bt.toNat_oct]
 unfold Bt.oct
 have hb : ∀ i, (Bt.num 8 fun j => Bt.tr n F (8 * 0 + j)).testBit i = (decide (i < n) && F i) := fun i => by
  rw [Bt.testBit_num]
  unfold Bt.tr
  simp only [Nat.mul_zero, Nat.zero_add]
  by_cases hi : i < n
  ·simp [hi, show i < 8 by omega]
  ·simp [hi]
 refine ⟨fun i hi => by rw [hb]; simp [hi], Nat.div_eq_of_lt ?_⟩
 refine Nat.lt_pow_two_of_testBit _ fun i hi => ?_
 rw [hb]
 simp [show ¬ i < n by omega]
theorem Bk.byte_is {n : Nat} {F : Nat → Bool} {b : UInt8} (hF : ∀ i, i < n → F i = b.toNat.testBit i) (hz : b.toNat / 2 ^ n = 0) : UInt8.ofNat (Bt.oct (Bt.tr n F) 0) = b := by
 apply UInt8.toNat_inj.1
 rw [Bt.toNat_oct]
 unfold Bt.oct
 refine Bt.num_is b.toNat_lt fun j _ => ?_
 unfold Bt.tr
 simp only [Nat.mul_zero, Nat.zero_add]
 by_cases hj : j < n
 ·simp [hj, hF j hj]
 ·have hlt : b.toNat < 2 ^ n := by
   rcases Nat.lt_or_ge b.toNat (2 ^ n) with h | h
   ·exact h
   ·have := Nat.div_pos h (Nat.two_pow_pos n); omega
  simp only [hj, decide_false, Bool.false_and]
  exact Nat.testBit_lt_two_pow (Nat.lt_of_lt_of_le hlt (Nat.pow_le_pow_right (by omega) (by omega)))
theorem Bk.none_cut {n : Nat} {b : UInt8} {L : List Dd.D} : Bk.none_ n b = Bk.cut 0 L ↔ L.length = n ∧ ∀ i, i < n → Bk.gones L i = b.toNat.testBit i := by
 unfold Bk.none_ Bk.cut Bk.gones
 constructor
 ·intro h
  have hl : n = L.length := by simpa using congrArg List.length h
  refine ⟨hl.symm, fun i hi => ?_⟩
  have := congrArg (fun l => l[i]?) h
  simp only [List.getElem?_map, List.getElem?_range hi, Option.map_some] at this
  rw [List.getElem?_eq_getElem (by omega), Option.map_some, Option.some.injEq, Dd.D.mk.injEq] at this
  rw [List.getD_eq_getElem?_getD, List.getElem?_eq_getElem (by omega), Option.getD_some]
  exact this.1.symm
 ·rintro ⟨hl, hg⟩
  refine List.ext_getElem? fun i => ?_
  rw [List.getElem?_map, List.getElem?_map]
  by_cases hi : i < n
  ·have := hg i hi
   rw [List.getD_eq_getElem?_getD, List.getElem?_eq_getElem (by omega), Option.getD_some] at this
   rw [List.getElem?_range hi, List.getElem?_eq_getElem (by omega), Option.map_some, Option.map_some, this]
   rfl
  ·rw [List.getElem?_eq_none (by simp; omega), List.getElem?_eq_none (by omega)]
   rfl
theorem Bk.len0 (n : Nat) (b : UInt8) : Bk.Len 0 (Bk.none_ n b) := fun d hd => by
 unfold Bk.none_ at hd
 obtain ⟨i, _, rfl⟩ := List.mem_map.1 hd
 simp
theorem Bk.wE_0 {s : List Kn.C} {L : List Dd.D} (h : Bk.wE s L = 0) : Kn.right s = true ∧ 1 ≤ L.length ∧ L.length ≤ 8 ∧ (∀ d ∈ L, Dd.fitE s d = 0) ∧ Bk.sorted L = true := by
 unfold Bk.wE Bk.fitsE at h
 by_cases h1 : Kn.right s = true
 ·rw [if_pos h1] at h
  by_cases h2 : L.length < 1 ∨ 8 < L.length
  ·rw [if_pos h2] at h; cases h
  ·rw [if_neg h2] at h
   by_cases h3 : Bk.firstE s L = 0
   ·rw [if_pos h3] at h
    by_cases h4 : Bk.sorted L = true
    ·exact ⟨h1, by omega, by omega, Bk.firstE_0.1 h3, h4⟩
    ·rw [if_neg h4] at h; cases h
   ·rw [if_neg h3] at h; exact absurd h h3
 ·rw [if_neg h1] at h; cases h
theorem Bk.wE_of {s : List Kn.C} {L : List Dd.D} (h1 : Kn.right s = true) (h2 : 1 ≤ L.length) (h3 : L.length ≤ 8) (h4 : ∀ d ∈ L, Dd.fitE s d = 0) (h5 : Bk.sorted L = true) : Bk.wE s L = 0 := by
 unfold Bk.wE Bk.fitsE
 rw [if_pos h1, if_neg (by omega), if_pos (Bk.firstE_0.2 h4), if_pos h5]
theorem Bk.rd_enc {s : List Kn.C} {L : List Dd.D} (h : Bk.wE s L = 0) (hi : ∀ d ∈ L, ∀ v ∈ d.row, I64 v.n) : Bk.rd s (Bk.enc s L) = (0, L) := by
 obtain ⟨hr, h1, h8, hf, hs⟩ := Bk.wE_0 h
 have hn := Ty.num_encU L.length (by unfold U64; omega) (Bk.bools L ++ Bk.encC 0 s L)
 have hrest : rest (Bk.enc s L) = Bk.bools L ++ Bk.encC 0 s L := by
  unfold rest Bk.enc
  rw [hn]
  simp
 have hnum : num (Bk.enc s L) = (L.length, (encU L.length).length, 0) := hn
 obtain ⟨hb1, hb2⟩ := Bk.bool_bit (n := L.length) (F := Bk.gones L) h8
 have hco : ∀ j c, s[j]? = some c → Cl.wE c (Bk.col L (0 + j)) = 0 ∧ ∀ v ∈ Bk.col L (0 + j), I64 v.n := fun j c hc => by
  rw [Nat.zero_add]
  refine ⟨Bk.col_fit hr h8 hf hc, fun v hv => ?_⟩
  obtain ⟨d, hd, hh, rfl⟩ := Bk.mem_col.1 hv
  have hcol : (Dd.cols s d.gone)[j]? = some c := Bk.cols_at.2 ⟨hc, Bk.has_zero.1 hh⟩
  have hj : j < d.row.length := by rw [(Dd.fitE_0 (hf d hd)).2.1]; exact (List.getElem?_eq_some_iff.1 hcol).1
  rw [List.getD_eq_getElem?_getD, List.getElem?_eq_getElem hj, Option.getD_some]
  exact hi d hd _ (List.getElem_mem hj)
 have hL : Bk.Len (0 + s.length) L := by rw [Nat.zero_add]; exact Bk.len_of hf
 have hc := Bk.rdC_back s 0 L [] hco h8 hL
 rw [List.append_nil, ← Bk.none_cut.2 ⟨rfl, fun i hi => (hb1 i hi).symm⟩] at hc
 unfold Bk.rd
 rw [hr, if_neg (by decide), hnum, if_neg (show ¬ (0 : Nat) ≠ 0 by decide), hrest, Bk.bools_one h1 h8]
 simp only [List.singleton_append]
 rw [if_neg (by rw [hb2]; omega), hc]
 simp [hs]
theorem Bk.enc_rd {s : List Kn.C} {l : List UInt8} (h : (Bk.rd s l).1 = 0) : Bk.wE s (Bk.rd s l).2 = 0 ∧ Bk.enc s (Bk.rd s l).2 = l ∧ ∀ d ∈ (Bk.rd s l).2, ∀ v ∈ d.row, I64 v.n := by
 unfold Bk.rd at h ⊢
 by_cases h1 : Kn.right s = false
 ·rw [if_pos h1] at h; cases h
 rw [if_neg h1] at h ⊢
 by_cases h2 : (num l).2.2 ≠ 0
 ·rw [if_pos h2] at h; cases h
 rw [if_neg h2] at h ⊢
 have hsplit := Ig.splitU (l := l) (by omega)
 generalize rest l = q at h hsplit ⊢
 cases q with
 | nil => simp at h
 | cons b r =>
   simp only at h ⊢
   by_cases h3 : (num l).1 < 1 ∨ 8 < (num l).1 ∨ b.toNat / 2 ^ (num l).1 ≠ 0
   ·rw [if_pos h3] at h; cases h
   rw [if_neg h3] at h ⊢
   generalize hq : Bk.rdC 0 s (Bk.none_ (num l).1 b) r = Q at h ⊢
   match Q, h with
   | none, h => cases h
   | some (L, r'), h =>
     simp only at h ⊢
     by_cases h4 : r' = [] ∧ Bk.sorted L = true
     ·rw [if_pos h4] at h ⊢
      obtain ⟨rfl, hs⟩ := h4
      obtain ⟨e1, e2, e3, e4⟩ := Bk.rdC_only s 0 _ r L [] hq (Bk.len0 _ _)
      rw [Nat.zero_add] at e2
      obtain ⟨k1, k2⟩ := Bk.none_cut.1 e1
      have hr : Kn.right s = true := by cases hh : Kn.right s; exact absurd hh h1; rfl
      have hco : ∀ j c, s[j]? = some c → Cl.wE c (Bk.col L j) = 0 := fun j c hc => by have := (e4 j c hc).1; rwa [Nat.zero_add] at this
      have hf := Bk.fit_col hr e2 hco
      have hl1 : 1 ≤ L.length := by omega
      have hl8 : L.length ≤ 8 := by omega
      refine ⟨Bk.wE_of hr hl1 hl8 hf hs, ?_, fun d hd v hv => ?_⟩
      ·show Bk.enc s L = l
       unfold Bk.enc
       rw [Bk.bools_one (by omega) (by omega), k1, Bk.byte_is k2 (by omega)]
       rw [List.append_nil] at e3
       rw [← e3]
       exact hsplit.symm
      ·obtain ⟨j, hj, rfl⟩ := List.mem_iff_getElem.1 hv
       have hlen := (Dd.fitE_0 (hf d hd)).2.1
       have hc := List.getElem?_eq_getElem (l := Dd.cols s d.gone) (i := j) (by rw [← hlen]; exact hj)
       obtain ⟨hc1, hc2⟩ := Bk.cols_at.1 hc
       have := (e4 j _ hc1).2 (d.row[j]) (by
        rw [Nat.zero_add]
        refine Bk.mem_col.2 ⟨d, hd, Bk.has_zero.2 hc2, ?_⟩
        rw [List.getD_eq_getElem?_getD, List.getElem?_eq_getElem hj]
        rfl)
       exact this
     ·rw [if_neg h4] at h; cases h
end Go.Proofs.YtbelkhkllneifaaGreatDoor
namespace Go.Proofs.YtbelkhkllneifaaGreatDoor.Fr
open Go
def P : Nat := 2197175160
def T (r : Nat) : Nat := (r / 2) ^^^ (if r % 2 = 1 then P else 0)
theorem xor_half (a b : Nat) : (a ^^^ b) / 2 = (a / 2) ^^^ (b / 2) := by
 have := Nat.shiftRight_xor_distrib (a := a) (b := b) (i := 1)
 simpa [Nat.shiftRight_eq_div_pow] using this
theorem xor_odd (a b : Nat) : (a ^^^ b) % 2 = (a + b) % 2 := by
 have h := Nat.testBit_xor a b 0
 simp only [Nat.testBit_zero] at h
 rcases Nat.mod_two_eq_zero_or_one a with ha | ha <;> rcases Nat.mod_two_eq_zero_or_one b with hb | hb <;> rcases Nat.mod_two_eq_zero_or_one (a ^^^ b) with hc | hc <;> simp [ha, hb, hc] at h <;> omega
theorem T_xor (a b : Nat) : T (a ^^^ b) = T a ^^^ T b := by
 unfold T
 rw [xor_half, xor_odd]
 rcases Nat.mod_two_eq_zero_or_one a with ha | ha <;> rcases Nat.mod_two_eq_zero_or_one b with hb | hb
 ·rw [if_neg (by omega), if_neg (by omega), if_neg (by omega)]; simp
 ·rw [if_pos (by omega), if_neg (by omega), if_pos hb]; simp [Nat.xor_assoc]
 ·rw [if_pos (by omega), if_pos ha, if_neg (by omega)]
  rw [Nat.xor_zero, Nat.xor_assoc, Nat.xor_assoc, Nat.xor_comm P]
 ·rw [if_neg (by omega), if_pos ha, if_pos hb, Nat.xor_zero]
  have e : (a / 2 ^^^ P) ^^^ (b / 2 ^^^ P) = (a / 2 ^^^ b / 2) ^^^ (P ^^^ P) := by
   rw [Nat.xor_assoc, Nat.xor_assoc, ← Nat.xor_assoc P, Nat.xor_comm P, Nat.xor_assoc]
  rw [e, Nat.xor_self, Nat.xor_zero]
theorem T_double (r : Nat) : T (2 * r) = r := by
 unfold T
 rw [if_neg (by omega), Nat.xor_zero]
 omega
theorem T_lt {r : Nat} (h : r < 2 ^ 32) : T r < 2 ^ 32 := by
 unfold T
 refine Nat.xor_lt_two_pow (by omega) ?_
 split
 ·decide
 ·decide
def Tn : Nat → Nat → Nat
 | 0, r => r
 | k + 1, r => Tn k (T r)
theorem Tn_add (j k r : Nat) : Tn (j + k) r = Tn k (Tn j r) := by
 induction j generalizing r with
 | zero => rw [Nat.zero_add]; rfl
 | succ j ih => rw [Nat.succ_add]; exact ih (T r)
theorem Tn_xor (k a b : Nat) : Tn k (a ^^^ b) = Tn k a ^^^ Tn k b := by
 induction k generalizing a b with
 | zero => rfl
 | succ k ih =>
   show Tn k (T (a ^^^ b)) = _
   rw [T_xor]
   exact ih (T a) (T b)
theorem Tn_shift (k r : Nat) : Tn k (2 ^ k * r) = r := by
 induction k generalizing r with
 | zero => simp [Tn]
 | succ k ih =>
   show Tn k (T (2 ^ (k + 1) * r)) = r
   have e : 2 ^ (k + 1) * r = 2 * (2 ^ k * r) := by rw [Nat.pow_succ, Nat.mul_comm (2 ^ k) 2, Nat.mul_assoc]
   rw [e, T_double, ih]
theorem Tn_lt {k r : Nat} (h : r < 2 ^ 32) : Tn k r < 2 ^ 32 := by
 induction k generalizing r with
 | zero => exact h
 | succ k ih => exact ih (T_lt h)
theorem Tn_split (k r : Nat) : Tn k r = (r / 2 ^ k) ^^^ Tn k (r % 2 ^ k) := by
 have e : r = (2 ^ k * (r / 2 ^ k)) ^^^ (r % 2 ^ k) := by
  have h := Nat.div_add_mod r (2 ^ k)
  have h2 := Nat.mod_lt r (Nat.two_pow_pos k)
  refine Nat.eq_of_testBit_eq fun i => ?_
  rw [Nat.testBit_xor, Nat.testBit_two_pow_mul, Nat.testBit_mod_two_pow, Nat.testBit_div_two_pow]
  by_cases hi : k ≤ i
  ·have h3 : ¬ i < k := by omega
   have h4 : i - k + k = i := by omega
   simp [hi, h3, h4]
  ·have h3 : i < k := by omega
   simp [hi, h3]
 conv => lhs; rw [e]
 rw [Tn_xor, Tn_shift]
def reg : Nat → List UInt8 → Nat
 | r, [] => r
 | r, b :: l => reg (Tn 8 (r ^^^ b.toNat)) l
def val : List UInt8 → Nat
 | [] => 0
 | b :: l => 256 * val l + b.toNat
theorem val_lt (l : List UInt8) : val l < 2 ^ (8 * l.length) := by
 induction l with
 | nil => simp [val]
 | cons b l ih =>
   have hb := b.toNat_lt
   have e : 2 ^ (8 * (b :: l).length) = 256 * 2 ^ (8 * l.length) := by
    rw [List.length_cons, Nat.mul_add, Nat.pow_add, Nat.mul_comm]
   rw [e]
   unfold val
   omega
theorem reg_append (a b : List UInt8) (r : Nat) : reg r (a ++ b) = reg (reg r a) b := by
 induction a generalizing r with
 | nil => rfl
 | cons x a ih => exact ih _
theorem reg_lt (l : List UInt8) : ∀ r, r < 2 ^ 32 → reg r l < 2 ^ 32 := by
 induction l with
 | nil => intro r h; exact h
 | cons b l ih =>
   intro r h
   exact ih _ (Tn_lt (Nat.xor_lt_two_pow h (Nat.lt_of_lt_of_le b.toNat_lt (by decide))))
def ones : Nat := 4294967295
def sum (l : List UInt8) : Nat := reg ones l ^^^ ones
theorem sum_lt (l : List UInt8) : sum l < 2 ^ 32 := Nat.xor_lt_two_pow (reg_lt l ones (by decide)) (by decide)
end Go.Proofs.YtbelkhkllneifaaGreatDoor.Fr
