import Derived.Test.YtodeodndjkkkbaaTAH
import Derived.Test.YtodeodndjkkkbaaTAJ
import Derived.Test.YtodeodndjkkkbaaTAK
namespace Go.Proofs.Ytodeodndjkkkbaa
section
open Go.RowKit
open Ty (num encU U64)
open Ig (rest read_encU splitU)
def Cl.is (c : Kn.C) (v : Kn.V) : Bool := Kn.isK c.k v && (!v.null || c.null)
def Cl.live (l : List Kn.V) : List Kn.V := l.filter fun v => !v.null
def Cl.nums (l : List Kn.V) : List Int := (Cl.live l).map fun v => v.n
def Cl.words (l : List Kn.V) : List Tx.Str := (Cl.live l).map fun v => v.s.data.toList
def Cl.vals (c : Kn.C) (l : List Kn.V) : List UInt8 := if c.k = 1 then Ig.enc (Ig.bk (Cl.nums l) 3) (Cl.nums l) else Tx.enc (Tx.bestK (Cl.words l)) (Cl.words l)
def Cl.nulls (l : List Kn.V) (i : Nat) : Bool := (l.getD i Cl.nul).null
def Cl.enc (c : Kn.C) (l : List Kn.V) : List UInt8 := encU l.length ++ ((Bt.bytes (Bt.need l.length) (Bt.tr l.length (Cl.nulls l))).data.toList ++ Cl.vals c l)
def Cl.wE (c : Kn.C) (l : List Kn.V) : Nat := if c.good = true then (if 65536 < l.length then 3 else if l.all (Cl.is c) = true then 0 else 6) else 4
def Cl.fill : List Bool → List Kn.V → Option (List Kn.V)
 | [], [] => some []
 | [], _ :: _ => none
 | true :: T, M => (Cl.fill T M).map (Cl.nul :: ·)
 | false :: _, [] => none
 | false :: T, x :: M => (Cl.fill T M).map (x :: ·)
def Cl.back (c : Kn.C) (r : List UInt8) : Nat × List Kn.V := if c.k = 1 then ((Ig.rd r).1, (Ig.rd r).2.map Cl.ofN) else ((Tx.rd r).1, (Tx.rd r).2.map Cl.ofS)
def Cl.bits (n : Nat) (s : ByteArray) : List Bool := (List.range n).map (Bt.bit s)
def Cl.rdV (c : Kn.C) (T : List Bool) (r : List UInt8) : Nat × List Kn.V :=
 if (Cl.back c r).1 ≠ 0 then ((Cl.back c r).1, [])
 else match Cl.fill T (Cl.back c r).2 with
  | none => (4, [])
  | some out => if Cl.vals c out = r then (0, out) else (4, [])
def Cl.rd (c : Kn.C) (l : List UInt8) : Nat × List Kn.V :=
 if c.good = false then (4, [])
 else if (num l).2.2 ≠ 0 then ((num l).2.2, [])
 else if 65536 < (num l).1 then (3, [])
 else if (rest l).length < Bt.need (num l).1 then (2, [])
 else if Bt.chk (Ty.S ((rest l).take (Bt.need (num l).1))) (num l).1 ≠ 0 then (Bt.chk (Ty.S ((rest l).take (Bt.need (num l).1))) (num l).1, [])
 else if (!c.null && (Cl.bits (num l).1 (Ty.S ((rest l).take (Bt.need (num l).1)))).any id) = true then (6, [])
 else Cl.rdV c (Cl.bits (num l).1 (Ty.S ((rest l).take (Bt.need (num l).1)))) ((rest l).drop (Bt.need (num l).1))
end
section
open Go.RowKit
open Ty (num txt encU U64 I64)
open Ig (rest sg encI read_encI splitI)
open Tx (encT restT read_encT splitT)
structure Dd.D where
 gone : Bool
 row : List Kn.V
def Dd.flag (b : Bool) : UInt8 := if b = true then 1 else 0
def Dd.encP (c : Kn.C) (v : Kn.V) : List UInt8 := if c.k = 1 then Ig.encI v.n else encT v.s.data.toList
def Dd.encV (c : Kn.C) (v : Kn.V) : List UInt8 := (if c.null = true then [Dd.flag v.null] else []) ++ (if v.null = true then [] else Dd.encP c v)
def Dd.encR : List Kn.C → List Kn.V → List UInt8
 | c :: cs, v :: vs => Dd.encV c v ++ Dd.encR cs vs
 | _, _ => []
def Dd.enc (s : List Kn.C) (d : Dd.D) : List UInt8 := Dd.flag d.gone :: Dd.encR s d.row
def Dd.cols (s : List Kn.C) (g : Bool) : List Kn.C := if g = true then s.take 1 else s
def Dd.fitE (s : List Kn.C) (d : Dd.D) : Int :=
 if d.gone = true then (if Kn.right s = true then (match d.row with | [k] => Kn.keyE s k | _ => 7) else 4) else Kn.fitsE s d.row
def Dd.rdF : List UInt8 → Nat × Bool × List UInt8
 | [] => (2, false, [])
 | b :: r => if 1 < b.toNat then (4, false, r) else (0, b == 1, r)
def Dd.rdP (c : Kn.C) (l : List UInt8) : Nat × Kn.V × List UInt8 :=
 if c.k = 1 then ((num l).2.2, Cl.ofN (sg l), rest l) else ((txt l 64).2.2, Cl.ofS (txt l 64).1, restT l)
def Dd.rdV (c : Kn.C) (l : List UInt8) : Nat × Kn.V × List UInt8 :=
 if c.null = true then (if (Dd.rdF l).1 ≠ 0 then ((Dd.rdF l).1, Cl.ofN 0, (Dd.rdF l).2.2) else if (Dd.rdF l).2.1 = true then (0, Cl.nul, (Dd.rdF l).2.2) else Dd.rdP c (Dd.rdF l).2.2) else Dd.rdP c l
def Dd.rdR : List Kn.C → List UInt8 → Nat × List Kn.V × List UInt8
 | [], l => (0, [], l)
 | c :: cs, l => if (Dd.rdV c l).1 ≠ 0 then ((Dd.rdV c l).1, [], []) else ((Dd.rdR cs (Dd.rdV c l).2.2).1, (Dd.rdV c l).2.1 :: (Dd.rdR cs (Dd.rdV c l).2.2).2.1, (Dd.rdR cs (Dd.rdV c l).2.2).2.2)
def Dd.rd (s : List Kn.C) (l : List UInt8) : Nat × Dd.D :=
 if Kn.right s = false then (4, ⟨false, []⟩)
 else if (Dd.rdF l).1 ≠ 0 then ((Dd.rdF l).1, ⟨false, []⟩)
 else if (Dd.rdR (Dd.cols s (Dd.rdF l).2.1) (Dd.rdF l).2.2).1 ≠ 0 then ((Dd.rdR (Dd.cols s (Dd.rdF l).2.1) (Dd.rdF l).2.2).1, ⟨false, []⟩)
 else if (Dd.rdR (Dd.cols s (Dd.rdF l).2.1) (Dd.rdF l).2.2).2.2 ≠ [] then (5, ⟨false, []⟩)
 else (0, ⟨(Dd.rdF l).2.1, (Dd.rdR (Dd.cols s (Dd.rdF l).2.1) (Dd.rdF l).2.2).2.1⟩)
theorem Dd.toList_nil {s : ByteArray} (h : (s.toList == (⟨#[]⟩ : ByteArray).toList) = true) : s = ⟨#[]⟩ := by
 rw [beq_iff_eq, ByteArray.toList_eq, ByteArray.toList_eq] at h
 have h2 : s.data.toList = [] := h
 apply ByteArray.ext
 exact Array.toList_inj.1 (by rw [h2])
theorem Dd.rdF_flag (b : Bool) (r : List UInt8) : Dd.rdF (Dd.flag b :: r) = (0, b, r) := by
 cases b <;> simp [Dd.rdF, Dd.flag]
theorem Dd.rdF_only {l : List UInt8} (h : (Dd.rdF l).1 = 0) : l = Dd.flag (Dd.rdF l).2.1 :: (Dd.rdF l).2.2 := by
 cases l with
 | nil => cases h
 | cons b r =>
   simp only [Dd.rdF] at h ⊢
   by_cases h1 : 1 < b.toNat
   ·rw [if_pos h1] at h; cases h
   ·rw [if_neg h1]
    simp only [Dd.flag]
    congr 1
    by_cases e : b = 1
    ·rw [e]; rfl
    ·have e0 : b = 0 := by
      apply UInt8.toNat_inj.1
      have : b.toNat ≠ 1 := fun h => e (UInt8.toNat_inj.1 h)
      show b.toNat = 0
      omega
     rw [e0]; rfl
theorem Dd.fits_null {c : Kn.C} {v : Kn.V} (h : Kn.fits c v = true) (hv : v.null = true) : v = Cl.nul ∧ c.null = true := by
 unfold Kn.fits at h
 rw [if_pos hv] at h
 simp only [Bool.and_eq_true] at h
 obtain ⟨vn, vi, vs⟩ := v
 simp only at hv h
 rw [hv, Dd.toList_nil h.2, show vi = 0 by simpa using h.1.2]
 exact ⟨rfl, h.1.1⟩
theorem Dd.fits_num {c : Kn.C} {v : Kn.V} (hk : c.k = 1) (h : Kn.fits c v = true) (hv : v.null = false) : v = Cl.ofN v.n := by
 unfold Kn.fits at h
 rw [hv, if_neg (by decide), if_pos hk] at h
 obtain ⟨vn, vi, vs⟩ := v
 simp only at hv h
 rw [hv, Dd.toList_nil h]
 rfl
theorem Dd.fits_str {c : Kn.C} {v : Kn.V} (hk : c.k ≠ 1) (h : Kn.fits c v = true) (hv : v.null = false) : v = Cl.ofS v.s.data.toList ∧ v.s.data.toList.length ≤ 64 := by
 unfold Kn.fits at h
 rw [hv, if_neg (by decide), if_neg hk] at h
 simp only [Bool.and_eq_true, decide_eq_true_iff] at h
 obtain ⟨vn, vi, vs⟩ := v
 simp only at hv h ⊢
 rw [hv, show vi = 0 by simpa using h.1]
 exact ⟨rfl, by rw [Ty.length_data]; exact h.2⟩
theorem Dd.fits_nul {c : Kn.C} (h : c.null = true) : Kn.fits c Cl.nul = true := by simp [Kn.fits, Cl.nul, h]
theorem Dd.fits_ofN {c : Kn.C} (hk : c.k = 1) (x : Int) : Kn.fits c (Cl.ofN x) = true := by simp [Kn.fits, Cl.ofN, hk]
theorem Dd.fits_ofS {c : Kn.C} (hk : c.k ≠ 1) {t : List UInt8} (h : t.length ≤ 64) : Kn.fits c (Cl.ofS t) = true := by
 have : (Ty.S t).size ≤ 64 := h
 simp [Kn.fits, Cl.ofS, hk, this]
theorem Dd.rdP_back {c : Kn.C} {v : Kn.V} (h : Kn.fits c v = true) (hv : v.null = false) (hi : I64 v.n) (r : List UInt8) : Dd.rdP c (Dd.encP c v ++ r) = (0, v, r) := by
 unfold Dd.rdP Dd.encP
 by_cases hk : c.k = 1
 ·obtain ⟨h1, h2, h3⟩ := read_encI v.n hi r
  rw [if_pos hk, if_pos hk, h1, h2, h3, ← Dd.fits_num hk h hv]
 ·obtain ⟨e, hl⟩ := Dd.fits_str hk h hv
  obtain ⟨h1, h2, h3⟩ := read_encT v.s.data.toList hl r
  rw [if_neg hk, if_neg hk, h1, h2, h3, ← e]
theorem Dd.rdV_back {c : Kn.C} {v : Kn.V} (h : Kn.fits c v = true) (hi : I64 v.n) (r : List UInt8) : Dd.rdV c (Dd.encV c v ++ r) = (0, v, r) := by
 unfold Dd.rdV Dd.encV
 cases hn : v.null
 ·simp only [Bool.false_eq_true, if_false]
  by_cases hc : c.null = true
  ·rw [if_pos hc, if_pos hc, List.append_assoc, List.singleton_append, Dd.rdF_flag]
   simp only [ne_eq, not_true_eq_false, if_false, Bool.false_eq_true]
   exact Dd.rdP_back h hn hi r
  ·rw [if_neg hc, if_neg hc, List.nil_append]
   exact Dd.rdP_back h hn hi r
 ·obtain ⟨e, hc⟩ := Dd.fits_null h hn
  simp only [if_true]
  rw [if_pos hc, if_pos hc, List.append_nil, List.singleton_append, Dd.rdF_flag]
  simp only [ne_eq, not_true_eq_false, if_false, if_true]
  rw [e]
theorem Dd.rdP_only {c : Kn.C} {l : List UInt8} (h : (Dd.rdP c l).1 = 0) : l = Dd.encP c (Dd.rdP c l).2.1 ++ (Dd.rdP c l).2.2 ∧ Kn.fits c (Dd.rdP c l).2.1 = true ∧ (Dd.rdP c l).2.1.null = false ∧ I64 (Dd.rdP c l).2.1.n := by
 by_cases hk : c.k = 1
 ·have e : Dd.rdP c l = ((num l).2.2, Cl.ofN (sg l), rest l) := by unfold Dd.rdP; rw [if_pos hk]
  rw [e] at h ⊢
  refine ⟨?_, Dd.fits_ofN hk _, rfl, Ig.sg_i64 l⟩
  unfold Dd.encP
  rw [if_pos hk]
  exact splitI h
 ·have e : Dd.rdP c l = ((txt l 64).2.2, Cl.ofS (txt l 64).1, restT l) := by unfold Dd.rdP; rw [if_neg hk]
  rw [e] at h ⊢
  obtain ⟨h1, h2⟩ := splitT h
  refine ⟨?_, Dd.fits_ofS hk h2, rfl, ⟨by show _ ≤ (0 : Int); omega, by show (0 : Int) ≤ _; omega⟩⟩
  unfold Dd.encP
  rw [if_neg hk]
  show l = encT (Ty.S (txt l 64).1).data.toList ++ restT l
  rw [Ty.data_S]
  exact h1
theorem Dd.rdV_only {c : Kn.C} {l : List UInt8} (h : (Dd.rdV c l).1 = 0) : l = Dd.encV c (Dd.rdV c l).2.1 ++ (Dd.rdV c l).2.2 ∧ Kn.fits c (Dd.rdV c l).2.1 = true ∧ I64 (Dd.rdV c l).2.1.n := by
 unfold Dd.rdV at h ⊢
 by_cases hc : c.null = true
 ·rw [if_pos hc] at h ⊢
  by_cases h1 : (Dd.rdF l).1 ≠ 0
  ·rw [if_pos h1] at h; exact absurd h h1
  ·rw [if_neg h1] at h ⊢
   have hl := Dd.rdF_only (by simpa using h1)
   cases hb : (Dd.rdF l).2.1
   ·rw [hb] at h hl
    rw [if_neg (by decide)] at h ⊢
    obtain ⟨e1, e2, e3, e4⟩ := Dd.rdP_only h
    refine ⟨?_, e2, e4⟩
    unfold Dd.encV
    rw [if_pos hc, e3, if_neg (by decide), List.append_assoc, List.singleton_append, ← e1]
    exact hl
   ·rw [hb] at hl
    rw [if_pos rfl]
    refine ⟨?_, Dd.fits_nul hc, ⟨by show _ ≤ (0 : Int); omega, by show (0 : Int) ≤ _; omega⟩⟩
    show l = Dd.encV c Cl.nul ++ (Dd.rdF l).2.2
    unfold Dd.encV
    rw [if_pos hc, show Cl.nul.null = true from rfl, if_pos rfl, List.append_nil, List.singleton_append]
    exact hl
 ·rw [if_neg hc] at h ⊢
  obtain ⟨e1, e2, e3, e4⟩ := Dd.rdP_only h
  refine ⟨?_, e2, e4⟩
  unfold Dd.encV
  rw [if_neg hc, e3, if_neg (by decide), List.nil_append]
  exact e1
theorem Dd.rdR_back : ∀ (s : List Kn.C) (vs : List Kn.V), vs.length = s.length → Kn.fitsAll s vs = true → (∀ v ∈ vs, I64 v.n) → ∀ r, Dd.rdR s (Dd.encR s vs ++ r) = (0, vs, r)
 | [], [], _, _, _, r => rfl
 | [], _ :: _, h, _, _, _ => by simp at h
 | _ :: _, [], h, _, _, _ => by simp at h
 | c :: cs, v :: vs, hl, hf, hi, r => by
   simp only [Kn.fitsAll, Bool.and_eq_true] at hf
   have e := Dd.rdV_back hf.1 (hi v (by simp)) (Dd.encR cs vs ++ r)
   have ih := Dd.rdR_back cs vs (by simpa using hl) hf.2 (fun x hx => hi x (by simp [hx])) r
   simp only [Dd.encR, List.append_assoc, Dd.rdR, e, ih, ne_eq, not_true_eq_false, if_false]
theorem Dd.rdR_only : ∀ (s : List Kn.C) (l : List UInt8), (Dd.rdR s l).1 = 0 → l = Dd.encR s (Dd.rdR s l).2.1 ++ (Dd.rdR s l).2.2 ∧ (Dd.rdR s l).2.1.length = s.length ∧ Kn.fitsAll s (Dd.rdR s l).2.1 = true ∧ ∀ v ∈ (Dd.rdR s l).2.1, I64 v.n
 | [], l, _ => ⟨rfl, rfl, rfl, fun v hv => by cases hv⟩
 | c :: cs, l, h => by
   simp only [Dd.rdR] at h ⊢
   by_cases h1 : (Dd.rdV c l).1 ≠ 0
   ·rw [if_pos h1] at h; exact absurd h h1
   ·rw [if_neg h1] at h ⊢
    obtain ⟨a1, a2, a3⟩ := Dd.rdV_only (c := c) (l := l) (by simpa using h1)
    obtain ⟨b1, b2, b3, b4⟩ := Dd.rdR_only cs (Dd.rdV c l).2.2 h
    refine ⟨?_, by simp [b2], by simp [Kn.fitsAll, a2, b3], fun v hv => ?_⟩
    ·simp only [Dd.encR, List.append_assoc]
     rw [← b1]
     exact a1
    ·rcases List.mem_cons.1 hv with rfl | hv
     ·exact a3
     ·exact b4 v hv
theorem Dd.fitE_0 {s : List Kn.C} {d : Dd.D} (h : Dd.fitE s d = 0) : Kn.right s = true ∧ d.row.length = (Dd.cols s d.gone).length ∧ Kn.fitsAll (Dd.cols s d.gone) d.row = true := by
 unfold Dd.fitE at h
 unfold Dd.cols
 cases hg : d.gone
 ·rw [hg, if_neg (by decide)] at h
  rw [if_neg (by decide)]
  unfold Kn.fitsE at h
  by_cases h1 : Kn.right s = true
  ·rw [if_pos h1] at h
   by_cases h2 : d.row.length = s.length
   ·rw [if_pos h2] at h
    by_cases h3 : Kn.fitsAll s d.row = true
    ·exact ⟨h1, h2, h3⟩
    ·rw [if_neg h3] at h; cases h
   ·rw [if_neg h2] at h; cases h
  ·rw [if_neg h1] at h; cases h
 ·rw [hg, if_pos rfl] at h
  rw [if_pos rfl]
  by_cases h1 : Kn.right s = true
  ·rw [if_pos h1] at h
   have hl := Kn.right_len h1
   obtain ⟨g, row⟩ := d
   simp only at h ⊢
   match row, s, h, hl with
   | [k], c :: cs, h, _ =>
     simp only at h
     unfold Kn.keyE at h
     rw [if_pos h1] at h
     simp only at h
     by_cases h3 : Kn.fits c k = true
     ·exact ⟨h1, rfl, by simp [Kn.fitsAll, h3]⟩
     ·rw [if_neg h3] at h; cases h
   | [], _, h, _ => cases h
   | _ :: _ :: _, _, h, _ => cases h
   | [_], [], _, hl => simp at hl
  ·rw [if_neg h1] at h; cases h
theorem Dd.fitE_of {s : List Kn.C} {d : Dd.D} (h1 : Kn.right s = true) (h2 : d.row.length = (Dd.cols s d.gone).length) (h3 : Kn.fitsAll (Dd.cols s d.gone) d.row = true) : Dd.fitE s d = 0 := by
 unfold Dd.fitE
 unfold Dd.cols at h2 h3
 obtain ⟨g, row⟩ := d
 cases g
 ·simp only [Bool.false_eq_true, if_false] at h2 h3 ⊢
  unfold Kn.fitsE
  rw [if_pos h1, if_pos h2, if_pos h3]
 ·have hl := Kn.right_len h1
  simp only [if_true] at h2 h3 ⊢
  rw [if_pos h1]
  match s, row, h1, h2, h3, hl with
  | c :: cs, [k], h1, _, h3, _ =>
    simp only [Kn.fitsAll, List.take_succ_cons, List.take_zero, Bool.and_true] at h3
    show Kn.keyE (c :: cs) k = 0
    unfold Kn.keyE
    rw [if_pos h1]
    simp only
    rw [if_pos h3]
  | [], _, _, _, _, hl => simp at hl
  | c :: cs, [], _, h2, _, _ => simp at h2
  | c :: cs, _ :: _ :: _, _, h2, _, _ => simp at h2
theorem Dd.encR_cols {s : List Kn.C} {g : Bool} {row : List Kn.V} (h : row.length = (Dd.cols s g).length) : Dd.encR s row = Dd.encR (Dd.cols s g) row := by
 unfold Dd.cols at h ⊢
 cases g
 ·rfl
 ·rw [if_pos rfl] at h ⊢
  match s, row, h with
  | [], _, _ => rfl
  | c :: cs, [], h => simp at h
  | c :: cs, [v], _ => simp [Dd.encR]
  | c :: cs, _ :: _ :: _, h => simp at h
theorem Dd.rd_enc' {s : List Kn.C} {d : Dd.D} (h : Dd.fitE s d = 0) (hi : ∀ v ∈ d.row, I64 v.n) (r : List UInt8) : Dd.rd s (Dd.enc s d ++ r) = if r = [] then (0, d) else (5, ⟨false, []⟩) := by
 obtain ⟨h1, h2, h3⟩ := Dd.fitE_0 h
 have e := Dd.rdR_back (Dd.cols s d.gone) d.row h2 h3 hi r
 have ef : Dd.rdF (Dd.enc s d ++ r) = (0, d.gone, Dd.encR (Dd.cols s d.gone) d.row ++ r) := by
  unfold Dd.enc
  rw [List.cons_append, Dd.rdF_flag, Dd.encR_cols h2]
 unfold Dd.rd
 rw [ef]
 simp only [e, h1, ne_eq, not_true_eq_false, if_false, Bool.true_eq_false]
 by_cases hr : r = []
 ·rw [if_pos hr, if_neg (by simp [hr])]
 ·rw [if_neg hr, if_pos hr]
theorem Dd.enc_rd {s : List Kn.C} {l : List UInt8} (h : (Dd.rd s l).1 = 0) : Dd.fitE s (Dd.rd s l).2 = 0 ∧ Dd.enc s (Dd.rd s l).2 = l ∧ ∀ v ∈ (Dd.rd s l).2.row, I64 v.n := by
 unfold Dd.rd at h ⊢
 by_cases h1 : Kn.right s = false
 ·rw [if_pos h1] at h; cases h
 ·rw [if_neg h1] at h ⊢
  by_cases h2 : (Dd.rdF l).1 ≠ 0
  ·rw [if_pos h2] at h; exact absurd h h2
  ·rw [if_neg h2] at h ⊢
   by_cases h3 : (Dd.rdR (Dd.cols s (Dd.rdF l).2.1) (Dd.rdF l).2.2).1 ≠ 0
   ·rw [if_pos h3] at h; exact absurd h h3
   ·rw [if_neg h3] at h ⊢
    by_cases h4 : (Dd.rdR (Dd.cols s (Dd.rdF l).2.1) (Dd.rdF l).2.2).2.2 ≠ []
    ·rw [if_pos h4] at h; cases h
    ·rw [if_neg h4]
     obtain ⟨b1, b2, b3, b4⟩ := Dd.rdR_only _ _ (by simpa using h3 : (Dd.rdR (Dd.cols s (Dd.rdF l).2.1) (Dd.rdF l).2.2).1 = 0)
     have hl := Dd.rdF_only (by simpa using h2)
     have e4 : (Dd.rdR (Dd.cols s (Dd.rdF l).2.1) (Dd.rdF l).2.2).2.2 = [] := by simpa using h4
     rw [e4, List.append_nil] at b1
     refine ⟨Dd.fitE_of (by simpa using h1) b2 b3, ?_, b4⟩
     unfold Dd.enc
     rw [Dd.encR_cols b2, ← b1]
     exact hl.symm
theorem Dd.more {s : List Kn.C} {l : List UInt8} (h : (Dd.rd s l).1 = 0) (x : UInt8) : (Dd.rd s (l ++ [x])).1 = 5 := by
 obtain ⟨h1, h2, h3⟩ := Dd.enc_rd h
 have := Dd.rd_enc' h1 h3 [x]
 rw [h2, if_neg (by simp)] at this
 rw [this]
theorem Dd.encV_pos {c : Kn.C} {v : Kn.V} (h : Kn.fits c v = true) : Dd.encV c v ≠ [] := by
 unfold Dd.encV
 by_cases hc : c.null = true
 ·rw [if_pos hc]; simp
 ·rw [if_neg hc, List.nil_append]
  cases hn : v.null
  ·rw [if_neg (by decide)]
   unfold Dd.encP
   split
   ·intro e
    have : 0 < (Ig.encI v.n).length := by unfold Ig.encI; rw [Ty.encU_length]; omega
    rw [e] at this
    simp at this
   ·intro e
    have : 0 < (encT v.s.data.toList).length := by unfold encT; rw [List.length_append, Ty.encU_length]; omega
    rw [e] at this
    simp at this
  ·exact absurd (Dd.fits_null h hn).2 hc
theorem Dd.fitsAll_snoc : ∀ (s : List Kn.C) (c : Kn.C) (vs : List Kn.V) (v : Kn.V), vs.length = s.length → Kn.fitsAll (s ++ [c]) (vs ++ [v]) = (Kn.fitsAll s vs && Kn.fits c v)
 | [], c, [], v, _ => by simp [Kn.fitsAll]
 | [], _, _ :: _, _, h => by simp at h
 | _ :: _, _, [], _, h => by simp at h
 | a :: s, c, x :: vs, v, h => by
   simp only [List.cons_append, Kn.fitsAll]
   rw [Dd.fitsAll_snoc s c vs v (by simpa using h), Bool.and_assoc]
theorem Dd.encR_snoc : ∀ (s : List Kn.C) (c : Kn.C) (vs : List Kn.V) (v : Kn.V), vs.length = s.length → Dd.encR (s ++ [c]) (vs ++ [v]) = Dd.encR s vs ++ Dd.encV c v
 | [], c, [], v, _ => by simp [Dd.encR]
 | [], _, _ :: _, _, h => by simp at h
 | _ :: _, _, [], _, h => by simp at h
 | a :: s, c, x :: vs, v, h => by
   simp only [List.cons_append, Dd.encR]
   rw [Dd.encR_snoc s c vs v (by simpa using h), List.append_assoc]
theorem Dd.cut {s : List Kn.C} {c : Kn.C} {vs : List Kn.V} (hs : Kn.right s = true) (h : Dd.fitE (s ++ [c]) ⟨false, vs⟩ = 0) (hi : ∀ v ∈ vs, I64 v.n) : (Dd.rd s (Dd.enc (s ++ [c]) ⟨false, vs⟩)).1 = 5 := by
 obtain ⟨h1, h2, h3⟩ := Dd.fitE_0 h
 have hl : vs.length = s.length + 1 := by simpa [Dd.cols] using h2
 have hne : vs ≠ [] := by intro e; rw [e] at hl; simp at hl
 have e := (List.dropLast_concat_getLast hne).symm
 have hdl : vs.dropLast.length = s.length := by rw [List.length_dropLast]; omega
 have h3' : Kn.fitsAll (s ++ [c]) (vs.dropLast ++ [vs.getLast hne]) = true := by rw [← e]; simpa [Dd.cols] using h3
 rw [Dd.fitsAll_snoc _ _ _ _ hdl, Bool.and_eq_true] at h3'
 have hf : Dd.fitE s ⟨false, vs.dropLast⟩ = 0 := Dd.fitE_of hs hdl h3'.1
 have := Dd.rd_enc' hf (fun v hv => hi v (List.dropLast_subset _ hv)) (Dd.encV c (vs.getLast hne))
 rw [if_neg (Dd.encV_pos h3'.2)] at this
 have e2 : Dd.enc (s ++ [c]) ⟨false, vs⟩ = Dd.enc s ⟨false, vs.dropLast⟩ ++ Dd.encV c (vs.getLast hne) := by
  show Dd.flag false :: Dd.encR (s ++ [c]) vs = Dd.flag false :: Dd.encR s vs.dropLast ++ _
  conv => lhs; rw [e]
  rw [Dd.encR_snoc _ _ _ _ hdl]
  rfl
 rw [e2, this]
end
section
open Go
open Ty (num txt encU U64 I64)
open Ig (rest)
open Tx (encT)
def Bk.key (d : Dd.D) : Kn.V := d.row.headD Cl.nul
def Bk.nod : Dd.D := ⟨false, []⟩
def Bk.step (L : List Dd.D) (k : Nat) : Bool := !(L.getD k Bk.nod).row.isEmpty && (k == 0 || decide (Kn.cmp (Bk.key (L.getD (k - 1) Bk.nod)) (Bk.key (L.getD k Bk.nod)) < 0))
def Bk.sorted (L : List Dd.D) : Bool := (List.range L.length).all (Bk.step L)
def Bk.firstE (s : List Kn.C) : List Dd.D → Int
 | [] => 0
 | d :: r => if Dd.fitE s d = 0 then Bk.firstE s r else Dd.fitE s d
def Bk.fitsE (s : List Kn.C) (L : List Dd.D) : Int := if Bk.firstE s L = 0 then (if Bk.sorted L = true then 0 else 1) else Bk.firstE s L
def Bk.wE (s : List Kn.C) (L : List Dd.D) : Int := if Kn.right s = true then (if L.length < 1 ∨ 8 < L.length then 1 else Bk.fitsE s L) else 4
def Bk.has (i : Nat) (d : Dd.D) : Bool := i == 0 || !d.gone
def Bk.col (L : List Dd.D) (i : Nat) : List Kn.V := (L.filter (Bk.has i)).map fun d => d.row.getD i Cl.nul
def Bk.gones (L : List Dd.D) (i : Nat) : Bool := (L.getD i Bk.nod).gone
def Bk.encC : Nat → List Kn.C → List Dd.D → List UInt8
 | _, [], _ => []
 | i, c :: s, L => encT (Cl.enc c (Bk.col L i)) ++ Bk.encC (i + 1) s L
def Bk.bools (L : List Dd.D) : List UInt8 := (Bt.bytes (Bt.need L.length) (Bt.tr L.length (Bk.gones L))).data.toList
def Bk.enc (s : List Kn.C) (L : List Dd.D) : List UInt8 := encU L.length ++ (Bk.bools L ++ Bk.encC 0 s L)
def Bk.dist (i : Nat) : List Dd.D → List Kn.V → List Dd.D
 | [], _ => []
 | d :: r, vs => if Bk.has i d = true then ⟨d.gone, d.row ++ [vs.headD Cl.nul]⟩ :: Bk.dist i r vs.tail else d :: Bk.dist i r vs
def Bk.most : Int := 1048576
def Bk.restM (l : List UInt8) : List UInt8 := l.drop (txt l Bk.most).2.1
def Bk.rdC : Nat → List Kn.C → List Dd.D → List UInt8 → Option (List Dd.D × List UInt8)
 | _, [], A, l => some (A, l)
 | i, c :: s, A, l => if (txt l Bk.most).2.2 = 0 ∧ (Cl.rd c (txt l Bk.most).1).1 = 0 ∧ (Cl.rd c (txt l Bk.most).1).2.length = (A.filter (Bk.has i)).length then Bk.rdC (i + 1) s (Bk.dist i A (Cl.rd c (txt l Bk.most).1).2) (Bk.restM l) else none
def Bk.none_ (n : Nat) (b : UInt8) : List Dd.D := (List.range n).map fun i => ⟨b.toNat.testBit i, []⟩
def Bk.rd (s : List Kn.C) (l : List UInt8) : Nat × List Dd.D :=
 if Kn.right s = false then (4, [])
 else if (num l).2.2 ≠ 0 then (8, [])
 else match rest l with
  | [] => (8, [])
  | b :: r => if (num l).1 < 1 ∨ 8 < (num l).1 ∨ b.toNat / 2 ^ (num l).1 ≠ 0 then (8, [])
    else match Bk.rdC 0 s (Bk.none_ (num l).1 b) r with
     | none => (8, [])
     | some (L, r') => if r' = [] ∧ Bk.sorted L = true then (0, L) else (8, [])
def Bk.cut (i : Nat) (L : List Dd.D) : List Dd.D := L.map fun d => ⟨d.gone, d.row.take i⟩
def Bk.Len (i : Nat) (A : List Dd.D) : Prop := ∀ d ∈ A, d.row.length = if d.gone = true then min i 1 else i
end
end Go.Proofs.Ytodeodndjkkkbaa
