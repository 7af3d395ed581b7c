import Derived.Test.YtbelkhkllneifaaGreatDoorWEAT
import Derived.Test.YtbelkhkllneifaaGreatDoorWEAD
import Derived.Test.YtbelkhkllneifaaGreatDoorWEAW
import Derived.Test.YtbelkhkllneifaaGreatDoorWEAE
import Derived.Test.YtbelkhkllneifaaGreatDoorWEAL
import Derived.Test.YtbelkhkllneifaaGreatDoorWEAN
namespace Go.Proofs.YtbelkhkllneifaaGreatDoor
section
open Go.RowKit
open Ty (num txt)
open Ig (rest sg)
open Tx (restT)
structure Dd.St where
 l : List UInt8
 e : Nat
 wr : Bool
def Dd.St.q (s : Dd.St) : Nat := if s.wr = true then 4 else s.e
def Dd.stF (s : Dd.St) : Bool × Dd.St := ((Ty.rdB s.l s.e).1 == 1, ⟨(Ty.rdB s.l s.e).2.1, (Ty.rdB s.l s.e).2.2, s.wr || decide (1 < (Ty.rdB s.l s.e).1)⟩)
def Dd.stP (c : Kn.C) (s : Dd.St) : Kn.V × Dd.St :=
 if c.k = 2 then (Cl.ofS (Ty.rdT 64 s.l s.e).1, ⟨(Ty.rdT 64 s.l s.e).2.1, (Ty.rdT 64 s.l s.e).2.2, s.wr⟩)
 else (Cl.ofN (Ty.zag ((Ty.rdU s.l s.e).1 : Int)), ⟨(Ty.rdU s.l s.e).2.1, (Ty.rdU s.l s.e).2.2, s.wr⟩)
def Dd.stV (c : Kn.C) (s : Dd.St) : Kn.V × Dd.St :=
 if c.null = true then (if (Dd.stF s).1 = true then (Cl.nul, (Dd.stF s).2) else Dd.stP c (Dd.stF s).2) else Dd.stP c s
def Dd.stR : List Kn.C → Dd.St → List Kn.V × Dd.St
 | [], s => ([], s)
 | c :: cs, s => ((Dd.stV c s).1 :: (Dd.stR cs (Dd.stV c s).2).1, (Dd.stR cs (Dd.stV c s).2).2)
def Dd.St.done (s : Dd.St) : Nat := if s.wr = true then 4 else Ty.fin s.l s.e
theorem Dd.St.ne {s : Dd.St} (h : s.q ≠ 0) : s.wr = true ∨ (s.wr = false ∧ s.e ≠ 0) := by
 unfold Dd.St.q at h
 cases hw : s.wr
 ·rw [hw, if_neg (by decide)] at h; exact .inr ⟨rfl, h⟩
 ·exact .inl rfl
theorem Dd.rdB_ne (l : List UInt8) {e : Nat} (h : e ≠ 0) : Ty.rdB l e = (0, l, e) := by unfold Ty.rdB; rw [if_pos h]
theorem Dd.rdB_le (l : List UInt8) (e : Nat) : (Ty.rdB l e).2.1.length ≤ l.length ∧ (Ty.rdB l e).1 ≤ 255 := by
 unfold Ty.rdB
 split
 ·exact ⟨Nat.le_refl _, Nat.zero_le _⟩
 ·cases l with
  | nil => exact ⟨Nat.le_refl _, Nat.zero_le _⟩
  | cons b r => exact ⟨by simp, by have := b.toNat_lt; show b.toNat ≤ 255; omega⟩
end
section
open Go
open Ty (num txt encU U64 I64)
open Ig (rest)
theorem Bk.S1_bit (b : UInt8) {i : Nat} (h : i < 8) : Bt.bit (Ty.S [b]) i = b.toNat.testBit i := by
 unfold Bt.bit
 rw [Ty.data_S, show i / 8 = 0 by omega, show i % 8 = i by omega]
 rfl
theorem Bk.S1_dirty (b : UInt8) {n : Nat} (h1 : 1 ≤ n) (h8 : n ≤ 8) : (Bt.dirty (Ty.S [b]) n = true) ↔ b.toNat / 2 ^ n ≠ 0 := by
 unfold Bt.dirty
 have hsz : (Ty.S [b]).size = 1 := rfl
 simp only [List.any_eq_true, List.mem_range, Bool.and_eq_true, decide_eq_true_iff]
 constructor
 ·rintro ⟨i, hi, h2, h3⟩ h0
  have hi8 : i < 8 := by
   unfold Bt.need at hi
   omega
  rw [Bk.S1_bit b hi8] at h3
  have hlt : b.toNat < 2 ^ n := by
   rcases Nat.lt_or_ge b.toNat (2 ^ n) with h | h
   ·exact h
   ·have := Nat.div_pos h (Nat.two_pow_pos n); omega
  rw [Nat.testBit_lt_two_pow (Nat.lt_of_lt_of_le hlt (Nat.pow_le_pow_right (by omega) h2))] at h3
  cases h3
 ·intro h0
  obtain ⟨j, hj⟩ := Nat.exists_testBit_of_ne_zero h0
  rw [Nat.testBit_div_two_pow] at hj
  have hj8 : j + n < 8 := by
   rcases Nat.lt_or_ge (j + n) 8 with h | h
   ·exact h
   ·rw [Nat.testBit_lt_two_pow (Nat.lt_of_lt_of_le b.toNat_lt (Nat.pow_le_pow_right (n := 2) (by decide) h))] at hj
    cases hj
  exact ⟨j + n, by unfold Bt.need; omega, by omega, by rw [Bk.S1_bit b hj8]; exact hj⟩
theorem Bk.S1_ut (b : UInt8) {n : Nat} (h1 : 1 ≤ n) (h8 : n ≤ 8) : (Bt.utE (Ty.S [b]) (n : Int) = 0 ↔ b.toNat / 2 ^ n = 0) ∧ Bt.utN (Ty.S [b]) (n : Int) = if b.toNat / 2 ^ n = 0 then n else 0 := by
 have e : Bt.utE (Ty.S [b]) (n : Int) = Bt.chk (Ty.S [b]) n := by
  unfold Bt.utE
  rw [if_pos ⟨by omega, by omega⟩]
  rfl
 have hsz : (Ty.S [b]).size = Bt.need n := by
  rw [Ty.size_S]
  unfold Bt.need
  simp only [List.length_singleton]
  omega
 have hd := Bk.S1_dirty b h1 h8
 have hk : Bt.chk (Ty.S [b]) n = 0 ↔ b.toNat / 2 ^ n = 0 := by
  constructor
  ·intro h
   have := (Bt.chk_ok h).2
   rcases Nat.eq_zero_or_pos (b.toNat / 2 ^ n) with h0 | h0
   ·exact h0
   ·rw [hd.2 (by omega)] at this
    cases this
  ·intro h
   refine Bt.chk_is hsz ?_
   cases hh : Bt.dirty (Ty.S [b]) n
   ·rfl
   ·exact absurd h (hd.1 hh)
 refine ⟨by rw [e]; exact hk, ?_⟩
 unfold Bt.utN
 rw [e]
 by_cases h : b.toNat / 2 ^ n = 0
 ·rw [if_pos h, if_pos (hk.2 h)]
  rfl
 ·rw [if_neg h, if_neg (fun h2 => h (hk.1 h2))]
def Bk.give (i : Nat) : List Dd.D → List Kn.V → List Dd.D
 | [], _ => []
 | d :: r, vs => if Bk.has i d = true then ⟨d.gone, d.row.set i (vs.headD Cl.nul)⟩ :: Bk.give i r vs.tail else d :: Bk.give i r vs
def Bk.stG (s : Dd.St) : Nat × UInt8 × Dd.St :=
 if (Ty.rdU s.l s.e).1 < 1 ∨ 8 < (Ty.rdU s.l s.e).1 then (0, 0, ⟨(Ty.rdU s.l s.e).2.1, (Ty.rdU s.l s.e).2.2, true⟩)
 else if (UInt8.ofNat (Ty.rdB (Ty.rdU s.l s.e).2.1 (Ty.rdU s.l s.e).2.2).1).toNat / 2 ^ (Ty.rdU s.l s.e).1 = 0
  then ((Ty.rdU s.l s.e).1, UInt8.ofNat (Ty.rdB (Ty.rdU s.l s.e).2.1 (Ty.rdU s.l s.e).2.2).1, ⟨(Ty.rdB (Ty.rdU s.l s.e).2.1 (Ty.rdU s.l s.e).2.2).2.1, (Ty.rdB (Ty.rdU s.l s.e).2.1 (Ty.rdU s.l s.e).2.2).2.2, s.wr⟩)
  else (0, 0, ⟨(Ty.rdB (Ty.rdU s.l s.e).2.1 (Ty.rdU s.l s.e).2.2).2.1, (Ty.rdB (Ty.rdU s.l s.e).2.1 (Ty.rdU s.l s.e).2.2).2.2, true⟩)
def Bk.okS (c : Kn.C) (i : Nat) (A : List Dd.D) (t : List UInt8) : Prop := (Cl.rd c t).1 = 0 ∧ (Cl.rd c t).2.length = (A.filter (Bk.has i)).length
instance (c : Kn.C) (i : Nat) (A : List Dd.D) (t : List UInt8) : Decidable (Bk.okS c i A t) := inferInstanceAs (Decidable (_ ∧ _))
def Bk.rdL (s : Dd.St) : List UInt8 × List UInt8 × Nat := Ty.rdT (s.l.length : Int) s.l s.e
def Bk.stC (c : Kn.C) (i : Nat) (A : List Dd.D) (s : Dd.St) : List Dd.D × Dd.St :=
 if Bk.okS c i A (Bk.rdL s).1 then (Bk.give i A (Cl.rd c (Bk.rdL s).1).2, ⟨(Bk.rdL s).2.1, (Bk.rdL s).2.2, s.wr⟩) else (A, ⟨(Bk.rdL s).2.1, (Bk.rdL s).2.2, true⟩)
def Bk.stD : Nat → List Kn.C → List Dd.D → Dd.St → List Dd.D × Dd.St
 | _, [], A, s => (A, s)
 | i, c :: cs, A, s => Bk.stD (i + 1) cs (Bk.stC c i A s).1 (Bk.stC c i A s).2
def Bk.wdt (w : Nat) (g : Bool) : Nat := if g = true then 1 else w
def Bk.zero (w n : Nat) (b : UInt8) : List Dd.D := (List.range n).map fun i => ⟨b.toNat.testBit i, List.replicate (Bk.wdt w (b.toNat.testBit i)) (Cl.ofN 0)⟩
def Bk.Wide (w : Nat) (A : List Dd.D) : Prop := ∀ d ∈ A, d.row.length = Bk.wdt w d.gone
def Bk.bad (s : Dd.St) : Prop := s.wr = true ∨ s.e ≠ 0
theorem Bk.rdL_ne {s : Dd.St} (h : s.e ≠ 0) : Bk.rdL s = ([], s.l, s.e) := by unfold Bk.rdL Ty.rdT; rw [if_pos h]
theorem Bk.stC_bad {c : Kn.C} {i : Nat} {A : List Dd.D} {s : Dd.St} (h : Bk.bad s) : Bk.bad (Bk.stC c i A s).2 := by
 unfold Bk.stC
 split
 ·rcases h with h | h
  ·exact .inl h
  ·rw [Bk.rdL_ne h]
   exact .inr h
 ·exact .inl rfl
theorem Bk.stD_bad : ∀ (cs : List Kn.C) (i : Nat) (A : List Dd.D) (s : Dd.St), Bk.bad s → Bk.bad (Bk.stD i cs A s).2
 | [], _, _, _, h => h
 | _ :: cs, i, _, _, h => Bk.stD_bad cs (i + 1) _ _ (Bk.stC_bad h)
theorem Bk.give_len (i : Nat) : ∀ (A : List Dd.D) (vs : List Kn.V), (Bk.give i A vs).length = A.length
 | [], _ => rfl
 | d :: A, vs => by
   unfold Bk.give
   split
   ·rw [List.length_cons, List.length_cons, Bk.give_len i A]
   ·rw [List.length_cons, List.length_cons, Bk.give_len i A]
theorem Bk.give_wide (i w : Nat) : ∀ (A : List Dd.D) (vs : List Kn.V), Bk.Wide w A → Bk.Wide w (Bk.give i A vs)
 | [], _, _ => fun d hd => by cases hd
 | x :: A, vs, h => fun d hd => by
   have hx := h x (List.mem_cons_self ..)
   have hA : Bk.Wide w A := fun y hy => h y (List.mem_cons_of_mem _ hy)
   unfold Bk.give at hd
   split at hd
   ·rcases List.mem_cons.1 hd with rfl | hd
    ·rw [List.length_set]
     exact hx
    ·exact Bk.give_wide i w A _ hA d hd
   ·rcases List.mem_cons.1 hd with rfl | hd
    ·exact hx
    ·exact Bk.give_wide i w A _ hA d hd
theorem Bk.dist_give {i w : Nat} (hi : i < w) : ∀ (A : List Dd.D) (vs : List Kn.V), Bk.Wide w A → Bk.dist i (Bk.cut i A) vs = Bk.cut (i + 1) (Bk.give i A vs)
 | [], _, _ => rfl
 | d :: A, vs, h => by
   have hx := h d (List.mem_cons_self ..)
   have hA : Bk.Wide w A := fun y hy => h y (List.mem_cons_of_mem _ hy)
   have ih1 := Bk.dist_give hi A vs hA
   have ih2 := Bk.dist_give hi A vs.tail hA
   have hh : Bk.has i ⟨d.gone, d.row.take i⟩ = Bk.has i d := rfl
   unfold Bk.cut at ih1 ih2 ⊢
   rw [List.map_cons]
   unfold Bk.dist Bk.give
   rw [hh]
   cases hb : Bk.has i d
   ·obtain ⟨hg, h1⟩ := Bk.has_gone hb
    rw [if_neg (by decide), if_neg (by decide), List.map_cons, ih1]
    unfold Bk.wdt at hx
    rw [hg, if_pos rfl] at hx
    rw [List.take_of_length_le (by omega), List.take_of_length_le (by omega)]
   ·rw [if_pos rfl, if_pos rfl, List.map_cons, ih2]
    have hlt : i < d.row.length := by
     unfold Bk.has at hb
     unfold Bk.wdt at hx
     rw [hx]
     cases hg : d.gone
     ·rw [if_neg (by decide)]; exact hi
     ·rw [hg] at hb
      have : i = 0 := by simpa using hb
      rw [if_pos rfl]
      omega
    rw [List.take_succ_eq_append_getElem (by rw [List.length_set]; exact hlt), List.getElem_set_self, List.take_set_of_le (Nat.le_refl _)]
theorem Bk.filt_cut (i j : Nat) (A : List Dd.D) : ((Bk.cut j A).filter (Bk.has i)).length = (A.filter (Bk.has i)).length := by
 unfold Bk.cut
 rw [List.filter_map, List.length_map]
 rfl
theorem Bk.txt_most {l : List UInt8} (h : (txt l Bk.most).2.2 = 0) : txt l (l.length : Int) = txt l Bk.most := by
 have h1 : (num l).2.2 = 0 := by
  rcases Nat.eq_zero_or_pos (num l).2.2 with h1 | h1
  ·exact h1
  ·rw [Ty.txt_bad (by omega)] at h
   exact h
 by_cases h2 : Bk.most < 0 ∨ Bk.most < ((num l).1 : Int)
 ·rw [Ty.txt_long h1 h2] at h
  cases h
 ·by_cases h3 : l.length - (num l).2.1 < (num l).1
  ·rw [Ty.txt_short h1 h2 h3] at h
   cases h
  ·rw [Ty.txt_whole h1 h2 h3, Ty.txt_whole h1 (by omega) h3]
theorem Bk.txt_less {l : List UInt8} (h : (txt l (l.length : Int)).2.2 = 0) (h2 : (txt l (l.length : Int)).1.length ≤ 1048576) : (txt l Bk.most).2.2 = 0 := by
 have h1 : (num l).2.2 = 0 := by
  rcases Nat.eq_zero_or_pos (num l).2.2 with h1 | h1
  ·exact h1
  ·rw [Ty.txt_bad (by omega)] at h
   exact h
 by_cases h3 : ((l.length : Nat) : Int) < 0 ∨ ((l.length : Nat) : Int) < ((num l).1 : Int)
 ·rw [Ty.txt_long h1 h3] at h
  cases h
 ·by_cases h4 : l.length - (num l).2.1 < (num l).1
  ·rw [Ty.txt_short h1 h3 h4] at h
   cases h
  ·rw [Ty.txt_whole h1 h3 h4] at h2
   simp only at h2
   rw [List.length_take, List.length_drop] at h2
   rw [Ty.txt_whole h1 (by unfold Bk.most; omega) h4]
theorem Bk.stC_0 {c : Kn.C} {i : Nat} {A : List Dd.D} (h8 : A.length ≤ 8) (l : List UInt8) :
 (Bk.okC c i (Bk.cut i A) l → Bk.stC c i A ⟨l, 0, false⟩ = (Bk.give i A (Cl.rd c (txt l Bk.most).1).2, ⟨Bk.restM l, 0, false⟩)) ∧
 (¬ Bk.okC c i (Bk.cut i A) l → Bk.bad (Bk.stC c i A ⟨l, 0, false⟩).2) := by
 have hL : Bk.rdL ⟨l, 0, false⟩ = ((txt l (l.length : Int)).1, l.drop (txt l (l.length : Int)).2.1, (txt l (l.length : Int)).2.2) := by
  unfold Bk.rdL Ty.rdT
  rw [if_neg (by simp)]
 constructor
 ·rintro ⟨h1, h2, h3⟩
  rw [Bk.filt_cut] at h3
  have ht := Bk.txt_most h1
  rw [ht] at hL
  unfold Bk.stC
  rw [hL]
  rw [if_pos ⟨h2, h3⟩, h1]
  rfl
 ·intro hn
  unfold Bk.stC
  by_cases hk : Bk.okS c i A (Bk.rdL ⟨l, 0, false⟩).1
  ·rw [if_pos hk]
   refine .inr fun h0 => hn ?_
   rw [hL] at hk h0
   obtain ⟨h2, h3⟩ := hk
   simp only at h0 h2 h3
   have hlen : (txt l (l.length : Int)).1.length ≤ 1048576 := by
    obtain ⟨k1, k2, _, _⟩ := Cl.enc_rd h2
    rw [← k2]
    refine Bk.enc_le k1 ?_
    rw [h3]
    exact Nat.le_trans (List.length_filter_le ..) h8
   have h1 := Bk.txt_less h0 hlen
   rw [Bk.txt_most h1] at h2 h3
   exact ⟨h1, h2, by rw [Bk.filt_cut]; exact h3⟩
  ·rw [if_neg hk]
   exact .inl rfl
theorem Bk.stD_0 {w : Nat} : ∀ (cs : List Kn.C) (i : Nat) (A : List Dd.D) (l : List UInt8), i + cs.length = w → A.length ≤ 8 → Bk.Wide w A →
 (∀ L r, Bk.rdC i cs (Bk.cut i A) l = some (L, r) → ∃ B, Bk.stD i cs A ⟨l, 0, false⟩ = (B, ⟨r, 0, false⟩) ∧ L = Bk.cut w B ∧ Bk.Wide w B) ∧
 (Bk.rdC i cs (Bk.cut i A) l = none → Bk.bad (Bk.stD i cs A ⟨l, 0, false⟩).2)
 | [], i, A, l, hw, _, hW => by
   simp only [List.length_nil, Nat.add_zero] at hw
   subst hw
   refine ⟨fun L r h => ?_, fun h => (by simp [Bk.rdC] at h)⟩
   simp only [Bk.rdC, Option.some.injEq, Prod.mk.injEq] at h
   obtain ⟨rfl, rfl⟩ := h
   exact ⟨A, rfl, rfl, hW⟩
 | c :: cs, i, A, l, hw, h8, hW => by
   rw [List.length_cons] at hw
   obtain ⟨a1, a2⟩ := Bk.stC_0 (c := c) (i := i) h8 l
   by_cases hk : Bk.okC c i (Bk.cut i A) l
   ·have ih := Bk.stD_0 (w := w) cs (i + 1) (Bk.give i A (Cl.rd c (txt l Bk.most).1).2) (Bk.restM l) (by omega) (by rw [Bk.give_len]; exact h8) (Bk.give_wide i w A _ hW)
    have e : Bk.rdC i (c :: cs) (Bk.cut i A) l = Bk.rdC (i + 1) cs (Bk.cut (i + 1) (Bk.give i A (Cl.rd c (txt l Bk.most).1).2)) (Bk.restM l) := by
     conv => lhs; unfold Bk.rdC
     refine (if_pos hk).trans ?_
     rw [Bk.dist_give (by omega) A _ hW]
    rw [e]
    unfold Bk.stD
    rw [a1 hk]
    exact ih
   ·have e : Bk.rdC i (c :: cs) (Bk.cut i A) l = none := by
     unfold Bk.rdC
     exact if_neg hk
    rw [e]
    refine ⟨fun L r h => by simp at h, fun _ => ?_⟩
    unfold Bk.stD
    exact Bk.stD_bad cs (i + 1) _ _ (a2 hk)
theorem Bk.zero_len (w n : Nat) (b : UInt8) : (Bk.zero w n b).length = n := by unfold Bk.zero; simp
theorem Bk.zero_wide (w n : Nat) (b : UInt8) : Bk.Wide w (Bk.zero w n b) := fun d hd => by
 unfold Bk.zero at hd
 obtain ⟨i, _, rfl⟩ := List.mem_map.1 hd
 simp
theorem Bk.zero_cut (w n : Nat) (b : UInt8) : Bk.cut 0 (Bk.zero w n b) = Bk.none_ n b := by
 unfold Bk.cut Bk.zero Bk.none_
 rw [List.map_map]
 rfl
theorem Bk.wide_cut {w : Nat} (h1 : 1 ≤ w) {B : List Dd.D} (h : Bk.Wide w B) : Bk.cut w B = B := by
 unfold Bk.cut
 conv => rhs; rw [← List.map_id B]
 refine List.map_congr_left fun d hd => ?_
 have := h d hd
 unfold Bk.wdt at this
 rw [List.take_of_length_le (by rw [this]; split <;> omega)]
 rfl
def Bk.stR (s : List Kn.C) (l : List UInt8) : List Dd.D × Dd.St := Bk.stD 0 s (Bk.zero s.length (Bk.stG ⟨l, 0, false⟩).1 (Bk.stG ⟨l, 0, false⟩).2.1) (Bk.stG ⟨l, 0, false⟩).2.2
theorem Bk.fin_ne {l : List UInt8} {e : Nat} (h : e ≠ 0) : Ty.fin l e ≠ 0 := by
 unfold Ty.fin
 rw [if_neg (fun h2 => h h2.1)]
 exact h
theorem Bk.rd_st {s : List Kn.C} (hs : Kn.right s = true) (l : List UInt8) :
 ((Bk.stR s l).2.wr = true ∨ Ty.fin (Bk.stR s l).2.l (Bk.stR s l).2.e ≠ 0 ∨ Bk.sorted (Bk.stR s l).1 = false → Bk.rd s l = (8, [])) ∧
 ((Bk.stR s l).2.wr = false → Ty.fin (Bk.stR s l).2.l (Bk.stR s l).2.e = 0 → Bk.sorted (Bk.stR s l).1 = true → Bk.rd s l = (0, (Bk.stR s l).1)) := by
 have hsl := Kn.right_len hs
 have badc : Bk.bad (Bk.stR s l).2 → Bk.rd s l = (8, []) → ((Bk.stR s l).2.wr = true ∨ Ty.fin (Bk.stR s l).2.l (Bk.stR s l).2.e ≠ 0 ∨ Bk.sorted (Bk.stR s l).1 = false → Bk.rd s l = (8, [])) ∧
  ((Bk.stR s l).2.wr = false → Ty.fin (Bk.stR s l).2.l (Bk.stR s l).2.e = 0 → Bk.sorted (Bk.stR s l).1 = true → Bk.rd s l = (0, (Bk.stR s l).1)) := fun hb h8 => by
  refine ⟨fun _ => h8, fun h1 h2 _ => ?_⟩
  rcases hb with hb | hb
  ·rw [h1] at hb; cases hb
  ·exact absurd h2 (Bk.fin_ne hb)
 have bad0 : Bk.bad (Bk.stG ⟨l, 0, false⟩).2.2 → Bk.bad (Bk.stR s l).2 := fun h => by
  unfold Bk.stR
  exact Bk.stD_bad s 0 _ _ h
 have hU : Ty.rdU l 0 = ((num l).1, rest l, (num l).2.2) := by
  unfold Ty.rdU
  rw [if_neg (by simp)]
  rfl
 by_cases h1 : (num l).2.2 = 0
 rotate_left
 ·refine badc (bad0 ?_) (Bk.rd_h hs h1)
  unfold Bk.stG
  rw [hU]
  split
  ·exact .inl rfl
  ·rw [Dd.rdB_ne _ h1]
   split
   ·exact .inr h1
   ·exact .inl rfl
 rw [h1] at hU
 cases h2 : rest l with
 | nil =>
   refine badc (bad0 ?_) (Bk.rd_e hs h1 h2)
   unfold Bk.stG
   rw [hU, h2]
   split
   ·exact .inl rfl
   ·have e : Ty.rdB [] 0 = (0, [], 2) := rfl
    rw [e]
    split
    ·exact .inr (show (2 : Nat) ≠ 0 by decide)
    ·exact .inl rfl
 | cons b r =>
   rw [h2] at hU
   by_cases h3 : (num l).1 < 1 ∨ 8 < (num l).1 ∨ b.toNat / 2 ^ (num l).1 ≠ 0
   ·refine badc (bad0 ?_) (Bk.rd_b hs h1 h2 h3)
    unfold Bk.stG
    rw [hU]
    split
    ·exact .inl rfl
    ·rename_i h4
     have e : Ty.rdB (b :: r) 0 = (b.toNat, r, 0) := rfl
     rw [e]
     rw [if_neg (by
      have e2 : UInt8.ofNat b.toNat = b := UInt8.ofNat_toNat
      rw [e2]
      simp only at h4 ⊢
      omega)]
     exact .inl rfl
   ·have hG : Bk.stG ⟨l, 0, false⟩ = ((num l).1, b, ⟨r, 0, false⟩) := by
     unfold Bk.stG
     rw [hU]
     have e : Ty.rdB (b :: r) 0 = (b.toNat, r, 0) := rfl
     have e2 : UInt8.ofNat b.toNat = b := UInt8.ofNat_toNat
     rw [if_neg (by simp only; omega), e, e2, if_pos (by simp only; omega)]
    have hR : Bk.stR s l = Bk.stD 0 s (Bk.zero s.length (num l).1 b) ⟨r, 0, false⟩ := by
     unfold Bk.stR
     rw [hG]
    have hD := Bk.stD_0 (w := s.length) s 0 (Bk.zero s.length (num l).1 b) r (by omega) (by rw [Bk.zero_len]; omega) (Bk.zero_wide s.length (num l).1 b)
    rw [Bk.zero_cut] at hD
    have hrd := Bk.rd_g hs h1 h2 h3
    cases ho : Bk.rdC 0 s (Bk.none_ (num l).1 b) r with
    | none =>
      refine badc (by rw [hR]; exact hD.2 ho) ?_
      rw [hrd]
      exact Bk.rdE_fail ho
    | some p =>
      obtain ⟨L, r'⟩ := p
      obtain ⟨B, hB, rfl, hW⟩ := hD.1 L r' ho
      rw [Bk.wide_cut hsl.1 hW] at ho
      rw [hR, hB]
      have hfin : Ty.fin r' 0 ≠ 0 ↔ r' ≠ [] := by
       unfold Ty.fin
       by_cases h : r' = []
       ·simp [h]
       ·simp [h]
      refine ⟨fun h => ?_, fun _ h4 h5 => ?_⟩
      ·rw [hrd]
       refine Bk.rdE_bad ho fun h9 => ?_
       rcases h with h | h | h
       ·cases h
       ·exact hfin.1 h h9.1
       ·rw [h9.2] at h; cases h
      ·rw [hrd]
       refine Bk.rdE_good ho ?_ h5
       rcases Classical.em (r' = []) with h | h
       ·exact h
       ·exact absurd h4 (hfin.2 h)
end
section
open Go.RowKit
structure Bk.Rdr (r b : Nat) (w : World) (s : Dd.St) : Prop where
 cur : Ty.Cur b w s.l s.e
 box : w.heap[r]? = some (.cells #[.pointer (some ⟨b, 0, none⟩), .bool s.wr] 167 (0, 0))
 ne : b ≠ r
 tabs : Ty.Tabs w
 gb : Ty.G ≤ b
 gr : Ty.G ≤ r
 short : s.l.length ≤ 140737488351232
theorem Bk.Rdr.lt {r b : Nat} {w : World} {s : Dd.St} (h : Bk.Rdr r b w s) : r < w.heap.size ∧ b < w.heap.size := ⟨lt_of_block h.box, h.cur.lt⟩
theorem Bk.Rdr.same {r b : Nat} {w w' : World} {s : Dd.St} (h : Bk.Rdr r b w s) (hs : w.heap.size ≤ w'.heap.size) (h0 : ∀ k, k < Ty.G → w'.heap[k]? = w.heap[k]?) (h1 : w'.heap[r]? = w.heap[r]?) (h2 : w'.heap[b]? = w.heap[b]?) : Bk.Rdr r b w' s :=
 ⟨h2.trans h.cur, h1.trans h.box, h.ne, Ty.Tabs.kept h.tabs hs h0, h.gb, h.gr, h.short⟩
theorem Bk.Rdr.kept {r b : Nat} {w w' : World} {s : Dd.St} (h : Bk.Rdr r b w s) (g : Below w.heap.size w w') : Bk.Rdr r b w' s :=
 ⟨(g.block b h.lt.2).trans h.cur, (g.block r h.lt.1).trans h.box, h.ne, Ty.Tabs.below h.tabs g (Ty.Tabs.two h.tabs), h.gb, h.gr, h.short⟩
theorem Bk.Rdr.moved {r b : Nat} {w w' : World} {s : Dd.St} {l : List UInt8} {e : Nat} (h : Bk.Rdr r b w s) (hc : Ty.Cur b w' l e) (hg : w.grownBy w' (some b)) (hl : l.length ≤ s.l.length) : Bk.Rdr r b w' ⟨l, e, s.wr⟩ :=
 ⟨hc, (hg.block r h.lt.1 (fun e => h.ne (Option.some.inj e).symm)).trans h.box, h.ne, Ty.Tabs.by h.tabs hg (fun k hk => by have := Option.some.inj hk; have := h.gb; omega), h.gb, h.gr, Nat.le_trans hl h.short⟩
theorem Bk.Rdr.marked {r b : Nat} {w : World} {l : List UInt8} {e : Nat} {x : Bool} (h : Bk.Rdr r b w ⟨l, e, x⟩) (y : Bool) : Bk.Rdr r b (w.setCell ⟨r, 1, none⟩ (.bool y)) ⟨l, e, y⟩ :=
 ⟨(Below.heap_setCell _ _ _ _ (by show b ≠ r; exact h.ne)).trans h.cur, Ty.two_set1 h.box, h.ne, Ty.Tabs.by h.tabs (Ty.by_set w r 1 _) (fun k hk => by have := Option.some.inj hk; have := h.gr; omega), h.gb, h.gr, h.short⟩
theorem Bk.rdU_le (l : List UInt8) (e : Nat) : (Ty.rdU l e).2.1.length ≤ l.length := by
 unfold Ty.rdU
 split
 ·exact Nat.le_refl _
 ·simp only [List.length_drop]; omega
theorem Bk.rdT_le (m : Int) (l : List UInt8) (e : Nat) : (Ty.rdT m l e).2.1.length ≤ l.length ∧ (Ty.rdT m l e).1.length ≤ l.length := by
 unfold Ty.rdT
 split
 ·exact ⟨Nat.le_refl _, Nat.zero_le _⟩
 ·refine ⟨?_, Ty.txt_len l m⟩
  simp only [List.length_drop]; omega
theorem Bk.sl_congr {w : World} {v : Value} {n m : Nat} {f g : Nat → Value} (h : Bt.Sl w v n f) (hm : m = n) (e : ∀ i, i < n → f i = g i) : Bt.Sl w v m g := by
 subst hm
 obtain ⟨a, c, rfl, h⟩ := h
 refine ⟨a, c, rfl, ?_⟩
 rcases h with h | ⟨b, o, ha, hb, h⟩
 ·exact .inl h
 ·exact .inr ⟨b, o, ha, hb, fun i hi => by rw [← e i hi]; exact h i hi⟩
theorem Bk.sl_set {w : World} {v : Value} {n r B i : Nat} {f : Nat → Value} (h : Bt.Sl w v n f) (hf : Dd.Fresh B v) (hr : r < B) (x : Value) : Bt.Sl (w.setCell ⟨r, i, none⟩ x) v n f := by
 obtain ⟨a, c, rfl, h⟩ := h
 refine ⟨a, c, rfl, ?_⟩
 rcases h with h | ⟨b, o, rfl, hb, h⟩
 ·exact .inl h
 ·have hbB : B ≤ b := hf b rfl
  refine .inr ⟨b, o, rfl, by simpa [World.setCell] using hb, fun j hj => ?_⟩
  rw [← h j hj]
  exact World.cell?_of_block (a := ⟨b, o + j, none⟩) (Below.heap_setCell _ _ _ _ (by show b ≠ r; omega))
def Bk.Flg (r b : Nat) (w : World) (G : Nat × UInt8 × Dd.St) (e : Ending) (w' : World) : Prop :=
 ∃ u, e = .returned u ∧ Bt.Sl w' u G.1 (Bt.bv fun i => G.2.1.toNat.testBit i) ∧ Bk.Rdr r b w' G.2.2 ∧ ∀ B, B ≤ r → B ≤ b → B ≤ w.heap.size → Below B w w'
theorem Bk.stG_far {s : Dd.St} {n e1 : Nat} {l1 : List UInt8} (hU : Ty.rdU s.l s.e = (n, l1, e1)) (h : n < 1 ∨ 8 < n) : Bk.stG s = (0, 0, ⟨l1, e1, true⟩) := by
 unfold Bk.stG
 rw [hU]
 exact if_pos h
theorem Bk.stG_near {s : Dd.St} {n e1 : Nat} {l1 : List UInt8} (hU : Ty.rdU s.l s.e = (n, l1, e1)) (h : ¬ (n < 1 ∨ 8 < n)) {y e2 : Nat} {l2 : List UInt8} (hB : Ty.rdB l1 e1 = (y, l2, e2)) :
 Bk.stG s = if (UInt8.ofNat y).toNat / 2 ^ n = 0 then (n, UInt8.ofNat y, ⟨l2, e2, s.wr⟩) else (0, 0, ⟨l2, e2, true⟩) := by
 unfold Bk.stG
 rw [hU]
 refine (if_neg h).trans ?_
 rw [hB]
set_option maxHeartbeats 4000000 in
set_option maxRecDepth 100000 in
theorem Bk.rflags_c (r b : Nat) (s : Dd.St) (w : World) (h : Bk.Rdr r b w s) :
 Calls Tryz.prog 138 #[.pointer (some ⟨r, 0, none⟩)] w (Bk.Flg r b w (Bk.stG s)) := by
 have HR := Lib.hid h
 obtain ⟨b0, b1, z0, z1⟩ := Dd.two h.box
 have cu := Ty.cuint_c b s.l s.e w h.tabs h.cur (by have := h.short; omega)
 have hU := Ty.rdU_u64 s.l s.e
 have hl1 := Bk.rdU_le s.l s.e
 obtain ⟨G, hG⟩ : ∃ G, G = Bk.stG s := ⟨_, rfl⟩
 rw [← hG]
 have HF := Lib.hid fun n e1 l1 hU h => hG.trans (Bk.stG_far (n := n) (e1 := e1) (l1 := l1) hU h)
 have HN := Lib.hid fun n e1 l1 hU h y e2 l2 hB => hG.trans (Bk.stG_near (n := n) (e1 := e1) (l1 := l1) hU h (y := y) (e2 := e2) (l2 := l2) hB)
 clear hG
 generalize hR : Ty.rdU s.l s.e = U at cu hU hl1
 obtain ⟨n, l1, e1⟩ := U
 have HF := Lib.hid (HF.out n e1 l1 hR)
 have HN := Lib.hid (HN.out n e1 l1 hR)
 unfold Ty.U64 at hU
 simp only at cu hU hl1
 clear hR h
 by_cases hn : n < 1 ∨ 8 < n
 ·have HG := Lib.hid (HF.out hn)
  have hways : (n : Int) < 1 ∨ (¬ (n : Int) < 1 ∧ (8 : Int) < (n : Int)) := by omega
  clear hn
  rcases hways with h1 | ⟨h1, h2⟩
  all_goals
   go_enter Tryz.func138, Tryz.ntmps138
   go_wp2_with fail
   with_reducible refine cu.mono ?_
   rintro e w1 ⟨rfl, hc, hg⟩
   have HR1 := Lib.hid (HR.out.moved hc hg hl1)
   have HG1 := Lib.hid hg
   obtain ⟨c0, c1, f0, f1⟩ := Dd.two HR1.out.box
   clear b0 b1 z0 z1 hc hg cu
   go_wp2
   go_ret
   exact ⟨_, rfl, by rw [HG.out]; exact Bt.Sl.nil _ _, by rw [HG.out]; exact HR1.out.marked true, fun B hr hb hs => Cl.below_cell (Ty.below_at HG1.out hs hb) hr _⟩
 ·have hn1 : ¬ (n : Int) < 1 := by omega
  have hn8 : ¬ (8 : Int) < (n : Int) := by omega
  have HNN : Hid (1 ≤ n ∧ n ≤ 8) := Lib.hid (by omega)
  have HN := Lib.hid (HN.out hn)
  clear hn HF
  have hbl := Dd.rdB_le l1 e1
  have CB := Lib.hid fun wz (h : Ty.Cur b wz l1 e1) => Ty.cbyte_c b l1 e1 wz h (by have := HR.out.short; omega)
  generalize hRB : Ty.rdB l1 e1 = RB at hbl CB
  obtain ⟨y, l2, e2⟩ := RB
  simp only at hbl CB
  have HG0 := Lib.hid (HN.out y e2 l2 hRB)
  have hl2 := hbl.1
  have hy : y < 256 := by omega
  have hwy : IntKind.u8.wrap (y : Int) = (y : Int) := by rw [IntKind.wrap_u8]; omega
  have hwn : IntKind.i64.wrap (n : Int) = (n : Int) := by rw [IntKind.wrap_i64]; omega
  have HY := Lib.hid hwy
  have HWN := Lib.hid hwn
  have ONE := Lib.hid (Ig.one_str y hy)
  obtain ⟨E, hE⟩ : ∃ E, E = Bt.utE (Ty.S [UInt8.ofNat y]) (n : Int) := ⟨_, rfl⟩
  have hut := Bk.S1_ut (UInt8.ofNat y) HNN.out.1 HNN.out.2
  have hbit := fun i (h : i < 8) => Bk.S1_bit (UInt8.ofNat y) h
  have CT := Lib.hid fun wz => Bk.untruths_c (Ty.S [UInt8.ofNat y]) (n : Int) wz (show 1 ≤ 140737488355328 by decide)
  rw [← hE] at hut
  simp only [← hE] at CT
  have HBIT := Lib.hid hbit
  have HUT := Lib.hid hut
  generalize Ty.S [UInt8.ofNat y] = T9 at ONE CT HBIT HUT
  generalize UInt8.ofNat y = b8 at HG0 HBIT HUT
  clear hRB hbl hwy hwn hE hut hbit HN
  by_cases hE0 : E = 0
  ·have HZ := Lib.hid (HUT.out.1.1 hE0)
   have HGG := Lib.hid (HG0.out.trans (if_pos HZ.out))
   have HUN := Lib.hid (HUT.out.2.trans (if_pos HZ.out))
   subst hE0
   clear HG0 HUT
   obtain ⟨l0, e0, wr⟩ := s
   simp only at b0 b1 HR HGG cu hl1
   cases wr
   all_goals
    go_enter Tryz.func138, Tryz.ntmps138
    go_wp2_with fail
    with_reducible refine cu.mono ?_
    rintro e w1 ⟨rfl, hc, hg⟩
    have HR1 := Lib.hid (HR.out.moved hc hg hl1)
    have HG1 := Lib.hid hg
    have cb := CB.out w1 HR1.out.cur
    obtain ⟨c0, c1, f0, f1⟩ := Dd.two HR1.out.box
    clear b0 b1 z0 z1 hc hg cu
    go_wp2_with fail
    with_reducible refine cb.mono ?_
    rintro e w2 ⟨rfl, hc, hg⟩
    have HR2 := Lib.hid (HR1.out.moved hc hg hl2)
    have HG2 := Lib.hid (Ty.by_trans HG1.out hg)
    have hwy := HY.out
    have hwn := HWN.out
    have hone := ONE.out w2
    clear c0 c1 f0 f1 hc hg cb
    go_wp2_with fail
    have hB3 : Below w2.heap.size w2 (w2.alloc (.cells #[.int .u8 (y : Int)] 5)) := (Below.refl _ _).alloc (Nat.le_refl _) _
    generalize w2.alloc _ = w3 at hB3 ⊢
    with_reducible refine (CT.out w3).mono ?_
    rintro e w4 ⟨u, rfl, hS, hf, g4⟩
    have HR4 := Lib.hid ((HR2.out.kept hB3).kept g4)
    have HB4 := Lib.hid (hB3.trans (g4.mono hB3.size))
    have hr3 : r < w3.heap.size := Nat.lt_of_lt_of_le HR2.out.lt.1 hB3.size
    have HS := Lib.hid fun x : Bool => (Bk.sl_congr (g := Bt.bv fun i => b8.toNat.testBit i) (Bk.sl_set (i := 1) hS hf hr3 (.bool x)) HUN.out.symm fun i hi => by
     unfold Bt.bv
     rw [HBIT.out i (by rw [HUN.out] at hi; have := HNN.out.2; omega)])
    obtain ⟨c0, c1, f0, f1⟩ := Dd.two HR4.out.box
    obtain ⟨ua, un, rfl, -⟩ := hS
    clear hwy hwn hone hB3 hf g4
    go_wp2
    go_ret
    refine ⟨_, rfl, by rw [HGG.out]; exact HS.out _, by rw [HGG.out]; exact HR4.out.marked _, fun B hr hb hs => ?_⟩
    have h2 := Ty.below_at HG2.out hs hb
    exact Cl.below_cell (h2.trans (HB4.out.mono (Nat.le_trans hs h2.size))) hr _
  ·have HZ := Lib.hid fun h => hE0 (HUT.out.1.2 h)
   have HGG := Lib.hid (HG0.out.trans (if_neg HZ.out))
   have HUN := Lib.hid (HUT.out.2.trans (if_neg HZ.out))
   have hEb : ((E : Int) != 0) = true := by rw [bne_iff_ne]; omega
   clear HG0 HUT hE0
   obtain ⟨l0, e0, wr⟩ := s
   simp only at b0 b1 HR HGG cu hl1
   cases wr
   all_goals
    go_enter Tryz.func138, Tryz.ntmps138
    go_wp2_with fail
    with_reducible refine cu.mono ?_
    rintro e w1 ⟨rfl, hc, hg⟩
    have HR1 := Lib.hid (HR.out.moved hc hg hl1)
    have HG1 := Lib.hid hg
    have cb := CB.out w1 HR1.out.cur
    obtain ⟨c0, c1, f0, f1⟩ := Dd.two HR1.out.box
    clear b0 b1 z0 z1 hc hg cu
    go_wp2_with fail
    with_reducible refine cb.mono ?_
    rintro e w2 ⟨rfl, hc, hg⟩
    have HR2 := Lib.hid (HR1.out.moved hc hg hl2)
    have HG2 := Lib.hid (Ty.by_trans HG1.out hg)
    have hwy := HY.out
    have hwn := HWN.out
    have hone := ONE.out w2
    clear c0 c1 f0 f1 hc hg cb
    go_wp2_with fail
    have hB3 : Below w2.heap.size w2 (w2.alloc (.cells #[.int .u8 (y : Int)] 5)) := (Below.refl _ _).alloc (Nat.le_refl _) _
    generalize w2.alloc _ = w3 at hB3 ⊢
    with_reducible refine (CT.out w3).mono ?_
    rintro e w4 ⟨u, rfl, hS, hf, g4⟩
    have HR4 := Lib.hid ((HR2.out.kept hB3).kept g4)
    have HB4 := Lib.hid (hB3.trans (g4.mono hB3.size))
    have hr3 : r < w3.heap.size := Nat.lt_of_lt_of_le HR2.out.lt.1 hB3.size
    have HS := Lib.hid (Bk.sl_congr (m := 0) (g := Bt.bv fun i => (0 : UInt8).toNat.testBit i) (Bk.sl_set (i := 1) hS hf hr3 (.bool true)) HUN.out.symm fun i hi => by
     rw [HUN.out] at hi
     omega)
    obtain ⟨c0, c1, f0, f1⟩ := Dd.two HR4.out.box
    obtain ⟨ua, un, rfl, -⟩ := hS
    clear hwy hwn hone hB3 hf g4
    go_wp2
    go_ret
    refine ⟨_, rfl, by rw [HGG.out]; exact HS.out, by rw [HGG.out]; exact HR4.out.marked _, fun B hr hb hs => ?_⟩
    have h2 := Ty.below_at HG2.out hs hb
    exact Cl.below_cell (h2.trans (HB4.out.mono (Nat.le_trans hs h2.size))) hr _
end
section
open Go.RowKit
theorem Bk.row_at {w : World} {a : Option Addr} {n c : Nat} {vs : List Kn.V} (h : Kn.Vals w (.slice a n c) vs) {i : Nat} {x : Kn.V} (hx : vs[i]? = some x) : n = vs.length ∧ ∃ b o, a = some ⟨b, o, none⟩ ∧ b < w.heap.size ∧ Kn.At w b (o + i * 3) x := by
 obtain ⟨a', c', e, h⟩ := h
 simp only [Value.slice.injEq] at e
 obtain ⟨rfl, rfl, _⟩ := e
 rcases h with rfl | ⟨b, o, rfl, hb, _, h⟩
 ·simp at hx
 ·exact ⟨rfl, b, o, rfl, hb, h i x hx⟩
set_option maxHeartbeats 2000000 in
set_option maxRecDepth 100000 in
theorem Bk.pflags_c (v : Value) (L : List Dd.D) (R : Nat → Option Addr × Nat × Nat) (w : World) (hv : Bk.Dr w v L R) (h8 : L.length ≤ 8) :
 Calls Tryz.prog 98 #[v] w fun e w' => ∃ u, e = .returned u ∧ Bt.Sl w' u L.length (Bt.bv (Bk.gones L)) ∧ Below w.heap.size w w' := by
 obtain ⟨a, c, rfl, h⟩ := hv
 have HH := Lib.hid h
 have hmk := run_make_row' (P := Tryz.prog) 132 4 (.bool false) 1 Tryz.underlying132 Bt.infoB rfl .i64 .i64 L.length (by omega) (by omega)
 have H8 := Lib.hid h8
 clear h h8
 go_enter Tryz.func98, Tryz.ntmps98
 go_wp2_with fail
 have hR : (w.alloc (.cells (madeCells #[.bool false] L.length) 4)).rowIs w.heap.size 4 L.length (Bt.upTo 0 (Bt.bv (Bk.gones L)) (.bool false)) := (World.rowIs_made w (.bool false) L.length 4).congr fun i _ => by unfold Bt.upTo; rw [if_neg (by omega)]
 have hB : Below w.heap.size w (w.alloc (.cells (madeCells #[.bool false] L.length) 4)) := (Below.refl _ _).alloc (Nat.le_refl _) _
 generalize w.alloc (.cells (madeCells #[.bool false] L.length) 4) = w2 at hR hB ⊢
 clear hmk
 obtain ⟨g, hg⟩ : ∃ g, g = w.heap.size := ⟨_, rfl⟩
 rw [← hg] at hR hB ⊢
 have HGE := Lib.hid hg
 clear hg
 go_loopw [11] (fun i wr => ∃ k : Nat, k ≤ L.length ∧ i = .int .i64 k ∧ wr.rowIs g 4 L.length (Bt.upTo k (Bt.bv (Bk.gones L)) (.bool false)) ∧ Below g w wr) (fun i _ => L.length - (intOf i).toNat)
 case atStart => exact ⟨0, Nat.zero_le _, rfl, hR, hB⟩
 case round =>
  obtain ⟨k, hk, rfl, hRk, hBk⟩ := hrel
  have HR := Lib.hid hRk
  have HB := Lib.hid hBk
  have hgl : g < wr.heap.size := hRk.lt
  clear hR hB hRk hBk
  by_cases hl : k < L.length
  ·rcases HH.out with rfl | ⟨b, o, rfl, hlt, hc⟩
   ·simp at hl
   ·have hx := List.getElem?_eq_getElem hl
    generalize L[k] = d at hx
    obtain ⟨c0, c1⟩ := hc k d hx
    have hbg : b < g := by rw [HGE.out]; exact hlt
    have c0 := (HB.out.cell (p := ⟨b, o + k * 2, none⟩) hbg).trans c0
    have c1 := (HB.out.cell (p := ⟨b, o + k * 2 + 1, none⟩) hbg).trans c1
    generalize R k = rk at c1
    obtain ⟨ra, rn, rc⟩ := rk
    simp only [Bk.sv] at c1
    have hkl : (k : Int) < (L.length : Int) := by omega
    have hk0 : (0 : Int) ≤ (k : Int) := by omega
    have hk7 : (k : Int) ≤ 7 := by have := H8.out; omega
    have HGN : Hid (Bt.bv (Bk.gones L) k = .bool d.gone) := Lib.hid (by unfold Bt.bv Bk.gones; rw [List.getD_eq_getElem?_getD, hx]; rfl)
    generalize d.gone = gd at c0 HGN
    have HK := Lib.hid hl
    clear hc hx hl hk
    go_upto_region 5 with (fail)
    have HR1 := Lib.hid (HR.out.of_block (((Below.refl wr.heap.size wr).alloc (Nat.le_refl _) (.cells #[.bool gd, .slice ra rn rc] 41)).block g hgl))
    have HB1 := Lib.hid (HB.out.alloc (o := .cells #[.bool gd, .slice ra rn rc] 41) (by omega))
    have x0 := Kn.cell_new wr #[.bool gd, .slice ra rn rc] 41 0 _ rfl
    simp only [List.getElem_toArray, List.getElem_cons_zero] at x0
    obtain ⟨q, hq⟩ : ∃ q, q = wr.heap.size := ⟨_, rfl⟩
    rw [← hq] at x0 ⊢
    clear hq c0 c1 HR HB
    generalize wr.alloc _ = w3 at HR1 HB1 x0 ⊢
    have hf := HR1.out.frozen k
    have hcl := HR1.out.cell HK.out
    go_wp2
    go_roundw
    case rel => exact ⟨k + 1, HK.out, by simp, Bt.upTo_next HR1.out HGN.out.symm, HB1.out.trans (Bt.below_set (Nat.le_refl _) _)⟩
    case measure => (have := HK.out; simp [intOf]; omega)
  ·obtain rfl : k = L.length := by omega
   have hkl : ¬ (L.length : Int) < (L.length : Int) := by omega
   clear hk hl
   go_wp2
   go_ret
   exact ⟨_, rfl, Bt.Sl.row (HR.out.congr fun i hi => by unfold Bt.upTo; rw [if_pos hi]), by have := HB.out; rwa [HGE.out] at this⟩
set_option maxHeartbeats 2000000 in
set_option maxRecDepth 100000 in
theorem Bk.rows_c (i p : Nat) (v : Value) (L : List Dd.D) (R : Nat → Option Addr × Nat × Nat) (w : World) (hv : Bk.Dr w v L R) (hp : w.cell? ⟨p, 0, none⟩ = some (.int .i64 (i : Int))) (hpl : p < w.heap.size) (h8 : L.length ≤ 8) :
 Calls Tryz.prog 128 #[v, .func (.func 145) #[] #[.pointer (some ⟨p, 0, none⟩)]] w fun e w' => ∃ u, e = .returned u ∧ Dk.Own 39 1 Bk.e1 w.heap.size w' u (Bk.hl i R 0 L) ∧ Below w.heap.size w w' := by
 obtain ⟨a, c, rfl, h⟩ := hv
 have HH := Lib.hid h
 have H8 := Lib.hid h8
 have HP := Lib.hid hp
 have HPL := Lib.hid hpl
 clear h h8 hp hpl
 go_enter Tryz.func128, Tryz.ntmps128
 go_wp2_with fail
 go_loopw [5, 10] (fun hd i9 wr => ∃ k : Nat, k ≤ L.length ∧ i9 = .int .i64 k ∧ Dk.Own 39 1 Bk.e1 w.heap.size wr hd (Bk.hl i R 0 (L.take k)) ∧ Below w.heap.size w wr) (fun _ i9 _ => L.length - (intOf i9).toNat)
 case atStart => exact ⟨0, Nat.zero_le _, rfl, Dk.Own.nil _ _, Below.refl _ _⟩
 case round =>
  obtain ⟨k, hk, rfl, hO, hB⟩ := hrel
  have HO := Lib.hid hO
  have HB := Lib.hid hB
  clear hO hB
  by_cases hl : k < L.length
  ·rcases HH.out with rfl | ⟨b, o, rfl, hlt, hc⟩
   ·simp at hl
   ·have hx := List.getElem?_eq_getElem hl
    generalize L[k] = d at hx
    obtain ⟨c0, c1⟩ := hc k d hx
    have c0 := (HB.out.cell (p := ⟨b, o + k * 2, none⟩) hlt).trans c0
    have c1 := (HB.out.cell (p := ⟨b, o + k * 2 + 1, none⟩) hlt).trans c1
    have HT := Lib.hid (Bk.hl_take (i := i) (R := R) hx)
    have HML : Hid ((Bk.hl i R 0 (L.take k)).length ≤ 8) := Lib.hid (by
     rw [Bk.hl_len]
     refine Nat.le_trans (List.length_filter_le ..) ?_
     rw [List.length_take]
     have := H8.out
     omega)
    generalize Bk.hl i R 0 (L.take k) = M at HO HT HML
    generalize R k = rk at c1 HT
    obtain ⟨ra, rn, rc⟩ := rk
    simp only [Bk.sv] at c1
    have hkl : (k : Int) < (L.length : Int) := by omega
    have hk0 : (0 : Int) ≤ (k : Int) := by omega
    have hk7 : (k : Int) ≤ 7 := by have := H8.out; omega
    have CH : Hid (∀ W, W.cell? ⟨p, 0, none⟩ = some (.int .i64 (i : Int)) → p < W.heap.size → Calls Tryz.prog 145 #[.agg #[.bool d.gone, .slice ra rn rc], .pointer (some ⟨p, 0, none⟩)] W fun e w' => e = .returned (.bool (Bk.has i d)) ∧ Below W.heap.size W w') := Lib.hid fun W h1 h2 => Bk.has_c i p d ra rn rc W h1 h2
    generalize Bk.has i d = hb at CH HT
    generalize d.gone = gd at c0 CH
    have HK := Lib.hid hl
    clear hc hx hl hk
    go_upto_region 5 with (fail)
    have HB0 : Hid (Below wr.heap.size wr (wr.alloc (.cells #[.bool gd, .slice ra rn rc] 41))) := Lib.hid ((Below.refl _ _).alloc (Nat.le_refl _) _)
    have x0 := Kn.cell_new wr #[.bool gd, .slice ra rn rc] 41 0 _ rfl
    have x1 := Kn.cell_new wr #[.bool gd, .slice ra rn rc] 41 1 _ rfl
    simp only [List.getElem_toArray, List.getElem_cons_zero, List.getElem_cons_succ] at x0 x1
    have hsz : (wr.alloc (.cells #[.bool gd, .slice ra rn rc] 41)).heap.size = wr.heap.size + 1 := World.size_alloc ..
    obtain ⟨q, hq⟩ : ∃ q, q = wr.heap.size := ⟨_, rfl⟩
    rw [← hq] at x0 x1 ⊢
    generalize wr.alloc _ = w3 at HB0 x0 x1 hsz ⊢
    have hq3 : q < w3.heap.size := by omega
    have HQ3 := Lib.hid hq3
    have HX1 := Lib.hid x1
    have HB3 := Lib.hid (HB.out.trans (HB0.out.mono HB.out.size))
    have HO3 := Lib.hid (HO.out.kept HB0.out)
    have ch := CH.out w3 ((HB3.out.cell (p := ⟨p, 0, none⟩) HPL.out).trans HP.out) (Nat.lt_of_lt_of_le HPL.out HB3.out.size)
    clear hq c0 c1 HO HB HB0 CH hsz hq3
    go_wp2_with fail
    with_reducible refine ch.mono ?_
    rintro e w4 ⟨rfl, g4⟩
    have HB4 := Lib.hid (HB3.out.trans (g4.mono HB3.out.size))
    have HO4 := HO3.out.kept g4
    have y1 := (g4.cell (p := ⟨q, 1, none⟩) HQ3.out).trans HX1.out
    have hbs : w.heap.size ≤ w4.heap.size := HB4.out.size
    have hml := HML.out
    clear ch g4 x0 x1 HO3
    cases hb
    ·have HT2 := Lib.hid (HT.out.trans (by rw [if_neg (by decide), List.append_nil]))
     have HO5 := Lib.hid HO4
     clear HO4 hbs hml
     go_wp2
     go_roundw
     case rel => exact ⟨k + 1, HK.out, by simp, by rw [HT2.out]; exact HO5.out, HB4.out⟩
     case measure => (have := HK.out; simp [intOf]; omega)
    ·have HT2 := Lib.hid (HT.out.trans (by rw [if_pos rfl]))
     go_wp2_with (at_builtin; refine Dk.wpList_append1 58 _ 24 Tryz.underlying58 Bk.infoR rfl (by decide) Bk.e1_len Bk.e1_one (ra, rn, rc) HO4 hbs (by omega) (by omega) _ rfl _ rfl (.tmp 17) (.tmp 20) (by rfl) (by rfl) (by rfl) (by rfl) ?_; intro v5 w5 h5 g5)
     have H5 := Lib.hid h5
     have HB5 := Lib.hid (Dk.own_below HB4.out HO4 g5)
     clear h5 g5 HO4 hbs hml
     go_roundw
     case rel => exact ⟨k + 1, HK.out, by simp, by rw [HT2.out]; exact H5.out, HB5.out⟩
     case measure => (have := HK.out; simp [intOf]; omega)
  ·obtain rfl : k = L.length := by omega
   have hkl : ¬ (L.length : Int) < (L.length : Int) := by omega
   rw [List.take_length] at HO
   clear hk hl
   go_wp2
   go_ret
   exact ⟨_, rfl, HO.out, HB.out⟩
set_option maxHeartbeats 2000000 in
set_option maxRecDepth 100000 in
theorem Bk.pvalues_c (v : Value) (L : List Dd.D) (i : Nat) (h8 : L.length ≤ 8) (hi6 : i ≤ 6) (hl : ∀ d ∈ L, Bk.has i d = true → i < d.row.length) (w : World) (hv : Bk.Ds w v L) :
 Calls Tryz.prog 100 #[v, .int .i64 (i : Int)] w fun e w' => ∃ u, e = .returned u ∧ Kn.Vals w' u (Bk.col L i) ∧ Below w.heap.size w w' := by
 obtain ⟨R, hr, hrv⟩ := hv.dr
 have HR := Lib.hid hr
 have HRV := Lib.hid hrv
 have H8 := Lib.hid h8
 have HL := Lib.hid hl
 have HI := Lib.hid hi6
 have hi0 : (0 : Int) ≤ (i : Int) := by omega
 obtain ⟨a, c, rfl, -⟩ := hr
 have CH := Lib.hid (Bk.having_c i)
 have CR := Lib.hid fun (p : Nat) (wz : World) (h1 : Bk.Dr wz (.slice a L.length c) L R) (h2 : wz.cell? ⟨p, 0, none⟩ = some (.int .i64 (i : Int))) (h3 : p < wz.heap.size) => Bk.rows_c i p _ L R wz h1 h2 h3 H8.out
 clear hv hrv h8 hl hi6
 unfold Bk.fv at CH
 obtain ⟨K, hKE⟩ : ∃ K, K = Bk.col L i := ⟨_, rfl⟩
 rw [← hKE]
 have HKE := Lib.hid hKE
 clear hKE
 go_enter Tryz.func100, Tryz.ntmps100
 go_wp2_with fail
 with_reducible refine (CH.out _).mono ?_
 rintro e w1 ⟨p, rfl, hp1, hp2, hp3, g1⟩
 have HG1 := Lib.hid g1
 have cr := CR.out p w1 (HR.out.later g1) hp3 hp2
 clear g1 hp1 hp2 hp3 CH CR
 go_wp2_with fail
 with_reducible refine cr.mono ?_
 rintro e w2 ⟨hd, rfl, hO, g2⟩
 have HG2 := Lib.hid (HG1.out.trans (g2.mono HG1.out.size))
 have HO := Lib.hid hO
 have hf := hO.form
 have hlen : (Bk.hl i R 0 L).length = K.length := by rw [HKE.out, Bk.hl_len]; unfold Bk.col; rw [List.length_map]
 have hat0 := Bk.hl_at i R 0 L
 rw [← HKE.out] at hat0
 have HAT := Lib.hid hat0
 have HCL : Hid (K.length ≤ 8) := Lib.hid (by rw [HKE.out]; unfold Bk.col; rw [List.length_map]; exact Nat.le_trans (List.length_filter_le ..) H8.out)
 have HRV2 : Hid (∀ j d, L[j]? = some d → Kn.Vals w2 (Bk.sv (R j)) d.row) := Lib.hid fun j d h => (HRV.out j d h).later HG2.out
 clear cr g2 hO hat0
 generalize Bk.hl i R 0 L = M at hf hlen HAT HO
 have HLN := Lib.hid hlen
 have HFM : Hid ((hd = .slice none 0 0 ∧ M = []) ∨ ∃ g c, hd = .slice (some ⟨g, 0, none⟩) M.length c ∧ g < w2.heap.size) := Lib.hid (hf.imp id fun ⟨g, c, h1, _, _, _, h2⟩ => ⟨g, c, h1, h2⟩)
 obtain ⟨ha, hc, rfl⟩ : ∃ ha hc, hd = .slice ha M.length hc := by
  rcases hf with ⟨rfl, rfl⟩ | ⟨g, c, rfl, _⟩
  ·exact ⟨none, 0, rfl⟩
  ·exact ⟨_, c, rfl⟩
 clear hf hlen
 go_wp2_with fail
 go_loopw [5, 13] (fun fd i9 wr => ∃ k : Nat, k ≤ M.length ∧ i9 = .int .i64 k ∧ Cl.Own w2.heap.size wr fd (K.take k) ∧ Below w2.heap.size w2 wr) (fun _ i9 _ => M.length - (intOf i9).toNat)
 case atStart => exact ⟨0, Nat.zero_le _, rfl, Cl.Own.nil _ _, Below.refl _ _⟩
 case round =>
  obtain ⟨k, hk, rfl, hO, hB⟩ := hrel
  have HO5 := Lib.hid hO
  have HB := Lib.hid hB
  clear hO hB
  by_cases hl : k < M.length
  ·rcases HFM.out with ⟨h1, h2⟩ | ⟨g, c9, h1, hg⟩
   ·rw [h2] at hl
    simp at hl
   ·simp only [Value.slice.injEq, true_and] at h1
    obtain ⟨rfl, rfl⟩ := h1
    have hx := List.getElem?_eq_getElem hl
    generalize M[k] = rk at hx
    obtain ⟨j, d, hj, hh, hrk, hK⟩ := HAT.out k rk hx
    have c0 := HO.out.cell Bk.e1_len rfl hx (j := 0) (by decide)
    rw [Nat.mul_one, Nat.add_zero] at c0
    have c0 := (HB.out.cell (p := ⟨g, k, none⟩) hg).trans c0
    rw [Nat.zero_add] at hrk
    subst hrk
    have hv9 := HRV2.out j d hj
    have hi9 := HL.out d (List.mem_of_getElem? hj) hh
    have hxi : d.row[i]? = some (d.row.getD i Cl.nul) := by rw [List.getD_eq_getElem?_getD, List.getElem?_eq_getElem hi9]; rfl
    generalize d.row.getD i Cl.nul = x at hxi hK
    generalize R j = rj at c0 hv9
    obtain ⟨ra, rn, rc⟩ := rj
    simp only [Bk.sv, Bk.e1, List.getElem?_cons_zero] at c0 hv9
    obtain ⟨rfl, b2, o2, rfl, hb2, hat⟩ := Bk.row_at hv9 hxi
    have e0 := (HB.out.cell (p := ⟨b2, o2 + i * 3, none⟩) hb2).trans hat.c0
    have e1 := (HB.out.cell (p := ⟨b2, o2 + i * 3 + 1, none⟩) hb2).trans hat.c1
    have e2 := (HB.out.cell (p := ⟨b2, o2 + i * 3 + 2, none⟩) hb2).trans hat.c2
    have hkl : (k : Int) < (M.length : Int) := by omega
    have hk0 : (0 : Int) ≤ (k : Int) := by omega
    have hk7 : (k : Int) ≤ 7 := by have := HCL.out; have := HLN.out; omega
    have hil : (i : Int) < (d.row.length : Int) := by omega
    have HT : Hid (K.take (k + 1) = K.take k ++ [x]) := Lib.hid (by
     obtain ⟨h1, h2⟩ := List.getElem?_eq_some_iff.1 hK
     rw [List.take_succ_eq_append_getElem h1, h2])
    have hkl2 : (K.take k).length + 1 ≤ 1048576 := by
     rw [List.length_take]
     have := HCL.out
     omega
    have hO := HO5.out
    generalize K.take k = KT at hO HT hkl2 HO5
    have hws : w2.heap.size ≤ wr.heap.size := HB.out.size
    have HK := Lib.hid hl
    clear hx hj hh hK hv9 hxi hat hl hk hi9 hb2
    go_wp2_with (at_builtin; refine Cl.wpList_append_val_at x hO hws hkl2 (.tmp 17) (.tmp 22) _ rfl _ rfl rfl rfl rfl rfl ?_; intro v5 w5 h5 g5)
    have H5 := Lib.hid h5
    have HB5 := Lib.hid (HB.out.trans (Cl.own_grown hws hO g5))
    clear h5 g5 hO hkl2 hws
    go_roundw
    case rel => exact ⟨k + 1, HK.out, by simp, by rw [HT.out]; exact H5.out, HB5.out⟩
    case measure => (have := HK.out; simp [intOf]; omega)
  ·obtain rfl : k = M.length := by omega
   have hkl : ¬ (M.length : Int) < (M.length : Int) := by omega
   rw [HLN.out, List.take_length] at HO5
   clear hk hl
   go_wp2
   go_ret
   exact ⟨_, rfl, HO5.out.vals, HG2.out.trans (HB.out.mono HG2.out.size)⟩
end
end Go.Proofs.YtbelkhkllneifaaGreatDoor
