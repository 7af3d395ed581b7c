import Derived.Test.YtbelkhkllneifaaGreatDoorWEAI
import Derived.Test.YtbelkhkllneifaaGreatDoorWEAJ
import Derived.Test.YtbelkhkllneifaaGreatDoorWEAA
import Derived.Lib.QuietBelow
import Derived.BigQuiet
namespace Go.Proofs.YtbelkhkllneifaaGreatDoor
open Go
open Ty (encU U64 I64)
def Rn.nb (n : Nat) : Nat := (n + 7) / 8
def Rn.bk (L : List Dd.D) (i : Nat) : List Dd.D := (L.drop (8 * i)).take 8
def Rn.blocks (L : List Dd.D) : List (List Dd.D) := (List.range (Rn.nb L.length)).map (Rn.bk L)
theorem Rn.nb_le {n i : Nat} (h : i < Rn.nb n) : 8 * i < n := by unfold Rn.nb at h; omega
theorem Rn.bk_len (L : List Dd.D) (i : Nat) : (Rn.bk L i).length = min 8 (L.length - 8 * i) := by
 unfold Rn.bk
 rw [List.length_take, List.length_drop]
theorem Rn.bk_some {L : List Dd.D} {i : Nat} (h : i < Rn.nb L.length) : 1 ≤ (Rn.bk L i).length ∧ (Rn.bk L i).length ≤ 8 := by
 rw [Rn.bk_len]
 have := Rn.nb_le h
 omega
theorem Rn.bk_at (L : List Dd.D) (i j : Nat) : (Rn.bk L i)[j]? = if j < 8 then L[8 * i + j]? else none := by
 unfold Rn.bk
 rw [List.getElem?_take, List.getElem?_drop]
theorem Rn.bk_mem {L : List Dd.D} {i : Nat} {d : Dd.D} (h : d ∈ Rn.bk L i) : d ∈ L := List.mem_of_mem_drop (List.mem_of_mem_take h)
theorem Rn.flat_take (L : List Dd.D) : ∀ k, ((List.range k).map (Rn.bk L)).flatten = L.take (8 * k)
 | 0 => by simp
 | k + 1 => by
   rw [List.range_succ, List.map_append, List.flatten_append, Rn.flat_take L k]
   simp only [List.map_cons, List.map_nil, List.flatten_cons, List.flatten_nil, List.append_nil]
   unfold Rn.bk
   rw [show 8 * (k + 1) = 8 * k + 8 by omega, List.take_add]
theorem Rn.blocks_flat (L : List Dd.D) : (Rn.blocks L).flatten = L := by
 unfold Rn.blocks
 rw [Rn.flat_take, List.take_of_length_le (by unfold Rn.nb; omega)]
theorem Rn.blocks_len (L : List Dd.D) : (Rn.blocks L).length = Rn.nb L.length := by unfold Rn.blocks; simp
theorem Rn.blocks_at (L : List Dd.D) {i : Nat} (h : i < Rn.nb L.length) : (Rn.blocks L)[i]? = some (Rn.bk L i) := by
 unfold Rn.blocks
 rw [List.getElem?_map, List.getElem?_range h]
 rfl
theorem Rn.blocks_mem {L b : List Dd.D} (h : b ∈ Rn.blocks L) : ∃ i, i < Rn.nb L.length ∧ b = Rn.bk L i := by
 unfold Rn.blocks at h
 obtain ⟨i, hi, rfl⟩ := List.mem_map.1 h
 exact ⟨i, List.mem_range.1 hi, rfl⟩
theorem Rn.bk_sorted {L : List Dd.D} (h : Bk.sorted L = true) (i : Nat) : Bk.sorted (Rn.bk L i) = true := by
 unfold Bk.sorted at h ⊢
 rw [List.all_eq_true] at h ⊢
 intro j hj
 have hj := List.mem_range.1 hj
 rw [Rn.bk_len] at hj
 have hs := h (8 * i + j) (List.mem_range.2 (by omega))
 have e1 : (Rn.bk L i).getD j Bk.nod = L.getD (8 * i + j) Bk.nod := by
  rw [List.getD_eq_getElem?_getD, List.getD_eq_getElem?_getD, Rn.bk_at, if_pos (by omega)]
 unfold Bk.step at hs ⊢
 rw [e1]
 rw [Bool.and_eq_true] at hs ⊢
 refine ⟨hs.1, ?_⟩
 by_cases h0 : j = 0
 ·rw [h0]; rfl
 ·have e2 : (Rn.bk L i).getD (j - 1) Bk.nod = L.getD (8 * i + j - 1) Bk.nod := by
   rw [List.getD_eq_getElem?_getD, List.getD_eq_getElem?_getD, Rn.bk_at, if_pos (by omega), show 8 * i + (j - 1) = 8 * i + j - 1 by omega]
  rw [e2]
  have hs2 := hs.2
  rw [Bool.or_eq_true] at hs2 ⊢
  rcases hs2 with h1 | h1
  ·rw [beq_iff_eq] at h1; omega
  ·exact .inr h1
def Rn.index (s : List Kn.C) (L : List Dd.D) : List UInt8 := encU (Rn.nb L.length) ++ (Rn.blocks L).flatMap fun b => encU (Fr.frm (Bk.enc s b)).length
def Rn.texts (s : List Kn.C) (L : List Dd.D) : List Fr.Str := (Rn.blocks L).map (Bk.enc s) ++ [Rn.index s L]
def Rn.enc (s : List Kn.C) (L : List Dd.D) : List UInt8 := (Rn.texts s L).flatMap Fr.frm
def Rn.wE (s : List Kn.C) (L : List Dd.D) : Int :=
 if Kn.right s = true then (if L.length = 0 then 1 else if Bk.fitsE s L = 0 then (if 1048576 < (Rn.enc s L).length then 3 else 0) else Bk.fitsE s L) else 4
def Rn.wS (s : List Kn.C) (L : List Dd.D) : List UInt8 := if Rn.wE s L = 0 then Rn.enc s L else []
def Rn.wV (s : List Kn.C) (L : List Dd.D) : Value := .tuple #[.string (Ty.S (Rn.wS s L)), .int .i64 (Rn.wE s L)]
theorem Rn.wE_0 {s : List Kn.C} {L : List Dd.D} (h : Rn.wE s L = 0) : Kn.right s = true ∧ 1 ≤ L.length ∧ (∀ d ∈ L, Dd.fitE s d = 0) ∧ Bk.sorted L = true ∧ (Rn.enc s L).length ≤ 1048576 := by
 unfold Rn.wE at h
 by_cases h1 : Kn.right s = true
 ·rw [if_pos h1] at h
  by_cases h2 : L.length = 0
  ·rw [if_pos h2] at h; cases h
  ·rw [if_neg h2] at h
   by_cases h3 : Bk.fitsE s L = 0
   ·rw [if_pos h3] at h
    by_cases h4 : 1048576 < (Rn.enc s L).length
    ·rw [if_pos h4] at h; cases h
    ·unfold Bk.fitsE at h3
     by_cases h5 : Bk.firstE s L = 0
     ·rw [if_pos h5] at h3
      by_cases h6 : Bk.sorted L = true
      ·exact ⟨h1, by omega, Bk.firstE_0.1 h5, h6, by omega⟩
      ·rw [if_neg h6] at h3; cases h3
     ·rw [if_neg h5] at h3
      exact absurd h3 h5
   ·rw [if_neg h3] at h
    exact absurd h h3
 ·rw [if_neg h1] at h; cases h
theorem Rn.bk_wE {s : List Kn.C} {L : List Dd.D} (hr : Kn.right s = true) (hf : ∀ d ∈ L, Dd.fitE s d = 0) (hs : Bk.sorted L = true) {i : Nat} (hi : i < Rn.nb L.length) : Bk.wE s (Rn.bk L i) = 0 :=
 Bk.wE_of hr (Rn.bk_some hi).1 (Rn.bk_some hi).2 (fun d hd => hf d (Rn.bk_mem hd)) (Rn.bk_sorted hs i)
theorem Rn.le_sum : ∀ {l : List Nat} {x : Nat}, x ∈ l → x ≤ l.sum
 | y :: l, x, h => by
   rw [List.sum_cons]
   rcases List.mem_cons.1 h with rfl | h
   ·omega
   ·have := Rn.le_sum h
    omega
theorem Rn.text_le {s : List Kn.C} {L : List Dd.D} (h : (Rn.enc s L).length ≤ 1048576) : ∀ t ∈ Rn.texts s L, t.length ≤ 1048576 := fun t ht => by
 have hs := Fr.size_is (Rn.texts s L)
 unfold Rn.enc at h
 rw [hs] at h
 unfold Fr.size at h
 have : t.length + 8 ≤ ((Rn.texts s L).map fun t => t.length + 8).sum := Rn.le_sum (List.mem_map.2 ⟨t, ht, rfl⟩)
 omega
theorem Rn.scan_enc {s : List Kn.C} {L : List Dd.D} (h : (Rn.enc s L).length ≤ 1048576) : Fr.scan (Rn.enc s L) = (0, Rn.texts s L, (Rn.enc s L).length) := by
 have := Fr.scan_all (Rn.texts s L) (Rn.text_le h)
 rw [← Fr.size_is] at this
 exact this
theorem Rn.texts_len (s : List Kn.C) (L : List Dd.D) : (Rn.texts s L).length = Rn.nb L.length + 1 := by
 unfold Rn.texts
 rw [List.length_append, List.length_map, Rn.blocks_len]
 rfl
theorem Rn.texts_at {s : List Kn.C} {L : List Dd.D} {i : Nat} (h : i < Rn.nb L.length) : (Rn.texts s L)[i]? = some (Bk.enc s (Rn.bk L i)) := by
 unfold Rn.texts
 rw [List.getElem?_append_left (by rw [List.length_map, Rn.blocks_len]; exact h), List.getElem?_map, Rn.blocks_at L h]
 rfl
theorem Rn.texts_last (s : List Kn.C) (L : List Dd.D) : (Rn.texts s L)[Rn.nb L.length]? = some (Rn.index s L) := by
 unfold Rn.texts
 rw [List.getElem?_append_right (by rw [List.length_map, Rn.blocks_len]; exact Nat.le_refl _), List.length_map, Rn.blocks_len, Nat.sub_self]
 rfl
theorem Rn.rd_bk {s : List Kn.C} {L : List Dd.D} (h : Rn.wE s L = 0) (hi : ∀ d ∈ L, ∀ v ∈ d.row, I64 v.n) {i : Nat} (hk : i < Rn.nb L.length) : Bk.rd s (Bk.enc s (Rn.bk L i)) = (0, Rn.bk L i) := by
 obtain ⟨hr, _, hf, hs, _⟩ := Rn.wE_0 h
 exact Bk.rd_enc (Rn.bk_wE hr hf hs hk) fun d hd => hi d (Rn.bk_mem hd)
theorem Rn.asc {L : List Dd.D} (h : Bk.sorted L = true) : ∀ (j i : Nat), i < j → j < L.length → Kn.cmp (Bk.key (L.getD i Bk.nod)) (Bk.key (L.getD j Bk.nod)) < 0
 | 0, i, hij, _ => by omega
 | j + 1, i, hij, hj => by
   unfold Bk.sorted at h
   have hst := List.all_eq_true.1 h (j + 1) (List.mem_range.2 hj)
   unfold Bk.step at hst
   rw [Bool.and_eq_true, Bool.or_eq_true] at hst
   have h1 : Kn.cmp (Bk.key (L.getD j Bk.nod)) (Bk.key (L.getD (j + 1) Bk.nod)) < 0 := by
    rcases hst.2 with h2 | h2
    ·rw [beq_iff_eq] at h2; omega
    ·rw [Nat.add_sub_cancel] at h2
     exact of_decide_eq_true h2
   rcases Nat.lt_or_ge i j with h2 | h2
   ·have ih := Rn.asc (by unfold Bk.sorted; exact h) j i h2 (by omega)
    exact Zn.lt_trans ih (by omega)
   ·obtain rfl : i = j := by omega
    exact h1
def Rn.get (L : List Dd.D) (k : Kn.V) : Option Dd.D := L.find? fun d => Kn.cmp (Bk.key d) k == 0
def Rn.in_ (L : List Dd.D) (r : Kn.R) : List Dd.D := L.filter fun d => Kn.inR r (Bk.key d)
def Rn.zone (s : List Kn.C) (L : List Dd.D) (b c : Int) : Zn.Zo := if 0 ≤ b ∧ b < (Rn.nb L.length : Int) ∧ 0 ≤ c ∧ c < (s.length : Int) then Zn.of (Bk.col (Rn.bk L b.toNat) c.toNat) else Zn.z0
def Rn.holds (r : Kn.R) (a : Zn.As) (d : Dd.D) : Bool := !d.gone && Kn.inR r (Bk.key d) && decide (0 ≤ a.col ∧ a.col < (d.row.length : Int)) && Zn.holds a (d.row.getD a.col.toNat Cl.nul)
def Rn.hold (L : List Dd.D) (r : Kn.R) (a : Zn.As) : List (List Kn.V) := (L.filter (Rn.holds r a)).map Dd.D.row
def Rn.meets (z : Zn.Zo) (r : Kn.R) : Bool := (!r.from_ || !decide (Kn.cmp z.hi r.lo < 0)) && (!r.til || decide (Kn.cmp z.lo r.hi < 0))
def Rn.look (s : List Kn.C) (L : List Dd.D) (r : Kn.R) (a : Zn.As) (i : Nat) : Bool := decide (0 ≤ a.col ∧ a.col < (s.length : Int)) && Rn.meets (Rn.zone s L i 0) r && Zn.may a (Rn.zone s L i a.col)
def Rn.looked (s : List Kn.C) (L : List Dd.D) (r : Kn.R) (a : Zn.As) : Nat := ((List.range (Rn.nb L.length)).filter (Rn.look s L r a)).length
theorem Rn.hold_flat (L : List Dd.D) (r : Kn.R) (a : Zn.As) : Rn.hold L r a = ((Rn.blocks L).map fun b => Rn.hold b r a).flatten := by
 unfold Rn.hold
 conv => lhs; rw [← Rn.blocks_flat L]
 rw [List.filter_flatten, List.map_flatten, List.map_map]
 rfl
theorem Rn.skip {s : List Kn.C} {L : List Dd.D} (hL : ∀ d ∈ L, Dd.fitE s d = 0) (hr : Kn.right s = true) {r : Kn.R} {a : Zn.As} {i : Nat} (hi : i < Rn.nb L.length) (h : Rn.look s L r a i = false) : Rn.hold (Rn.bk L i) r a = [] := by
 unfold Rn.hold
 rw [List.map_eq_nil_iff, List.filter_eq_nil_iff]
 intro d hd hh
 have hdL := Rn.bk_mem hd
 obtain ⟨_, hlen, hall⟩ := Dd.fitE_0 (hL d hdL)
 unfold Rn.holds at hh
 simp only [Bool.and_eq_true, decide_eq_true_iff, Bool.not_eq_true'] at hh
 obtain ⟨⟨⟨hg, hin⟩, hc0, hc1⟩, hho⟩ := hh
 rw [hg] at hlen hall
 rw [Bk.cols_len, if_neg (by decide)] at hlen
 have hcs : a.col < (s.length : Int) := by omega
 have hs1 := (Kn.right_len hr).1
 unfold Rn.look at h
 rw [decide_eq_true (show 0 ≤ a.col ∧ a.col < (s.length : Int) from ⟨hc0, hcs⟩), Bool.true_and] at h
 have hz0 : Rn.zone s L i 0 = Zn.of (Bk.col (Rn.bk L i) 0) := by
  unfold Rn.zone
  rw [if_pos (by omega)]
  simp
 have hz1 : Rn.zone s L i a.col = Zn.of (Bk.col (Rn.bk L i) a.col.toNat) := by
  unfold Rn.zone
  rw [if_pos (by omega)]
  simp
 rw [hz0, hz1] at h
 have hk0 : Bk.key d ∈ Bk.col (Rn.bk L i) 0 := Bk.mem_col.2 ⟨d, hd, rfl, by
  unfold Bk.key
  cases hrow : d.row with
  | nil => rw [hrow] at hlen; simp at hlen; omega
  | cons x l => rfl⟩
 have hkn : (Bk.key d).null = false := by
  have hc := List.getElem?_eq_getElem (l := s) (i := 0) (by omega)
  have hv : d.row[0]? = some (Bk.key d) := by
   unfold Bk.key
   cases hrow : d.row with
   | nil => rw [hrow] at hlen; simp at hlen; omega
   | cons x l => rfl
  have hf := Bk.fitsAll_at _ _ hall 0 s[0] (Bk.key d) hc hv
  have hg0 := Bk.good_of hr hc
  rw [Bk.fits_is hg0] at hf
  have hnul : (s[0]'(by omega)).null = false := by
   have h9 : ∀ (t : List Kn.C) (h0 : 0 < t.length), Kn.right t = true → (t[0]'h0).null = false := fun t h0 ht => by
    obtain ⟨x, u, rfl, h1, _⟩ := Kn.right_head ht
    exact h1
   exact h9 s (by omega) hr
  unfold Cl.is at hf
  cases hn : (Bk.key d).null
  ·rfl
  ·rw [hn, hnul] at hf
   simp at hf
 have inv0 := Zn.of_inv (Bk.col (Rn.bk L i) 0)
 have hval : (Zn.of (Bk.col (Rn.bk L i) 0)).values = true := inv0.values.2 ⟨_, hk0, hkn⟩
 have hlo := (inv0.lo hval).2.2 _ hk0 hkn
 have hhi := (inv0.hi hval).2.2 _ hk0 hkn
 generalize Zn.of (Bk.col (Rn.bk L i) 0) = z at h hlo hhi
 have hm : Rn.meets z r = true := by
  unfold Kn.inR at hin
  unfold Rn.meets
  simp only [Bool.and_eq_true, Bool.or_eq_true, Bool.not_eq_true', decide_eq_true_iff, decide_eq_false_iff_not] at hin ⊢
  refine ⟨hin.1.imp id fun h1 h2 => h1 (Zn.trans_lt hhi h2), hin.2.imp id fun h1 => Zn.trans_lt hlo h1⟩
 rw [hm, Bool.true_and] at h
 have hsafe := Zn.safe a (Bk.col (Rn.bk L i) a.col.toNat)
 rw [h] at hsafe
 have hany : (Bk.col (Rn.bk L i) a.col.toNat).any (Zn.holds a) = true := List.any_eq_true.2 ⟨_, Bk.mem_col.2 ⟨d, hd, by unfold Bk.has; rw [hg]; simp, rfl⟩, hho⟩
 rw [hany] at hsafe
 simp at hsafe
end Go.Proofs.YtbelkhkllneifaaGreatDoor
namespace Go.Proofs.YtbelkhkllneifaaGreatDoor
open Go Go.RowKit
section
variable {α : Type} (key : α → Kn.V)
def Sk.at_ (L : List α) (k : Kn.V) : Nat := (L.takeWhile fun x => decide (Kn.cmp (key x) k < 0)).length
def Sk.there (L : List α) (k : Kn.V) : Bool := match L[Sk.at_ key L k]? with | none => false | some x => !decide (Kn.cmp k (key x) < 0)
def Sk.put (L : List α) (x : α) : List α := L.take (Sk.at_ key L (key x)) ++ x :: L.drop (if Sk.there key L (key x) = true then Sk.at_ key L (key x) + 1 else Sk.at_ key L (key x))
def Sk.get (L : List α) (k : Kn.V) : Option α := if Sk.there key L k = true then L[Sk.at_ key L k]? else none
def Sk.from_ (L : List α) (k : Kn.V) : List α := L.drop (Sk.at_ key L k)
def Sk.Asc (L : List α) : Prop := L.Pairwise fun x y => Kn.cmp (key x) (key y) < 0
end
theorem Sk.lt_trans {a b c : Kn.V} (h : Kn.cmp a b < 0) (g : Kn.cmp b c < 0) : Kn.cmp a c < 0 := by
 have f := Kn.cmp_fair a b c
 have h1 := f.le (by omega) (by omega)
 have h2 := f.lt (by omega) (by omega)
 by_cases e : Kn.cmp a c = 0
 ·have := h2 e; omega
 ·omega
section
variable {α : Type} {key : α → Kn.V}
theorem Sk.at_le (L : List α) (k : Kn.V) : Sk.at_ key L k ≤ L.length := by
 unfold Sk.at_
 exact (List.takeWhile_prefix _).length_le
theorem Sk.at_nil (k : Kn.V) : Sk.at_ key [] k = 0 := rfl
theorem Sk.at_cons (x : α) (L : List α) (k : Kn.V) : Sk.at_ key (x :: L) k = if Kn.cmp (key x) k < 0 then Sk.at_ key L k + 1 else 0 := by
 unfold Sk.at_
 by_cases h : Kn.cmp (key x) k < 0
 ·rw [if_pos h, List.takeWhile_cons_of_pos (by simpa using h), List.length_cons]
 ·rw [if_neg h, List.takeWhile_cons_of_neg (by simpa using h), List.length_nil]
theorem Sk.at_lt {L : List α} {k : Kn.V} : ∀ {i : Nat} {x : α}, i < Sk.at_ key L k → L[i]? = some x → Kn.cmp (key x) k < 0 := by
 induction L with
 | nil => intro i x h; simp [Sk.at_nil] at h
 | cons y L ih =>
   intro i x h hx
   rw [Sk.at_cons] at h
   by_cases hy : Kn.cmp (key y) k < 0
   ·rw [if_pos hy] at h
    cases i with
    | zero => obtain rfl : y = x := by simpa using hx
              exact hy
    | succ i => exact ih (i := i) (by omega) (by simpa using hx)
   ·rw [if_neg hy] at h; omega
theorem Sk.at_ge {L : List α} {k : Kn.V} {x : α} (hx : L[Sk.at_ key L k]? = some x) : ¬ Kn.cmp (key x) k < 0 := by
 induction L with
 | nil => simp at hx
 | cons y L ih =>
   rw [Sk.at_cons] at hx
   by_cases hy : Kn.cmp (key y) k < 0
   ·rw [if_pos hy] at hx
    exact ih (by simpa using hx)
   ·rw [if_neg hy] at hx
    obtain rfl : y = x := by simpa using hx
    exact hy
end
end Go.Proofs.YtbelkhkllneifaaGreatDoor
namespace Go.Proofs.YtbelkhkllneifaaGreatDoor
open Go
abbrev Rn.at_ (L : List Dd.D) (k : Kn.V) : Nat := Sk.at_ Bk.key L k
def Rn.th (L : List Dd.D) (k : Kn.V) : Bool := match L[Rn.at_ L k]? with | none => false | some x => Kn.cmp (Bk.key x) k == 0
theorem Rn.getD_of {L : List Dd.D} {i : Nat} {x : Dd.D} (h : L[i]? = some x) : L.getD i Bk.nod = x := by rw [List.getD_eq_getElem?_getD, h]; rfl
theorem Rn.before {L : List Dd.D} (hs : Bk.sorted L = true) {i j : Nat} {x y : Dd.D} (h : i < j) (hx : L[i]? = some x) (hy : L[j]? = some y) : Kn.cmp (Bk.key x) (Bk.key y) < 0 := by
 have := Rn.asc hs j i h (List.getElem?_eq_some_iff.1 hy).1
 rwa [Rn.getD_of hx, Rn.getD_of hy] at this
theorem Rn.at_dec {L : List Dd.D} (hs : Bk.sorted L = true) {k : Kn.V} {i : Nat} {x : Dd.D} (hx : L[i]? = some x) : decide (Kn.cmp (Bk.key x) k < 0) = decide (i < Rn.at_ L k) := by
 rcases Nat.lt_or_ge i (Rn.at_ L k) with h | h
 ·rw [decide_eq_true (Sk.at_lt h hx), decide_eq_true h]
 ·rw [decide_eq_false (show ¬ i < Rn.at_ L k by omega), decide_eq_false]
  intro hc
  have hl : Rn.at_ L k < L.length := Nat.lt_of_le_of_lt h (List.getElem?_eq_some_iff.1 hx).1
  have hy := List.getElem?_eq_getElem hl
  have hg := Sk.at_ge hy
  rcases Nat.lt_or_ge (Rn.at_ L k) i with h2 | h2
  ·have hb := Rn.before hs h2 hy hx
   exact hg (Zn.lt_trans hb (by omega))
  ·obtain rfl : i = Rn.at_ L k := by omega
   rw [hx] at hy
   cases Option.some.inj hy
   exact hg hc
def Rn.lo (L : List Dd.D) (r : Kn.R) : Nat := if r.from_ = true then Rn.at_ L r.lo else 0
def Rn.hi (L : List Dd.D) (r : Kn.R) : Nat := if r.til = true then Rn.at_ L r.hi else L.length
theorem Rn.th_some {L : List Dd.D} {k : Kn.V} (h : Rn.th L k = true) : ∃ x, L[Rn.at_ L k]? = some x ∧ Kn.cmp (Bk.key x) k = 0 := by
 unfold Rn.th at h
 split at h
 ·cases h
 ·rename_i x hx
  exact ⟨x, hx, by simpa using h⟩
theorem Rn.may_z0 (a : Zn.As) : Zn.may a Zn.z0 = false := by
 unfold Zn.may Zn.z0
 simp
theorem Rn.look_is (s : List Kn.C) (L : List Dd.D) (r : Kn.R) (a : Zn.As) (i : Nat) : Rn.look s L r a i = (Rn.meets (Rn.zone s L i 0) r && Zn.may a (Rn.zone s L i a.col)) := by
 unfold Rn.look
 by_cases h : 0 ≤ a.col ∧ a.col < (s.length : Int)
 ·rw [decide_eq_true h, Bool.true_and]
 ·rw [decide_eq_false h, Bool.false_and, Bool.false_and]
  have : Rn.zone s L i a.col = Zn.z0 := by
   unfold Rn.zone
   rw [if_neg (by omega)]
  rw [this, Rn.may_z0, Bool.and_false]
end Go.Proofs.YtbelkhkllneifaaGreatDoor
namespace Go.Proofs.YtbelkhkllneifaaGreatDoor
open Go.RowKit
structure Bk.Ds (w : World) (v : Value) (L : List Dd.D) : Prop where
 is : ∃ a c, v = .slice a L.length c ∧ L.length ≤ c ∧ c ≤ 9223372036854775807 ∧ (L = [] ∨ ∃ b o, a = some ⟨b, o, none⟩ ∧ b < w.heap.size ∧
  ∀ i x, L[i]? = some x → ∃ u, w.cell? ⟨b, o + i * 2, none⟩ = some (.bool x.gone) ∧ w.cell? ⟨b, o + i * 2 + 1, none⟩ = some u ∧ Kn.Vals w u x.row)
theorem Bk.Ds.later {w w' : World} {v : Value} {L : List Dd.D} (h : Bk.Ds w v L) (g : Below w.heap.size w w') : Bk.Ds w' v L := by
 obtain ⟨a, c, hv, h1, h2, h⟩ := h
 refine ⟨a, c, hv, h1, h2, ?_⟩
 rcases h with h | ⟨b, o, ha, hb, h⟩
 ·exact .inl h
 ·refine .inr ⟨b, o, ha, Nat.lt_of_lt_of_le hb g.size, fun i x hx => ?_⟩
  obtain ⟨u, c0, c1, hu⟩ := h i x hx
  exact ⟨u, (g.cell (p := ⟨b, o + i * 2, none⟩) hb).trans c0, (g.cell (p := ⟨b, o + i * 2 + 1, none⟩) hb).trans c1, hu.later g⟩
def Bk.Zs (L : List Dd.D) : Prop := ∀ d ∈ L, ∀ v ∈ d.row, Kn.Z v
theorem Bk.below_reg {w w' : World} (h : ∃ p : Regrown, w' = Sort.grow (redrawn w p.d) p.os) : Below w.heap.size w w' := by
 obtain ⟨p, rfl⟩ := h
 exact below_regrown w p.d p.os
theorem Bk.step_empty {L : List Dd.D} {k : Nat} {d : Dd.D} (h : L[k]? = some d) (he : d.row = []) : Bk.step L k = false := by
 unfold Bk.step
 rw [List.getD_eq_getElem?_getD, h, Option.getD_some, he]
 rfl
theorem Bk.step_first {L : List Dd.D} {d : Dd.D} (h : L[0]? = some d) (he : d.row ≠ []) : Bk.step L 0 = true := by
 unfold Bk.step
 rw [List.getD_eq_getElem?_getD, h, Option.getD_some]
 cases hr : d.row with
 | nil => exact absurd hr he
 | cons x r => rfl
theorem Bk.step_next {L : List Dd.D} {j : Nat} {d p : Dd.D} {x y : Kn.V} (h : L[j + 1]? = some d) (hp : L[j]? = some p) (hx : d.row[0]? = some x) (hy : p.row[0]? = some y) : Bk.step L (j + 1) = decide (Kn.cmp y x < 0) := by
 unfold Bk.step Bk.key
 rw [List.getD_eq_getElem?_getD, h, Option.getD_some, Nat.add_sub_cancel, List.getD_eq_getElem?_getD, hp, Option.getD_some]
 obtain ⟨dg, dr⟩ := d
 obtain ⟨pg, pr⟩ := p
 cases dr with
 | nil => simp at hx
 | cons a r =>
   cases pr with
   | nil => simp at hy
   | cons b q =>
     obtain rfl : a = x := by simpa using hx
     obtain rfl : b = y := by simpa using hy
     simp
theorem Bk.step_row {L : List Dd.D} {k : Nat} {d : Dd.D} (h : L[k]? = some d) (hs : Bk.step L k = true) : d.row ≠ [] := fun he => by
 rw [Bk.step_empty h he] at hs
 cases hs
theorem Bk.sorted_no {L : List Dd.D} {k : Nat} (hk : k < L.length) (h : Bk.step L k = false) : Bk.sorted L = false := by
 unfold Bk.sorted
 rw [List.all_eq_false]
 exact ⟨k, List.mem_range.2 hk, by rw [h]; decide⟩
theorem Bk.sorted_yes {L : List Dd.D} (h : ∀ j, j < L.length → Bk.step L j = true) : Bk.sorted L = true := by
 unfold Bk.sorted
 rw [List.all_eq_true]
 exact fun j hj => h j (List.mem_range.1 hj)
end Go.Proofs.YtbelkhkllneifaaGreatDoor
namespace Go.Proofs.YtbelkhkllneifaaGreatDoor.Dk
open Go
abbrev Str := List UInt8
abbrev Dir := List (Str × Nat)
structure Ch where
 a : Str
 b : Str
 f : Int
structure D where
 files : List (Str × Nat)
 dir : Dir
 sure : Dir
 chg : List Ch
 room : Int
 halt : Int
 deny : Int
 calls : Nat
def okc (b : UInt8) : Bool := (97 ≤ b.toNat && b.toNat ≤ 122) || (48 ≤ b.toNat && b.toNat ≤ 57) || b.toNat == 46
def right (s : Str) : Bool := s.all okc && (1 ≤ s.length && s.length ≤ 12)
def lt (a b : Str) : Bool := Op.bytesLess a b
theorem lt_irrefl (a : Str) : lt a a = false := Kn.bl_irrefl a
theorem lt_trans {a b c : Str} : lt a b = true → lt b c = true → lt a c = true := Kn.bl_trans a b c
theorem lt_ne {a b : Str} (h : lt a b = true) : a ≠ b := (Kn.bl_ne h).2
theorem lt_total {a b : Str} (h : lt a b = false) (n : a ≠ b) : lt b a = true := by
 rcases Kn.bl_total a b with g | g | g
 ·rw [lt, g] at h; cases h
 ·exact absurd g n
 ·exact g
def look (l : Dir) (s : Str) : Option Nat := (l.find? fun y => y.1 == s).map (·.2)
def wo (l : Dir) (s : Str) : Dir := l.filter fun y => y.1 != s
def wi (l : Dir) (x : Str × Nat) : Dir := (wo l x.1).takeWhile (fun y => lt y.1 x.1) ++ x :: (wo l x.1).dropWhile (fun y => lt y.1 x.1)
def Asc (l : Dir) : Prop := l.Pairwise fun x y => lt x.1 y.1 = true
theorem mem_wo {l : Dir} {s : Str} {y : Str × Nat} : y ∈ wo l s ↔ y ∈ l ∧ y.1 ≠ s := by
 unfold wo
 rw [List.mem_filter]
 simp
theorem mem_split (p : (Str × Nat) → Bool) (l : Dir) (y : Str × Nat) : y ∈ l ↔ y ∈ l.takeWhile p ∨ y ∈ l.dropWhile p := by
 conv => lhs; rw [← List.takeWhile_append_dropWhile (p := p) (l := l)]
 rw [List.mem_append]
theorem mem_wi {l : Dir} {x y : Str × Nat} : y ∈ wi l x ↔ y = x ∨ (y ∈ l ∧ y.1 ≠ x.1) := by
 unfold wi
 rw [List.mem_append, List.mem_cons, ← mem_wo, mem_split (fun y => lt y.1 x.1) (wo l x.1) y]
 constructor
 ·rintro (h | h | h)
  ·exact .inr (.inl h)
  ·exact .inl h
  ·exact .inr (.inr h)
 ·rintro (h | h | h)
  ·exact .inr (.inl h)
  ·exact .inl h
  ·exact .inr (.inr h)
theorem asc_wo {l : Dir} (h : Asc l) (s : Str) : Asc (wo l s) := List.Pairwise.filter _ h
theorem asc_drop {l : Dir} (h : Asc l) (x : Str) (hx : ∀ y ∈ l, y.1 ≠ x) : ∀ y ∈ l.dropWhile (fun y => lt y.1 x), lt x y.1 = true := by
 induction l with
 | nil => simp
 | cons a l ih =>
   rw [Asc, List.pairwise_cons] at h
   by_cases hl : lt a.1 x = true
   ·rw [List.dropWhile_cons_of_pos (p := fun y : Str × Nat => lt y.1 x) hl]
    exact ih h.2 fun y hy => hx y (List.mem_cons_of_mem _ hy)
   ·rw [List.dropWhile_cons_of_neg (p := fun y : Str × Nat => lt y.1 x) hl]
    have ha := lt_total (by simpa using hl) (hx a List.mem_cons_self)
    intro y hy
    rcases List.mem_cons.1 hy with rfl | hy
    ·exact ha
    ·exact lt_trans ha (h.1 y hy)
theorem take_lt (p : (Str × Nat) → Bool) (l : Dir) : ∀ y ∈ l.takeWhile p, p y = true := by
 induction l with
 | nil => simp
 | cons a l ih =>
   by_cases ha : p a = true
   ·rw [List.takeWhile_cons_of_pos ha]
    intro y hy
    rcases List.mem_cons.1 hy with rfl | hy
    ·exact ha
    ·exact ih y hy
   ·rw [List.takeWhile_cons_of_neg ha]
    simp
theorem asc_wi {l : Dir} (h : Asc l) (x : Str × Nat) : Asc (wi l x) := by
 have hw := asc_wo h x.1
 have hd := asc_drop hw x.1 fun y hy => (mem_wo.1 hy).2
 have ht := take_lt (fun y => lt y.1 x.1) (wo l x.1)
 unfold wi Asc
 rw [List.pairwise_append]
 refine ⟨hw.sublist (List.takeWhile_sublist _), ?_, ?_⟩
 ·rw [List.pairwise_cons]
  exact ⟨hd, hw.sublist (List.dropWhile_sublist _)⟩
 ·intro a ha b hb
  have h1 := ht a ha
  rcases List.mem_cons.1 hb with rfl | hb
  ·exact h1
  ·exact lt_trans h1 (hd b hb)
theorem asc_inj {l : Dir} (h : Asc l) {x y : Str × Nat} (hx : x ∈ l) (hy : y ∈ l) (e : x.1 = y.1) : x = y := by
 induction l with
 | nil => cases hx
 | cons a l ih =>
   rw [Asc, List.pairwise_cons] at h
   rcases List.mem_cons.1 hx with gx | gx <;> rcases List.mem_cons.1 hy with gy | gy
   ·rw [gx, gy]
   ·exact absurd e (by rw [gx]; exact lt_ne (h.1 y gy))
   ·exact absurd e.symm (by rw [gy]; exact lt_ne (h.1 x gx))
   ·exact ih h.2 gx gy
theorem look_some {l : Dir} (h : Asc l) {s : Str} {f : Nat} : look l s = some f ↔ (s, f) ∈ l := by
 unfold look
 constructor
 ·intro e
  cases hf : l.find? fun y => y.1 == s with
  | none => rw [hf] at e; cases e
  | some y =>
    rw [hf] at e
    have h1 := List.mem_of_find?_eq_some hf
    have h2 := List.find?_some hf
    simp only [beq_iff_eq] at h2
    simp only [Option.map_some, Option.some.injEq] at e
    rw [← h2, ← e]
    exact h1
 ·intro hm
  cases hf : l.find? fun y => y.1 == s with
  | none =>
    have := List.find?_eq_none.1 hf _ hm
    simp at this
  | some y =>
    have h1 := List.mem_of_find?_eq_some hf
    have h2 := List.find?_some hf
    simp only [beq_iff_eq] at h2
    rw [asc_inj h h1 hm h2]
    rfl
theorem len_wo (l : Dir) (s : Str) : (wo l s).length ≤ l.length := List.length_filter_le _ _
theorem len_wi (l : Dir) (x : Str × Nat) : (wi l x).length ≤ l.length + 1 := by
 have := len_wo l x.1
 have e : ((wo l x.1).takeWhile (fun y => lt y.1 x.1)).length + ((wo l x.1).dropWhile (fun y => lt y.1 x.1)).length = (wo l x.1).length := by
  rw [← List.length_append, List.takeWhile_append_dropWhile]
 unfold wi
 rw [List.length_append, List.length_cons]
 omega
def apply (l : Dir) (c : Ch) : Dir :=
 if c.b ≠ [] then (match look l c.a with | none => l | some f => wi (wo l c.a) (c.b, f))
 else if c.f < 0 then wo l c.a else wi l (c.a, c.f.toNat)
def Ok (n : Nat) (l : Dir) (c : Ch) : Prop :=
 if c.b ≠ [] then ∃ f, look l c.a = some f ∧ c.a ≠ c.b
 else if c.f < 0 then ∃ f, look l c.a = some f else look l c.a = none ∧ c.f.toNat < n ∧ ∀ y ∈ l, y.2 ≠ c.f.toNat
structure Well (n : Nat) (l : Dir) : Prop where
 asc : Asc l
 one : (l.map (·.2)).Nodup
 lim : ∀ y ∈ l, y.2 < n
theorem Well.mono {n m : Nat} {l : Dir} (h : Well n l) (hm : n ≤ m) : Well m l := ⟨h.asc, h.one, fun y hy => Nat.lt_of_lt_of_le (h.lim y hy) hm⟩
theorem Well.nil (n : Nat) : Well n [] := ⟨List.Pairwise.nil, List.nodup_nil, by simp⟩
theorem Well.wo {n : Nat} {l : Dir} (h : Well n l) (s : Str) : Well n (wo l s) :=
 ⟨asc_wo h.asc s, h.one.sublist ((List.filter_sublist (p := fun y : Str × Nat => y.1 != s) (l := l)).map _), fun y hy => h.lim y (mem_wo.1 hy).1⟩
theorem perm_wi (l : Dir) (x : Str × Nat) : (wi l x).Perm (x :: Dk.wo l x.1) := by
 have h : (wi l x).Perm (x :: ((Dk.wo l x.1).takeWhile (fun y => lt y.1 x.1) ++ (Dk.wo l x.1).dropWhile (fun y => lt y.1 x.1))) := List.perm_middle
 rwa [List.takeWhile_append_dropWhile] at h
theorem Well.wi {n : Nat} {l : Dir} (h : Well n l) (x : Str × Nat) (hx : x.2 < n) (hf : ∀ y ∈ Dk.wo l x.1, y.2 ≠ x.2) : Well n (wi l x) := by
 refine ⟨asc_wi h.asc x, ?_, fun y hy => ?_⟩
 ·have hp := (perm_wi l x).map (fun y : Str × Nat => y.2)
  rw [hp.nodup_iff, List.map_cons, List.nodup_cons]
  refine ⟨fun hm => ?_, (h.wo x.1).one⟩
  obtain ⟨y, hy, e⟩ := List.mem_map.1 hm
  exact hf y hy e
 ·rcases mem_wi.1 hy with rfl | ⟨hy, _⟩
  ·exact hx
  ·exact h.lim y hy
theorem Well.inj {n : Nat} {l : Dir} (h : Well n l) {x y : Str × Nat} (hx : x ∈ l) (hy : y ∈ l) (e : x.2 = y.2) : x = y := by
 have h1 := h.one
 induction l with
 | nil => cases hx
 | cons a l ih =>
   rw [List.map_cons, List.nodup_cons] at h1
   have ha := h.asc
   rw [Asc, List.pairwise_cons] at ha
   rcases List.mem_cons.1 hx with gx | gx <;> rcases List.mem_cons.1 hy with gy | gy
   ·rw [gx, gy]
   ·exact absurd (List.mem_map.2 ⟨y, gy, by rw [← gx]; exact e.symm⟩) h1.1
   ·exact absurd (List.mem_map.2 ⟨x, gx, by rw [← gy]; exact e⟩) h1.1
   ·exact ih ⟨ha.2, h1.2, fun y hy => h.lim y (List.mem_cons_of_mem _ hy)⟩ gx gy h1.2
theorem Well.apply {n : Nat} {l : Dir} (h : Well n l) {c : Ch} (hc : Ok n l c) : Well n (apply l c) := by
 unfold Ok at hc
 unfold Dk.apply
 by_cases hb : c.b ≠ []
 ·rw [if_pos hb] at hc ⊢
  obtain ⟨f, hf, hne⟩ := hc
  rw [hf]
  have hm := (look_some h.asc).1 hf
  refine (h.wo c.a).wi (c.b, f) (h.lim (c.a, f) hm) fun y hy e => ?_
  have h1 := mem_wo.1 hy
  have h2 := mem_wo.1 h1.1
  exact h2.2 (congrArg Prod.fst (h.inj h2.1 hm e))
 ·rw [if_neg hb] at hc ⊢
  by_cases hf : c.f < 0
  ·rw [if_pos hf]; exact h.wo _
  ·rw [if_neg hf] at hc ⊢
   exact h.wi _ hc.2.1 fun y hy => hc.2.2 y (mem_wo.1 hy).1
theorem len_apply (l : Dir) (c : Ch) : (apply l c).length ≤ l.length + 1 := by
 unfold apply
 split
 ·split
  ·omega
  ·next f _ =>
   have := len_wo l c.a
   have := len_wi (wo l c.a) (c.b, f)
   omega
 ·split
  ·have := len_wo l c.a; omega
  ·exact len_wi _ _
def Chain (n : Nat) : Dir → List Ch → Dir → Prop
 | l, [], d => l = d
 | l, c :: cs, d => Ok n l c ∧ Chain n (apply l c) cs d
def fold (l : Dir) (cs : List Ch) : Dir := cs.foldl apply l
theorem Chain.fold {n : Nat} : ∀ {l : Dir} {cs : List Ch} {d : Dir}, Chain n l cs d → d = Dk.fold l cs
 | _, [], _, h => h.symm
 | _, _ :: _, _, h => by
   have := Chain.fold h.2
   exact this
theorem Ok.mono {n m : Nat} {l : Dir} {c : Ch} (h : Ok n l c) (hm : n ≤ m) : Ok m l c := by
 unfold Ok at h ⊢
 split
 ·next hb => rwa [if_pos hb] at h
 ·next hb =>
  rw [if_neg hb] at h
  split
  ·next hf => rwa [if_pos hf] at h
  ·next hf => rw [if_neg hf] at h; exact ⟨h.1, by omega, h.2.2⟩
theorem Chain.mono {n m : Nat} (hm : n ≤ m) : ∀ {l : Dir} {cs : List Ch} {d : Dir}, Chain n l cs d → Chain m l cs d
 | _, [], _, h => h
 | _, _ :: _, _, h => ⟨h.1.mono hm, Chain.mono hm h.2⟩
theorem Chain.snoc {n : Nat} {c : Ch} : ∀ {l : Dir} {cs : List Ch} {d : Dir}, Chain n l cs d → Ok n d c → Chain n l (cs ++ [c]) (apply d c)
 | _, [], _, h, hc => by
   cases h
   exact ⟨hc, rfl⟩
 | _, _ :: _, _, h, hc => ⟨h.1, Chain.snoc h.2 hc⟩
theorem Chain.take {n : Nat} : ∀ {l : Dir} {cs : List Ch} {d : Dir} (k : Nat), Chain n l cs d → Chain n l (cs.take k) (Dk.fold l (cs.take k))
 | _, [], _, k, h => by rw [List.take_nil]; rfl
 | _, _ :: _, _, 0, h => rfl
 | _, c :: cs, _, k + 1, h => ⟨h.1, Chain.take k h.2⟩
theorem Chain.well {n : Nat} : ∀ {l : Dir} {cs : List Ch} {d : Dir}, Well n l → Chain n l cs d → Well n d
 | _, [], _, hw, h => by cases h; exact hw
 | _, _ :: _, _, hw, h => Chain.well (hw.apply h.1) h.2
theorem len_fold : ∀ (cs : List Ch) (l : Dir), (fold l cs).length ≤ l.length + cs.length
 | [], l => by simp [fold]
 | c :: cs, l => by
   have h1 := len_fold cs (apply l c)
   have h2 := len_apply l c
   rw [List.length_cons]
   have : fold l (c :: cs) = fold (apply l c) cs := rfl
   rw [this]
   omega
structure Inv (d : D) : Prop where
 chain : Chain d.files.length d.sure d.chg d.dir
 well : Well d.files.length d.sure
 part : ∀ x ∈ d.files, x.2 ≤ x.1.length
theorem Inv.dir {d : D} (h : Inv d) : Well d.files.length d.dir := h.chain.well h.well
def size (fs : List (Str × Nat)) : Nat := (fs.map fun x => x.1.length).sum
structure Sz (n : Nat) (d : D) : Prop where
 files : d.files.length ≤ n
 dirs : d.sure.length + d.chg.length ≤ n
 bytes : size d.files ≤ n * 1048576
 calls : d.calls ≤ n
theorem Sz.dir {n : Nat} {d : D} (h : Sz n d) (hi : Inv d) : d.dir.length ≤ n := by
 have := len_fold d.chg d.sure
 rw [← hi.chain.fold] at this
 have := h.dirs
 omega
theorem Sz.mono {n m : Nat} {d : D} (h : Sz n d) (hm : n ≤ m) : Sz m d :=
 ⟨Nat.le_trans h.files hm, Nat.le_trans h.dirs hm, Nat.le_trans h.bytes (Nat.mul_le_mul_right _ hm), Nat.le_trans h.calls hm⟩
end Go.Proofs.YtbelkhkllneifaaGreatDoor.Dk
