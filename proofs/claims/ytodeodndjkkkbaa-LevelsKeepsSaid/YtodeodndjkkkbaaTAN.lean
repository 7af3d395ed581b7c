import Derived.Test.YtodeodndjkkkbaaTAM
import Derived.Test.YtodeodndjkkkbaaTAH
import Derived.Test.YtodeodndjkkkbaaTAL
import Derived.Test.YtodeodndjkkkbaaTAA
import Derived.Lib.QuietBelow
import Derived.BigQuiet
import Derived.Test.YtodeodndjkkkbaaTAC
import Derived.Test.YtodeodndjkkkbaaTAJ
import Derived.Test.YtodeodndjkkkbaaTAK
import Derived.Laws.MakeOwn
import Derived.StillTailTactics
import Derived.RegionCalls
import Derived.Deep.RegionWith
import Derived.LoopTactic
import Derived.Deep.Onto
namespace Go.Proofs.Ytodeodndjkkkbaa
section
open Go
open Ty (encU U64 I64)
def Rn.nb (n : Nat) : Nat := (n + 7) / 8
def Rn.bk (L : List Dd.D) (i : Nat) : List Dd.D := (L.drop (8 * i)).take 8
def Rn.blocks (L : List Dd.D) : List (List Dd.D) := (List.range (Rn.nb L.length)).map (Rn.bk L)
theorem Rn.bk_mem {L : List Dd.D} {i : Nat} {d : Dd.D} (h : d ∈ Rn.bk L i) : d ∈ L := List.mem_of_mem_drop (List.mem_of_mem_take h)
def Rn.index (s : List Kn.C) (L : List Dd.D) : List UInt8 := encU (Rn.nb L.length) ++ (Rn.blocks L).flatMap fun b => encU (Fr.frm (Bk.enc s b)).length
def Rn.texts (s : List Kn.C) (L : List Dd.D) : List Fr.Str := (Rn.blocks L).map (Bk.enc s) ++ [Rn.index s L]
def Rn.enc (s : List Kn.C) (L : List Dd.D) : List UInt8 := (Rn.texts s L).flatMap Fr.frm
def Rn.wE (s : List Kn.C) (L : List Dd.D) : Int :=
 if Kn.right s = true then (if L.length = 0 then 1 else if Bk.fitsE s L = 0 then (if 1048576 < (Rn.enc s L).length then 3 else 0) else Bk.fitsE s L) else 4
def Rn.wS (s : List Kn.C) (L : List Dd.D) : List UInt8 := if Rn.wE s L = 0 then Rn.enc s L else []
def Rn.wV (s : List Kn.C) (L : List Dd.D) : Value := .tuple #[.string (Ty.S (Rn.wS s L)), .int .i64 (Rn.wE s L)]
theorem Rn.asc {L : List Dd.D} (h : Bk.sorted L = true) : ∀ (j i : Nat), i < j → j < L.length → Kn.cmp (Bk.key (L.getD i Bk.nod)) (Bk.key (L.getD j Bk.nod)) < 0
 | 0, i, hij, _ => by omega
 | j + 1, i, hij, hj => by
   unfold Bk.sorted at h
   have hst := List.all_eq_true.1 h (j + 1) (List.mem_range.2 hj)
   unfold Bk.step at hst
   rw [Bool.and_eq_true, Bool.or_eq_true] at hst
   have h1 : Kn.cmp (Bk.key (L.getD j Bk.nod)) (Bk.key (L.getD (j + 1) Bk.nod)) < 0 := by
    rcases hst.2 with h2 | h2
    ·rw [beq_iff_eq] at h2; omega
    ·rw [Nat.add_sub_cancel] at h2
     exact of_decide_eq_true h2
   rcases Nat.lt_or_ge i j with h2 | h2
   ·have ih := Rn.asc (by unfold Bk.sorted; exact h) j i h2 (by omega)
    exact Zn.lt_trans ih (by omega)
   ·obtain rfl : i = j := by omega
    exact h1
def Rn.get (L : List Dd.D) (k : Kn.V) : Option Dd.D := L.find? fun d => Kn.cmp (Bk.key d) k == 0
def Rn.in_ (L : List Dd.D) (r : Kn.R) : List Dd.D := L.filter fun d => Kn.inR r (Bk.key d)
def Rn.zone (s : List Kn.C) (L : List Dd.D) (b c : Int) : Zn.Zo := if 0 ≤ b ∧ b < (Rn.nb L.length : Int) ∧ 0 ≤ c ∧ c < (s.length : Int) then Zn.of (Bk.col (Rn.bk L b.toNat) c.toNat) else Zn.z0
def Rn.holds (r : Kn.R) (a : Zn.As) (d : Dd.D) : Bool := !d.gone && Kn.inR r (Bk.key d) && decide (0 ≤ a.col ∧ a.col < (d.row.length : Int)) && Zn.holds a (d.row.getD a.col.toNat Cl.nul)
def Rn.hold (L : List Dd.D) (r : Kn.R) (a : Zn.As) : List (List Kn.V) := (L.filter (Rn.holds r a)).map Dd.D.row
def Rn.meets (z : Zn.Zo) (r : Kn.R) : Bool := (!r.from_ || !decide (Kn.cmp z.hi r.lo < 0)) && (!r.til || decide (Kn.cmp z.lo r.hi < 0))
def Rn.look (s : List Kn.C) (L : List Dd.D) (r : Kn.R) (a : Zn.As) (i : Nat) : Bool := decide (0 ≤ a.col ∧ a.col < (s.length : Int)) && Rn.meets (Rn.zone s L i 0) r && Zn.may a (Rn.zone s L i a.col)
def Rn.looked (s : List Kn.C) (L : List Dd.D) (r : Kn.R) (a : Zn.As) : Nat := ((List.range (Rn.nb L.length)).filter (Rn.look s L r a)).length
theorem Rn.skip {s : List Kn.C} {L : List Dd.D} (hL : ∀ d ∈ L, Dd.fitE s d = 0) (hr : Kn.right s = true) {r : Kn.R} {a : Zn.As} {i : Nat} (hi : i < Rn.nb L.length) (h : Rn.look s L r a i = false) : Rn.hold (Rn.bk L i) r a = [] := by
 unfold Rn.hold
 rw [List.map_eq_nil_iff, List.filter_eq_nil_iff]
 intro d hd hh
 have hdL := Rn.bk_mem hd
 obtain ⟨_, hlen, hall⟩ := Dd.fitE_0 (hL d hdL)
 unfold Rn.holds at hh
 simp only [Bool.and_eq_true, decide_eq_true_iff, Bool.not_eq_true'] at hh
 obtain ⟨⟨⟨hg, hin⟩, hc0, hc1⟩, hho⟩ := hh
 rw [hg] at hlen hall
 rw [Bk.cols_len, if_neg (by decide)] at hlen
 have hcs : a.col < (s.length : Int) := by omega
 have hs1 := (Kn.right_len hr).1
 unfold Rn.look at h
 rw [decide_eq_true (show 0 ≤ a.col ∧ a.col < (s.length : Int) from ⟨hc0, hcs⟩), Bool.true_and] at h
 have hz0 : Rn.zone s L i 0 = Zn.of (Bk.col (Rn.bk L i) 0) := by
  unfold Rn.zone
  rw [if_pos (by omega)]
  simp
 have hz1 : Rn.zone s L i a.col = Zn.of (Bk.col (Rn.bk L i) a.col.toNat) := by
  unfold Rn.zone
  rw [if_pos (by omega)]
  simp
 rw [hz0, hz1] at h
 have hk0 : Bk.key d ∈ Bk.col (Rn.bk L i) 0 := Bk.mem_col.2 ⟨d, hd, rfl, by
  unfold Bk.key
  cases hrow : d.row with
  | nil => rw [hrow] at hlen; simp at hlen; omega
  | cons x l => rfl⟩
 have hkn : (Bk.key d).null = false := by
  have hc := List.getElem?_eq_getElem (l := s) (i := 0) (by omega)
  have hv : d.row[0]? = some (Bk.key d) := by
   unfold Bk.key
   cases hrow : d.row with
   | nil => rw [hrow] at hlen; simp at hlen; omega
   | cons x l => rfl
  have hf := Bk.fitsAll_at _ _ hall 0 s[0] (Bk.key d) hc hv
  have hg0 := Bk.good_of hr hc
  rw [Bk.fits_is hg0] at hf
  have hnul : (s[0]'(by omega)).null = false := by
   have h9 : ∀ (t : List Kn.C) (h0 : 0 < t.length), Kn.right t = true → (t[0]'h0).null = false := fun t h0 ht => by
    obtain ⟨x, u, rfl, h1, _⟩ := Kn.right_head ht
    exact h1
   exact h9 s (by omega) hr
  unfold Cl.is at hf
  cases hn : (Bk.key d).null
  ·rfl
  ·rw [hn, hnul] at hf
   simp at hf
 have inv0 := Zn.of_inv (Bk.col (Rn.bk L i) 0)
 have hval : (Zn.of (Bk.col (Rn.bk L i) 0)).values = true := inv0.values.2 ⟨_, hk0, hkn⟩
 have hlo := (inv0.lo hval).2.2 _ hk0 hkn
 have hhi := (inv0.hi hval).2.2 _ hk0 hkn
 generalize Zn.of (Bk.col (Rn.bk L i) 0) = z at h hlo hhi
 have hm : Rn.meets z r = true := by
  unfold Kn.inR at hin
  unfold Rn.meets
  simp only [Bool.and_eq_true, Bool.or_eq_true, Bool.not_eq_true', decide_eq_true_iff, decide_eq_false_iff_not] at hin ⊢
  refine ⟨hin.1.imp id fun h1 h2 => h1 (Zn.trans_lt hhi h2), hin.2.imp id fun h1 => Zn.trans_lt hlo h1⟩
 rw [hm, Bool.true_and] at h
 have hsafe := Zn.safe a (Bk.col (Rn.bk L i) a.col.toNat)
 rw [h] at hsafe
 have hany : (Bk.col (Rn.bk L i) a.col.toNat).any (Zn.holds a) = true := List.any_eq_true.2 ⟨_, Bk.mem_col.2 ⟨d, hd, by unfold Bk.has; rw [hg]; simp, rfl⟩, hho⟩
 rw [hany] at hsafe
 simp at hsafe
end
section
open Go.RowKit
structure Bk.Ds (w : World) (v : Value) (L : List Dd.D) : Prop where
 is : ∃ a c, v = .slice a L.length c ∧ L.length ≤ c ∧ c ≤ 9223372036854775807 ∧ (L = [] ∨ ∃ b o, a = some ⟨b, o, none⟩ ∧ b < w.heap.size ∧
  ∀ i x, L[i]? = some x → ∃ u, w.cell? ⟨b, o + i * 2, none⟩ = some (.bool x.gone) ∧ w.cell? ⟨b, o + i * 2 + 1, none⟩ = some u ∧ Kn.Vals w u x.row)
theorem Bk.Ds.later {w w' : World} {v : Value} {L : List Dd.D} (h : Bk.Ds w v L) (g : Below w.heap.size w w') : Bk.Ds w' v L := by
 obtain ⟨a, c, hv, h1, h2, h⟩ := h
 refine ⟨a, c, hv, h1, h2, ?_⟩
 rcases h with h | ⟨b, o, ha, hb, h⟩
 ·exact .inl h
 ·refine .inr ⟨b, o, ha, Nat.lt_of_lt_of_le hb g.size, fun i x hx => ?_⟩
  obtain ⟨u, c0, c1, hu⟩ := h i x hx
  exact ⟨u, (g.cell (p := ⟨b, o + i * 2, none⟩) hb).trans c0, (g.cell (p := ⟨b, o + i * 2 + 1, none⟩) hb).trans c1, hu.later g⟩
def Bk.Zs (L : List Dd.D) : Prop := ∀ d ∈ L, ∀ v ∈ d.row, Kn.Z v
theorem Bk.below_reg {w w' : World} (h : ∃ p : Regrown, w' = Sort.grow (redrawn w p.d) p.os) : Below w.heap.size w w' := by
 obtain ⟨p, rfl⟩ := h
 exact below_regrown w p.d p.os
end
section
open Go.RowKit
def Bk.sv (x : Option Addr × Nat × Nat) : Value := .slice x.1 x.2.1 x.2.2
def Bk.e1 (x : Option Addr × Nat × Nat) : List Value := [Bk.sv x]
structure Bk.Dr (w : World) (v : Value) (L : List Dd.D) (R : Nat → Option Addr × Nat × Nat) : Prop where
 is : ∃ a c, v = .slice a L.length c ∧ (L = [] ∨ ∃ b o, a = some ⟨b, o, none⟩ ∧ b < w.heap.size ∧
  ∀ i x, L[i]? = some x → w.cell? ⟨b, o + i * 2, none⟩ = some (.bool x.gone) ∧ w.cell? ⟨b, o + i * 2 + 1, none⟩ = some (Bk.sv (R i)))
theorem Bk.Dr.later {w w' : World} {v : Value} {L : List Dd.D} {R : Nat → Option Addr × Nat × Nat} (h : Bk.Dr w v L R) (g : Below w.heap.size w w') : Bk.Dr w' v L R := by
 obtain ⟨a, c, hv, h⟩ := h
 refine ⟨a, c, hv, ?_⟩
 rcases h with h | ⟨b, o, ha, hb, h⟩
 ·exact .inl h
 ·refine .inr ⟨b, o, ha, Nat.lt_of_lt_of_le hb g.size, fun i x hx => ?_⟩
  obtain ⟨c0, c1⟩ := h i x hx
  exact ⟨(g.cell (p := ⟨b, o + i * 2, none⟩) hb).trans c0, (g.cell (p := ⟨b, o + i * 2 + 1, none⟩) hb).trans c1⟩
def Bk.partsOf : Option Value → Option Addr × Nat × Nat
 | some (.slice a n c) => (a, n, c)
 | _ => (none, 0, 0)
def Bk.hl (i : Nat) (R : Nat → Option Addr × Nat × Nat) : Nat → List Dd.D → List (Option Addr × Nat × Nat)
 | _, [] => []
 | k, d :: r => if Bk.has i d = true then R k :: Bk.hl i R (k + 1) r else Bk.hl i R (k + 1) r
def Bk.wd (s : List Kn.C) (g : Bool) : Nat := if g = true then 1 else s.length
end
section
open Go.RowKit
def Rn.part (b o n c i : Nat) : Option Addr × Nat × Nat := (some ⟨b, o + 8 * i * 2, none⟩, min 8 (n - 8 * i), c - 8 * i)
def Rn.parts (b o n c k : Nat) : List (Option Addr × Nat × Nat) := (List.range k).map (Rn.part b o n c)
end
section
open Go.RowKit
end
section
open Go.RowKit
open Ty (encU num txt)
open Tx (restT)
open Ig (rest sg)
end
section
open Go.RowKit
def Dd.same (a b : Dd.D) : Bool := (a.gone == b.gone) && Kn.sameR a.row b.row
end
section
open Go.RowKit
end
section
open Go.RowKit
open Ig (nth encI encR grp diffs prv low off sg rest rdInts acc)
open Ty (encU num)
def Ig.iv (L : List Int) (i : Nat) : Value := .int .i64 (nth L i)
def Ig.Own (base : Nat) (w : World) (v : Value) (L : List Int) : Prop := Bt.Buf 2 base w v L.length (Ig.iv L)
theorem Ig.Own.nil (base : Nat) (w : World) : Ig.Own base w (.slice none 0 0) [] := Bt.Buf.nil _ _ _ _
theorem Ig.Own.post {base : Nat} {w : World} {v : Value} {M : List Int} {x : Int} (h : Bt.Buf 2 base w v (M.length + 1) (Ig.iv (M ++ [x]))) : Ig.Own base w v (M ++ [x]) := by
 unfold Ig.Own
 rw [List.length_append, List.length_singleton]
 exact h
theorem Ig.buf_ne {e : TypeId} {base : Nat} {w : World} {v : Value} {n : Nat} {f : Nat → Value} (h : Bt.Buf e base w v n f) {b : Nat} (hb : b < base) : v.ownBlock ≠ some b := fun e => by have := h.base_le b e; omega
theorem Ig.buf_by {e : TypeId} {base b : Nat} {w w' : World} {v : Value} {n : Nat} {f : Nat → Value} (h : Bt.Buf e base w v n f) (hg : w.grownBy w' (some b)) (hb : b < base) : Bt.Buf e base w' v n f :=
 World.ownsRow.kept h hg (.inr (Ig.buf_ne h hb))
theorem Ig.Own.by {base b : Nat} {w w' : World} {v : Value} {L : List Int} (h : Ig.Own base w v L) (hg : w.grownBy w' (some b)) (hb : b < base) : Ig.Own base w' v L := Ig.buf_by h hg hb
theorem Ig.Own.at {base : Nat} {w : World} {v : Value} {L : List Int} (h : Ig.Own base w v L) : Ig.At w.heap.size w v L := by
 have hs := Bt.Buf.sl h
 obtain ⟨a, c, rfl, h1⟩ := hs
 have hc : L.length ≤ c := by
  rcases h.2 with ⟨e, e0⟩ | ⟨g, cap, cur, e, _, _, hcap, _⟩
  ·omega
  ·simp only [Value.slice.injEq] at e
   omega
 refine ⟨a, c, rfl, hc, Nat.le_refl _, ?_⟩
 rcases h1 with h1 | h1
 ·exact .inl (List.eq_nil_of_length_eq_zero h1)
 ·exact .inr h1
theorem Ig.rest_le (l : List UInt8) : (rest l).length ≤ l.length := by unfold rest; rw [List.length_drop]; omega
def Ig.Mid (n : Nat) (l : List UInt8) (k : Nat) (M : List Int) (l2 : List UInt8) : Prop := M.length = k ∧ k ≤ n ∧ l2.length ≤ l.length ∧ rdInts n l = ((rdInts (n - k) l2).1, M ++ (rdInts (n - k) l2).2.1, (rdInts (n - k) l2).2.2)
theorem Ig.Mid.next {n : Nat} {l : List UInt8} {k : Nat} {M : List Int} {l2 : List UInt8} (h : Ig.Mid n l k M l2) (hk : k < n) (h0 : (num l2).2.2 = 0) : Ig.Mid n l (k + 1) (M ++ [sg l2]) (rest l2) := by
 obtain ⟨h1, h2, h3, h4⟩ := h
 refine ⟨by simp [h1], by omega, Nat.le_trans (Ig.rest_le l2) h3, ?_⟩
 have e : n - k = (n - (k + 1)) + 1 := by omega
 rw [h4, e]
 simp only [rdInts]
 rw [if_neg (by rw [h0]; simp)]
 simp
theorem Ig.Mid.fail {n : Nat} {l : List UInt8} {k : Nat} {M : List Int} {l2 : List UInt8} (h : Ig.Mid n l k M l2) (hk : k < n) (h0 : (num l2).2.2 ≠ 0) : (rdInts n l).1 = (num l2).2.2 := by
 obtain ⟨h1, h2, h3, h4⟩ := h
 have e : n - k = (n - (k + 1)) + 1 := by omega
 rw [h4, e]
 simp only [rdInts]
 rw [if_pos h0]
theorem Ig.Mid.done {n : Nat} {l : List UInt8} {M : List Int} {l2 : List UInt8} (h : Ig.Mid n l n M l2) : rdInts n l = (0, M, l2) := by
 obtain ⟨h1, h2, h3, h4⟩ := h
 rw [h4, Nat.sub_self]
 simp [rdInts]
end
section
open Go.RowKit
open Ig (nth encI encR grp diffs prv low off sg rest rdInts acc)
open Ty (encU num)
def Ig.mix (A D : List Int) (k i : Nat) : Value := .int .i64 (if i < k then nth A i else nth D i)
def Ig.rdDelta (n : Nat) (l : List UInt8) : Nat × List Int × List UInt8 := ((rdInts n l).1, acc 0 (rdInts n l).2.1, (rdInts n l).2.2)
end
section
open Go.RowKit
open Ig (nth encI encR grp diffs prv low off sg rest rdInts acc rdRuns spread)
open Ty (encU num)
def Ig.rr (m : Nat) (p : Option Int) (l : List UInt8) : Nat × List (Nat × Int) × List UInt8 := rdRuns m m p l
theorem Ig.fuel : ∀ (f g m : Nat) (p : Option Int) (l : List UInt8), m ≤ f → m ≤ g → rdRuns f m p l = rdRuns g m p l
 | f, g, 0, p, l, _, _ => by rw [Ig.rdRuns_zero, Ig.rdRuns_zero]
 | 0, _, m + 1, _, _, h, _ => by omega
 | _, 0, m + 1, _, _, _, h => by omega
 | f + 1, g + 1, m + 1, p, l, h1, h2 => by
   simp only [rdRuns]
   split
   ·rfl
   ·split
    ·rfl
    ·split
     ·rfl
     ·split
      ·rfl
      ·rename_i a b c d
       rw [Ig.fuel f g (m + 1 - (num l).1) (some (sg (rest l))) (rest (rest l)) (by omega) (by omega)]
theorem Ig.rr_zero (p : Option Int) (l : List UInt8) : Ig.rr 0 p l = (0, [], l) := Ig.rdRuns_zero _ _ _
theorem Ig.rr_step (m : Nat) (hm : 0 < m) (p : Option Int) (l : List UInt8) : Ig.rr m p l =
 if (num l).2.2 ≠ 0 then ((num l).2.2, [], l)
 else if (num l).1 = 0 ∨ m < (num l).1 then (4, [], l)
 else if (num (rest l)).2.2 ≠ 0 then ((num (rest l)).2.2, [], l)
 else if p = some (sg (rest l)) then (4, [], l)
 else ((Ig.rr (m - (num l).1) (some (sg (rest l))) (rest (rest l))).1, ((num l).1, sg (rest l)) :: (Ig.rr (m - (num l).1) (some (sg (rest l))) (rest (rest l))).2.1, (Ig.rr (m - (num l).1) (some (sg (rest l))) (rest (rest l))).2.2) := by
 obtain ⟨j, rfl⟩ : ∃ j, m = j + 1 := ⟨m - 1, by omega⟩
 unfold Ig.rr
 conv => lhs; simp only [rdRuns]
 split
 ·rfl
 ·split
  ·rfl
  ·split
   ·rfl
   ·split
    ·rfl
    ·rename_i a b c d
     rw [Ig.fuel j (j + 1 - (num l).1) (j + 1 - (num l).1) (some (sg (rest l))) (rest (rest l)) (by omega) (by omega)]
def Ig.rdR (n : Nat) (l : List UInt8) : Nat × List Int × List UInt8 := ((Ig.rr n none l).1, spread (Ig.rr n none l).2.1, (Ig.rr n none l).2.2)
def Ig.MidR (n : Nat) (l : List UInt8) (M : List Int) (l2 : List UInt8) : Prop := M.length ≤ n ∧ l2.length ≤ l.length ∧
 Ig.rdR n l = ((Ig.rr (n - M.length) M.getLast? l2).1, M ++ spread (Ig.rr (n - M.length) M.getLast? l2).2.1, (Ig.rr (n - M.length) M.getLast? l2).2.2)
theorem Ig.MidR.start (n : Nat) (l : List UInt8) : Ig.MidR n l [] l := ⟨by simp, Nat.le_refl _, by simp [Ig.rdR]⟩
theorem Ig.MidR.done {n : Nat} {l : List UInt8} {M : List Int} {l2 : List UInt8} (h : Ig.MidR n l M l2) (hn : n ≤ M.length) : Ig.rdR n l = (0, M, l2) := by
 obtain ⟨h1, h2, h3⟩ := h
 rw [h3, show n - M.length = 0 by omega, Ig.rr_zero]
 simp [spread]
theorem Ig.MidR.next {n : Nat} {l : List UInt8} {M : List Int} {l2 : List UInt8} (h : Ig.MidR n l M l2) (hn : M.length < n) (h1 : (num l2).2.2 = 0) (h2 : ¬ ((num l2).1 = 0 ∨ n - M.length < (num l2).1)) (h4 : (num (rest l2)).2.2 = 0) (h5 : ¬ M.getLast? = some (sg (rest l2))) :
 Ig.MidR n l (M ++ List.replicate (num l2).1 (sg (rest l2))) (rest (rest l2)) := by
 obtain ⟨_, hl, h3⟩ := h
 have e1 : (M ++ List.replicate (num l2).1 (sg (rest l2))).getLast? = some (sg (rest l2)) := by
  obtain ⟨j, hj⟩ : ∃ j, (num l2).1 = j + 1 := ⟨(num l2).1 - 1, by omega⟩
  rw [hj, List.replicate_succ', ← List.append_assoc, List.getLast?_append]
  simp
 have e2 : n - (M ++ List.replicate (num l2).1 (sg (rest l2))).length = n - M.length - (num l2).1 := by simp; omega
 refine ⟨by simp; omega, Nat.le_trans (Nat.le_trans (Ig.rest_le _) (Ig.rest_le _)) hl, ?_⟩
 rw [e1, e2, h3, Ig.rr_step (n - M.length) (by omega), if_neg (by rw [h1]; simp), if_neg h2, if_neg (by rw [h4]; simp), if_neg h5]
 simp [spread]
end
section
open Go.RowKit
open Ig (nth encI encR grp diffs prv low off sg rest rdInts acc rdRuns spread)
open Ty (encU num)
end
section
open Go.RowKit
open Ig (nth encI encR grp diffs prv low off sg rest rdInts acc rdRuns spread outs good un)
open Ty (encU num)
end
section
open Go.RowKit
open Ig (nth encI encR grp diffs prv low off sg rest rdInts acc rdRuns spread outs good un rdPacked)
open Ty (encU num)
section
variable {n : Nat} {l r : List UInt8} {x : UInt8}
end
def Ig.rdP (n : Nat) (l : List UInt8) : Nat × List Int × List UInt8 := if n = 0 then (0, [], l) else rdPacked n l
end
section
open Go.RowKit
open Ig (nth sg rest rd rdBody rdInts)
open Ty (num)
def Ig.Got (w : World) (r : Nat × List Int) (e : Ending) (w' : World) : Prop :=
 ∃ v, e = .returned (.tuple #[v, .int .i64 ((r.1 : Nat) : Int)]) ∧ Ig.At w'.heap.size w' v r.2 ∧ Below w.heap.size w w'
theorem Ig.Got.good {w w' : World} {r : Nat × List Int} {v : Value} {L : List Int} (hr : r = (0, L)) (h : Ig.At w'.heap.size w' v L) (g : Below w.heap.size w w') : Ig.Got w r (.returned (.tuple #[v, .int .i64 0])) w' :=
 ⟨v, by rw [hr]; rfl, by rw [hr]; exact h, g⟩
section
variable {x : UInt8} {r : List UInt8}
end
end
section
open Go.RowKit
open Ig (nth encI encR grp)
open Ty (encU num)
end
section
open Go.RowKit
open Ig (nth encI encR grp low off)
open Ty (encU num)
end
section
open Go.RowKit
open Ig (nth encI encR grp low off)
open Ty (encU num)
end
section
open Go.RowKit
open Ig (nth encI encR grp low off diffs prv)
open Ty (encU num)
end
section
open Go.RowKit
open Ty (encU num txt)
open Tx (restT rdWords)
theorem Tx.buf_ne {e : TypeId} {base : Nat} {w : World} {v : Value} {n : Nat} {f : Nat → Value} (h : Bt.Buf e base w v n f) {b : Nat} (hb : b < base) : v.ownBlock ≠ some b := fun e => by have := h.base_le b e; omega
theorem Tx.buf_by {e : TypeId} {base b : Nat} {w w' : World} {v : Value} {n : Nat} {f : Nat → Value} (h : Bt.Buf e base w v n f) (hg : w.grownBy w' (some b)) (hb : b < base) : Bt.Buf e base w' v n f :=
 World.ownsRow.kept h hg (.inr (Tx.buf_ne h hb))
theorem Tx.Own.by {base b : Nat} {w w' : World} {v : Value} {L : List Tx.Str} (h : Tx.Own base w v L) (hg : w.grownBy w' (some b)) (hb : b < base) : Tx.Own base w' v L := Tx.buf_by h hg hb
def Tx.MidW (ord : Bool) (n : Nat) (l : List UInt8) (M : List Tx.Str) (l2 : List UInt8) : Prop := M.length ≤ n ∧ rdWords ord n none l = ((rdWords ord (n - M.length) M.getLast? l2).1, M ++ (rdWords ord (n - M.length) M.getLast? l2).2.1, (rdWords ord (n - M.length) M.getLast? l2).2.2)
theorem Tx.MidW.start (ord : Bool) (n : Nat) (l : List UInt8) : Tx.MidW ord n l [] l := ⟨by simp, by simp⟩
theorem Tx.MidW.fail {ord : Bool} {n : Nat} {l : List UInt8} {M : List Tx.Str} {l2 : List UInt8} (h : Tx.MidW ord n l M l2) (hk : M.length < n) (h0 : (txt l2 64).2.2 ≠ 0) : (rdWords ord n none l).1 = (txt l2 64).2.2 := by
 obtain ⟨h1, h2⟩ := h
 have e : n - M.length = (n - (M.length + 1)) + 1 := by omega
 rw [h2, e]
 simp only [rdWords]
 rw [if_pos h0]
theorem Tx.MidW.next {ord : Bool} {n : Nat} {l : List UInt8} {M : List Tx.Str} {l2 : List UInt8} (h : Tx.MidW ord n l M l2) (hk : M.length < n) (h0 : (txt l2 64).2.2 = 0) (hl : ord = true → ∀ q, M.getLast? = some q → Tx.lt q (txt l2 64).1 = true) : Tx.MidW ord n l (M ++ [(txt l2 64).1]) (restT l2) := by
 obtain ⟨h1, h2⟩ := h
 refine ⟨by simp; omega, ?_⟩
 have e : n - M.length = (n - (M.length + 1)) + 1 := by omega
 have hno : ¬ (ord = true ∧ (M.getLast?.any fun q => !Tx.lt q (txt l2 64).1) = true) := by
  rintro ⟨a, b⟩
  cases hm : M.getLast? with
  | none => rw [hm] at b; cases b
  | some q =>
    rw [hm] at b
    have := hl a q hm
    simp [this] at b
 rw [h2, e]
 simp only [rdWords]
 rw [if_neg (by rw [h0]; simp), if_neg hno]
 simp
theorem Tx.MidW.done {ord : Bool} {n : Nat} {l : List UInt8} {M : List Tx.Str} {l2 : List UInt8} (h : Tx.MidW ord n l M l2) (hk : ¬ M.length < n) : rdWords ord n none l = (0, M, l2) := by
 obtain ⟨h1, h2⟩ := h
 have e : n - M.length = 0 := by omega
 rw [h2, e]
 simp [rdWords]
end
section
open Go.RowKit
end
section
open Go.RowKit
open Ig (nth encI encR grp low off diffs prv)
open Ty (encU num)
end
section
open Go.RowKit
open Ig (nth encI encR grp low off diffs prv sg rest)
open Ty (encU num)
end
section
open Go.RowKit
open Ig (nth encI encR grp low off diffs prv sg rest outs good un rdPacked)
open Ty (encU num)
def Ig.anyZ (X : Nat → Nat) (k : Nat) : Bool := (List.range k).any (fun i => X i == 0)
end
end Go.Proofs.Ytodeodndjkkkbaa
