import Derived.Test.YtodeodndjkkkbaaZAF
import Derived.Test.YtodeodndjkkkbaaZAC
import Derived.Test.YtodeodndjkkkbaaZAA
import Derived.Test.YtodeodndjkkkbaaZAB
import Derived.Lib.QuietBelow
import Derived.BigQuiet
namespace Go.Proofs.Ytodeodndjkkkbaa
open Go
open Ty (num txt encU U64 I64)
open Ig (rest)
open Tx (encT)
def Bk.key (d : Dd.D) : Kn.V := d.row.headD Cl.nul
def Bk.nod : Dd.D := ⟨false, []⟩
def Bk.step (L : List Dd.D) (k : Nat) : Bool := !(L.getD k Bk.nod).row.isEmpty && (k == 0 || decide (Kn.cmp (Bk.key (L.getD (k - 1) Bk.nod)) (Bk.key (L.getD k Bk.nod)) < 0))
def Bk.sorted (L : List Dd.D) : Bool := (List.range L.length).all (Bk.step L)
def Bk.firstE (s : List Kn.C) : List Dd.D → Int
 | [] => 0
 | d :: r => if Dd.fitE s d = 0 then Bk.firstE s r else Dd.fitE s d
def Bk.fitsE (s : List Kn.C) (L : List Dd.D) : Int := if Bk.firstE s L = 0 then (if Bk.sorted L = true then 0 else 1) else Bk.firstE s L
def Bk.wE (s : List Kn.C) (L : List Dd.D) : Int := if Kn.right s = true then (if L.length < 1 ∨ 8 < L.length then 1 else Bk.fitsE s L) else 4
def Bk.has (i : Nat) (d : Dd.D) : Bool := i == 0 || !d.gone
def Bk.col (L : List Dd.D) (i : Nat) : List Kn.V := (L.filter (Bk.has i)).map fun d => d.row.getD i Cl.nul
def Bk.gones (L : List Dd.D) (i : Nat) : Bool := (L.getD i Bk.nod).gone
def Bk.encC : Nat → List Kn.C → List Dd.D → List UInt8
 | _, [], _ => []
 | i, c :: s, L => encT (Cl.enc c (Bk.col L i)) ++ Bk.encC (i + 1) s L
def Bk.bools (L : List Dd.D) : List UInt8 := (Bt.bytes (Bt.need L.length) (Bt.tr L.length (Bk.gones L))).data.toList
def Bk.enc (s : List Kn.C) (L : List Dd.D) : List UInt8 := encU L.length ++ (Bk.bools L ++ Bk.encC 0 s L)
def Bk.dist (i : Nat) : List Dd.D → List Kn.V → List Dd.D
 | [], _ => []
 | d :: r, vs => if Bk.has i d = true then ⟨d.gone, d.row ++ [vs.headD Cl.nul]⟩ :: Bk.dist i r vs.tail else d :: Bk.dist i r vs
def Bk.most : Int := 1048576
def Bk.restM (l : List UInt8) : List UInt8 := l.drop (txt l Bk.most).2.1
def Bk.rdC : Nat → List Kn.C → List Dd.D → List UInt8 → Option (List Dd.D × List UInt8)
 | _, [], A, l => some (A, l)
 | i, c :: s, A, l => if (txt l Bk.most).2.2 = 0 ∧ (Cl.rd c (txt l Bk.most).1).1 = 0 ∧ (Cl.rd c (txt l Bk.most).1).2.length = (A.filter (Bk.has i)).length then Bk.rdC (i + 1) s (Bk.dist i A (Cl.rd c (txt l Bk.most).1).2) (Bk.restM l) else none
def Bk.none_ (n : Nat) (b : UInt8) : List Dd.D := (List.range n).map fun i => ⟨b.toNat.testBit i, []⟩
def Bk.rd (s : List Kn.C) (l : List UInt8) : Nat × List Dd.D :=
 if Kn.right s = false then (4, [])
 else if (num l).2.2 ≠ 0 then (8, [])
 else match rest l with
  | [] => (8, [])
  | b :: r => if (num l).1 < 1 ∨ 8 < (num l).1 ∨ b.toNat / 2 ^ (num l).1 ≠ 0 then (8, [])
    else match Bk.rdC 0 s (Bk.none_ (num l).1 b) r with
     | none => (8, [])
     | some (L, r') => if r' = [] ∧ Bk.sorted L = true then (0, L) else (8, [])
def Bk.cut (i : Nat) (L : List Dd.D) : List Dd.D := L.map fun d => ⟨d.gone, d.row.take i⟩
def Bk.Len (i : Nat) (A : List Dd.D) : Prop := ∀ d ∈ A, d.row.length = if d.gone = true then min i 1 else i
end Go.Proofs.Ytodeodndjkkkbaa
namespace Go.Proofs.Ytodeodndjkkkbaa
open Go
open Ty (num txt encU U64 I64)
open Ig (rest)
open Tx (encT)
theorem Bk.len0 (n : Nat) (b : UInt8) : Bk.Len 0 (Bk.none_ n b) := fun d hd => by
 unfold Bk.none_ at hd
 obtain ⟨i, _, rfl⟩ := List.mem_map.1 hd
 simp
end Go.Proofs.Ytodeodndjkkkbaa
namespace Go.Proofs.Ytodeodndjkkkbaa.Fr
open Go
def P : Nat := 2197175160
def T (r : Nat) : Nat := (r / 2) ^^^ (if r % 2 = 1 then P else 0)
def Tn : Nat → Nat → Nat
 | 0, r => r
 | k + 1, r => Tn k (T r)
def reg : Nat → List UInt8 → Nat
 | r, [] => r
 | r, b :: l => reg (Tn 8 (r ^^^ b.toNat)) l
def val : List UInt8 → Nat
 | [] => 0
 | b :: l => 256 * val l + b.toNat
def ones : Nat := 4294967295
def sum (l : List UInt8) : Nat := reg ones l ^^^ ones
end Go.Proofs.Ytodeodndjkkkbaa.Fr
namespace Go.Proofs.Ytodeodndjkkkbaa.Fr
open Go
abbrev Str := List UInt8
def four (n : Nat) : List UInt8 := [UInt8.ofNat (n % 256), UInt8.ofNat (n / 256 % 256), UInt8.ofNat (n / 65536 % 256), UInt8.ofNat (n / 16777216 % 256)]
def frm (t : Str) : List UInt8 := four t.length ++ (t ++ four (sum t))
def scanF : Nat → List UInt8 → Nat × List Str × Nat
 | 0, _ => (0, [], 0)
 | f + 1, l =>
   if l.length < 4 then (0, [], 0)
   else if 1048576 < val (l.take 4) then (8, [], 0)
   else if l.length < val (l.take 4) + 8 then (0, [], 0)
   else if val ((l.drop (4 + val (l.take 4))).take 4) ≠ sum ((l.drop 4).take (val (l.take 4))) then (8, [], 0)
   else if (scanF f (l.drop (val (l.take 4) + 8))).1 ≠ 0 then (8, [], 0)
   else (0, (l.drop 4).take (val (l.take 4)) :: (scanF f (l.drop (val (l.take 4) + 8))).2.1, val (l.take 4) + 8 + (scanF f (l.drop (val (l.take 4) + 8))).2.2)
def scan (l : List UInt8) : Nat × List Str × Nat := scanF (l.length + 1) l
def more (t : Str) (q : Nat × List Str × Nat) : Nat × List Str × Nat := if q.1 ≠ 0 then (8, [], 0) else (0, t :: q.2.1, t.length + 8 + q.2.2)
def size (L : List Str) : Nat := (L.map fun t => t.length + 8).sum
def whole : List Str → Nat → Nat
 | [], _ => 0
 | t :: L, k => if t.length + 8 ≤ k then whole L (k - (t.length + 8)) + 1 else 0
def both (a : List UInt8) (p q : Nat × List Str × Nat) : Nat × List Str × Nat := if p.1 ≠ 0 then (8, [], 0) else if q.1 ≠ 0 then (8, [], 0) else (0, p.2.1 ++ q.2.1, a.length + q.2.2)
end Go.Proofs.Ytodeodndjkkkbaa.Fr
namespace Go.Proofs.Ytodeodndjkkkbaa
open Go
open Ty (encU U64 I64)
def Rn.nb (n : Nat) : Nat := (n + 7) / 8
def Rn.bk (L : List Dd.D) (i : Nat) : List Dd.D := (L.drop (8 * i)).take 8
def Rn.blocks (L : List Dd.D) : List (List Dd.D) := (List.range (Rn.nb L.length)).map (Rn.bk L)
def Rn.index (s : List Kn.C) (L : List Dd.D) : List UInt8 := encU (Rn.nb L.length) ++ (Rn.blocks L).flatMap fun b => encU (Fr.frm (Bk.enc s b)).length
def Rn.texts (s : List Kn.C) (L : List Dd.D) : List Fr.Str := (Rn.blocks L).map (Bk.enc s) ++ [Rn.index s L]
def Rn.enc (s : List Kn.C) (L : List Dd.D) : List UInt8 := (Rn.texts s L).flatMap Fr.frm
def Rn.wE (s : List Kn.C) (L : List Dd.D) : Int :=
 if Kn.right s = true then (if L.length = 0 then 1 else if Bk.fitsE s L = 0 then (if 1048576 < (Rn.enc s L).length then 3 else 0) else Bk.fitsE s L) else 4
def Rn.wS (s : List Kn.C) (L : List Dd.D) : List UInt8 := if Rn.wE s L = 0 then Rn.enc s L else []
def Rn.wV (s : List Kn.C) (L : List Dd.D) : Value := .tuple #[.string (Ty.S (Rn.wS s L)), .int .i64 (Rn.wE s L)]
theorem Rn.asc {L : List Dd.D} (h : Bk.sorted L = true) : ∀ (j i : Nat), i < j → j < L.length → Kn.cmp (Bk.key (L.getD i Bk.nod)) (Bk.key (L.getD j Bk.nod)) < 0
 | 0, i, hij, _ => by omega
 | j + 1, i, hij, hj => by
   unfold Bk.sorted at h
   have hst := List.all_eq_true.1 h (j + 1) (List.mem_range.2 hj)
   unfold Bk.step at hst
   rw [Bool.and_eq_true, Bool.or_eq_true] at hst
   have h1 : Kn.cmp (Bk.key (L.getD j Bk.nod)) (Bk.key (L.getD (j + 1) Bk.nod)) < 0 := by
    rcases hst.2 with h2 | h2
    ·rw [beq_iff_eq] at h2; omega
    ·rw [Nat.add_sub_cancel] at h2
     exact of_decide_eq_true h2
   rcases Nat.lt_or_ge i j with h2 | h2
   ·have ih := Rn.asc (by unfold Bk.sorted; exact h) j i h2 (by omega)
    exact Zn.lt_trans ih (by omega)
   ·obtain rfl : i = j := by omega
    exact h1
def Rn.get (L : List Dd.D) (k : Kn.V) : Option Dd.D := L.find? fun d => Kn.cmp (Bk.key d) k == 0
def Rn.in_ (L : List Dd.D) (r : Kn.R) : List Dd.D := L.filter fun d => Kn.inR r (Bk.key d)
def Rn.zone (s : List Kn.C) (L : List Dd.D) (b c : Int) : Zn.Zo := if 0 ≤ b ∧ b < (Rn.nb L.length : Int) ∧ 0 ≤ c ∧ c < (s.length : Int) then Zn.of (Bk.col (Rn.bk L b.toNat) c.toNat) else Zn.z0
def Rn.holds (r : Kn.R) (a : Zn.As) (d : Dd.D) : Bool := !d.gone && Kn.inR r (Bk.key d) && decide (0 ≤ a.col ∧ a.col < (d.row.length : Int)) && Zn.holds a (d.row.getD a.col.toNat Cl.nul)
def Rn.hold (L : List Dd.D) (r : Kn.R) (a : Zn.As) : List (List Kn.V) := (L.filter (Rn.holds r a)).map Dd.D.row
def Rn.meets (z : Zn.Zo) (r : Kn.R) : Bool := (!r.from_ || !decide (Kn.cmp z.hi r.lo < 0)) && (!r.til || decide (Kn.cmp z.lo r.hi < 0))
def Rn.look (s : List Kn.C) (L : List Dd.D) (r : Kn.R) (a : Zn.As) (i : Nat) : Bool := decide (0 ≤ a.col ∧ a.col < (s.length : Int)) && Rn.meets (Rn.zone s L i 0) r && Zn.may a (Rn.zone s L i a.col)
def Rn.looked (s : List Kn.C) (L : List Dd.D) (r : Kn.R) (a : Zn.As) : Nat := ((List.range (Rn.nb L.length)).filter (Rn.look s L r a)).length
end Go.Proofs.Ytodeodndjkkkbaa
namespace Go.Proofs.Ytodeodndjkkkbaa
open Go.RowKit
structure Bk.Ds (w : World) (v : Value) (L : List Dd.D) : Prop where
 is : ∃ a c, v = .slice a L.length c ∧ L.length ≤ c ∧ c ≤ 9223372036854775807 ∧ (L = [] ∨ ∃ b o, a = some ⟨b, o, none⟩ ∧ b < w.heap.size ∧
  ∀ i x, L[i]? = some x → ∃ u, w.cell? ⟨b, o + i * 2, none⟩ = some (.bool x.gone) ∧ w.cell? ⟨b, o + i * 2 + 1, none⟩ = some u ∧ Kn.Vals w u x.row)
theorem Bk.Ds.later {w w' : World} {v : Value} {L : List Dd.D} (h : Bk.Ds w v L) (g : Below w.heap.size w w') : Bk.Ds w' v L := by
 obtain ⟨a, c, hv, h1, h2, h⟩ := h
 refine ⟨a, c, hv, h1, h2, ?_⟩
 rcases h with h | ⟨b, o, ha, hb, h⟩
 ·exact .inl h
 ·refine .inr ⟨b, o, ha, Nat.lt_of_lt_of_le hb g.size, fun i x hx => ?_⟩
  obtain ⟨u, c0, c1, hu⟩ := h i x hx
  exact ⟨u, (g.cell (p := ⟨b, o + i * 2, none⟩) hb).trans c0, (g.cell (p := ⟨b, o + i * 2 + 1, none⟩) hb).trans c1, hu.later g⟩
def Bk.Zs (L : List Dd.D) : Prop := ∀ d ∈ L, ∀ v ∈ d.row, Kn.Z v
theorem Bk.below_reg {w w' : World} (h : ∃ p : Regrown, w' = Sort.grow (redrawn w p.d) p.os) : Below w.heap.size w w' := by
 obtain ⟨p, rfl⟩ := h
 exact below_regrown w p.d p.os
end Go.Proofs.Ytodeodndjkkkbaa
