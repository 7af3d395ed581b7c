import Derived.Test.YteaglaijkafphaaDoorZAA
import Derived.Test.YteaglaijkafphaaDoorRows
import Derived.WalkKit
import Derived.WalkSpells
import Derived.WalkLawsBesides
namespace Go.Proofs.YteaglaijkafphaaDoor.Ig
open Go.RowKit
open Ty (num encU zig zag I64 U64)
def encI (x : Int) : List UInt8 := encU (zig x).toNat
def sg (l : List UInt8) : Int := zag ((num l).1 : Int)
def rest (l : List UInt8) : List UInt8 := l.drop (num l).2.1
theorem read_encU (n : Nat) (h : U64 n) (r : List UInt8) : (num (encU n ++ r)).2.2 = 0 ∧ (num (encU n ++ r)).1 = n ∧ rest (encU n ++ r) = r := by
 unfold rest
 rw [Ty.num_encU n h r]
 exact ⟨rfl, rfl, by simp⟩
theorem splitU {l : List UInt8} (h : (num l).2.2 = 0) : l = encU (num l).1 ++ rest l := by
 unfold rest
 rw [(Ty.encU_num l h).1, List.take_append_drop]
def rdInts : Nat → List UInt8 → Nat × List Int × List UInt8
 | 0, l => (0, [], l)
 | n + 1, l => if (num l).2.2 ≠ 0 then ((num l).2.2, [], l) else ((rdInts n (rest l)).1, sg l :: (rdInts n (rest l)).2.1, (rdInts n (rest l)).2.2)
def acc : Int → List Int → List Int
 | _, [] => []
 | p, x :: xs => wrap64 (p + x) :: acc (wrap64 (p + x)) xs
def diffs : Int → List Int → List Int
 | _, [] => []
 | p, x :: xs => wrap64 (x - p) :: diffs x xs
theorem wrap_i64 (x : Int) : I64 (wrap64 x) := by unfold I64 wrap64; omega
def join1 (x : Int) : List (Nat × Int) → List (Nat × Int)
 | [] => [(1, x)]
 | (k, y) :: g => if y = x then (k + 1, x) :: g else (1, x) :: (k, y) :: g
def grp : List Int → List (Nat × Int)
 | [] => []
 | x :: xs => join1 x (grp xs)
def spread (g : List (Nat × Int)) : List Int := g.flatMap fun p => List.replicate p.1 p.2
def Proper : Option Int → List (Nat × Int) → Prop
 | _, [] => True
 | p, (k, x) :: g => 0 < k ∧ p ≠ some x ∧ Proper (some x) g
def encR (p : Nat × Int) : List UInt8 := encU p.1 ++ encI p.2
def rdRuns : Nat → Nat → Option Int → List UInt8 → Nat × List (Nat × Int) × List UInt8
 | _, 0, _, l => (0, [], l)
 | 0, _, _, l => (0, [], l)
 | f + 1, m, p, l =>
   if (num l).2.2 ≠ 0 then ((num l).2.2, [], l)
   else if (num l).1 = 0 ∨ m < (num l).1 then (4, [], l)
   else if (num (rest l)).2.2 ≠ 0 then ((num (rest l)).2.2, [], l)
   else if p = some (sg (rest l)) then (4, [], l)
   else ((rdRuns f (m - (num l).1) (some (sg (rest l))) (rest (rest l))).1, ((num l).1, sg (rest l)) :: (rdRuns f (m - (num l).1) (some (sg (rest l))) (rest (rest l))).2.1, (rdRuns f (m - (num l).1) (some (sg (rest l))) (rest (rest l))).2.2)
def total (g : List (Nat × Int)) : Nat := (g.map (·.1)).sum
def low : List Int → Int
 | [] => 0
 | x :: xs => xs.foldl min x
def off (L : List Int) (i : Nat) : Nat := (L.getD i (low L) - low L).toNat
def encP (L : List Int) : List UInt8 := if L = [] then [] else encI (low L) ++ (UInt8.ofNat (Bt.wid L.length (off L)) :: (Bt.bytes (Bt.need (L.length * Bt.wid L.length (off L))) (Bt.pk L.length (off L) (Bt.wid L.length (off L)))).data.toList)
def un (s : ByteArray) (w i : Nat) : Nat := Bt.num w (fun j => Bt.bit s (i * w + j))
def outs (n : Nat) (x : Int) (X : Nat → Nat) : List Int := (List.range n).map fun i => wrap64 (x + (X i : Int))
def good (n w : Nat) (x : Int) (X : Nat → Nat) : Bool := (List.range n).any (fun i => X i == 0) && (Bt.wid n X == w) && (low (outs n x X) == x)
def rdPacked (n : Nat) (l : List UInt8) : Nat × List Int × List UInt8 :=
 if (num l).2.2 ≠ 0 then ((num l).2.2, [], l)
 else match rest l with
  | [] => (2, [], l)
  | b :: r =>
    if 64 < b.toNat then (4, [], l)
    else if r.length < Bt.need (n * b.toNat) then (2, [], l)
    else if Bt.chk ⟨(r.take (Bt.need (n * b.toNat))).toArray⟩ (n * b.toNat) ≠ 0 then (Bt.chk ⟨(r.take (Bt.need (n * b.toNat))).toArray⟩ (n * b.toNat), [], l)
    else if good n b.toNat (sg l) (un ⟨(r.take (Bt.need (n * b.toNat))).toArray⟩ b.toNat) = true then (0, outs n (sg l) (un ⟨(r.take (Bt.need (n * b.toNat))).toArray⟩ b.toNat), r.drop (Bt.need (n * b.toNat)))
    else (4, [], l)
def body (k : Nat) (L : List Int) : List UInt8 := if k = 0 then L.flatMap encI else if k = 1 then (diffs 0 L).flatMap encI else if k = 2 then (grp L).flatMap encR else encP L
def enc (k : Nat) (L : List Int) : List UInt8 := UInt8.ofNat k :: (encU L.length ++ body k L)
def rdBody (k n : Nat) (l : List UInt8) : Nat × List Int × List UInt8 :=
 if k = 0 then rdInts n l
 else if k = 1 then ((rdInts n l).1, acc 0 (rdInts n l).2.1, (rdInts n l).2.2)
 else if k = 2 then ((rdRuns n n none l).1, spread (rdRuns n n none l).2.1, (rdRuns n n none l).2.2)
 else if n = 0 then (0, [], l) else rdPacked n l
def rd (l : List UInt8) : Nat × List Int :=
 match l with
 | [] => (2, [])
 | b :: r =>
   if 3 < b.toNat then (4, [])
   else if (num r).2.2 ≠ 0 then ((num r).2.2, [])
   else if 65536 < (num r).1 then (3, [])
   else if (rdBody b.toNat (num r).1 (rest r)).1 ≠ 0 then ((rdBody b.toNat (num r).1 (rest r)).1, [])
   else if (rdBody b.toNat (num r).1 (rest r)).2.2 ≠ [] then (5, [])
   else (0, (rdBody b.toNat (num r).1 (rest r)).2.1)
end Go.Proofs.YteaglaijkafphaaDoor.Ig
namespace Go.Proofs.YteaglaijkafphaaDoor.Tx
open Go Go.RowKit
open Ty (num encU txt U64)
open Ig (rest read_encU splitU un)
abbrev Str := List UInt8
def encT (t : Str) : List UInt8 := encU t.length ++ t
def restT (l : List UInt8) : List UInt8 := l.drop (txt l 64).2.1
def lt (a b : Str) : Bool := Op.bytesLess a b
def Asc : Option Str → List Str → Prop
 | _, [] => True
 | p, a :: d => (∀ q, p = some q → lt q a = true) ∧ Asc (some a) d
def ins (t : Str) : List Str → List Str
 | [] => [t]
 | a :: d => if a = t then a :: d else if lt a t = true then a :: ins t d else t :: a :: d
def dict (L : List Str) : List Str := L.foldl (fun d t => ins t d) []
def pos (d : List Str) (t : Str) : Nat := d.idxOf t
def rdWords (ord : Bool) : Nat → Option Str → List UInt8 → Nat × List Str × List UInt8
 | 0, _, l => (0, [], l)
 | n + 1, p, l =>
   if (txt l 64).2.2 ≠ 0 then ((txt l 64).2.2, [], l)
   else if ord = true ∧ (p.any fun q => !lt q (txt l 64).1) = true then (4, [], l)
   else ((rdWords ord n (some (txt l 64).1) (restT l)).1, (txt l 64).1 :: (rdWords ord n (some (txt l 64).1) (restT l)).2.1, (rdWords ord n (some (txt l 64).1) (restT l)).2.2)
def ix (d : List Str) (L : List Str) (i : Nat) : Nat := pos d (L.getD i [])
def encX (d L : List Str) : List UInt8 := UInt8.ofNat (Bt.wid L.length (ix d L)) :: (Bt.bytes (Bt.need (L.length * Bt.wid L.length (ix d L))) (Bt.pk L.length (ix d L) (Bt.wid L.length (ix d L)))).data.toList
def right (n w : Nat) (d : List Str) (X : Nat → Nat) : Bool := (List.range n).all (fun i => decide (X i < d.length)) && ((List.range d.length).all (fun j => (List.range n).any fun i => X i == j) && (Bt.wid n X == w))
def outs (n : Nat) (d : List Str) (X : Nat → Nat) : List Str := (List.range n).map fun i => d.getD (X i) []
def rdPick (n : Nat) (d : List Str) (l : List UInt8) : Nat × List Str × List UInt8 :=
 match l with
 | [] => (2, [], l)
 | b :: r =>
   if 64 < b.toNat then (4, [], l)
   else if r.length < Bt.need (n * b.toNat) then (2, [], l)
   else if Bt.chk ⟨(r.take (Bt.need (n * b.toNat))).toArray⟩ (n * b.toNat) ≠ 0 then (Bt.chk ⟨(r.take (Bt.need (n * b.toNat))).toArray⟩ (n * b.toNat), [], l)
   else if right n b.toNat d (un ⟨(r.take (Bt.need (n * b.toNat))).toArray⟩ b.toNat) = true then (0, outs n d (un ⟨(r.take (Bt.need (n * b.toNat))).toArray⟩ b.toNat), r.drop (Bt.need (n * b.toNat)))
   else (4, [], l)
def body (k : Nat) (L : List Str) : List UInt8 := if k = 0 then L.flatMap encT else encU (dict L).length ++ ((dict L).flatMap encT ++ encX (dict L) L)
def enc (k : Nat) (L : List Str) : List UInt8 := UInt8.ofNat k :: (encU L.length ++ body k L)
def rdBody (k n : Nat) (l : List UInt8) : Nat × List Str × List UInt8 :=
 if k = 0 then rdWords false n none l
 else if (num l).2.2 ≠ 0 then ((num l).2.2, [], l)
 else if 65536 < (num l).1 then (3, [], l)
 else if (rdWords true (num l).1 none (rest l)).1 ≠ 0 then ((rdWords true (num l).1 none (rest l)).1, [], l)
 else rdPick n (rdWords true (num l).1 none (rest l)).2.1 (rdWords true (num l).1 none (rest l)).2.2
def rd (l : List UInt8) : Nat × List Str :=
 match l with
 | [] => (2, [])
 | b :: r =>
   if 1 < b.toNat then (4, [])
   else if (num r).2.2 ≠ 0 then ((num r).2.2, [])
   else if 65536 < (num r).1 then (3, [])
   else if (rdBody b.toNat (num r).1 (rest r)).1 ≠ 0 then ((rdBody b.toNat (num r).1 (rest r)).1, [])
   else if (rdBody b.toNat (num r).1 (rest r)).2.2 ≠ [] then (5, [])
   else (0, (rdBody b.toNat (num r).1 (rest r)).2.1)
end Go.Proofs.YteaglaijkafphaaDoor.Tx
namespace Go.Proofs.YteaglaijkafphaaDoor
open Go.RowKit
def Ty.G : Nat := Nat.max 0 1 + 1
structure Ty.Tabs (w : World) : Prop where
 z0 : w.cell? ⟨0, 0, none⟩ = some (.int .i64 1)
 z1 : w.cell? ⟨0, 1, none⟩ = some (.int .i64 2)
 z2 : w.cell? ⟨0, 2, none⟩ = some (.int .i64 4)
 z3 : w.cell? ⟨0, 3, none⟩ = some (.int .i64 9)
 s0 : w.cell? ⟨1, 0, none⟩ = some (.int .u64 0)
 s1 : w.cell? ⟨1, 1, none⟩ = some (.int .u64 64)
 s2 : w.cell? ⟨1, 2, none⟩ = some (.int .u64 16384)
 s3 : w.cell? ⟨1, 3, none⟩ = some (.int .u64 1073741824)
 two : Ty.G ≤ w.heap.size
end Go.Proofs.YteaglaijkafphaaDoor
