import Derived.Test.YteaglaijkafphaaDoorWAF
import Derived.Test.YteaglaijkafphaaDoorWAA
import Derived.Test.YteaglaijkafphaaDoorWAB
namespace Go.Proofs.YteaglaijkafphaaDoor.Ig
open Go.RowKit
open Ty (num encU zig zag I64 U64)
def encI (x : Int) : List UInt8 := encU (zig x).toNat
def sg (l : List UInt8) : Int := zag ((num l).1 : Int)
def rest (l : List UInt8) : List UInt8 := l.drop (num l).2.1
theorem zag_toNat (x : Int) : zag (((zig x).toNat : Nat) : Int) = x := by rw [Int.toNat_of_nonneg (Ty.zig_nonneg x), Ty.zag_zig]
theorem num_encI (x : Int) (h : I64 x) (r : List UInt8) : num (encI x ++ r) = ((zig x).toNat, (encI x).length, 0) := Ty.num_encU _ (Ty.zig_u64 h) r
theorem read_encI (x : Int) (h : I64 x) (r : List UInt8) : (num (encI x ++ r)).2.2 = 0 ∧ sg (encI x ++ r) = x ∧ rest (encI x ++ r) = r := by
 unfold sg rest
 rw [num_encI x h r]
 exact ⟨rfl, zag_toNat x, by simp⟩
theorem read_encU (n : Nat) (h : U64 n) (r : List UInt8) : (num (encU n ++ r)).2.2 = 0 ∧ (num (encU n ++ r)).1 = n ∧ rest (encU n ++ r) = r := by
 unfold rest
 rw [Ty.num_encU n h r]
 exact ⟨rfl, rfl, by simp⟩
theorem splitU {l : List UInt8} (h : (num l).2.2 = 0) : l = encU (num l).1 ++ rest l := by
 unfold rest
 rw [(Ty.encU_num l h).1, List.take_append_drop]
def rdInts : Nat → List UInt8 → Nat × List Int × List UInt8
 | 0, l => (0, [], l)
 | n + 1, l => if (num l).2.2 ≠ 0 then ((num l).2.2, [], l) else ((rdInts n (rest l)).1, sg l :: (rdInts n (rest l)).2.1, (rdInts n (rest l)).2.2)
def acc : Int → List Int → List Int
 | _, [] => []
 | p, x :: xs => wrap64 (p + x) :: acc (wrap64 (p + x)) xs
def diffs : Int → List Int → List Int
 | _, [] => []
 | p, x :: xs => wrap64 (x - p) :: diffs x xs
theorem wrap_i64 (x : Int) : I64 (wrap64 x) := by unfold I64 wrap64; omega
def join1 (x : Int) : List (Nat × Int) → List (Nat × Int)
 | [] => [(1, x)]
 | (k, y) :: g => if y = x then (k + 1, x) :: g else (1, x) :: (k, y) :: g
def grp : List Int → List (Nat × Int)
 | [] => []
 | x :: xs => join1 x (grp xs)
def spread (g : List (Nat × Int)) : List Int := g.flatMap fun p => List.replicate p.1 p.2
def Proper : Option Int → List (Nat × Int) → Prop
 | _, [] => True
 | p, (k, x) :: g => 0 < k ∧ p ≠ some x ∧ Proper (some x) g
def encR (p : Nat × Int) : List UInt8 := encU p.1 ++ encI p.2
def rdRuns : Nat → Nat → Option Int → List UInt8 → Nat × List (Nat × Int) × List UInt8
 | _, 0, _, l => (0, [], l)
 | 0, _, _, l => (0, [], l)
 | f + 1, m, p, l =>
   if (num l).2.2 ≠ 0 then ((num l).2.2, [], l)
   else if (num l).1 = 0 ∨ m < (num l).1 then (4, [], l)
   else if (num (rest l)).2.2 ≠ 0 then ((num (rest l)).2.2, [], l)
   else if p = some (sg (rest l)) then (4, [], l)
   else ((rdRuns f (m - (num l).1) (some (sg (rest l))) (rest (rest l))).1, ((num l).1, sg (rest l)) :: (rdRuns f (m - (num l).1) (some (sg (rest l))) (rest (rest l))).2.1, (rdRuns f (m - (num l).1) (some (sg (rest l))) (rest (rest l))).2.2)
def total (g : List (Nat × Int)) : Nat := (g.map (·.1)).sum
def low : List Int → Int
 | [] => 0
 | x :: xs => xs.foldl min x
def off (L : List Int) (i : Nat) : Nat := (L.getD i (low L) - low L).toNat
def encP (L : List Int) : List UInt8 := if L = [] then [] else encI (low L) ++ (UInt8.ofNat (Bt.wid L.length (off L)) :: (Bt.bytes (Bt.need (L.length * Bt.wid L.length (off L))) (Bt.pk L.length (off L) (Bt.wid L.length (off L)))).data.toList)
def un (s : ByteArray) (w i : Nat) : Nat := Bt.num w (fun j => Bt.bit s (i * w + j))
def outs (n : Nat) (x : Int) (X : Nat → Nat) : List Int := (List.range n).map fun i => wrap64 (x + (X i : Int))
def good (n w : Nat) (x : Int) (X : Nat → Nat) : Bool := (List.range n).any (fun i => X i == 0) && (Bt.wid n X == w) && (low (outs n x X) == x)
def rdPacked (n : Nat) (l : List UInt8) : Nat × List Int × List UInt8 :=
 if (num l).2.2 ≠ 0 then ((num l).2.2, [], l)
 else match rest l with
  | [] => (2, [], l)
  | b :: r =>
    if 64 < b.toNat then (4, [], l)
    else if r.length < Bt.need (n * b.toNat) then (2, [], l)
    else if Bt.chk ⟨(r.take (Bt.need (n * b.toNat))).toArray⟩ (n * b.toNat) ≠ 0 then (Bt.chk ⟨(r.take (Bt.need (n * b.toNat))).toArray⟩ (n * b.toNat), [], l)
    else if good n b.toNat (sg l) (un ⟨(r.take (Bt.need (n * b.toNat))).toArray⟩ b.toNat) = true then (0, outs n (sg l) (un ⟨(r.take (Bt.need (n * b.toNat))).toArray⟩ b.toNat), r.drop (Bt.need (n * b.toNat)))
    else (4, [], l)
def body (k : Nat) (L : List Int) : List UInt8 := if k = 0 then L.flatMap encI else if k = 1 then (diffs 0 L).flatMap encI else if k = 2 then (grp L).flatMap encR else encP L
def enc (k : Nat) (L : List Int) : List UInt8 := UInt8.ofNat k :: (encU L.length ++ body k L)
def rdBody (k n : Nat) (l : List UInt8) : Nat × List Int × List UInt8 :=
 if k = 0 then rdInts n l
 else if k = 1 then ((rdInts n l).1, acc 0 (rdInts n l).2.1, (rdInts n l).2.2)
 else if k = 2 then ((rdRuns n n none l).1, spread (rdRuns n n none l).2.1, (rdRuns n n none l).2.2)
 else if n = 0 then (0, [], l) else rdPacked n l
def rd (l : List UInt8) : Nat × List Int :=
 match l with
 | [] => (2, [])
 | b :: r =>
   if 3 < b.toNat then (4, [])
   else if (num r).2.2 ≠ 0 then ((num r).2.2, [])
   else if 65536 < (num r).1 then (3, [])
   else if (rdBody b.toNat (num r).1 (rest r)).1 ≠ 0 then ((rdBody b.toNat (num r).1 (rest r)).1, [])
   else if (rdBody b.toNat (num r).1 (rest r)).2.2 ≠ [] then (5, [])
   else (0, (rdBody b.toNat (num r).1 (rest r)).2.1)
end Go.Proofs.YteaglaijkafphaaDoor.Ig
namespace Go.Proofs.YteaglaijkafphaaDoor.Tx
open Go Go.RowKit
open Ty (num encU txt U64)
open Ig (rest read_encU splitU un)
abbrev Str := List UInt8
def encT (t : Str) : List UInt8 := encU t.length ++ t
def restT (l : List UInt8) : List UInt8 := l.drop (txt l 64).2.1
theorem read_encT (t : Str) (h : t.length ≤ 64) (r : List UInt8) : (txt (encT t ++ r) 64).2.2 = 0 ∧ (txt (encT t ++ r) 64).1 = t ∧ restT (encT t ++ r) = r := by
 have e : num (encT t ++ r) = (t.length, (encU t.length).length, 0) := by
  unfold encT
  rw [List.append_assoc]
  exact Ty.num_encU _ (by unfold U64; omega) _
 have e0 : (num (encT t ++ r)).2.2 = 0 := by rw [e]
 have e1 : (num (encT t ++ r)).1 = t.length := by rw [e]
 have e2 : (num (encT t ++ r)).2.1 = (encU t.length).length := by rw [e]
 have hl : (encT t ++ r).length = (encU t.length).length + (t.length + r.length) := by simp [encT]
 have hw := Ty.txt_whole (most := 64) e0 (by rw [e1]; omega) (by rw [e1, e2, hl]; omega)
 have hd : (encT t ++ r).drop (encU t.length).length = t ++ r := by simp [encT]
 refine ⟨by rw [hw], by rw [hw, e1, e2, hd]; simp, ?_⟩
 unfold restT
 rw [hw, e1, e2, ← List.drop_drop, hd]
 simp
def lt (a b : Str) : Bool := Op.bytesLess a b
def Asc : Option Str → List Str → Prop
 | _, [] => True
 | p, a :: d => (∀ q, p = some q → lt q a = true) ∧ Asc (some a) d
def ins (t : Str) : List Str → List Str
 | [] => [t]
 | a :: d => if a = t then a :: d else if lt a t = true then a :: ins t d else t :: a :: d
def dict (L : List Str) : List Str := L.foldl (fun d t => ins t d) []
def pos (d : List Str) (t : Str) : Nat := d.idxOf t
def rdWords (ord : Bool) : Nat → Option Str → List UInt8 → Nat × List Str × List UInt8
 | 0, _, l => (0, [], l)
 | n + 1, p, l =>
   if (txt l 64).2.2 ≠ 0 then ((txt l 64).2.2, [], l)
   else if ord = true ∧ (p.any fun q => !lt q (txt l 64).1) = true then (4, [], l)
   else ((rdWords ord n (some (txt l 64).1) (restT l)).1, (txt l 64).1 :: (rdWords ord n (some (txt l 64).1) (restT l)).2.1, (rdWords ord n (some (txt l 64).1) (restT l)).2.2)
def ix (d : List Str) (L : List Str) (i : Nat) : Nat := pos d (L.getD i [])
def encX (d L : List Str) : List UInt8 := UInt8.ofNat (Bt.wid L.length (ix d L)) :: (Bt.bytes (Bt.need (L.length * Bt.wid L.length (ix d L))) (Bt.pk L.length (ix d L) (Bt.wid L.length (ix d L)))).data.toList
def right (n w : Nat) (d : List Str) (X : Nat → Nat) : Bool := (List.range n).all (fun i => decide (X i < d.length)) && ((List.range d.length).all (fun j => (List.range n).any fun i => X i == j) && (Bt.wid n X == w))
def outs (n : Nat) (d : List Str) (X : Nat → Nat) : List Str := (List.range n).map fun i => d.getD (X i) []
def rdPick (n : Nat) (d : List Str) (l : List UInt8) : Nat × List Str × List UInt8 :=
 match l with
 | [] => (2, [], l)
 | b :: r =>
   if 64 < b.toNat then (4, [], l)
   else if r.length < Bt.need (n * b.toNat) then (2, [], l)
   else if Bt.chk ⟨(r.take (Bt.need (n * b.toNat))).toArray⟩ (n * b.toNat) ≠ 0 then (Bt.chk ⟨(r.take (Bt.need (n * b.toNat))).toArray⟩ (n * b.toNat), [], l)
   else if right n b.toNat d (un ⟨(r.take (Bt.need (n * b.toNat))).toArray⟩ b.toNat) = true then (0, outs n d (un ⟨(r.take (Bt.need (n * b.toNat))).toArray⟩ b.toNat), r.drop (Bt.need (n * b.toNat)))
   else (4, [], l)
def body (k : Nat) (L : List Str) : List UInt8 := if k = 0 then L.flatMap encT else encU (dict L).length ++ ((dict L).flatMap encT ++ encX (dict L) L)
def enc (k : Nat) (L : List Str) : List UInt8 := UInt8.ofNat k :: (encU L.length ++ body k L)
def rdBody (k n : Nat) (l : List UInt8) : Nat × List Str × List UInt8 :=
 if k = 0 then rdWords false n none l
 else if (num l).2.2 ≠ 0 then ((num l).2.2, [], l)
 else if 65536 < (num l).1 then (3, [], l)
 else if (rdWords true (num l).1 none (rest l)).1 ≠ 0 then ((rdWords true (num l).1 none (rest l)).1, [], l)
 else rdPick n (rdWords true (num l).1 none (rest l)).2.1 (rdWords true (num l).1 none (rest l)).2.2
def rd (l : List UInt8) : Nat × List Str :=
 match l with
 | [] => (2, [])
 | b :: r =>
   if 1 < b.toNat then (4, [])
   else if (num r).2.2 ≠ 0 then ((num r).2.2, [])
   else if 65536 < (num r).1 then (3, [])
   else if (rdBody b.toNat (num r).1 (rest r)).1 ≠ 0 then ((rdBody b.toNat (num r).1 (rest r)).1, [])
   else if (rdBody b.toNat (num r).1 (rest r)).2.2 ≠ [] then (5, [])
   else (0, (rdBody b.toNat (num r).1 (rest r)).2.1)
end Go.Proofs.YteaglaijkafphaaDoor.Tx
namespace Go.Proofs.YteaglaijkafphaaDoor
open Go.RowKit
def Ty.Cur (b : Nat) (w : World) (l : List UInt8) (e : Nat) : Prop := w.heap[b]? = some (.cells #[.string (Ty.S l), .int .i64 (e : Int)] 95 (0, 0))
theorem Ty.Cur.cells {b : Nat} {w : World} {l : List UInt8} {e : Nat} (h : Ty.Cur b w l e) : w.cell? ⟨b, 0, none⟩ = some (.string (Ty.S l)) ∧ w.cell? ⟨b, 1, none⟩ = some (.int .i64 (e : Int)) ∧ w.frozen? ⟨b, 0, none⟩ = false ∧ w.frozen? ⟨b, 1, none⟩ = false := by
 unfold Ty.Cur at h
 refine ⟨?_, ?_, ?_, ?_⟩ <;> simp [World.cell?, World.frozen?, h]
theorem Ty.Cur.lt {b : Nat} {w : World} {l : List UInt8} {e : Nat} (h : Ty.Cur b w l e) : b < w.heap.size := lt_of_block h
theorem Ty.two_set0 {w : World} {b : Nat} {x y u : Value} {t : TypeId} (h : w.heap[b]? = some (.cells #[x, y] t (0, 0))) : (w.setCell ⟨b, 0, none⟩ u).heap[b]? = some (.cells #[u, y] t (0, 0)) := by
 have hlt := lt_of_block h
 have h' : w.heap[b] = .cells #[x, y] t (0, 0) := by simpa [Array.getElem?_eq_getElem hlt] using h
 show (w.heap.modify b _)[b]? = _
 rw [Array.getElem?_eq_getElem (by simpa using hlt), Array.getElem_modify_self, h']
 rfl
theorem Ty.two_set1 {w : World} {b : Nat} {x y u : Value} {t : TypeId} (h : w.heap[b]? = some (.cells #[x, y] t (0, 0))) : (w.setCell ⟨b, 1, none⟩ u).heap[b]? = some (.cells #[x, u] t (0, 0)) := by
 have hlt := lt_of_block h
 have h' : w.heap[b] = .cells #[x, y] t (0, 0) := by simpa [Array.getElem?_eq_getElem hlt] using h
 show (w.heap.modify b _)[b]? = _
 rw [Array.getElem?_eq_getElem (by simpa using hlt), Array.getElem_modify_self, h']
 rfl
theorem Ty.by_set (w : World) (b o : Nat) (u : Value) : w.grownBy (w.setCell ⟨b, o, none⟩ u) (some b) :=
 ⟨rfl, rfl, rfl, by simp [World.setCell], fun k _ hk => Below.heap_setCell _ _ _ _ (fun e => hk (by rw [e]))⟩
theorem Ty.by_refl (w : World) (r : Option Nat) : w.grownBy w r := ⟨rfl, rfl, rfl, Nat.le_refl _, fun _ _ _ => rfl⟩
theorem Ty.by_trans {a b c : World} {r : Option Nat} (h : a.grownBy b r) (k : b.grownBy c r) : a.grownBy c r :=
 ⟨k.os.trans h.os, k.tape.trans h.tape, k.output.trans h.output, Nat.le_trans h.size k.size, fun i hi hn => (k.block i (Nat.lt_of_lt_of_le hi h.size) hn).trans (h.block i hi hn)⟩
theorem Ty.Tabs.kept {w w' : World} (h : Ty.Tabs w) (hs : w.heap.size ≤ w'.heap.size) (hb : ∀ k, k < Ty.G → w'.heap[k]? = w.heap[k]?) : Ty.Tabs w' := by
 have hc : ∀ k o v, k < Ty.G → w.cell? ⟨k, o, none⟩ = some v → w'.cell? ⟨k, o, none⟩ = some v := fun k o v hk hv => (World.cell?_of_block (a := ⟨k, o, none⟩) (hb k hk)).trans hv
 exact ⟨hc _ _ _ (by decide) h.z0, hc _ _ _ (by decide) h.z1, hc _ _ _ (by decide) h.z2, hc _ _ _ (by decide) h.z3, hc _ _ _ (by decide) h.s0, hc _ _ _ (by decide) h.s1, hc _ _ _ (by decide) h.s2, hc _ _ _ (by decide) h.s3, Nat.le_trans h.two hs⟩
theorem Ty.Tabs.by {w w' : World} {r : Option Nat} (h : Ty.Tabs w) (hg : w.grownBy w' r) (hr : ∀ k, r = some k → Ty.G ≤ k) : Ty.Tabs w' :=
 h.kept hg.size fun k hk => hg.block k (by have := h.two; omega) (fun e => by have := hr k e.symm; omega)
def Ty.Left (b : Nat) (w : World) (v : Value) (l : List UInt8) (e' : Nat) (e : Ending) (w' : World) : Prop := e = .returned v ∧ Ty.Cur b w' l e' ∧ w.grownBy w' (some b)
set_option maxHeartbeats 400000 in
theorem Ty.from_c (l : List UInt8) (w : World) :
 Calls Tryd.prog 28 #[.string (Ty.S l)] w fun e w' => e = .returned (.pointer (some ⟨w.heap.size, 0, none⟩)) ∧ w' = w.alloc (.cells #[.string (Ty.S l), .int .i64 0] 95 (0, 0)) := by
 go_enter Tryd.func28, Tryd.ntmps28
 go_wp2
 go_ret
 exact ⟨rfl, rfl⟩
set_option maxHeartbeats 400000 in
theorem Ty.err_c (b : Nat) (l : List UInt8) (er : Nat) (w : World) (h : Ty.Cur b w l er) :
 Calls Tryd.prog 53 #[.pointer (some ⟨b, 0, none⟩)] w fun e w' => e = .returned (.int .i64 (er : Int)) ∧ w' = w := by
 obtain ⟨c0, c1, _, _⟩ := h.cells
 go_enter Tryd.func53, Tryd.ntmps53
 go_wp2
 go_ret
 exact ⟨rfl, rfl⟩
set_option maxHeartbeats 400000 in
theorem Ty.left_c (b : Nat) (l : List UInt8) (er : Nat) (w : World) (h : Ty.Cur b w l er) :
 Calls Tryd.prog 54 #[.pointer (some ⟨b, 0, none⟩)] w fun e w' => e = .returned (.int .i64 (l.length : Int)) ∧ w' = w := by
 obtain ⟨c0, c1, _, _⟩ := h.cells
 go_enter Tryd.func54, Tryd.ntmps54
 go_wp2
 go_ret
 exact ⟨rfl, rfl⟩
set_option maxHeartbeats 400000 in
theorem Ty.advance_c (b : Nat) (l : List UInt8) (er sz e' : Nat) (w : World) (h : Ty.Cur b w l er) (hsz : sz ≤ l.length) (hl : l.length ≤ 9223372036854775807) :
 Calls Tryd.prog 93 #[.pointer (some ⟨b, 0, none⟩), .int .i64 (sz : Int), .int .i64 (e' : Int)] w (Ty.Left b w (.tuple #[]) (l.drop sz) e') := by
 obtain ⟨c0, c1, f0, f1⟩ := h.cells
 have hss : sz ≤ (Ty.S l).size := hsz
 have hsl : (Ty.S l).size ≤ 9223372036854775807 := hl
 go_enter Tryd.func93, Tryd.ntmps93
 go_wp2
 go_end0
 have e1 : (Ty.S l).extract sz (Ty.S l).size = Ty.S (l.drop sz) := by
  rw [Ty.extract_S, Ty.data_S, Ty.size_S, List.take_of_length_le (by simp)]
 rw [e1]
 exact ⟨rfl, Ty.two_set1 (Ty.two_set0 h), Ty.by_trans (Ty.by_set _ _ _ _) (Ty.by_set _ _ _ _)⟩
def Ty.rdU (l : List UInt8) (e : Nat) : Nat × List UInt8 × Nat := if e ≠ 0 then (0, l, e) else ((Ty.num l).1, l.drop (Ty.num l).2.1, (Ty.num l).2.2)
def Ty.rdT (most : Int) (l : List UInt8) (e : Nat) : List UInt8 × List UInt8 × Nat := if e ≠ 0 then ([], l, e) else ((Ty.txt l most).1, l.drop (Ty.txt l most).2.1, (Ty.txt l most).2.2)
def Ty.rdB (l : List UInt8) (e : Nat) : Nat × List UInt8 × Nat := if e ≠ 0 then (0, l, e) else match l with
 | [] => (0, [], 2)
 | b :: r => (b.toNat, r, 0)
set_option maxHeartbeats 400000 in
theorem Ty.cuint_c (b : Nat) (l : List UInt8) (er : Nat) (w : World) (hw : Ty.Tabs w) (h : Ty.Cur b w l er) (hl : l.length ≤ 9223372036854775807) :
 Calls Tryd.prog 70 #[.pointer (some ⟨b, 0, none⟩)] w (Ty.Left b w (.int .u64 ((Ty.rdU l er).1 : Int)) (Ty.rdU l er).2.1 (Ty.rdU l er).2.2) := by
 obtain ⟨c0, c1, f0, f1⟩ := h.cells
 by_cases he : er = 0
 ·subst he
  have hsz := Ty.num_size l
  have HR : Hid (Ty.rdU l 0 = ((Ty.num l).1, l.drop (Ty.num l).2.1, (Ty.num l).2.2)) := Lib.hid (by simp [Ty.rdU])
  rw [HR.out]
  go_enter Tryd.func70, Tryd.ntmps70
  go_wp2_with fail
  refine (Ty.err_c b l 0 _ h).mono ?_
  rintro e w' ⟨rfl, rfl⟩
  go_wp2_with fail
  refine (Ty.number_c (Ty.S l) _ hw hl).mono ?_
  rintro e w2 ⟨rfl, rfl⟩
  unfold Ty.numV
  rw [Ty.data_S]
  go_wp2_with fail
  refine (Ty.advance_c b l 0 _ _ _ h hsz hl).mono ?_
  rintro e w3 ⟨rfl, hc, hg⟩
  go_wp2
  go_ret
  exact ⟨rfl, hc, hg⟩
 ·have hne : ((er : Int) != 0) = true := by rw [bne_iff_ne]; omega
  have HR : Hid (Ty.rdU l er = (0, l, er)) := Lib.hid (by simp [Ty.rdU, he])
  rw [HR.out]
  clear he
  go_enter Tryd.func70, Tryd.ntmps70
  go_wp2_with fail
  refine (Ty.err_c b l er _ h).mono ?_
  rintro e w' ⟨rfl, rfl⟩
  go_wp2
  go_ret
  exact ⟨rfl, h, Ty.by_refl _ _⟩
end Go.Proofs.YteaglaijkafphaaDoor
