import Derived.Test.YtodeodndjkkkbaaZAC
import Derived.Test.YtodeodndjkkkbaaZAA
import Derived.Test.YtodeodndjkkkbaaRows
import Derived.Test.YtodeodndjkkkbaaZAB
import Derived.WalkKit
import Derived.WalkSpells
import Derived.WalkLawsBesides
import Derived.Lib.AppendStr
import Derived.Laws.AppendOwnNone
import Derived.Lib.Hide
import Derived.Deep.OwnRows
namespace Go.Proofs.Ytodeodndjkkkbaa.Tx
open Go Go.RowKit
open Ty (num encU txt U64)
open Ig (rest read_encU splitU un)
abbrev Str := List UInt8
def encT (t : Str) : List UInt8 := encU t.length ++ t
def restT (l : List UInt8) : List UInt8 := l.drop (txt l 64).2.1
theorem read_encT (t : Str) (h : t.length ≤ 64) (r : List UInt8) : (txt (encT t ++ r) 64).2.2 = 0 ∧ (txt (encT t ++ r) 64).1 = t ∧ restT (encT t ++ r) = r := by
 have e : num (encT t ++ r) = (t.length, (encU t.length).length, 0) := by
  unfold encT
  rw [List.append_assoc]
  exact Ty.num_encU _ (by unfold U64; omega) _
 have e0 : (num (encT t ++ r)).2.2 = 0 := by rw [e]
 have e1 : (num (encT t ++ r)).1 = t.length := by rw [e]
 have e2 : (num (encT t ++ r)).2.1 = (encU t.length).length := by rw [e]
 have hl : (encT t ++ r).length = (encU t.length).length + (t.length + r.length) := by simp [encT]
 have hw := Ty.txt_whole (most := 64) e0 (by rw [e1]; omega) (by rw [e1, e2, hl]; omega)
 have hd : (encT t ++ r).drop (encU t.length).length = t ++ r := by simp [encT]
 refine ⟨by rw [hw], by rw [hw, e1, e2, hd]; simp, ?_⟩
 unfold restT
 rw [hw, e1, e2, ← List.drop_drop, hd]
 simp
theorem splitT {l : List UInt8} (h : (txt l 64).2.2 = 0) : l = encT (txt l 64).1 ++ restT l ∧ (txt l 64).1.length ≤ 64 := by
 have h1 : (num l).2.2 = 0 := by
  rcases Nat.eq_zero_or_pos (num l).2.2 with h1 | h1
  ·exact h1
  ·rw [Ty.txt_bad (by omega)] at h
   exact h
 by_cases h2 : (64 : Int) < 0 ∨ (64 : Int) < ((num l).1 : Int)
 ·rw [Ty.txt_long h1 h2] at h
  cases h
 ·by_cases h3 : l.length - (num l).2.1 < (num l).1
  ·rw [Ty.txt_short h1 h2 h3] at h
   cases h
  ·have hw := Ty.txt_whole h1 h2 h3
   have hs := Ty.encU_num l h1
   have hlen : ((l.drop (num l).2.1).take (num l).1).length = (num l).1 := by
    rw [List.length_take, List.length_drop]; omega
   unfold restT
   rw [hw]
   refine ⟨?_, by rw [hlen]; omega⟩
   unfold encT
   rw [hlen, hs.1, ← List.drop_drop, List.append_assoc, List.take_append_drop, List.take_append_drop]
def lt (a b : Str) : Bool := Op.bytesLess a b
def Asc : Option Str → List Str → Prop
 | _, [] => True
 | p, a :: d => (∀ q, p = some q → lt q a = true) ∧ Asc (some a) d
def ins (t : Str) : List Str → List Str
 | [] => [t]
 | a :: d => if a = t then a :: d else if lt a t = true then a :: ins t d else t :: a :: d
def dict (L : List Str) : List Str := L.foldl (fun d t => ins t d) []
def pos (d : List Str) (t : Str) : Nat := d.idxOf t
def rdWords (ord : Bool) : Nat → Option Str → List UInt8 → Nat × List Str × List UInt8
 | 0, _, l => (0, [], l)
 | n + 1, p, l =>
   if (txt l 64).2.2 ≠ 0 then ((txt l 64).2.2, [], l)
   else if ord = true ∧ (p.any fun q => !lt q (txt l 64).1) = true then (4, [], l)
   else ((rdWords ord n (some (txt l 64).1) (restT l)).1, (txt l 64).1 :: (rdWords ord n (some (txt l 64).1) (restT l)).2.1, (rdWords ord n (some (txt l 64).1) (restT l)).2.2)
def ix (d : List Str) (L : List Str) (i : Nat) : Nat := pos d (L.getD i [])
def encX (d L : List Str) : List UInt8 := UInt8.ofNat (Bt.wid L.length (ix d L)) :: (Bt.bytes (Bt.need (L.length * Bt.wid L.length (ix d L))) (Bt.pk L.length (ix d L) (Bt.wid L.length (ix d L)))).data.toList
def right (n w : Nat) (d : List Str) (X : Nat → Nat) : Bool := (List.range n).all (fun i => decide (X i < d.length)) && ((List.range d.length).all (fun j => (List.range n).any fun i => X i == j) && (Bt.wid n X == w))
def outs (n : Nat) (d : List Str) (X : Nat → Nat) : List Str := (List.range n).map fun i => d.getD (X i) []
def rdPick (n : Nat) (d : List Str) (l : List UInt8) : Nat × List Str × List UInt8 :=
 match l with
 | [] => (2, [], l)
 | b :: r =>
   if 64 < b.toNat then (4, [], l)
   else if r.length < Bt.need (n * b.toNat) then (2, [], l)
   else if Bt.chk ⟨(r.take (Bt.need (n * b.toNat))).toArray⟩ (n * b.toNat) ≠ 0 then (Bt.chk ⟨(r.take (Bt.need (n * b.toNat))).toArray⟩ (n * b.toNat), [], l)
   else if right n b.toNat d (un ⟨(r.take (Bt.need (n * b.toNat))).toArray⟩ b.toNat) = true then (0, outs n d (un ⟨(r.take (Bt.need (n * b.toNat))).toArray⟩ b.toNat), r.drop (Bt.need (n * b.toNat)))
   else (4, [], l)
def body (k : Nat) (L : List Str) : List UInt8 := if k = 0 then L.flatMap encT else encU (dict L).length ++ ((dict L).flatMap encT ++ encX (dict L) L)
def enc (k : Nat) (L : List Str) : List UInt8 := UInt8.ofNat k :: (encU L.length ++ body k L)
def rdBody (k n : Nat) (l : List UInt8) : Nat × List Str × List UInt8 :=
 if k = 0 then rdWords false n none l
 else if (num l).2.2 ≠ 0 then ((num l).2.2, [], l)
 else if 65536 < (num l).1 then (3, [], l)
 else if (rdWords true (num l).1 none (rest l)).1 ≠ 0 then ((rdWords true (num l).1 none (rest l)).1, [], l)
 else rdPick n (rdWords true (num l).1 none (rest l)).2.1 (rdWords true (num l).1 none (rest l)).2.2
def rd (l : List UInt8) : Nat × List Str :=
 match l with
 | [] => (2, [])
 | b :: r =>
   if 1 < b.toNat then (4, [])
   else if (num r).2.2 ≠ 0 then ((num r).2.2, [])
   else if 65536 < (num r).1 then (3, [])
   else if (rdBody b.toNat (num r).1 (rest r)).1 ≠ 0 then ((rdBody b.toNat (num r).1 (rest r)).1, [])
   else if (rdBody b.toNat (num r).1 (rest r)).2.2 ≠ [] then (5, [])
   else (0, (rdBody b.toNat (num r).1 (rest r)).2.1)
end Go.Proofs.Ytodeodndjkkkbaa.Tx
namespace Go.Proofs.Ytodeodndjkkkbaa
open Go.RowKit
end Go.Proofs.Ytodeodndjkkkbaa
namespace Go.Proofs.Ytodeodndjkkkbaa.Ty
open Go Go.RowKit
structure Grew (w w' : World) (v v' : Value) : Prop where
 by_ : w.grownBy w' v.ownBlock
 own : v'.ownBlock = v.ownBlock ∨ ∃ k, v'.ownBlock = some k ∧ w.heap.size ≤ k
theorem Grew.refl (w : World) (v : Value) : Grew w w v v := ⟨⟨rfl, rfl, rfl, Nat.le_refl _, fun _ _ _ => rfl⟩, .inl rfl⟩
theorem Grew.trans {w w1 w2 : World} {v v1 v2 : Value} (h : Grew w w1 v v1) (k : Grew w1 w2 v1 v2) : Grew w w2 v v2 := by
 refine ⟨⟨k.by_.os.trans h.by_.os, k.by_.tape.trans h.by_.tape, k.by_.output.trans h.by_.output, Nat.le_trans h.by_.size k.by_.size, fun i hi hne => ?_⟩, ?_⟩
 ·refine (k.by_.block i (Nat.lt_of_lt_of_le hi h.by_.size) ?_).trans (h.by_.block i hi hne)
  rcases h.own with e | ⟨j, e, hj⟩
  ·rw [e]; exact hne
  ·rw [e]; intro e2; have := Option.some.inj e2; omega
 ·rcases k.own with e | ⟨j, e, hj⟩
  ·rcases h.own with e' | ⟨i, e', hi⟩
   ·exact .inl (e.trans e')
   ·exact .inr ⟨i, e.trans e', hi⟩
  ·exact .inr ⟨j, e, Nat.le_trans h.by_.size hj⟩
theorem Grew.behind {w w' : World} {v v' : Value} (o : Obj) (h : Grew (w.alloc o) w' v v') : Grew w w' v v' := by
 refine ⟨⟨h.by_.os, h.by_.tape, h.by_.output, by have := h.by_.size; simp at this; omega, fun i hi hne => ?_⟩, ?_⟩
 ·exact (h.by_.block i (by simp; omega) hne).trans (Below.heap_alloc w o i hi)
 ·rcases h.own with e | ⟨j, e, hj⟩
  ·exact .inl e
  ·exact .inr ⟨j, e, by simp at hj; omega⟩
theorem Grew.below {w w' : World} {v v' : Value} (h : Grew w w' v v') {B : Nat} (hB : B ≤ w.heap.size) (hv : ∀ k, v.ownBlock = some k → B ≤ k) : Below B w w' :=
 ⟨h.by_.os, h.by_.tape, h.by_.output, h.by_.size, fun k hk => h.by_.block k (by omega) (fun e => by have := hv k e.symm; omega)⟩
section
variable {P : Program} (w : World)
theorem append_tight (base : Nat) (t ty e : TypeId) (i : TypeInfo) (z : Value) (size bytes : Nat) (ht : P.underlying t = some (.slice e)) (hi : P.info? e = some i) (hz : i.zero = some z)
 (hsize : i.size = size) (hby : i.bytes = bytes) (hzs : z.cells.size = size) (hsz : 0 < size)
 (v : Value) (n : Nat) (xs : List Value) (hown : w.ownsRow base e size v n xs)
 (a : Addr) (m c : Nat) (news : List Value) (hl : news.length = m * size) (hnews : ∀ j u, news[j]? = some u → w.cell? (a.add j) = some u) (h1 : ∀ u ∈ news, u.oneCell' = true)
 (h63 : n + m ≤ maxLen) (hbytes : (n + m) * bytes ≤ 140737488355328) (hbase : base ≤ w.heap.size) :
 ∃ v' w', (Builtin.append_ #[t, t] ty #[v, .slice (some a) m c]).run P w = .ok v' w' ∧ w'.ownsRow base e size v' (n + m) (xs ++ news) ∧ Grew w w' v v' := by
 obtain ⟨v', w', hr, ho, hg, hn⟩ := run_append_own (P := P) w base t ty e i z size bytes ht hi hz hsize hby hzs hsz v n xs hown a m c news hl hnews h1 h63 hbytes hbase
 refine ⟨v', w', hr, ho, hg, ?_⟩
 subst hsize; subst hby
 have hsmall : n + m ≤ 9223372036854775807 := by simp only [maxLen] at h63; omega
 rcases hown.2 with ⟨rfl, rfl⟩ | ⟨g, cap, cur, rfl, hbg, hgg, hnc, hcm, hcs, htake⟩
 ·by_cases hm : m = 0
  ·obtain rfl := hn.2 ⟨rfl, hm⟩
   exact .inl rfl
  ·have hr2 := run_append_nil (P := P) w t ty e i z ht hi hz a m c news hl hnews (by omega) (by omega) (by have hb := hbytes; simp only [Nat.zero_add] at hb; omega)
   rw [hr] at hr2
   injection hr2 with e1 _
   subst e1
   exact .inr ⟨_, rfl, Nat.le_refl _⟩
 ·by_cases hroom : n + m ≤ cap
  ·have hr2 := run_append_room (P := P) w t ty e i ht hi g n cap cur hgg a m c news hl hnews h1 hroom (by rw [hl, hcs, ← Nat.add_mul]; exact Nat.mul_le_mul_right _ hroom)
   rw [hr] at hr2
   injection hr2 with e1 _
   subst e1
   exact .inl rfl
  ·have hr2 := run_append_grow (P := P) w t ty e i z ht hi hz ⟨g, 0, none⟩ n cap xs hown.1 (hown.cells (g := g) rfl) a m c news hl hnews (by omega) (by omega) (growslice_fits (by omega) hbytes)
   rw [hr] at hr2
   injection hr2 with e1 _
   subst e1
   exact .inr ⟨_, rfl, Nat.le_refl _⟩
end
def B (u : UInt8) : Value := .int .u8 u.toNat
def Buf (base : Nat) (w : World) (v : Value) (bs : List UInt8) : Prop := w.ownsRow base 5 1 v bs.length (bs.map B)
theorem Buf.nil (base : Nat) (w : World) : Buf base w (.slice none 0 0) [] := World.ownsRow_nil w base _ 1
theorem Buf.len {base : Nat} {w : World} {v : Value} {bs : List UInt8} (h : Buf base w v bs) : v = .slice none 0 0 ∨ ∃ g c, v = .slice (some ⟨g, 0, none⟩) bs.length c ∧ base ≤ g ∧ g < w.heap.size := by
 rcases h.2 with ⟨rfl, _⟩ | ⟨g, cap, cur, rfl, hb, hg, _⟩
 ·exact .inl rfl
 ·exact .inr ⟨g, cap, rfl, hb, (Array.getElem?_eq_some_iff.1 hg).1⟩
theorem Buf.kept {base : Nat} {w w' : World} {v : Value} {bs : List UInt8} (h : Buf base w v bs) (hb : ∀ k, v.ownBlock = some k → w'.heap[k]? = w.heap[k]?) : Buf base w' v bs := by
 refine ⟨h.1, ?_⟩
 rcases h.2 with hn | ⟨g, cap, cur, rfl, hbb, hgg, rest⟩
 ·exact .inl hn
 ·exact .inr ⟨g, cap, cur, rfl, hbb, by rw [hb g rfl]; exact hgg, rest⟩
theorem Buf.string {P : Program} {base : Nat} {w : World} {v : Value} {bs : List UInt8} (h : Buf base w v bs) (src dst : TypeId) (hs : P.underlying src = some (.slice 5)) (he : P.underlying 5 = some (.int .u8)) (hd : P.underlying dst = some .string) :
 (convert src dst v).run P w = .ok (.string ⟨bs.toArray⟩) w := by
 rcases h.2 with ⟨rfl, hn⟩ | ⟨g, cap, cur, rfl, hbb, hgg, hnc, hcm, hcs, htake⟩
 ·rw [List.eq_nil_of_length_eq_zero hn]
  exact run_convert_bytes_nil w src _ hs he 0 0 dst hd
 ·have hc := h.cells (g := g) rfl
  have := run_convert_bytes_arg (P := P) w src _ hs he g 0 bs.length cap (bs.map fun u => (u.toNat : Int)) (by simp) (fun i hi => by
   have := hc i (B bs[i]) (by simp [hi])
   have ea : (⟨g, 0, none⟩ : Addr).add i = ⟨g, 0 + i, none⟩ := by unfold Addr.add; split <;> simp_all
   rw [ea] at this
   rw [this]
   simp [B, hi]) dst hd
  rw [this]
  have e : strOfNums (bs.map fun u => (u.toNat : Int)) = ⟨bs.toArray⟩ := by
   unfold strOfNums
   congr 1
   rw [List.map_map]
   congr 1
   conv => rhs; rw [← List.map_id bs]
   apply List.map_congr_left
   intro u _
   simp
  rw [e]
end Go.Proofs.Ytodeodndjkkkbaa.Ty
namespace Go.Proofs.Ytodeodndjkkkbaa
open Go.RowKit
def Ty.Mid (base : Nat) (w : World) (v0 : Value) (bs : List UInt8) (n k : Nat) (wr : World) (v : Value) : Prop :=
 ∃ done, Ty.encU n = done ++ Ty.low k n ∧ done.length + k ≤ 9 ∧ Ty.Buf base wr v (bs ++ done) ∧ Ty.Grew w wr v0 v
def Ty.Written (base : Nat) (w : World) (v : Value) (bs : List UInt8) (e : Ending) (w' : World) : Prop := ∃ v', e = .returned v' ∧ Ty.Buf base w' v' bs ∧ Ty.Grew w w' v v'
theorem Ty.Mid.first {base : Nat} {w : World} {v : Value} {bs : List UInt8} {n k : Nat} {w1 : World} {v1 : Value} (hk : k = Ty.after (Ty.form n)) {X : Int} (hX : X = ((Ty.head n).toNat : Int)) (h1 : ∀ u : UInt8, X = (u.toNat : Int) → Ty.Buf base w1 v1 (bs ++ [u])) (g1 : Ty.Grew w w1 v v1) : Ty.Mid base w v bs n k w1 v1 :=
 ⟨[Ty.head n], by rw [hk]; exact Ty.encU_split n, by have := Ty.after_le n; simp; omega, h1 _ hX, g1⟩
theorem Ty.Mid.next {base : Nat} {w : World} {v0 v : Value} {bs done : List UInt8} {n k : Nat} {wr w1 : World} {v1 : Value} (hd : Ty.encU n = done ++ Ty.low (k + 1) n) (hl : done.length + (k + 1) ≤ 9) (hG : Ty.Grew w wr v0 v)
 (h1 : ∀ u : UInt8, ((n : Int) / 2 ^ (8 * k) % 256) = (u.toNat : Int) → Ty.Buf base w1 v1 (bs ++ done ++ [u])) (g1 : Ty.Grew wr w1 v v1) : Ty.Mid base w v0 bs n k w1 v1 := by
 refine ⟨done ++ [UInt8.ofNat (n / 256 ^ k % 256)], by rw [hd, Ty.low_succ]; simp, by simp; omega, ?_, hG.trans g1⟩
 have := h1 _ (Ty.low_byte n k)
 simpa using this
theorem Ty.Mid.end {base : Nat} {w : World} {v0 v : Value} {bs done : List UInt8} {n : Nat} {wr : World} (hd : Ty.encU n = done ++ Ty.low 0 n) (hB : Ty.Buf base wr v (bs ++ done)) (hG : Ty.Grew w wr v0 v) : Ty.Written base w v0 (bs ++ Ty.encU n) (.returned v) wr :=
 ⟨v, rfl, by rw [hd]; simpa [Ty.low] using hB, hG⟩
end Go.Proofs.Ytodeodndjkkkbaa
namespace Go.Proofs.Ytodeodndjkkkbaa
open Go.RowKit
end Go.Proofs.Ytodeodndjkkkbaa
namespace Go.Proofs.Ytodeodndjkkkbaa
open Go.RowKit
theorem Ty.length_data (s : ByteArray) : s.data.toList.length = s.size := by rw [Array.length_toList]; rfl
theorem Ty.at_getD (s : ByteArray) (k : Nat) (h : k < s.size) : s[k] = s.data.toList.getD k 0 := by
 have h2 : k < s.data.toList.length := by rw [Ty.length_data]; exact h
 rw [List.getD, List.getElem?_eq_getElem h2]; rfl
def Ty.numV (l : List UInt8) : Value := .tuple #[.int .u64 (Ty.num l).1, .int .i64 (Ty.num l).2.1, .int .i64 (Ty.num l).2.2]
end Go.Proofs.Ytodeodndjkkkbaa
namespace Go.Proofs.Ytodeodndjkkkbaa
open Go.RowKit
def Ty.S (l : List UInt8) : ByteArray := ⟨l.toArray⟩
theorem Ty.data_S (l : List UInt8) : (Ty.S l).data.toList = l := rfl
def Ty.txtV (l : List UInt8) (most : Int) : Value := .tuple #[.string (Ty.S (Ty.txt l most).1), .int .i64 (Ty.txt l most).2.1, .int .i64 (Ty.txt l most).2.2]
end Go.Proofs.Ytodeodndjkkkbaa
namespace Go.Proofs.Ytodeodndjkkkbaa
open Go.RowKit
def Cl.nul : Kn.V := ⟨true, 0, ⟨#[]⟩⟩
def Cl.ofN (x : Int) : Kn.V := ⟨false, x, ⟨#[]⟩⟩
def Cl.ofS (t : List UInt8) : Kn.V := ⟨false, 0, Ty.S t⟩
def Cl.cells (l : List Kn.V) : List Value := l.flatMap fun v => [.bool v.null, .int .i64 v.n, .string v.s]
theorem Cl.cells_get : ∀ (l : List Kn.V) (i : Nat) (x : Kn.V), l[i]? = some x → (Cl.cells l)[i * 3]? = some (.bool x.null) ∧ (Cl.cells l)[i * 3 + 1]? = some (.int .i64 x.n) ∧ (Cl.cells l)[i * 3 + 2]? = some (.string x.s)
 | [], _, _, h => by cases h
 | v :: l, 0, x, h => by
   obtain rfl : v = x := by simpa using h
   exact ⟨rfl, rfl, rfl⟩
 | v :: l, i + 1, x, h => by
   have ih := Cl.cells_get l i x (by simpa using h)
   have e : Cl.cells (v :: l) = [.bool v.null, .int .i64 v.n, .string v.s] ++ Cl.cells l := rfl
   rw [e]
   refine ⟨?_, ?_, ?_⟩
   ·rw [List.getElem?_append_right (by simp; omega), show (i + 1) * 3 - [Value.bool v.null, .int .i64 v.n, .string v.s].length = i * 3 by simp; omega]; exact ih.1
   ·rw [List.getElem?_append_right (by simp; omega), show (i + 1) * 3 + 1 - [Value.bool v.null, .int .i64 v.n, .string v.s].length = i * 3 + 1 by simp; omega]; exact ih.2.1
   ·rw [List.getElem?_append_right (by simp; omega), show (i + 1) * 3 + 2 - [Value.bool v.null, .int .i64 v.n, .string v.s].length = i * 3 + 2 by simp; omega]; exact ih.2.2
theorem Cl.infoV : (Try.prog.info? 36).map (fun i => (i.zero, i.size, i.bytes)) = some (some (.agg #[.bool false, .int .i64 0, .string ⟨#[]⟩]), 3, 32) := by kernel_rfl
def Cl.Own (base : Nat) (w : World) (v : Value) (L : List Kn.V) : Prop := w.ownsRow base 36 3 v L.length (Cl.cells L)
theorem Cl.Own.nil (base : Nat) (w : World) : Cl.Own base w (.slice none 0 0) [] := World.ownsRow_nil w base _ 3
theorem Cl.addr_add (b i : Nat) : (⟨b, 0, none⟩ : Addr).add i = ⟨b, i, none⟩ := by unfold Addr.add; split <;> simp_all
theorem Cl.Own.vals {base : Nat} {w : World} {v : Value} {L : List Kn.V} (h : Cl.Own base w v L) : Kn.Vals w v L := by
 rcases h.2 with ⟨rfl, e0⟩ | ⟨g, cap, cur, rfl, hb, hg, hc, hm, _⟩
 ·obtain rfl := List.eq_nil_of_length_eq_zero e0
  exact ⟨_, 0, rfl, .inl rfl⟩
 ·refine ⟨_, cap, rfl, .inr ⟨g, 0, rfl, (Array.getElem?_eq_some_iff.1 hg).1, by unfold maxLen at hm; omega, fun i x hx => ?_⟩⟩
  have hcl := World.ownsRow.cells h (g := g) rfl
  obtain ⟨h0, h1, h2⟩ := Cl.cells_get L i x hx
  have a0 := hcl _ _ h0
  have a1 := hcl _ _ h1
  have a2 := hcl _ _ h2
  rw [Cl.addr_add] at a0 a1 a2
  rw [Nat.zero_add]
  exact ⟨a0, a1, a2⟩
theorem Cl.Own.base_le {base : Nat} {w : World} {v : Value} {L : List Kn.V} (h : Cl.Own base w v L) : ∀ k, v.ownBlock = some k → base ≤ k := fun k hk => (World.ownsRow.lt h k hk).1
theorem Cl.Own.kept {base : Nat} {w w' : World} {v : Value} {L : List Kn.V} (h : Cl.Own base w v L) (g : Below w.heap.size w w') : Cl.Own base w' v L := by
 refine ⟨h.1, ?_⟩
 rcases h.2 with hn | ⟨b, cap, cur, rfl, hbb, hgg, rest⟩
 ·exact .inl hn
 ·exact .inr ⟨b, cap, cur, rfl, hbb, by rw [g.block b (Array.getElem?_eq_some_iff.1 hgg).1]; exact hgg, rest⟩
theorem Cl.Own.by {base b : Nat} {w w' : World} {v : Value} {L : List Kn.V} (h : Cl.Own base w v L) (hg : w.grownBy w' (some b)) (hb : b < base) : Cl.Own base w' v L :=
 World.ownsRow.kept h hg (.inr fun e => by have := h.base_le b e; omega)
def Cl.mf (F : Nat → Kn.V) (i : Nat) : Value := if i % 3 = 0 then .bool (F (i / 3)).null else if i % 3 = 1 then .int .i64 (F (i / 3)).n else .string (F (i / 3)).s
theorem Cl.mf0 (F : Nat → Kn.V) (i : Nat) : Cl.mf F (i * 3) = .bool (F i).null := by
 unfold Cl.mf
 rw [if_pos (by omega), show i * 3 / 3 = i by omega]
theorem Cl.mf1 (F : Nat → Kn.V) (i : Nat) : Cl.mf F (i * 3 + 1) = .int .i64 (F i).n := by
 unfold Cl.mf
 rw [if_neg (by omega), if_pos (by omega), show (i * 3 + 1) / 3 = i by omega]
theorem Cl.mf2 (F : Nat → Kn.V) (i : Nat) : Cl.mf F (i * 3 + 2) = .string (F i).s := by
 unfold Cl.mf
 rw [if_neg (by omega), if_neg (by omega), show (i * 3 + 2) / 3 = i by omega]
def Cl.Row (w : World) (g n : Nat) (F : Nat → Kn.V) : Prop := w.rowIs g 36 (n * 3) (Cl.mf F)
theorem Cl.Row.lt {w : World} {g n : Nat} {F : Nat → Kn.V} (h : Cl.Row w g n F) : g < w.heap.size := World.rowIs.lt h
theorem Cl.Row.c0 {w : World} {g n : Nat} {F : Nat → Kn.V} (h : Cl.Row w g n F) {k : Nat} (hk : k < n) : w.cell? ⟨g, k * 3, none⟩ = some (.bool (F k).null) := by rw [World.rowIs.cell h (by omega), Cl.mf0]
theorem Cl.Row.c1 {w : World} {g n : Nat} {F : Nat → Kn.V} (h : Cl.Row w g n F) {k : Nat} (hk : k < n) : w.cell? ⟨g, k * 3 + 1, none⟩ = some (.int .i64 (F k).n) := by rw [World.rowIs.cell h (by omega), Cl.mf1]
theorem Cl.Row.c2 {w : World} {g n : Nat} {F : Nat → Kn.V} (h : Cl.Row w g n F) {k : Nat} (hk : k < n) : w.cell? ⟨g, k * 3 + 2, none⟩ = some (.string (F k).s) := by rw [World.rowIs.cell h (by omega), Cl.mf2]
theorem Cl.Row.congr {w : World} {g n : Nat} {F G : Nat → Kn.V} (h : Cl.Row w g n F) (e : ∀ i, i < n → F i = G i) : Cl.Row w g n G :=
 World.rowIs.congr h fun i hi => by unfold Cl.mf; rw [e (i / 3) (by omega)]
theorem Cl.Row.set0 {w : World} {g n : Nat} {F : Nat → Kn.V} (h : Cl.Row w g n F) (k : Nat) (b : Bool) : Cl.Row (w.setCell ⟨g, k * 3, none⟩ (.bool b)) g n (fun i => if i = k then ⟨b, (F k).n, (F k).s⟩ else F i) :=
 World.rowIs.congr (World.rowIs.set h (k * 3) (.bool b)) fun i _ => by
  unfold Cl.mf
  dsimp only
  by_cases e : i = k * 3
  ·subst e
   rw [if_pos rfl, if_pos (by omega), if_pos (by omega)]
  ·rw [if_neg e]
   by_cases e2 : i / 3 = k
   ·rw [if_pos e2, e2, if_neg (show ¬ i % 3 = 0 by omega), if_neg (show ¬ i % 3 = 0 by omega)]
   ·rw [if_neg e2]
theorem Cl.Row.set1 {w : World} {g n : Nat} {F : Nat → Kn.V} (h : Cl.Row w g n F) (k : Nat) (x : Int) : Cl.Row (w.setCell ⟨g, k * 3 + 1, none⟩ (.int .i64 x)) g n (fun i => if i = k then ⟨(F k).null, x, (F k).s⟩ else F i) :=
 World.rowIs.congr (World.rowIs.set h (k * 3 + 1) (.int .i64 x)) fun i _ => by
  unfold Cl.mf
  dsimp only
  by_cases e : i = k * 3 + 1
  ·subst e
   rw [if_pos rfl, if_neg (by omega), if_pos (by omega), if_pos (by omega)]
  ·rw [if_neg e]
   by_cases e2 : i / 3 = k
   ·rw [if_pos e2, e2]
    by_cases h0 : i % 3 = 0
    ·rw [if_pos h0, if_pos h0]
    ·rw [if_neg h0, if_neg h0, if_neg (show ¬ i % 3 = 1 by omega), if_neg (show ¬ i % 3 = 1 by omega)]
   ·rw [if_neg e2]
theorem Cl.Row.set2 {w : World} {g n : Nat} {F : Nat → Kn.V} (h : Cl.Row w g n F) (k : Nat) (s : ByteArray) : Cl.Row (w.setCell ⟨g, k * 3 + 2, none⟩ (.string s)) g n (fun i => if i = k then ⟨(F k).null, (F k).n, s⟩ else F i) :=
 World.rowIs.congr (World.rowIs.set h (k * 3 + 2) (.string s)) fun i _ => by
  unfold Cl.mf
  dsimp only
  by_cases e : i = k * 3 + 2
  ·subst e
   rw [if_pos rfl, if_neg (by omega), if_neg (by omega), if_pos (by omega)]
  ·rw [if_neg e]
   by_cases e2 : i / 3 = k
   ·rw [if_pos e2, e2]
    by_cases h0 : i % 3 = 0
    ·rw [if_pos h0, if_pos h0]
    ·rw [if_neg h0, if_neg h0, if_pos (show i % 3 = 1 by omega), if_pos (show i % 3 = 1 by omega)]
   ·rw [if_neg e2]
theorem Cl.Row.vals {w : World} {g n cap : Nat} {F : Nat → Kn.V} {L : List Kn.V} (h : Cl.Row w g n F) (hL : L.length = n) (hF : ∀ i x, L[i]? = some x → F i = x) (hn : n ≤ 9223372036854775807) : Kn.Vals w (.slice (some ⟨g, 0, none⟩) (n : Nat) cap) L := by
 subst hL
 refine ⟨_, cap, rfl, .inr ⟨g, 0, rfl, h.lt, hn, fun i x hx => ?_⟩⟩
 have hi := (List.getElem?_eq_some_iff.1 hx).1
 have e := hF i x hx
 rw [Nat.zero_add, ← e]
 exact ⟨h.c0 hi, h.c1 hi, h.c2 hi⟩
theorem Cl.Row.below {w w' : World} {g n : Nat} {F : Nat → Kn.V} (h : Cl.Row w g n F) (k : Below w.heap.size w w') : Cl.Row w' g n F :=
 World.rowIs.of_block h (k.block g h.lt)
def Cl.fo (O : List Kn.V) (i : Nat) : Kn.V := O.getD i (Cl.ofN 0)
theorem Cl.Row.done {w : World} {g n cap : Nat} {O : List Kn.V} (h : Cl.Row w g n (Cl.fo O)) (hO : O.length = n) (hn : n ≤ 9223372036854775807) : Kn.Vals w (.slice (some ⟨g, 0, none⟩) (n : Nat) cap) O :=
 h.vals hO (fun i x hx => by unfold Cl.fo; rw [List.getD, hx]; rfl) hn
end Go.Proofs.Ytodeodndjkkkbaa
