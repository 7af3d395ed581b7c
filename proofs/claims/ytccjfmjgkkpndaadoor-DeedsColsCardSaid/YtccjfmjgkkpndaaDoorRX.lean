/-
  The document's cursor in hand: what of it stays, its strings of at most 64 bytes.
-/
import Derived.Test.YtccjfmjgkkpndaaDoorR5
import Derived.Test.YtccjfmjgkkpndaaDoorT1
import Derived.Test.YtccjfmjgkkpndaaDoorOwn
namespace Go.Proofs.YtccjfmjgkkpndaaDoor
open Go.RowKit
open Ty (encU num txt)
open Tx (restT)
open Ig (rest sg)
theorem Tx.RS_err {r : Nat} {s : ByteArray} {w : World} {l : List UInt8} {e : Nat} (h : Ty.RS r s w l e) : w.cell? ⟨r, 2, none⟩ = some (.int .i64 (e : Int)) := by
  obtain ⟨a, _, _, hR⟩ := h
  exact hR.cells.2.2.1
theorem Tx.RS_lt {r : Nat} {s : ByteArray} {w : World} {l : List UInt8} {e : Nat} (h : Ty.RS r s w l e) : r < w.heap.size := by
  obtain ⟨a, _, _, hR⟩ := h
  exact hR.lt
theorem Tx.RS_below {r : Nat} {s : ByteArray} {w w' : World} {l : List UInt8} {e B : Nat} (h : Ty.RS r s w l e) (hb : Below B w w') (hr : r < B) : Ty.RS r s w' l e := by
  obtain ⟨a, h1, h2, hR⟩ := h
  exact ⟨a, h1, h2, hR.below hb hr⟩
theorem Tx.RS_len {r : Nat} {s : ByteArray} {w : World} {l : List UInt8} {e : Nat} (h : Ty.RS r s w l e) : l.length ≤ s.size := by
  obtain ⟨a, h1, h2, hR⟩ := h
  rw [← h2, Ty.len_drop]
  omega
theorem Tx.RS_by {r : Nat} {s : ByteArray} {w w' : World} {v v' : Value} {l : List UInt8} {e : Nat} (h : Ty.RS r s w l e) (g : Ty.Grew w w' v v') (hv : v.ownBlock ≠ some r) : Ty.RS r s w' l e := by
  obtain ⟨a, h1, h2, hR⟩ := h
  refine ⟨a, h1, h2, ?_⟩
  unfold Ty.RC at hR ⊢
  rw [g.by_.block r (lt_of_block hR) (fun e => hv e.symm)]
  exact hR
theorem Tx.tbuf_by {base r : Nat} {w w' : World} {v : Value} {bs : List UInt8} (h : Ty.Buf base w v bs) (hg : w.grownBy w' (some r)) (hb : r < base) : Ty.Buf base w' v bs :=
  World.ownsRow.kept h hg (.inr (fun e => by have := h.base r e; omega))
theorem Tx.tbuf_ne {base r : Nat} {w : World} {v : Value} {bs : List UInt8} (h : Ty.Buf base w v bs) (hb : r < base) : v.ownBlock ≠ some r := fun e => by have := h.base r e; omega
theorem Tx.grew_by {w w' : World} {v v' : Value} (h : Ty.Grew w w' v v') {w0 : World} {b : Nat} (g : w0.grownBy w (some b)) (hv : ∀ k, v.ownBlock = some k → w0.heap.size ≤ k) : w0.grownBy w' (some b) :=
  ⟨h.by_.os.trans g.os, h.by_.tape.trans g.tape, h.by_.output.trans g.output, Nat.le_trans g.size h.by_.size, fun k hk hn => (h.by_.block k (Nat.lt_of_lt_of_le hk g.size) (fun e => by have := hv k e.symm; omega)).trans (g.block k hk hn)⟩
theorem Tx.below_by {w w' w0 : World} (h : Below w.heap.size w w') {b : Nat} (g : w0.grownBy w (some b)) : w0.grownBy w' (some b) :=
  ⟨h.os.trans g.os, h.tape.trans g.tape, h.output.trans g.output, Nat.le_trans g.size h.size, fun k hk hn => (h.block k (Nat.lt_of_lt_of_le hk g.size)).trans (g.block k hk hn)⟩
theorem Tx.rtext_r (r : Nat) (s : ByteArray) (hs : s.size ≤ 140737488351232) (l : List UInt8) (w : World) (h : Ty.RS r s w l 0) :
    Calls Tryd.prog 47 #[.pointer (some ⟨r, 0, none⟩), .int .i64 64] w (Ty.RLeft r s w (.string (Ty.S (txt l 64).1)) (restT l) (txt l 64).2.2) := by
  have e : Ty.rdT 64 l 0 = ((txt l 64).1, restT l, (txt l 64).2.2) := by unfold Ty.rdT; rw [if_neg (by omega)]; rfl
  have := Ty.rtext_m r s hs l 0 64 (by omega) w h
  rw [e] at this
  exact this
theorem Tx.RS_new (s : ByteArray) (w : World) : Ty.RS w.heap.size s (w.alloc (.cells #[.string s, .int .i64 0, .int .i64 0] 63)) s.data.toList 0 :=
  ⟨0, Nat.zero_le _, by simp, heap_alloc_new w _⟩
theorem Tx.ruint_x (r : Nat) (s : ByteArray) (hs : s.size ≤ 140737488351232) (l : List UInt8) (w : World) (h : Ty.RS r s w l 0) :
    Calls Tryd.prog 60 #[.pointer (some ⟨r, 0, none⟩)] w (Ty.RLeft r s w (.int .u64 (((num l).1 : Nat) : Int)) (rest l) (num l).2.2) := by
  have e : Ty.rdU l 0 = ((num l).1, rest l, (num l).2.2) := by unfold Ty.rdU; rw [if_neg (by omega)]; rfl
  have := Ty.ruint_m r s hs l 0 w h
  rw [e] at this
  exact this
/-- The document's cursor reads a signed number, in our own words. -/
theorem Tx.rint_x (r : Nat) (s : ByteArray) (hs : s.size ≤ 140737488351232) (l : List UInt8) (w : World) (h : Ty.RS r s w l 0) :
    Calls Tryd.prog 46 #[.pointer (some ⟨r, 0, none⟩)] w (Ty.RLeft r s w (.int .i64 (sg l)) (rest l) (num l).2.2) := by
  have e : Ty.rdU l 0 = ((num l).1, rest l, (num l).2.2) := by unfold Ty.rdU; rw [if_neg (by omega)]; rfl
  have := Ty.rint_m r s hs l 0 w h
  rw [e] at this
  exact this
end Go.Proofs.YtccjfmjgkkpndaaDoor
