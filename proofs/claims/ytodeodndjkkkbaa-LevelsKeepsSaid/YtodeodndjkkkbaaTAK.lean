import Derived.Test.YtodeodndjkkkbaaRows
import Derived.Test.YtodeodndjkkkbaaTAI
import Derived.WalkKit
import Derived.WalkSpells
import Derived.WalkLawsBesides
import Derived.Deep.OwnRows
import Derived.Below
import Derived.Lib.Hide
import Derived.StillTailTactics
import Derived.Lib.BitFns
import Derived.Test.YtodeodndjkkkbaaTAA
import Derived.BigQuiet
import Derived.Deep.QuietTactic
import Derived.Test.YtodeodndjkkkbaaTAJ
import Derived.Deep.RegionHeld3
import Derived.Lib.QuietBelow
import Derived.LoopTactic
import Derived.RegionCalls
import Derived.Deep.RegionWith
namespace Go.Proofs.Ytodeodndjkkkbaa
section
open Go.RowKit
def Bt.Row (w : World) (g sz : Nat) (F : Nat → Bool) : Prop := w.rowIs g 5 sz (fun i => .int .u8 ((Bt.oct F i : Nat) : Int))
set_option maxRecDepth 100000 in
theorem Bt.Row.string {w : World} {g sz c : Nat} {F : Nat → Bool} (h : Bt.Row w g sz F) : (convert 122 9 (.slice (some ⟨g, 0, none⟩) sz c)).run Try.prog w = .ok (.string (Bt.bytes sz F)) w := by
 have := run_convert_bytes_arg (P := Try.prog) w 122 _ Try.underlying122 Try.underlying5 g 0 sz c ((List.range sz).map fun i => ((Bt.oct F i : Nat) : Int)) (by simp) (fun i hi => by
  have hc := h.cell hi
  have ea : (⟨g, 0 + i, none⟩ : Addr) = ⟨g, i, none⟩ := by rw [Nat.zero_add]
  rw [ea, hc]
  simp [List.getD, hi]) 9 Try.underlying9
 rw [this]
 have e : strOfNums ((List.range sz).map fun i => ((Bt.oct F i : Nat) : Int)) = Bt.bytes sz F := by
  unfold strOfNums Bt.bytes
  congr 1
  rw [List.map_map]
  rfl
 rw [e]
theorem Bt.by_trans {a b c : World} {r : Option Nat} (h : a.grownBy b r) (k : b.grownBy c r) : a.grownBy c r :=
 ⟨k.os.trans h.os, k.tape.trans h.tape, k.output.trans h.output, Nat.le_trans h.size k.size, fun i hi hn => (k.block i (Nat.lt_of_lt_of_le hi h.size) hn).trans (h.block i hi hn)⟩
theorem Bt.by_set (w : World) (b o : Nat) (u : Value) : w.grownBy (w.setCell ⟨b, o, none⟩ u) (some b) :=
 ⟨rfl, rfl, rfl, by simp [World.setCell], fun k _ hk => Below.heap_setCell _ _ _ _ (fun e => hk (by rw [e]))⟩
def Bt.Put (g sz : Nat) (F : Nat → Bool) (w w' : World) : Prop := Bt.Row w' g sz F ∧ w.grownBy w' (some g)
theorem Bt.or_byte (G : Nat → Bool) (a m q r : Nat) (hq : q = a / 8) (hr : r = a % 8) :
 bits .or .u8 ((Bt.oct G q : Nat) : Int) (IntKind.u64.wrap ((m : Int) * 2 ^ r) % 256) = ((Bt.oct (Bt.laid G a m) q : Nat) : Int) := by
 subst hq hr
 have e : IntKind.u64.wrap ((m : Int) * 2 ^ (a % 8)) % 256 = ((m * 2 ^ (a % 8) % 256 : Nat) : Int) := by
  rw [IntKind.wrap_u64]
  have e1 : (m : Int) * 2 ^ (a % 8) = ((m * 2 ^ (a % 8) : Nat) : Int) := by simp
  rw [e1]
  omega
 rw [e, (bits_nat .u8 8 (by decide) wraps_u8 _ _ (Bt.oct_lt G (a / 8)) (Nat.mod_lt _ (by decide))).2, Bt.laid_here]
theorem Bt.Put.next {g sz a m q r : Nat} {G : Nat → Bool} {w wr : World} (h : Bt.Put g sz G w wr) (hq : q = a / 8) (hr : r = a % 8) :
 Bt.Put g sz (Bt.laid G a m) w (wr.setCell ⟨g, q, none⟩ (.int .u8 (bits .or .u8 ((Bt.oct G q : Nat) : Int) (IntKind.u64.wrap ((m : Int) * 2 ^ r) % 256)))).drew := by
 obtain ⟨hR, hB⟩ := h
 rw [Bt.or_byte G a m q r hq hr]
 refine ⟨World.rowIs.drew (World.rowIs.congr (World.rowIs.set hR q _) fun i _ => ?_), ?_⟩
 ·by_cases e : i = q
  ·subst e
   rw [if_pos rfl]
  ·rw [if_neg e, Bt.laid_far G a m i (by rw [← hq]; exact e)]
 ·have h2 := Bt.by_trans hB (Bt.by_set wr g q (.int .u8 ((Bt.oct (Bt.laid G a m) q : Nat) : Int)))
  exact ⟨h2.os, h2.tape, h2.output, h2.size, h2.block⟩
end
section
open Go.RowKit
end
section
open Go.RowKit
structure Bt.Sl (w : World) (v : Value) (n : Nat) (f : Nat → Value) : Prop where
 is : ∃ a c, v = .slice a n c ∧ (n = 0 ∨ ∃ b o, a = some ⟨b, o, none⟩ ∧ b < w.heap.size ∧ ∀ i, i < n → w.cell? ⟨b, o + i, none⟩ = some (f i))
theorem Bt.Sl.later {w w' : World} {v : Value} {n : Nat} {f : Nat → Value} (h : Bt.Sl w v n f) (g : Below w.heap.size w w') : Bt.Sl w' v n f := by
 obtain ⟨a, c, rfl, h⟩ := h
 refine ⟨a, c, rfl, ?_⟩
 rcases h with h | ⟨b, o, rfl, hlt, h⟩
 ·exact .inl h
 ·exact .inr ⟨b, o, rfl, Nat.lt_of_lt_of_le hlt g.size, fun i hi => (g.cell (p := ⟨b, o + i, none⟩) hlt).trans (h i hi)⟩
def Bt.nv (X : Nat → Nat) (i : Nat) : Value := .int .u64 ((X i : Nat) : Int)
def Bt.bv (T : Nat → Bool) (i : Nat) : Value := .bool (T i)
theorem Bt.Put.below {g sz : Nat} {F : Nat → Bool} {w w' : World} (h : Bt.Put g sz F w w') {B : Nat} (hB : B ≤ g) (hs : B ≤ w.heap.size) : Below B w w' :=
 ⟨h.2.os, h.2.tape, h.2.output, h.2.size, fun k hk => h.2.block k (by omega) (fun e => by have := Option.some.inj e; omega)⟩
def Bt.packV (n : Nat) (X : Nat → Nat) (q : Int) : Value :=
 if 0 ≤ q ∧ q ≤ 64 then (if q.toNat < Bt.wid n X then .tuple #[.string ⟨#[]⟩, .int .i64 4] else .tuple #[.string (Bt.bytes (Bt.need (n * q.toNat)) (Bt.pk n X q.toNat)), .int .i64 0])
 else .tuple #[.string ⟨#[]⟩, .int .i64 1]
end
section
open Go.RowKit
def Bt.utE (s : ByteArray) (z : Int) : Nat := if 0 ≤ z ∧ z ≤ 65536 then Bt.chk s z.toNat else 1
def Bt.utN (s : ByteArray) (z : Int) : Nat := if Bt.utE s z = 0 then z.toNat else 0
def Bt.upE (s : ByteArray) (z q : Int) : Nat := if (0 ≤ q ∧ q ≤ 64) ∧ 0 ≤ z ∧ z ≤ 65536 then Bt.chk s (z.toNat * q.toNat) else 1
def Bt.upN (s : ByteArray) (z q : Int) : Nat := if Bt.upE s z q = 0 then z.toNat else 0
def Bt.nums (s : ByteArray) (q : Nat) (i : Nat) : Nat := Bt.num q (fun j => Bt.bit s (i * q + j))
theorem Bt.Sl.nil (w : World) (f : Nat → Value) : Bt.Sl w (.slice none 0 0) 0 f := ⟨none, 0, rfl, .inl rfl⟩
theorem Bt.Sl.row {w : World} {g n c : Nat} {t : TypeId} {f : Nat → Value} (h : w.rowIs g t n f) : Bt.Sl w (.slice (some ⟨g, 0, none⟩) n c) n f :=
 ⟨_, c, rfl, .inr ⟨g, 0, rfl, h.lt, fun i hi => by rw [Nat.zero_add]; exact h.cell hi⟩⟩
def Bt.upTo (k : Nat) (f : Nat → Value) (z : Value) (i : Nat) : Value := if i < k then f i else z
end
section
open Go.RowKit
def Bt.Buf (e : TypeId) (base : Nat) (w : World) (v : Value) (n : Nat) (f : Nat → Value) : Prop := w.ownsRow base e 1 v n ((List.range n).map f)
theorem Bt.Buf.nil (e : TypeId) (base : Nat) (w : World) (f : Nat → Value) : Bt.Buf e base w (.slice none 0 0) 0 f := World.ownsRow_nil w base _ 1
theorem Bt.Buf.sl {e : TypeId} {base : Nat} {w : World} {v : Value} {n : Nat} {f : Nat → Value} (h : Bt.Buf e base w v n f) : Bt.Sl w v n f := by
 have h0 := h
 rcases h.2 with ⟨rfl, rfl⟩ | ⟨g, cap, cur, rfl, _, hg, _⟩
 ·exact Bt.Sl.nil _ _
 ·refine ⟨_, cap, rfl, .inr ⟨g, 0, rfl, (Array.getElem?_eq_some_iff.1 hg).1, fun i hi => ?_⟩⟩
  have := h0.cells (g := g) rfl i (f i) (by simp [hi])
  have ea : (⟨g, 0, none⟩ : Addr).add i = ⟨g, 0 + i, none⟩ := by unfold Addr.add; split <;> simp_all
  rwa [ea] at this
theorem Bt.Buf.kept {e : TypeId} {base : Nat} {w w' : World} {v : Value} {n : Nat} {f : Nat → Value} (h : Bt.Buf e base w v n f) (g : Below w.heap.size w w') : Bt.Buf e base w' v n f := by
 refine ⟨h.1, ?_⟩
 rcases h.2 with hn | ⟨b, cap, cur, rfl, hbb, hgg, rest⟩
 ·exact .inl hn
 ·exact .inr ⟨b, cap, cur, rfl, hbb, by rw [g.block b (Array.getElem?_eq_some_iff.1 hgg).1]; exact hgg, rest⟩
theorem Bt.Buf.congr {e : TypeId} {base : Nat} {w : World} {v : Value} {n : Nat} {f g : Nat → Value} (h : Bt.Buf e base w v n f) (hf : ∀ i, i < n → f i = g i) : Bt.Buf e base w v n g := by
 unfold Bt.Buf at h ⊢
 have : (List.range n).map g = (List.range n).map f := List.map_congr_left fun i hi => (hf i (List.mem_range.1 hi)).symm
 rw [this]; exact h
theorem Bt.Buf.base_le {e : TypeId} {base : Nat} {w : World} {v : Value} {n : Nat} {f : Nat → Value} (h : Bt.Buf e base w v n f) : ∀ k, v.ownBlock = some k → base ≤ k := by
 intro k hk
 rcases h.2 with ⟨rfl, _⟩ | ⟨b, cap, cur, rfl, hbb, _⟩
 ·cases hk
 ·have : b = k := by simpa [Value.ownBlock] using hk
  omega
end
section
open Go.RowKit
theorem Bt.Row.add {w : World} {g sz k q r : Nat} {T : Nat → Bool} (h : Bt.Row w g sz (Bt.tr k T)) (hT : T k = true) (hq : q = k / 8) (hr : r = k % 8) :
 Bt.Row (w.setCell ⟨g, q, none⟩ (.int .u8 ((((Bt.oct (Bt.tr k T) q : Nat) : Int) + 2 ^ r) % 256))) g sz (Bt.tr (k + 1) T) := by
 have e : (((Bt.oct (Bt.tr k T) q : Nat) : Int) + 2 ^ r) % 256 = ((Bt.oct (Bt.tr (k + 1) T) q : Nat) : Int) := by
  have h1 := Bt.tr_add T k hT
  have h2 := Bt.oct_lt (Bt.tr (k + 1) T) q
  rw [← hq, ← hr] at h1
  have e2 : (2 : Int) ^ r = ((2 ^ r : Nat) : Int) := by simp
  rw [e2]
  omega
 rw [e]
 refine World.rowIs.congr (World.rowIs.set h q _) fun i _ => ?_
 by_cases e : i = q
 ·subst e
  rw [if_pos rfl]
 ·rw [if_neg e, Bt.tr_far T k i (by rw [← hq]; exact e)]
end
section
open Go.RowKit
def Bt.flat (X : Nat → Nat) (q x : Nat) : Bool := (X (x / q)).testBit (x % q)
end
section
open Go.RowKit
open Ig (nth encI encR grp diffs prv low)
structure Ig.At (B : Nat) (w : World) (v : Value) (L : List Int) : Prop where
 is : ∃ a c, v = .slice a L.length c ∧ L.length ≤ c ∧ B ≤ w.heap.size ∧ (L = [] ∨ ∃ b o, a = some ⟨b, o, none⟩ ∧ b < B ∧ ∀ i, i < L.length → w.cell? ⟨b, o + i, none⟩ = some (.int .i64 (nth L i)))
theorem Ig.At.below {B : Nat} {w w' : World} {v : Value} {L : List Int} (h : Ig.At B w v L) (g : Below B w w') : Ig.At B w' v L := by
 obtain ⟨a, c, rfl, hc, hB, h⟩ := h
 refine ⟨a, c, rfl, hc, Nat.le_trans hB g.size, ?_⟩
 rcases h with h | ⟨b, o, rfl, hlt, h⟩
 ·exact .inl h
 ·exact .inr ⟨b, o, rfl, hlt, fun i hi => (g.cell (p := ⟨b, o + i, none⟩) hlt).trans (h i hi)⟩
theorem Ig.At.mono {B B' : Nat} {w : World} {v : Value} {L : List Int} (h : Ig.At B w v L) (h1 : B ≤ B') (h2 : B' ≤ w.heap.size) : Ig.At B' w v L := by
 obtain ⟨a, c, rfl, hc, hB, h⟩ := h
 refine ⟨a, c, rfl, hc, h2, ?_⟩
 rcases h with h | ⟨b, o, rfl, hlt, h⟩
 ·exact .inl h
 ·exact .inr ⟨b, o, rfl, by omega, h⟩
def Ig.fn (k : Nat) : Value := .func (.func k) #[] #[]
end
section
open Go.RowKit
open Ig (nth encI encR grp diffs prv low)
end
section
open Go.RowKit
open Ig (nth encI encR grp diffs prv low)
open Ty (encU)
theorem Ig.At.drop {B : Nat} {w : World} {b o c k : Nat} {M : List Int} (h : Ig.At B w (.slice (some ⟨b, o, none⟩) M.length c) M) (hk : k ≤ M.length) : Ig.At B w (.slice (if c = k then some ⟨b, o, none⟩ else some ⟨b, o + k, none⟩) (M.length - k) (c - k)) (M.drop k) := by
 obtain ⟨a, c', e, hc, hB, h⟩ := h
 simp only [Value.slice.injEq] at e
 obtain ⟨ea, _, rfl⟩ := e
 refine ⟨_, c - k, by rw [List.length_drop], by rw [List.length_drop]; omega, hB, ?_⟩
 rcases h with h | ⟨b', o', rfl, hlt, h⟩
 ·left; rw [h]; simp
 ·simp only [Option.some.injEq, Addr.mk.injEq, and_true] at ea
  obtain ⟨rfl, rfl⟩ := ea
  by_cases he : M.length ≤ k
  ·left; exact List.drop_eq_nil_of_le he
  ·right
   refine ⟨b, o + k, by rw [if_neg (by omega)], hlt, fun i hi => ?_⟩
   rw [List.length_drop] at hi
   rw [Ig.nth_drop, Nat.add_assoc]
   exact h (k + i) (by omega)
end
section
open Go.RowKit
def Pk.enc (n : Nat) (X : Nat → Nat) : List UInt8 := UInt8.ofNat (Bt.wid n X) :: (Bt.bytes (Bt.need (n * Bt.wid n X)) (Bt.pk n X (Bt.wid n X))).data.toList
def Pk.q (l : List UInt8) : Nat := (l.headD 0).toNat
def Pk.str (n : Nat) (l : List UInt8) : ByteArray := Ty.S (l.tail.take (Bt.need (n * Pk.q l)))
def Pk.rest (n : Nat) (l : List UInt8) : List UInt8 := l.tail.drop (Bt.need (n * Pk.q l))
def Pk.X (n : Nat) (l : List UInt8) : Nat → Nat := Bt.nums (Pk.str n l) (Pk.q l)
def Pk.err (n : Nat) (l : List UInt8) : Nat :=
 if l = [] then 2 else if 64 < Pk.q l then 4 else if l.tail.length < Bt.need (n * Pk.q l) then 2
 else if Bt.chk (Pk.str n l) (n * Pk.q l) ≠ 0 then Bt.chk (Pk.str n l) (n * Pk.q l)
 else if Bt.wid n (Pk.X n l) < Pk.q l then 4 else 0
theorem Pk.wid_le (n : Nat) (l : List UInt8) : Bt.wid n (Pk.X n l) ≤ Pk.q l := (Bt.wid_le n _ _).2 fun _ _ => Bt.num_lt _ _
section
variable {n : Nat} {r : List UInt8} {x : UInt8}
theorem Pk.err1 : Pk.err n [] = 2 := by unfold Pk.err; rw [if_pos rfl]
theorem Pk.err2 (h : 64 < x.toNat) : Pk.err n (x :: r) = 4 := by
 unfold Pk.err
 rw [if_neg (by simp), if_pos (by exact h)]
theorem Pk.err3 (h : ¬ 64 < x.toNat) (h2 : r.length < Bt.need (n * x.toNat)) : Pk.err n (x :: r) = 2 := by
 unfold Pk.err
 rw [if_neg (by simp), if_neg (by exact h), if_pos (by exact h2)]
theorem Pk.err4 (h : ¬ 64 < x.toNat) (h2 : ¬ r.length < Bt.need (n * x.toNat)) (h3 : Bt.chk (Ty.S (r.take (Bt.need (n * x.toNat)))) (n * x.toNat) ≠ 0) : Pk.err n (x :: r) = Bt.chk (Ty.S (r.take (Bt.need (n * x.toNat)))) (n * x.toNat) := by
 unfold Pk.err
 rw [if_neg (by simp), if_neg (by exact h), if_neg (by exact h2), if_pos (by exact h3)]
 rfl
theorem Pk.err5 (h : ¬ 64 < x.toNat) (h2 : ¬ r.length < Bt.need (n * x.toNat)) (h3 : Bt.chk (Ty.S (r.take (Bt.need (n * x.toNat)))) (n * x.toNat) = 0) (h4 : Bt.wid n (Bt.nums (Ty.S (r.take (Bt.need (n * x.toNat)))) x.toNat) < x.toNat) : Pk.err n (x :: r) = 4 := by
 unfold Pk.err
 rw [if_neg (by simp), if_neg (by exact h), if_neg (by exact h2), if_neg (fun e => e h3), if_pos (by exact h4)]
end
theorem Pk.good {n : Nat} {l : List UInt8} (h : Pk.err n l = 0) : ∃ x r, l = x :: r ∧ x.toNat ≤ 64 ∧ Bt.need (n * x.toNat) ≤ r.length ∧ Bt.chk (Ty.S (r.take (Bt.need (n * x.toNat)))) (n * x.toNat) = 0 ∧ Bt.wid n (Pk.X n l) = x.toNat ∧ Pk.q l = x.toNat ∧ Pk.X n l = Bt.nums (Ty.S (r.take (Bt.need (n * x.toNat)))) x.toNat ∧ Pk.rest n l = r.drop (Bt.need (n * x.toNat)) := by
 cases l with
 | nil => rw [Pk.err1] at h; cases h
 | cons x r =>
   by_cases h1 : 64 < x.toNat
   ·rw [Pk.err2 h1] at h; cases h
   ·by_cases h2 : r.length < Bt.need (n * x.toNat)
    ·rw [Pk.err3 h1 h2] at h; cases h
    ·by_cases h3 : Bt.chk (Ty.S (r.take (Bt.need (n * x.toNat)))) (n * x.toNat) = 0
     ·have hle := Pk.wid_le n (x :: r)
      have hq : Pk.q (x :: r) = x.toNat := rfl
      have hX : Pk.X n (x :: r) = Bt.nums (Ty.S (r.take (Bt.need (n * x.toNat)))) x.toNat := rfl
      by_cases h4 : Bt.wid n (Bt.nums (Ty.S (r.take (Bt.need (n * x.toNat)))) x.toNat) < x.toNat
      ·rw [Pk.err5 h1 h2 h3 h4] at h; cases h
      ·rw [hX, hq] at hle
       exact ⟨x, r, rfl, by omega, by omega, h3, by rw [hX]; omega, rfl, rfl, rfl⟩
     ·rw [Pk.err4 h1 h2 h3] at h; exact absurd h h3
end
section
open Go.RowKit
def Pk.bv (l : List UInt8) (i : Nat) : Value := .int .u8 (((l.getD i 0).toNat : Nat) : Int)
end
section
open Go.RowKit
open Ig (nth encI encR grp diffs prv low off)
open Ty (encU)
end
section
open Go.RowKit
open Ig (nth encI encR grp diffs prv low off)
open Ty (encU)
def Ig.withE (L : List Int) (z : Int) : Nat := if 0 ≤ z ∧ z ≤ 3 then (if 65536 < L.length then 3 else 0) else 1
def Ig.withS (L : List Int) (z : Int) : List UInt8 := if Ig.withE L z = 0 then Ig.enc z.toNat L else []
def Ig.withV (L : List Int) (z : Int) : Value := .tuple #[.string (Ty.S (Ig.withS L z)), .int .i64 ((Ig.withE L z : Nat) : Int)]
end
section
open Go.RowKit
def Ig.bk (L : List Int) : Nat → Nat
 | 0 => 0
 | k + 1 => if (Ig.enc (k + 1) L).length < (Ig.enc (Ig.bk L k) L).length then k + 1 else Ig.bk L k
def Ig.bestE (L : List Int) : Nat := if 65536 < L.length then 3 else 0
def Ig.bestS (L : List Int) : List UInt8 := if 65536 < L.length then [] else Ig.enc (Ig.bk L 3) L
def Ig.bestV (L : List Int) : Value := .tuple #[.string (Ty.S (Ig.bestS L)), .int .i64 ((Ig.bestE L : Nat) : Int)]
end
section
open Go.RowKit
def Tx.sv (L : List Tx.Str) (i : Nat) : Value := .string (Ty.S (L.getD i []))
structure Tx.At (B : Nat) (w : World) (v : Value) (L : List Tx.Str) : Prop where
 is : ∃ a c, v = .slice a L.length c ∧ L.length ≤ c ∧ B ≤ w.heap.size ∧ ((L = [] ∧ (a = none → c = 0)) ∨ ∃ b o, a = some ⟨b, o, none⟩ ∧ b < B ∧ ∀ i, i < L.length → w.cell? ⟨b, o + i, none⟩ = some (Tx.sv L i))
theorem Tx.At.below {B : Nat} {w w' : World} {v : Value} {L : List Tx.Str} (h : Tx.At B w v L) (g : Below B w w') : Tx.At B w' v L := by
 obtain ⟨a, c, rfl, hc, hB, h⟩ := h
 refine ⟨a, c, rfl, hc, Nat.le_trans hB g.size, ?_⟩
 rcases h with h | ⟨b, o, rfl, hlt, h⟩
 ·exact .inl h
 ·exact .inr ⟨b, o, rfl, hlt, fun i hi => (g.cell (p := ⟨b, o + i, none⟩) hlt).trans (h i hi)⟩
theorem Tx.At.mono {B B' : Nat} {w : World} {v : Value} {L : List Tx.Str} (h : Tx.At B w v L) (h1 : B ≤ B') (h2 : B' ≤ w.heap.size) : Tx.At B' w v L := by
 obtain ⟨a, c, rfl, hc, hB, h⟩ := h
 refine ⟨a, c, rfl, hc, h2, ?_⟩
 rcases h with h | ⟨b, o, rfl, hlt, h⟩
 ·exact .inl h
 ·exact .inr ⟨b, o, rfl, by omega, h⟩
theorem Tx.At.nil (w : World) : Tx.At w.heap.size w (.slice none 0 0) [] := ⟨_, _, rfl, Nat.le_refl _, Nat.le_refl _, .inl ⟨rfl, fun _ => rfl⟩⟩
def Tx.posI (L : List Tx.Str) (t : Tx.Str) : Int := if t ∈ L then ((Tx.pos L t : Nat) : Int) else -1
end
section
open Go.RowKit
def Tx.Own (base : Nat) (w : World) (v : Value) (L : List Tx.Str) : Prop := Bt.Buf 9 base w v L.length (Tx.sv L)
theorem Tx.Own.nil (base : Nat) (w : World) : Tx.Own base w (.slice none 0 0) [] := Bt.Buf.nil _ _ _ _
theorem Tx.Own.post {base : Nat} {w : World} {v : Value} {M : List Tx.Str} {x : Tx.Str} (h : Bt.Buf 9 base w v (M.length + 1) (Tx.sv (M ++ [x]))) : Tx.Own base w v (M ++ [x]) := by
 unfold Tx.Own
 rw [List.length_append, List.length_singleton]
 exact h
theorem Tx.Own.at {base : Nat} {w : World} {v : Value} {L : List Tx.Str} (h : Tx.Own base w v L) : Tx.At w.heap.size w v L := by
 have hs := Bt.Buf.sl h
 obtain ⟨a, c, rfl, h1⟩ := hs
 have hc : L.length ≤ c ∧ (a = none → c = 0) := by
  rcases h.2 with ⟨e, e0⟩ | ⟨g, cap, cur, e, _, _, hcap, _⟩
  ·simp only [Value.slice.injEq] at e
   exact ⟨by omega, fun _ => by omega⟩
  ·simp only [Value.slice.injEq] at e
   exact ⟨by omega, fun e2 => by rw [e2] at e; exact absurd e.1 (by simp)⟩
 refine ⟨a, c, rfl, hc.1, Nat.le_refl _, ?_⟩
 rcases h1 with h1 | h1
 ·exact .inl ⟨List.eq_nil_of_length_eq_zero h1, hc.2⟩
 ·exact .inr h1
def Tx.Src (w : World) (u : Value) (K : List Tx.Str) : Prop := (u = .slice none 0 0 ∧ K = []) ∨ ∃ ad c, u = .slice (some ad) K.length c ∧ ∀ i, i < K.length → w.cell? (ad.add i) = some (Tx.sv K i)
theorem Tx.addr_add (b o i : Nat) : (⟨b, o, none⟩ : Addr).add i = ⟨b, o + i, none⟩ := by unfold Addr.add; split <;> simp_all
theorem Tx.Own.form {base : Nat} {w : World} {v : Value} {L : List Tx.Str} (h : Tx.Own base w v L) : (v = .slice none 0 0 ∧ L = []) ∨ ∃ g c, v = .slice (some ⟨g, 0, none⟩) L.length c ∧ L.length ≤ c ∧ g < w.heap.size ∧ ∀ i, i < L.length → w.cell? ⟨g, i, none⟩ = some (Tx.sv L i) := by
 rcases h.2 with ⟨e, e0⟩ | ⟨g, cap, cur, e, _, hgg, hcap, _⟩
 ·exact .inl ⟨e, List.eq_nil_of_length_eq_zero e0⟩
 ·refine .inr ⟨g, cap, e, hcap, (Array.getElem?_eq_some_iff.1 hgg).1, fun i hi => ?_⟩
  have := h.cells (g := g) (by rw [e]; rfl) i (Tx.sv L i) (by simp [hi])
  rwa [Tx.addr_add, Nat.zero_add] at this
theorem Tx.Own.mono {B B' : Nat} {w : World} {v : Value} {L : List Tx.Str} (h : Tx.Own B w v L) (hB : B' ≤ B) : Tx.Own B' w v L := by
 refine ⟨h.1, ?_⟩
 rcases h.2 with hn | ⟨b, cap, cur, rfl, hbb, rest⟩
 ·exact .inl hn
 ·exact .inr ⟨b, cap, cur, rfl, by omega, rest⟩
end
section
open Go.RowKit
open Ty (encU num)
end
section
open Go.RowKit
open Ty (encU num)
def Tx.fit (L : List Tx.Str) : Bool := decide (L.length ≤ 65536) && L.all fun t => decide (t.length ≤ 64)
def Tx.withE (L : List Tx.Str) (z : Int) : Nat := if 0 ≤ z ∧ z ≤ 1 then (if Tx.fit L = true then 0 else 3) else 1
def Tx.withS (L : List Tx.Str) (z : Int) : List UInt8 := if Tx.withE L z = 0 then Tx.enc z.toNat L else []
def Tx.withV (L : List Tx.Str) (z : Int) : Value := .tuple #[.string (Ty.S (Tx.withS L z)), .int .i64 ((Tx.withE L z : Nat) : Int)]
def Tx.bestK (L : List Tx.Str) : Nat := if (Tx.enc 1 L).length < (Tx.enc 0 L).length then 1 else 0
def Tx.bestV (L : List Tx.Str) : Value := if Tx.fit L = true then .tuple #[.string (Ty.S (Tx.enc (Tx.bestK L) L)), .int .i64 0] else .tuple #[.string (Ty.S []), .int .i64 3]
end
end Go.Proofs.Ytodeodndjkkkbaa
