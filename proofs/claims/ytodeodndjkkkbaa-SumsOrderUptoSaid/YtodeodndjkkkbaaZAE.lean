import Derived.Test.YtodeodndjkkkbaaZAC
import Derived.Test.YtodeodndjkkkbaaZAD
import Derived.RegionCalls
import Derived.Deep.RegionWith
import Derived.Test.YtodeodndjkkkbaaZAB
import Derived.Deep.DeepCutAuto
import Derived.Deep.QuietTactic
import Derived.BigQuiet
import Derived.WalkSmall
import Derived.Test.YtodeodndjkkkbaaRows
import Derived.WalkKit
import Derived.WalkSpells
import Derived.WalkLawsBesides
import Derived.Deep.OwnRows
import Derived.Below
import Derived.Lib.Hide
import Derived.StillTailTactics
import Derived.Lib.BitFns
import Derived.Deep.RegionHeld3
namespace Go.Proofs.Ytodeodndjkkkbaa.Ig
open Go.RowKit
open Ty (num encU zig zag I64 U64)
def nth (L : List Int) (i : Nat) : Int := L.getD i 0
def prv (L : List Int) : Nat → Int
 | 0 => 0
 | k + 1 => nth L k
def Run (L : List Int) (k : Nat) : Prop := 0 < k ∧ k ≤ L.length ∧ (∀ j, j < k → nth L j = nth L 0) ∧ (k < L.length → nth L k ≠ nth L 0)
theorem nth_drop (L : List Int) (k i : Nat) : nth (L.drop k) i = nth L (k + i) := by
 unfold nth
 rw [List.getD, List.getD, List.getElem?_drop]
end Go.Proofs.Ytodeodndjkkkbaa.Ig
namespace Go.Proofs.Ytodeodndjkkkbaa
open Go.RowKit
def Ty.rdU (l : List UInt8) (e : Nat) : Nat × List UInt8 × Nat := if e ≠ 0 then (0, l, e) else ((Ty.num l).1, l.drop (Ty.num l).2.1, (Ty.num l).2.2)
def Ty.rdT (most : Int) (l : List UInt8) (e : Nat) : List UInt8 × List UInt8 × Nat := if e ≠ 0 then ([], l, e) else ((Ty.txt l most).1, l.drop (Ty.txt l most).2.1, (Ty.txt l most).2.2)
def Ty.rdB (l : List UInt8) (e : Nat) : Nat × List UInt8 × Nat := if e ≠ 0 then (0, l, e) else match l with
 | [] => (0, [], 2)
 | b :: r => (b.toNat, r, 0)
end Go.Proofs.Ytodeodndjkkkbaa
namespace Go.Proofs.Ytodeodndjkkkbaa
open Go.RowKit
def Ty.fin (l : List UInt8) (e : Nat) : Nat := if e = 0 ∧ l ≠ [] then 5 else e
end Go.Proofs.Ytodeodndjkkkbaa
namespace Go.Proofs.Ytodeodndjkkkbaa
open Go.RowKit
theorem Ty.below_by {w w' : World} {B : Nat} {r : Option Nat} (hg : w.grownBy w' r) (hB : B ≤ w.heap.size) (hr : ∀ k, r = some k → B ≤ k) : Below B w w' :=
 (Below.refl B w).grown hg hB hr
end Go.Proofs.Ytodeodndjkkkbaa
namespace Go.Proofs.Ytodeodndjkkkbaa
open Go.RowKit
theorem Ty.Buf.later {base : Nat} {w w' : World} {v : Value} {bs : List UInt8} (h : Ty.Buf base w v bs) (hb : Below w.heap.size w w') : Ty.Buf base w' v bs :=
 h.kept fun k hk => hb.block k (h.lt k hk).2
theorem Ty.below_none {w w' : World} {B : Nat} (hg : w.grownBy w' none) (hB : B ≤ w.heap.size) : Below B w w' := Ty.below_by hg hB (by intro k hk; cases hk)
end Go.Proofs.Ytodeodndjkkkbaa
namespace Go.Proofs.Ytodeodndjkkkbaa
open Go.RowKit
def Ty.RMid (base n sz k : Nat) (wr : World) (v : Value) : Prop :=
 (k = sz ∧ Ty.Buf base wr v []) ∨ (k < sz ∧ ∃ done, Ty.encU n = done ++ Ty.low k n ∧ done.length + k ≤ 9 ∧ Ty.Buf base wr v done)
theorem Ty.Buf.base {base : Nat} {w : World} {v : Value} {bs : List UInt8} (h : Ty.Buf base w v bs) : ∀ k, v.ownBlock = some k → base ≤ k := fun k hk => (h.lt k hk).1
def Ty.Str (w : World) (bs : List UInt8) (e : Ending) (w' : World) : Prop := e = .returned (.string (Ty.S bs)) ∧ Below w.heap.size w w'
theorem Ty.RMid.first {base n sz k : Nat} {w1 : World} {v1 : Value} (hk : k = Ty.after (Ty.form n)) (hs : sz = k + 1) {X : Int} (hX : X = ((Ty.head n).toNat : Int)) (h1 : ∀ u : UInt8, X = (u.toNat : Int) → Ty.Buf base w1 v1 ([] ++ [u])) : Ty.RMid base n sz k w1 v1 :=
 .inr ⟨by omega, [Ty.head n], by rw [hk]; exact Ty.encU_split n, by have := Ty.after_le n; simp; omega, h1 _ hX⟩
theorem Ty.RMid.next {base n sz k : Nat} {done : List UInt8} {w1 : World} {v1 : Value} (hd : Ty.encU n = done ++ Ty.low (k + 1) n) (hl : done.length + (k + 1) ≤ 9) (hk : k + 1 < sz)
 (h1 : ∀ u : UInt8, ((n : Int) / 2 ^ (8 * k) % 256) = (u.toNat : Int) → Ty.Buf base w1 v1 (done ++ [u])) : Ty.RMid base n sz k w1 v1 :=
 .inr ⟨by omega, done ++ [UInt8.ofNat (n / 256 ^ k % 256)], by rw [hd, Ty.low_succ]; simp, by simp; omega, h1 _ (Ty.low_byte n k)⟩
end Go.Proofs.Ytodeodndjkkkbaa
namespace Go.Proofs.Ytodeodndjkkkbaa
open Go.RowKit
end Go.Proofs.Ytodeodndjkkkbaa
namespace Go.Proofs.Ytodeodndjkkkbaa
open Go.RowKit
end Go.Proofs.Ytodeodndjkkkbaa
namespace Go.Proofs.Ytodeodndjkkkbaa
open Go.RowKit
end Go.Proofs.Ytodeodndjkkkbaa
namespace Go.Proofs.Ytodeodndjkkkbaa
open Go.RowKit
end Go.Proofs.Ytodeodndjkkkbaa
namespace Go.Proofs.Ytodeodndjkkkbaa
open Go.RowKit
end Go.Proofs.Ytodeodndjkkkbaa
namespace Go.Proofs.Ytodeodndjkkkbaa
open Go.RowKit
end Go.Proofs.Ytodeodndjkkkbaa
namespace Go.Proofs.Ytodeodndjkkkbaa
open Go.RowKit
def Bt.Row (w : World) (g sz : Nat) (F : Nat → Bool) : Prop := w.rowIs g 5 sz (fun i => .int .u8 ((Bt.oct F i : Nat) : Int))
set_option maxRecDepth 100000 in
theorem Bt.Row.string {w : World} {g sz c : Nat} {F : Nat → Bool} (h : Bt.Row w g sz F) : (convert 122 9 (.slice (some ⟨g, 0, none⟩) sz c)).run Try.prog w = .ok (.string (Bt.bytes sz F)) w := by
 have := run_convert_bytes_arg (P := Try.prog) w 122 _ Try.underlying122 Try.underlying5 g 0 sz c ((List.range sz).map fun i => ((Bt.oct F i : Nat) : Int)) (by simp) (fun i hi => by
  have hc := h.cell hi
  have ea : (⟨g, 0 + i, none⟩ : Addr) = ⟨g, i, none⟩ := by rw [Nat.zero_add]
  rw [ea, hc]
  simp [List.getD, hi]) 9 Try.underlying9
 rw [this]
 have e : strOfNums ((List.range sz).map fun i => ((Bt.oct F i : Nat) : Int)) = Bt.bytes sz F := by
  unfold strOfNums Bt.bytes
  congr 1
  rw [List.map_map]
  rfl
 rw [e]
theorem Bt.by_trans {a b c : World} {r : Option Nat} (h : a.grownBy b r) (k : b.grownBy c r) : a.grownBy c r :=
 ⟨k.os.trans h.os, k.tape.trans h.tape, k.output.trans h.output, Nat.le_trans h.size k.size, fun i hi hn => (k.block i (Nat.lt_of_lt_of_le hi h.size) hn).trans (h.block i hi hn)⟩
theorem Bt.by_set (w : World) (b o : Nat) (u : Value) : w.grownBy (w.setCell ⟨b, o, none⟩ u) (some b) :=
 ⟨rfl, rfl, rfl, by simp [World.setCell], fun k _ hk => Below.heap_setCell _ _ _ _ (fun e => hk (by rw [e]))⟩
def Bt.Put (g sz : Nat) (F : Nat → Bool) (w w' : World) : Prop := Bt.Row w' g sz F ∧ w.grownBy w' (some g)
theorem Bt.or_byte (G : Nat → Bool) (a m q r : Nat) (hq : q = a / 8) (hr : r = a % 8) :
 bits .or .u8 ((Bt.oct G q : Nat) : Int) (IntKind.u64.wrap ((m : Int) * 2 ^ r) % 256) = ((Bt.oct (Bt.laid G a m) q : Nat) : Int) := by
 subst hq hr
 have e : IntKind.u64.wrap ((m : Int) * 2 ^ (a % 8)) % 256 = ((m * 2 ^ (a % 8) % 256 : Nat) : Int) := by
  rw [IntKind.wrap_u64]
  have e1 : (m : Int) * 2 ^ (a % 8) = ((m * 2 ^ (a % 8) : Nat) : Int) := by simp
  rw [e1]
  omega
 rw [e, (bits_nat .u8 8 (by decide) wraps_u8 _ _ (Bt.oct_lt G (a / 8)) (Nat.mod_lt _ (by decide))).2, Bt.laid_here]
theorem Bt.Put.next {g sz a m q r : Nat} {G : Nat → Bool} {w wr : World} (h : Bt.Put g sz G w wr) (hq : q = a / 8) (hr : r = a % 8) :
 Bt.Put g sz (Bt.laid G a m) w (wr.setCell ⟨g, q, none⟩ (.int .u8 (bits .or .u8 ((Bt.oct G q : Nat) : Int) (IntKind.u64.wrap ((m : Int) * 2 ^ r) % 256)))).drew := by
 obtain ⟨hR, hB⟩ := h
 rw [Bt.or_byte G a m q r hq hr]
 refine ⟨World.rowIs.drew (World.rowIs.congr (World.rowIs.set hR q _) fun i _ => ?_), ?_⟩
 ·by_cases e : i = q
  ·subst e
   rw [if_pos rfl]
  ·rw [if_neg e, Bt.laid_far G a m i (by rw [← hq]; exact e)]
 ·have h2 := Bt.by_trans hB (Bt.by_set wr g q (.int .u8 ((Bt.oct (Bt.laid G a m) q : Nat) : Int)))
  exact ⟨h2.os, h2.tape, h2.output, h2.size, h2.block⟩
end Go.Proofs.Ytodeodndjkkkbaa
namespace Go.Proofs.Ytodeodndjkkkbaa
open Go.RowKit
end Go.Proofs.Ytodeodndjkkkbaa
namespace Go.Proofs.Ytodeodndjkkkbaa
open Go.RowKit
structure Bt.Sl (w : World) (v : Value) (n : Nat) (f : Nat → Value) : Prop where
 is : ∃ a c, v = .slice a n c ∧ (n = 0 ∨ ∃ b o, a = some ⟨b, o, none⟩ ∧ b < w.heap.size ∧ ∀ i, i < n → w.cell? ⟨b, o + i, none⟩ = some (f i))
theorem Bt.Sl.later {w w' : World} {v : Value} {n : Nat} {f : Nat → Value} (h : Bt.Sl w v n f) (g : Below w.heap.size w w') : Bt.Sl w' v n f := by
 obtain ⟨a, c, rfl, h⟩ := h
 refine ⟨a, c, rfl, ?_⟩
 rcases h with h | ⟨b, o, rfl, hlt, h⟩
 ·exact .inl h
 ·exact .inr ⟨b, o, rfl, Nat.lt_of_lt_of_le hlt g.size, fun i hi => (g.cell (p := ⟨b, o + i, none⟩) hlt).trans (h i hi)⟩
def Bt.nv (X : Nat → Nat) (i : Nat) : Value := .int .u64 ((X i : Nat) : Int)
def Bt.bv (T : Nat → Bool) (i : Nat) : Value := .bool (T i)
theorem Bt.Put.below {g sz : Nat} {F : Nat → Bool} {w w' : World} (h : Bt.Put g sz F w w') {B : Nat} (hB : B ≤ g) (hs : B ≤ w.heap.size) : Below B w w' :=
 ⟨h.2.os, h.2.tape, h.2.output, h.2.size, fun k hk => h.2.block k (by omega) (fun e => by have := Option.some.inj e; omega)⟩
def Bt.packV (n : Nat) (X : Nat → Nat) (q : Int) : Value :=
 if 0 ≤ q ∧ q ≤ 64 then (if q.toNat < Bt.wid n X then .tuple #[.string ⟨#[]⟩, .int .i64 4] else .tuple #[.string (Bt.bytes (Bt.need (n * q.toNat)) (Bt.pk n X q.toNat)), .int .i64 0])
 else .tuple #[.string ⟨#[]⟩, .int .i64 1]
end Go.Proofs.Ytodeodndjkkkbaa
namespace Go.Proofs.Ytodeodndjkkkbaa
open Go.RowKit
def Bt.utE (s : ByteArray) (z : Int) : Nat := if 0 ≤ z ∧ z ≤ 65536 then Bt.chk s z.toNat else 1
def Bt.utN (s : ByteArray) (z : Int) : Nat := if Bt.utE s z = 0 then z.toNat else 0
def Bt.upE (s : ByteArray) (z q : Int) : Nat := if (0 ≤ q ∧ q ≤ 64) ∧ 0 ≤ z ∧ z ≤ 65536 then Bt.chk s (z.toNat * q.toNat) else 1
def Bt.upN (s : ByteArray) (z q : Int) : Nat := if Bt.upE s z q = 0 then z.toNat else 0
def Bt.nums (s : ByteArray) (q : Nat) (i : Nat) : Nat := Bt.num q (fun j => Bt.bit s (i * q + j))
theorem Bt.Sl.nil (w : World) (f : Nat → Value) : Bt.Sl w (.slice none 0 0) 0 f := ⟨none, 0, rfl, .inl rfl⟩
theorem Bt.Sl.row {w : World} {g n c : Nat} {t : TypeId} {f : Nat → Value} (h : w.rowIs g t n f) : Bt.Sl w (.slice (some ⟨g, 0, none⟩) n c) n f :=
 ⟨_, c, rfl, .inr ⟨g, 0, rfl, h.lt, fun i hi => by rw [Nat.zero_add]; exact h.cell hi⟩⟩
def Bt.upTo (k : Nat) (f : Nat → Value) (z : Value) (i : Nat) : Value := if i < k then f i else z
end Go.Proofs.Ytodeodndjkkkbaa
namespace Go.Proofs.Ytodeodndjkkkbaa
open Go.RowKit
def Bt.Buf (e : TypeId) (base : Nat) (w : World) (v : Value) (n : Nat) (f : Nat → Value) : Prop := w.ownsRow base e 1 v n ((List.range n).map f)
theorem Bt.Buf.nil (e : TypeId) (base : Nat) (w : World) (f : Nat → Value) : Bt.Buf e base w (.slice none 0 0) 0 f := World.ownsRow_nil w base _ 1
theorem Bt.Buf.sl {e : TypeId} {base : Nat} {w : World} {v : Value} {n : Nat} {f : Nat → Value} (h : Bt.Buf e base w v n f) : Bt.Sl w v n f := by
 have h0 := h
 rcases h.2 with ⟨rfl, rfl⟩ | ⟨g, cap, cur, rfl, _, hg, _⟩
 ·exact Bt.Sl.nil _ _
 ·refine ⟨_, cap, rfl, .inr ⟨g, 0, rfl, (Array.getElem?_eq_some_iff.1 hg).1, fun i hi => ?_⟩⟩
  have := h0.cells (g := g) rfl i (f i) (by simp [hi])
  have ea : (⟨g, 0, none⟩ : Addr).add i = ⟨g, 0 + i, none⟩ := by unfold Addr.add; split <;> simp_all
  rwa [ea] at this
theorem Bt.Buf.kept {e : TypeId} {base : Nat} {w w' : World} {v : Value} {n : Nat} {f : Nat → Value} (h : Bt.Buf e base w v n f) (g : Below w.heap.size w w') : Bt.Buf e base w' v n f := by
 refine ⟨h.1, ?_⟩
 rcases h.2 with hn | ⟨b, cap, cur, rfl, hbb, hgg, rest⟩
 ·exact .inl hn
 ·exact .inr ⟨b, cap, cur, rfl, hbb, by rw [g.block b (Array.getElem?_eq_some_iff.1 hgg).1]; exact hgg, rest⟩
theorem Bt.Buf.congr {e : TypeId} {base : Nat} {w : World} {v : Value} {n : Nat} {f g : Nat → Value} (h : Bt.Buf e base w v n f) (hf : ∀ i, i < n → f i = g i) : Bt.Buf e base w v n g := by
 unfold Bt.Buf at h ⊢
 have : (List.range n).map g = (List.range n).map f := List.map_congr_left fun i hi => (hf i (List.mem_range.1 hi)).symm
 rw [this]; exact h
theorem Bt.Buf.base_le {e : TypeId} {base : Nat} {w : World} {v : Value} {n : Nat} {f : Nat → Value} (h : Bt.Buf e base w v n f) : ∀ k, v.ownBlock = some k → base ≤ k := by
 intro k hk
 rcases h.2 with ⟨rfl, _⟩ | ⟨b, cap, cur, rfl, hbb, _⟩
 ·cases hk
 ·have : b = k := by simpa [Value.ownBlock] using hk
  omega
end Go.Proofs.Ytodeodndjkkkbaa
namespace Go.Proofs.Ytodeodndjkkkbaa
open Go.RowKit
theorem Bt.Row.add {w : World} {g sz k q r : Nat} {T : Nat → Bool} (h : Bt.Row w g sz (Bt.tr k T)) (hT : T k = true) (hq : q = k / 8) (hr : r = k % 8) :
 Bt.Row (w.setCell ⟨g, q, none⟩ (.int .u8 ((((Bt.oct (Bt.tr k T) q : Nat) : Int) + 2 ^ r) % 256))) g sz (Bt.tr (k + 1) T) := by
 have e : (((Bt.oct (Bt.tr k T) q : Nat) : Int) + 2 ^ r) % 256 = ((Bt.oct (Bt.tr (k + 1) T) q : Nat) : Int) := by
  have h1 := Bt.tr_add T k hT
  have h2 := Bt.oct_lt (Bt.tr (k + 1) T) q
  rw [← hq, ← hr] at h1
  have e2 : (2 : Int) ^ r = ((2 ^ r : Nat) : Int) := by simp
  rw [e2]
  omega
 rw [e]
 refine World.rowIs.congr (World.rowIs.set h q _) fun i _ => ?_
 by_cases e : i = q
 ·subst e
  rw [if_pos rfl]
 ·rw [if_neg e, Bt.tr_far T k i (by rw [← hq]; exact e)]
theorem Bt.drewN_below (w : World) (n : Nat) : Below w.heap.size w (w.drewN n) := ⟨rfl, rfl, rfl, Nat.le_refl _, fun _ _ => rfl⟩
end Go.Proofs.Ytodeodndjkkkbaa
namespace Go.Proofs.Ytodeodndjkkkbaa
open Go.RowKit
def Bt.flat (X : Nat → Nat) (q x : Nat) : Bool := (X (x / q)).testBit (x % q)
end Go.Proofs.Ytodeodndjkkkbaa
namespace Go.Proofs.Ytodeodndjkkkbaa
open Go.RowKit
open Ig (nth encI encR grp diffs prv low)
structure Ig.At (B : Nat) (w : World) (v : Value) (L : List Int) : Prop where
 is : ∃ a c, v = .slice a L.length c ∧ L.length ≤ c ∧ B ≤ w.heap.size ∧ (L = [] ∨ ∃ b o, a = some ⟨b, o, none⟩ ∧ b < B ∧ ∀ i, i < L.length → w.cell? ⟨b, o + i, none⟩ = some (.int .i64 (nth L i)))
theorem Ig.At.below {B : Nat} {w w' : World} {v : Value} {L : List Int} (h : Ig.At B w v L) (g : Below B w w') : Ig.At B w' v L := by
 obtain ⟨a, c, rfl, hc, hB, h⟩ := h
 refine ⟨a, c, rfl, hc, Nat.le_trans hB g.size, ?_⟩
 rcases h with h | ⟨b, o, rfl, hlt, h⟩
 ·exact .inl h
 ·exact .inr ⟨b, o, rfl, hlt, fun i hi => (g.cell (p := ⟨b, o + i, none⟩) hlt).trans (h i hi)⟩
theorem Ig.At.mono {B B' : Nat} {w : World} {v : Value} {L : List Int} (h : Ig.At B w v L) (h1 : B ≤ B') (h2 : B' ≤ w.heap.size) : Ig.At B' w v L := by
 obtain ⟨a, c, rfl, hc, hB, h⟩ := h
 refine ⟨a, c, rfl, hc, h2, ?_⟩
 rcases h with h | ⟨b, o, rfl, hlt, h⟩
 ·exact .inl h
 ·exact .inr ⟨b, o, rfl, by omega, h⟩
def Ig.fn (k : Nat) : Value := .func (.func k) #[] #[]
end Go.Proofs.Ytodeodndjkkkbaa
namespace Go.Proofs.Ytodeodndjkkkbaa
open Go.RowKit
open Ig (nth encI encR grp diffs prv low)
end Go.Proofs.Ytodeodndjkkkbaa
namespace Go.Proofs.Ytodeodndjkkkbaa
open Go.RowKit
open Ig (nth encI encR grp diffs prv low)
open Ty (encU)
theorem Ig.At.drop {B : Nat} {w : World} {b o c k : Nat} {M : List Int} (h : Ig.At B w (.slice (some ⟨b, o, none⟩) M.length c) M) (hk : k ≤ M.length) : Ig.At B w (.slice (if c = k then some ⟨b, o, none⟩ else some ⟨b, o + k, none⟩) (M.length - k) (c - k)) (M.drop k) := by
 obtain ⟨a, c', e, hc, hB, h⟩ := h
 simp only [Value.slice.injEq] at e
 obtain ⟨ea, _, rfl⟩ := e
 refine ⟨_, c - k, by rw [List.length_drop], by rw [List.length_drop]; omega, hB, ?_⟩
 rcases h with h | ⟨b', o', rfl, hlt, h⟩
 ·left; rw [h]; simp
 ·simp only [Option.some.injEq, Addr.mk.injEq, and_true] at ea
  obtain ⟨rfl, rfl⟩ := ea
  by_cases he : M.length ≤ k
  ·left; exact List.drop_eq_nil_of_le he
  ·right
   refine ⟨b, o + k, by rw [if_neg (by omega)], hlt, fun i hi => ?_⟩
   rw [List.length_drop] at hi
   rw [Ig.nth_drop, Nat.add_assoc]
   exact h (k + i) (by omega)
end Go.Proofs.Ytodeodndjkkkbaa
namespace Go.Proofs.Ytodeodndjkkkbaa
open Go.RowKit
def Pk.enc (n : Nat) (X : Nat → Nat) : List UInt8 := UInt8.ofNat (Bt.wid n X) :: (Bt.bytes (Bt.need (n * Bt.wid n X)) (Bt.pk n X (Bt.wid n X))).data.toList
def Pk.q (l : List UInt8) : Nat := (l.headD 0).toNat
def Pk.str (n : Nat) (l : List UInt8) : ByteArray := Ty.S (l.tail.take (Bt.need (n * Pk.q l)))
def Pk.rest (n : Nat) (l : List UInt8) : List UInt8 := l.tail.drop (Bt.need (n * Pk.q l))
def Pk.X (n : Nat) (l : List UInt8) : Nat → Nat := Bt.nums (Pk.str n l) (Pk.q l)
def Pk.err (n : Nat) (l : List UInt8) : Nat :=
 if l = [] then 2 else if 64 < Pk.q l then 4 else if l.tail.length < Bt.need (n * Pk.q l) then 2
 else if Bt.chk (Pk.str n l) (n * Pk.q l) ≠ 0 then Bt.chk (Pk.str n l) (n * Pk.q l)
 else if Bt.wid n (Pk.X n l) < Pk.q l then 4 else 0
theorem Pk.wid_le (n : Nat) (l : List UInt8) : Bt.wid n (Pk.X n l) ≤ Pk.q l := (Bt.wid_le n _ _).2 fun _ _ => Bt.num_lt _ _
section
variable {n : Nat} {r : List UInt8} {x : UInt8}
theorem Pk.err1 : Pk.err n [] = 2 := by unfold Pk.err; rw [if_pos rfl]
theorem Pk.err2 (h : 64 < x.toNat) : Pk.err n (x :: r) = 4 := by
 unfold Pk.err
 rw [if_neg (by simp), if_pos (by exact h)]
theorem Pk.err3 (h : ¬ 64 < x.toNat) (h2 : r.length < Bt.need (n * x.toNat)) : Pk.err n (x :: r) = 2 := by
 unfold Pk.err
 rw [if_neg (by simp), if_neg (by exact h), if_pos (by exact h2)]
theorem Pk.err4 (h : ¬ 64 < x.toNat) (h2 : ¬ r.length < Bt.need (n * x.toNat)) (h3 : Bt.chk (Ty.S (r.take (Bt.need (n * x.toNat)))) (n * x.toNat) ≠ 0) : Pk.err n (x :: r) = Bt.chk (Ty.S (r.take (Bt.need (n * x.toNat)))) (n * x.toNat) := by
 unfold Pk.err
 rw [if_neg (by simp), if_neg (by exact h), if_neg (by exact h2), if_pos (by exact h3)]
 rfl
theorem Pk.err5 (h : ¬ 64 < x.toNat) (h2 : ¬ r.length < Bt.need (n * x.toNat)) (h3 : Bt.chk (Ty.S (r.take (Bt.need (n * x.toNat)))) (n * x.toNat) = 0) (h4 : Bt.wid n (Bt.nums (Ty.S (r.take (Bt.need (n * x.toNat)))) x.toNat) < x.toNat) : Pk.err n (x :: r) = 4 := by
 unfold Pk.err
 rw [if_neg (by simp), if_neg (by exact h), if_neg (by exact h2), if_neg (fun e => e h3), if_pos (by exact h4)]
end
theorem Pk.good {n : Nat} {l : List UInt8} (h : Pk.err n l = 0) : ∃ x r, l = x :: r ∧ x.toNat ≤ 64 ∧ Bt.need (n * x.toNat) ≤ r.length ∧ Bt.chk (Ty.S (r.take (Bt.need (n * x.toNat)))) (n * x.toNat) = 0 ∧ Bt.wid n (Pk.X n l) = x.toNat ∧ Pk.q l = x.toNat ∧ Pk.X n l = Bt.nums (Ty.S (r.take (Bt.need (n * x.toNat)))) x.toNat ∧ Pk.rest n l = r.drop (Bt.need (n * x.toNat)) := by
 cases l with
 | nil => rw [Pk.err1] at h; cases h
 | cons x r =>
   by_cases h1 : 64 < x.toNat
   ·rw [Pk.err2 h1] at h; cases h
   ·by_cases h2 : r.length < Bt.need (n * x.toNat)
    ·rw [Pk.err3 h1 h2] at h; cases h
    ·by_cases h3 : Bt.chk (Ty.S (r.take (Bt.need (n * x.toNat)))) (n * x.toNat) = 0
     ·have hle := Pk.wid_le n (x :: r)
      have hq : Pk.q (x :: r) = x.toNat := rfl
      have hX : Pk.X n (x :: r) = Bt.nums (Ty.S (r.take (Bt.need (n * x.toNat)))) x.toNat := rfl
      by_cases h4 : Bt.wid n (Bt.nums (Ty.S (r.take (Bt.need (n * x.toNat)))) x.toNat) < x.toNat
      ·rw [Pk.err5 h1 h2 h3 h4] at h; cases h
      ·rw [hX, hq] at hle
       exact ⟨x, r, rfl, by omega, by omega, h3, by rw [hX]; omega, rfl, rfl, rfl⟩
     ·rw [Pk.err4 h1 h2 h3] at h; exact absurd h h3
end Go.Proofs.Ytodeodndjkkkbaa
namespace Go.Proofs.Ytodeodndjkkkbaa
open Go.RowKit
def Pk.bv (l : List UInt8) (i : Nat) : Value := .int .u8 (((l.getD i 0).toNat : Nat) : Int)
end Go.Proofs.Ytodeodndjkkkbaa
namespace Go.Proofs.Ytodeodndjkkkbaa
open Go.RowKit
open Ig (nth encI encR grp diffs prv low off)
open Ty (encU)
end Go.Proofs.Ytodeodndjkkkbaa
namespace Go.Proofs.Ytodeodndjkkkbaa
open Go.RowKit
open Ig (nth encI encR grp diffs prv low off)
open Ty (encU)
def Ig.withE (L : List Int) (z : Int) : Nat := if 0 ≤ z ∧ z ≤ 3 then (if 65536 < L.length then 3 else 0) else 1
def Ig.withS (L : List Int) (z : Int) : List UInt8 := if Ig.withE L z = 0 then Ig.enc z.toNat L else []
def Ig.withV (L : List Int) (z : Int) : Value := .tuple #[.string (Ty.S (Ig.withS L z)), .int .i64 ((Ig.withE L z : Nat) : Int)]
end Go.Proofs.Ytodeodndjkkkbaa
namespace Go.Proofs.Ytodeodndjkkkbaa
open Go.RowKit
def Ig.bk (L : List Int) : Nat → Nat
 | 0 => 0
 | k + 1 => if (Ig.enc (k + 1) L).length < (Ig.enc (Ig.bk L k) L).length then k + 1 else Ig.bk L k
def Ig.bestE (L : List Int) : Nat := if 65536 < L.length then 3 else 0
def Ig.bestS (L : List Int) : List UInt8 := if 65536 < L.length then [] else Ig.enc (Ig.bk L 3) L
def Ig.bestV (L : List Int) : Value := .tuple #[.string (Ty.S (Ig.bestS L)), .int .i64 ((Ig.bestE L : Nat) : Int)]
end Go.Proofs.Ytodeodndjkkkbaa
