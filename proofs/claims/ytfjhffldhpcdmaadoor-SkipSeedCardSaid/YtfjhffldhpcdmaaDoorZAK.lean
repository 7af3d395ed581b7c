/-
  Contracts of package tally: the cursor's methods.
  Contracts of package tally: the cursor's methods Int, Text, Byte, Done; a cursor that isn't there.
  The laws' own 'lives' answers true.
  What the laws of tally want of a buffer that begins as nil.
  Contracts of the document's answers for tally: the bytes of a number, of a text.
  The walk of the law TallyOrder.
  The walk of the law TallyCuts.
  The walk of the law TallyOnly.
  Contracts of the document's answers for tally: the cursor.
  Contracts of the document's answers for tally: what the cursor sees next.
  Contracts of the document's answers for tally: the cursor's methods.
  Contracts of the document's answers for tally: the cursor's texts.
  The document's cursor in hand: what of it stays, its strings of at most 64 bytes.
  The document's answers for package deeds: which deeds fit, which are the same; a truth's byte, written and read.
  Arguments of the laws of skip opened: a deed, a slice of deeds; what their rows and strings may weigh.
  The law SkipOwn, walked.
-/
import Derived.Test.YtfjhffldhpcdmaaDoorZAC
import Derived.RegionCalls
import Derived.Deep.RegionWith
import Derived.Test.YtfjhffldhpcdmaaDoorZAB
import Derived.Test.YtfjhffldhpcdmaaDoorZAA
import Derived.Deep.DeepCutAuto
import Derived.Deep.QuietTactic
import Derived.BigQuiet
import Derived.WalkSmall
import Derived.Test.YtfjhffldhpcdmaaDoorZAD
import Derived.Test.YtfjhffldhpcdmaaDoorZAE
import Derived.Test.YtfjhffldhpcdmaaDoorZAF
import Derived.Test.YtfjhffldhpcdmaaDoorZAI
namespace Go.Proofs.YtfjhffldhpcdmaaDoor
open Go.RowKit
theorem Ty.two_set0 {w : World} {b : Nat} {x y u : Value} {t : TypeId} (h : w.heap[b]? = some (.cells #[x, y] t (0, 0))) : (w.setCell ⟨b, 0, none⟩ u).heap[b]? = some (.cells #[u, y] t (0, 0)) := by
  have hlt := lt_of_block h
  have h' : w.heap[b] = .cells #[x, y] t (0, 0) := by simpa [Array.getElem?_eq_getElem hlt] using h
  show (w.heap.modify b _)[b]? = _
  rw [Array.getElem?_eq_getElem (by simpa using hlt), Array.getElem_modify_self, h']
  rfl
theorem Ty.two_set1 {w : World} {b : Nat} {x y u : Value} {t : TypeId} (h : w.heap[b]? = some (.cells #[x, y] t (0, 0))) : (w.setCell ⟨b, 1, none⟩ u).heap[b]? = some (.cells #[x, u] t (0, 0)) := by
  have hlt := lt_of_block h
  have h' : w.heap[b] = .cells #[x, y] t (0, 0) := by simpa [Array.getElem?_eq_getElem hlt] using h
  show (w.heap.modify b _)[b]? = _
  rw [Array.getElem?_eq_getElem (by simpa using hlt), Array.getElem_modify_self, h']
  rfl
theorem Ty.by_set (w : World) (b o : Nat) (u : Value) : w.grownBy (w.setCell ⟨b, o, none⟩ u) (some b) :=
  ⟨rfl, rfl, rfl, by simp [World.setCell], fun k _ hk => Below.heap_setCell _ _ _ _ (fun e => hk (by rw [e]))⟩
theorem Ty.by_refl (w : World) (r : Option Nat) : w.grownBy w r := ⟨rfl, rfl, rfl, Nat.le_refl _, fun _ _ _ => rfl⟩
theorem Ty.by_trans {a b c : World} {r : Option Nat} (h : a.grownBy b r) (k : b.grownBy c r) : a.grownBy c r :=
  ⟨k.os.trans h.os, k.tape.trans h.tape, k.output.trans h.output, Nat.le_trans h.size k.size, fun i hi hn => (k.block i (Nat.lt_of_lt_of_le hi h.size) hn).trans (h.block i hi hn)⟩
/-- What a reading method of the cursor leaves, and what it returns, as plain functions of its state. -/
def Ty.rdU (l : List UInt8) (e : Nat) : Nat × List UInt8 × Nat := if e ≠ 0 then (0, l, e) else ((Ty.num l).1, l.drop (Ty.num l).2.1, (Ty.num l).2.2)
def Ty.rdT (most : Int) (l : List UInt8) (e : Nat) : List UInt8 × List UInt8 × Nat := if e ≠ 0 then ([], l, e) else ((Ty.txt l most).1, l.drop (Ty.txt l most).2.1, (Ty.txt l most).2.2)
def Ty.rdB (l : List UInt8) (e : Nat) : Nat × List UInt8 × Nat := if e ≠ 0 then (0, l, e) else match l with
  | [] => (0, [], 2)
  | b :: r => (b.toNat, r, 0)
end Go.Proofs.YtfjhffldhpcdmaaDoor

namespace Go.Proofs.YtfjhffldhpcdmaaDoor
open Go.RowKit
theorem Ty.rdU_u64 (l : List UInt8) (e : Nat) : Ty.U64 (Ty.rdU l e).1 := by
  unfold Ty.rdU
  split
  · show (0 : Nat) < 2 ^ 64; omega
  · exact Ty.num_u64 l
/-- What Done returns. -/
def Ty.fin (l : List UInt8) (e : Nat) : Nat := if e = 0 ∧ l ≠ [] then 5 else e
end Go.Proofs.YtfjhffldhpcdmaaDoor

namespace Go.Proofs.YtfjhffldhpcdmaaDoor
open Go.RowKit
theorem Ty.below_by {w w' : World} {B : Nat} {r : Option Nat} (hg : w.grownBy w' r) (hB : B ≤ w.heap.size) (hr : ∀ k, r = some k → B ≤ k) : Below B w w' :=
  (Below.refl B w).grown hg hB hr
end Go.Proofs.YtfjhffldhpcdmaaDoor

namespace Go.Proofs.YtfjhffldhpcdmaaDoor
open Go.RowKit
theorem Ty.Buf.later {base : Nat} {w w' : World} {v : Value} {bs : List UInt8} (h : Ty.Buf base w v bs) (hb : Below w.heap.size w w') : Ty.Buf base w' v bs :=
  h.kept fun k hk => hb.block k (h.lt k hk).2
theorem Ty.Buf.str {base : Nat} {w : World} {v : Value} {bs : List UInt8} (h : Ty.Buf base w v bs) : (convert 86 9 v).run Tryd.prog w = .ok (.string (Ty.S bs)) w :=
  h.string 86 9 Tryd.underlying86 Tryd.underlying5 Tryd.underlying9
theorem Ty.below_none {w w' : World} {B : Nat} (hg : w.grownBy w' none) (hB : B ≤ w.heap.size) : Below B w w' := Ty.below_by hg hB (by intro k hk; cases hk)
theorem Ty.below_at {w w' : World} {B b : Nat} (hg : w.grownBy w' (some b)) (hB : B ≤ w.heap.size) (hb : B ≤ b) : Below B w w' := Ty.below_by hg hB (by intro k hk; cases hk; exact hb)
end Go.Proofs.YtfjhffldhpcdmaaDoor

namespace Go.Proofs.YtfjhffldhpcdmaaDoor
open Go.RowKit
/-- So far: k bytes of the number are still to be written, of size sz. -/
def Ty.RMid (base n sz k : Nat) (wr : World) (v : Value) : Prop :=
  (k = sz ∧ Ty.Buf base wr v []) ∨ (k < sz ∧ ∃ done, Ty.encU n = done ++ Ty.low k n ∧ done.length + k ≤ 9 ∧ Ty.Buf base wr v done)
theorem Ty.Buf.base {base : Nat} {w : World} {v : Value} {bs : List UInt8} (h : Ty.Buf base w v bs) : ∀ k, v.ownBlock = some k → base ≤ k := fun k hk => (h.lt k hk).1
/-- A string that was made anew. -/
def Ty.Str (w : World) (bs : List UInt8) (e : Ending) (w' : World) : Prop := e = .returned (.string (Ty.S bs)) ∧ Below w.heap.size w w'
theorem Ty.RMid.first {base n sz k : Nat} {w1 : World} {v1 : Value} (hk : k = Ty.after (Ty.form n)) (hs : sz = k + 1) {X : Int} (hX : X = ((Ty.head n).toNat : Int)) (h1 : ∀ u : UInt8, X = (u.toNat : Int) → Ty.Buf base w1 v1 ([] ++ [u])) : Ty.RMid base n sz k w1 v1 :=
  .inr ⟨by omega, [Ty.head n], by rw [hk]; exact Ty.encU_split n, by have := Ty.after_le n; simp; omega, h1 _ hX⟩
theorem Ty.RMid.next {base n sz k : Nat} {done : List UInt8} {w1 : World} {v1 : Value} (hd : Ty.encU n = done ++ Ty.low (k + 1) n) (hl : done.length + (k + 1) ≤ 9) (hk : k + 1 < sz)
    (h1 : ∀ u : UInt8, ((n : Int) / 2 ^ (8 * k) % 256) = (u.toNat : Int) → Ty.Buf base w1 v1 (done ++ [u])) : Ty.RMid base n sz k w1 v1 :=
  .inr ⟨by omega, done ++ [UInt8.ofNat (n / 256 ^ k % 256)], by rw [hd, Ty.low_succ]; simp, by simp; omega, h1 _ (Ty.low_byte n k)⟩
theorem Ty.rhead0 (n : Nat) (h : Ty.form n = 0) : (n : Int) % 256 = ((Ty.head n).toNat : Int) := by
  have := (Ty.head_is n).1
  have hb := Ty.form_is n
  rw [h] at this; simp [Ty.after] at this; omega
theorem Ty.rhead1 (n : Nat) (h : Ty.form n = 1) : ((n : Int) / 256 + 64) % 256 = ((Ty.head n).toNat : Int) := by
  have := (Ty.head_is n).1
  have hb := Ty.form_is n
  rw [h] at this; simp [Ty.after] at this; omega
theorem Ty.rhead2 (n : Nat) (h : Ty.form n = 2) : ((n : Int) / 16777216 + 128) % 256 = ((Ty.head n).toNat : Int) := by
  have := (Ty.head_is n).1
  have hb := Ty.form_is n
  rw [h] at this; simp [Ty.after] at this; omega
theorem Ty.rhead3 (n : Nat) (h : Ty.form n = 3) : (192 : Int) = ((Ty.head n).toNat : Int) := by
  have := (Ty.head_is n).1
  rw [h] at this; simp at this; omega
theorem Ty.fw_neg {n : Int} (h : Ty.I64 n) (h0 : n < 0) : IntKind.u64.wrap (IntKind.u64.wrap (2 * IntKind.u64.wrap (wrap64 (-wrap64 (n + 1)))) + 1) = Ty.zig n := by
  unfold Ty.I64 at h; unfold Ty.zig; simp only [IntKind.wrap_u64]; unfold wrap64; rw [if_neg (by omega)]; omega
theorem Ty.fw_pos {n : Int} (h : Ty.I64 n) (h0 : 0 ≤ n) : IntKind.u64.wrap (2 * IntKind.u64.wrap n) = Ty.zig n := by
  unfold Ty.I64 at h; unfold Ty.zig; simp only [IntKind.wrap_u64]; rw [if_pos (by omega)]; omega
end Go.Proofs.YtfjhffldhpcdmaaDoor

namespace Go.Proofs.YtfjhffldhpcdmaaDoor
open Go.RowKit
theorem Ty.S_beq (a b : List UInt8) : ((Ty.S a).toList == (Ty.S b).toList) = (a == b) := by rw [ByteArray.toList_eq, ByteArray.toList_eq]; rfl
theorem Ty.S_less (a b : List UInt8) : Op.bytesLess (Ty.S a).toList (Ty.S b).toList = Op.bytesLess a b := by rw [ByteArray.toList_eq, ByteArray.toList_eq]; rfl
/-- What the last test of the law comes to, way by way. -/
theorem Ty.order_ways (x y : Int) (hx : 0 ≤ x) (hy : 0 ≤ y) (ux : Ty.U64 x.toNat) (uy : Ty.U64 y.toNat) :
    (x = y) ∨ ((x == y) = false ∧ ((Ty.S (Ty.encU x.toNat)).toList == (Ty.S (Ty.encU y.toNat)).toList) = false ∧ y ≤ x) ∨
    ((x == y) = false ∧ ((Ty.S (Ty.encU x.toNat)).toList == (Ty.S (Ty.encU y.toNat)).toList) = false ∧ ¬ y ≤ x ∧ ((Ty.S (Ty.encU x.toNat)).size : Int) < ((Ty.S (Ty.encU y.toNat)).size : Int)) ∨
    ((x == y) = false ∧ ((Ty.S (Ty.encU x.toNat)).toList == (Ty.S (Ty.encU y.toNat)).toList) = false ∧ ¬ y ≤ x ∧ ¬ ((Ty.S (Ty.encU x.toNat)).size : Int) < ((Ty.S (Ty.encU y.toNat)).size : Int) ∧ (((Ty.S (Ty.encU x.toNat)).size : Int) == ((Ty.S (Ty.encU y.toNat)).size : Int)) = true ∧ Op.bytesLess (Ty.S (Ty.encU x.toNat)).toList (Ty.S (Ty.encU y.toNat)).toList = true) := by
  simp only [Ty.size_S, Ty.S_less, Ty.S_beq]
  rcases Int.lt_trichotomy x y with h | h | h
  · right; right
    have ho := Ty.encU_order x.toNat y.toNat ux uy (by omega)
    have e1 : (x == y) = false := by rw [beq_eq_false_iff_ne]; omega
    have e2 : (Ty.encU x.toNat == Ty.encU y.toNat) = false := by rw [beq_eq_false_iff_ne]; exact ho.1
    rcases ho.2 with h1 | ⟨h1, h2⟩
    · left; exact ⟨e1, e2, by omega, by omega⟩
    · right; exact ⟨e1, e2, by omega, by omega, by rw [beq_iff_eq]; omega, h2⟩
  · exact .inl h
  · right; left
    have ho := Ty.encU_order y.toNat x.toNat uy ux (by omega)
    exact ⟨by rw [beq_eq_false_iff_ne]; omega, by rw [beq_eq_false_iff_ne]; exact fun e => ho.1 e.symm, by omega⟩
end Go.Proofs.YtfjhffldhpcdmaaDoor

namespace Go.Proofs.YtfjhffldhpcdmaaDoor
open Go.RowKit
theorem Ty.cut_in (cut : Int) (m : Nat) (h : 0 < m) (hm : m ≤ 140737488355328) : 0 ≤ wrap64 ((IntKind.u64.wrap cut).tmod (m : Int)) ∧ wrap64 ((IntKind.u64.wrap cut).tmod (m : Int)) < (m : Int) := by
  have h0 : 0 ≤ IntKind.u64.wrap cut := by rw [IntKind.wrap_u64]; omega
  rw [Int.tmod_eq_emod_of_nonneg h0]
  have h1 := Int.emod_nonneg (IntKind.u64.wrap cut) (show (m : Int) ≠ 0 by omega)
  have h2 := Int.emod_lt_of_pos (IntKind.u64.wrap cut) (show (0 : Int) < m by omega)
  rw [IntWalk.wrap64_in _ (by omega)]
  exact ⟨h1, h2⟩
theorem Ty.extract0 (l : List UInt8) (k : Nat) : (Ty.S l).extract 0 k = Ty.S (l.take k) := by rw [Ty.extract_S, Ty.data_S]; simp
theorem Ty.txt_prefix (s : List UInt8) (hs : Ty.U64 s.length) (k : Nat) (hk : k < (Ty.encU s.length ++ s).length) : Ty.txt ((Ty.encU s.length ++ s).take k) (s.length : Int) = ([], 0, 2) := by
  rw [List.length_append] at hk
  by_cases h : k < (Ty.encU s.length).length
  · rw [List.take_append_of_le_length (by omega)]
    have e := Ty.num_prefix s.length hs k h
    rw [Ty.txt_bad (by rw [e]; decide), e]
  · rw [List.take_append]
    rw [List.take_of_length_le (by omega)]
    have e := Ty.num_encU s.length hs (s.take (k - (Ty.encU s.length).length))
    rw [Ty.txt_short (by rw [e]) (by rw [e]; simp) (by rw [e]; simp only [List.length_append, List.length_take]; omega)]
end Go.Proofs.YtfjhffldhpcdmaaDoor

namespace Go.Proofs.YtfjhffldhpcdmaaDoor
open Go.RowKit
theorem Ty.rdU_of {l : List UInt8} {n sz e : Nat} (h : Ty.num l = (n, sz, e)) : Ty.rdU l 0 = (n, l.drop sz, e) := by unfold Ty.rdU; rw [if_neg (by omega), h]
theorem Ty.rdT_of {l t : List UInt8} {m : Int} {sz e : Nat} (h : Ty.txt l m = (t, sz, e)) : Ty.rdT m l 0 = (t, l.drop sz, e) := by unfold Ty.rdT; rw [if_neg (by omega), h]
theorem Ty.txt_only (l : List UInt8) (m : Int) (h : (Ty.txt l m).2.2 = 0) : Ty.encU (Ty.txt l m).1.length ++ (Ty.txt l m).1 = l.take (Ty.txt l m).2.1 := by
  unfold Ty.txt at h ⊢
  split at h
  · rename_i h1; exact absurd h h1
  · rename_i h1
    rw [if_neg h1]
    split at h
    · cases h
    · rename_i h2
      rw [if_neg h2]
      split at h
      · cases h
      · rename_i h3
        rw [if_neg h3]
        have e := Ty.encU_num l (by omega)
        have hl : ((l.drop (Ty.num l).2.1).take (Ty.num l).1).length = (Ty.num l).1 := by rw [List.length_take, List.length_drop]; omega
        show Ty.encU ((l.drop (Ty.num l).2.1).take (Ty.num l).1).length ++ _ = l.take ((Ty.num l).2.1 + (Ty.num l).1)
        rw [hl, e.1, List.take_add]
theorem Ty.txt_len (l : List UInt8) (m : Int) : (Ty.txt l m).1.length ≤ l.length := by
  unfold Ty.txt
  repeat' split
  all_goals simp
  all_goals omega
/-- The bytes that a reading went past, as the laws cut them out: their end is m. -/
theorem Ty.past (l x : List UInt8) (sz : Nat) (hz : sz ≤ l.length) (hs : l.length ≤ 140737488351232) (hx : x = l.take sz) : ∃ k m : Int, k = ((l.drop sz).length : Int) ∧ 0 ≤ k ∧ k ≤ ((Ty.S l).size : Int) ∧ IntKind.i64.wrap (((Ty.S l).size : Int) - k) = m ∧ 0 ≤ m ∧ m ≤ ((Ty.S l).size : Int) ∧ ((Ty.S x).toList == ((Ty.S l).extract 0 m.toNat).toList) = true := by
  refine ⟨_, (sz : Int), rfl, by omega, by rw [List.length_drop, Ty.size_S]; omega, ?_, by omega, by rw [Ty.size_S]; omega, ?_⟩
  · rw [IntWalk.i64_in _ (by rw [List.length_drop, Ty.size_S]; omega), List.length_drop, Ty.size_S]; omega
  · rw [Ty.extract0, Ty.S_beq, hx]; simp
end Go.Proofs.YtfjhffldhpcdmaaDoor

namespace Go.Proofs.YtfjhffldhpcdmaaDoor
open Go.RowKit
end Go.Proofs.YtfjhffldhpcdmaaDoor

namespace Go.Proofs.YtfjhffldhpcdmaaDoor
open Go.RowKit
theorem Ty.by_drewN (w : World) (n : Nat) (r : Option Nat) : w.grownBy (w.drewN n) r := ⟨rfl, rfl, rfl, Nat.le_refl _, fun _ _ _ => rfl⟩
theorem Ty.by_then {w w' : World} {r : Option Nat} (h : w.grownBy w' r) (n : Nat) : w.grownBy (w'.drewN n) r := Ty.by_trans h (Ty.by_drewN w' n r)
theorem Ty.by_below {w w' : World} (h : Below w.heap.size w w') : w.grownBy w' none := ⟨h.os, h.tape, h.output, h.size, fun k hk _ => h.block k hk⟩
theorem Ty.at_drop (s : ByteArray) (a k : Nat) (h : a + k < s.size) : s[a + k] = (s.data.toList.drop a).getD k 0 := by
  rw [Ty.at_getD s (a + k) h, List.getD, List.getD, List.getElem?_drop]
theorem Ty.len_drop (s : ByteArray) (a : Nat) : (s.data.toList.drop a).length = s.size - a := by rw [List.length_drop, Ty.length_data]
theorem Ty.rstep (l : List UInt8) (b : UInt8) (k : Nat) (hk : 1 ≤ k) (hp : Ty.pv l k < 72057594037927936) (hb : b = l.getD k 0) :
    IntKind.u64.wrap (IntKind.u64.wrap (256 * (Ty.pv l k : Int)) + IntKind.u64.wrap (b.toNat : Int)) = (Ty.pv l (k + 1) : Int) := by
  have h2 := b.toNat_lt
  rw [Ty.wrapu64 (256 * (Ty.pv l k : Int)) (by omega) (by omega), Ty.wrapu64 (b.toNat : Int) (by omega) (by omega), Ty.wrapu64 _ (by omega) (by omega), Ty.pv_succ l k hk, ← hb]
  omega
theorem Ty.len_small (n f : Nat) (hf : f ≤ 3) (h : n < Ty.small f) : (Ty.encU n).length ≠ 1 + Ty.after f := by
  rw [Ty.encU_length]
  have hb := Ty.form_is n
  rcases (by omega : f = 0 ∨ f = 1 ∨ f = 2 ∨ f = 3) with rfl | rfl | rfl | rfl
  · simp [Ty.small] at h
  · simp only [Ty.small] at h
    rw [show Ty.form n = 0 by omega]; decide
  · simp only [Ty.small] at h
    rcases (by omega : Ty.form n = 0 ∨ Ty.form n = 1) with e | e <;> rw [e] <;> decide
  · simp only [Ty.small] at h
    rcases (by omega : Ty.form n = 0 ∨ Ty.form n = 1 ∨ Ty.form n = 2) with e | e | e <;> rw [e] <;> decide
end Go.Proofs.YtfjhffldhpcdmaaDoor

namespace Go.Proofs.YtfjhffldhpcdmaaDoor
open Go.RowKit
theorem Ty.by_some {w w' : World} (h : w.grownBy w' none) (r : Nat) : w.grownBy w' (some r) := ⟨h.os, h.tape, h.output, h.size, fun k hk _ => h.block k hk (by intro e; cases e)⟩
theorem Ty.drop_at (s : ByteArray) (a k : Nat) : s.data.toList.drop (a + k) = (s.data.toList.drop a).drop k := by rw [List.drop_drop]
end Go.Proofs.YtfjhffldhpcdmaaDoor

namespace Go.Proofs.YtfjhffldhpcdmaaDoor
open Go.RowKit
end Go.Proofs.YtfjhffldhpcdmaaDoor

namespace Go.Proofs.YtfjhffldhpcdmaaDoor
open Go.RowKit
open Ty (encU num txt)
open Tx (restT)
open Ig (rest sg)
theorem Tx.tbuf_by {base r : Nat} {w w' : World} {v : Value} {bs : List UInt8} (h : Ty.Buf base w v bs) (hg : w.grownBy w' (some r)) (hb : r < base) : Ty.Buf base w' v bs :=
  World.ownsRow.kept h hg (.inr (fun e => by have := h.base r e; omega))
theorem Tx.tbuf_ne {base r : Nat} {w : World} {v : Value} {bs : List UInt8} (h : Ty.Buf base w v bs) (hb : r < base) : v.ownBlock ≠ some r := fun e => by have := h.base r e; omega
theorem Tx.grew_by {w w' : World} {v v' : Value} (h : Ty.Grew w w' v v') {w0 : World} {b : Nat} (g : w0.grownBy w (some b)) (hv : ∀ k, v.ownBlock = some k → w0.heap.size ≤ k) : w0.grownBy w' (some b) :=
  ⟨h.by_.os.trans g.os, h.by_.tape.trans g.tape, h.by_.output.trans g.output, Nat.le_trans g.size h.by_.size, fun k hk hn => (h.by_.block k (Nat.lt_of_lt_of_le hk g.size) (fun e => by have := hv k e.symm; omega)).trans (g.block k hk hn)⟩
theorem Tx.below_by {w w' w0 : World} (h : Below w.heap.size w w') {b : Nat} (g : w0.grownBy w (some b)) : w0.grownBy w' (some b) :=
  ⟨h.os.trans g.os, h.tape.trans g.tape, h.output.trans g.output, Nat.le_trans g.size h.size, fun k hk hn => (h.block k (Nat.lt_of_lt_of_le hk g.size)).trans (g.block k hk hn)⟩
end Go.Proofs.YtfjhffldhpcdmaaDoor

namespace Go.Proofs.YtfjhffldhpcdmaaDoor
open Go.RowKit
theorem Dd.fitE_put {s : List Kn.C} {r : List Kn.V} : Dd.fitE s ⟨false, r⟩ = Kn.fitsE s r := rfl
theorem Dd.fitE_bad {s : List Kn.C} {r : List Kn.V} (h : Kn.right s = false) : Dd.fitE s ⟨true, r⟩ = 4 := by
  unfold Dd.fitE
  rw [if_pos rfl, if_neg (by rw [h]; decide)]
theorem Dd.fitE_len {s : List Kn.C} {r : List Kn.V} (h : Kn.right s = true) (hn : r.length ≠ 1) : Dd.fitE s ⟨true, r⟩ = 7 := by
  unfold Dd.fitE
  rw [if_pos rfl, if_pos h]
  match r, hn with
  | [], _ => rfl
  | [_], hn => exact absurd rfl hn
  | _ :: _ :: _, _ => rfl
theorem Dd.fitE_key {s : List Kn.C} {k : Kn.V} (h : Kn.right s = true) : Dd.fitE s ⟨true, [k]⟩ = Kn.keyE s k := by
  unfold Dd.fitE
  rw [if_pos rfl, if_pos h]
/-- Two deeds are equal in every field. -/
def Dd.same (a b : Dd.D) : Bool := (a.gone == b.gone) && Kn.sameR a.row b.row
set_option maxHeartbeats 2000000 in
set_option maxRecDepth 100000 in
/-- SAME, as the document has it. -/
theorem Dd.rsame_c (u v : Value) (a b : Dd.D) (w : World) (hu : Kn.Vals w u a.row) (hv : Kn.Vals w v b.row) :
    Calls Tryd.prog 19 #[.agg #[.bool a.gone, u], .agg #[.bool b.gone, v]] w fun e w' => e = .returned (.bool (Dd.same a b)) ∧ Below w.heap.size w w' := by
  obtain ⟨ga, ra⟩ := a
  obtain ⟨gb, rb⟩ := b
  simp only at hu hv ⊢
  unfold Dd.same
  simp only
  have hG0 : Below w.heap.size w ((w.alloc (.cells #[.bool ga, u] 37)).alloc (.cells #[.bool gb, v] 37)) := ((Below.refl _ w).alloc (Nat.le_refl _) _).alloc (by simp) _
  have hb := (Below.refl _ (w.alloc (.cells #[.bool ga, u] 37))).alloc (Nat.le_refl _) (.cells #[.bool gb, v] 37)
  have x0 := (hb.cell (p := ⟨w.heap.size, 0, none⟩) (by simp)).trans (Kn.cell_new w #[.bool ga, u] 37 0 _ rfl)
  have x1 := (hb.cell (p := ⟨w.heap.size, 1, none⟩) (by simp)).trans (Kn.cell_new w #[.bool ga, u] 37 1 _ rfl)
  have y0 := Kn.cell_new (w.alloc (.cells #[.bool ga, u] 37)) #[.bool gb, v] 37 0 _ rfl
  have y1 := Kn.cell_new (w.alloc (.cells #[.bool ga, u] 37)) #[.bool gb, v] 37 1 _ rfl
  rw [World.size_alloc] at y0 y1
  simp only [List.getElem_toArray, List.getElem_cons_zero, List.getElem_cons_succ] at x0 x1 y0 y1
  have cs := Kn.rsame_c u v ra rb _ (hu.later hG0) (hv.later hG0)
  have HX := Lib.hid (And.intro (And.intro x0 x1) (And.intro y0 y1))
  have HG0 := Lib.hid hG0
  generalize Kn.sameR ra rb = S at cs ⊢
  clear hG0 hb x0 x1 y0 y1 hu hv
  cases ga <;> cases gb
  all_goals
    go_enter Tryd.func19, Tryd.ntmps19
    go_wp2_with fail
  · generalize World.alloc _ _ = wo at HX HG0 cs ⊢
    obtain ⟨⟨x0, x1⟩, y0, y1⟩ := HX.out
    go_wp2_with fail
    with_reducible refine cs.mono ?_
    rintro e w1 ⟨rfl, n, h1⟩
    subst w1
    go_wp2
    go_ret
    exact ⟨by simp, Kn.below_drewN HG0.out n⟩
  · generalize World.alloc _ _ = wo at HX HG0 cs ⊢
    obtain ⟨⟨x0, x1⟩, y0, y1⟩ := HX.out
    go_wp2
    go_ret
    exact ⟨by simp, HG0.out⟩
  · generalize World.alloc _ _ = wo at HX HG0 cs ⊢
    obtain ⟨⟨x0, x1⟩, y0, y1⟩ := HX.out
    go_wp2
    go_ret
    exact ⟨by simp, HG0.out⟩
  · generalize World.alloc _ _ = wo at HX HG0 cs ⊢
    obtain ⟨⟨x0, x1⟩, y0, y1⟩ := HX.out
    go_wp2_with fail
    with_reducible refine cs.mono ?_
    rintro e w1 ⟨rfl, n, h1⟩
    subst w1
    go_wp2
    go_ret
    exact ⟨by simp, Kn.below_drewN HG0.out n⟩
end Go.Proofs.YtfjhffldhpcdmaaDoor

namespace Go.Proofs.YtfjhffldhpcdmaaDoor
open Go.RowKit Go.ChangeShapes Go.WideShapes Go.ChangeAt Go.Deep
/-- A row that came in; of an empty one nothing is said but that it is a slice. -/
def Sk.Got (w : World) (v : Value) (l : List Kn.V) : Prop := ∃ a c, v = .slice a l.length c ∧ (l ≠ [] → Sk.In w v l)
theorem Sk.Got.later {w w' : World} {v : Value} {l : List Kn.V} (h : Sk.Got w v l) (g : Below w.heap.size w w') : Sk.Got w' v l := by
  obtain ⟨a, c, hv, h⟩ := h
  exact ⟨a, c, hv, fun hne => (h hne).later g⟩
theorem Sk.Got.vals {w : World} {v : Value} {l : List Kn.V} (h : Sk.Got w v l) : Kn.Vals w v l := by
  obtain ⟨a, c, hv, h⟩ := h
  by_cases hne : l = []
  · exact ⟨a, c, hv, .inl hne⟩
  · obtain ⟨a', c', hv', _, hl, h'⟩ := h hne
    rcases h' with ⟨_, _, h0⟩ | ⟨b, o, ha, hb, hc⟩
    · exact absurd h0 hne
    · exact ⟨a', c', hv', .inr ⟨b, o, ha, hb, by omega, hc⟩⟩
theorem Sk.Got.row {w : World} {v : Value} {l : List Kn.V} {B : Nat} (h : Sk.Got w v l) (hB : w.heap.size ≤ B) : Sk.Row B w v l := by
  obtain ⟨a, c, hv, h⟩ := h
  by_cases hne : l = []
  · exact ⟨a, c, hv, by simp [hne], fun x hx => by simp [hne] at hx, .inl hne⟩
  · obtain ⟨a', c', hv', hz, hl, h'⟩ := h hne
    rcases h' with ⟨_, _, h0⟩ | ⟨b, o, ha, hb, hc⟩
    · exact absurd h0 hne
    · exact ⟨a', c', hv', by omega, hz, .inr ⟨b, o, ha, by omega, hb, hc⟩⟩
/-- A slice of deeds that came in. -/
def Sk.Deeds (w : World) (v : Value) (L : List Sk.E) : Prop := ∃ a c, v = .slice a L.length c ∧ L.length ≤ c ∧ c ≤ 9223372036854775807 ∧ (∀ x ∈ L, Sk.Got w x.rv x.row) ∧
  (L = [] ∨ ∃ b o, a = some ⟨b, o, none⟩ ∧ b < w.heap.size ∧ ∀ i x, L[i]? = some x → w.cell? ⟨b, o + i * 2, none⟩ = some (.bool x.gone) ∧ w.cell? ⟨b, o + i * 2 + 1, none⟩ = some x.rv)
section
variable {H : Type} {enc : TypeId × Value → H} {W : World}
theorem Sk.wa {P : Program} {e : TypeId} {d : DataW H} {n : Nat} : ∀ {l : List (DataW H)}, d ∈ l → n ∈ d.weights P e → n ∈ DataW.weightsAll P e l
  | x :: l, hd, hn => by
    rw [DataW.weightsAll, List.mem_append]
    rcases List.mem_cons.1 hd with rfl | hd
    · exact .inl hn
    · exact .inr (Sk.wa hd hn)
set_option maxRecDepth 100000 in
theorem Sk.open_row {fuel : Nat} {c1 : Value} {z : DataW H × List MemPlace} (h : DataW.trod enc Tryd.prog W 0 (fun _ => true) true fuel 35 [c1] = some z)
    (hs : ∀ n ∈ z.1.weights Tryd.prog 35, n ≤ reachBytes) : ∃ l : List Kn.V, Sk.Got W c1 l := by
  have hC : Tryd.prog.cellsOf 25 = 3 := by kernel_rfl
  have hB : Tryd.prog.bytesOf 25 = 32 := by kernel_rfl
  rcases open_slice Tryd.underlying35 h with ⟨hcs, hx⟩ | ⟨a, len, cap, m, n, D, Pl, hcs, _, hl, hm, hmm, hx, hi⟩
  · obtain rfl : c1 = .slice none 0 0 := by simpa using hcs
    exact ⟨[], none, 0, rfl, fun h => absurd rfl h⟩
  · obtain rfl : c1 = .slice (some a) len cap := by simpa using hcs
    simp only [if_true] at hmm
    by_cases hz : len = 0
    · subst hz
      exact ⟨[], some a, cap, rfl, fun h => absurd rfl h⟩
    · have hz1 : z.1 = .slice ((List.range len).map D) ((List.range (m - len)).map fun j => D (len + j)) := by rw [hx]
      rw [hz1] at hs
      simp only [DataW.weights, Tryd.underlying35, List.mem_cons, List.mem_append] at hs
      have hcap := hs _ (.inl rfl)
      simp only [List.length_map, List.length_range, hB, reachBytes] at hcap
      have hstr : ∀ i, i < len → ∀ q, q ∈ (D i).weights Tryd.prog 25 → q ≤ reachBytes := fun i hil q hq =>
        hs q (.inr (.inl (Sk.wa (List.mem_map.2 ⟨i, List.mem_range.2 hil, rfl⟩) hq)))
      rw [hC] at hi
      have hone : ∀ i, i < len → ∃ x : Kn.V, (W.cell? (a.add (i * 3)) = some (.bool x.null) ∧ W.cell? (a.add (i * 3 + 1)) = some (.int .i64 x.n) ∧ W.cell? (a.add (i * 3 + 2)) = some (.string x.s)) ∧ Kn.Z x := fun i hil => by
        obtain ⟨cs', hc, ht⟩ := hi i (by omega)
        obtain ⟨x, rfl, hd⟩ := Kn.open_cells ht
        obtain ⟨_, _, hat⟩ := World.cells?_some hc
        have a0 := hat 0 (by omega)
        have a1 := hat 1 (by omega)
        have a2 := hat 2 (by omega)
        rw [add_add] at a0 a1 a2
        refine ⟨x, ⟨a0, a1, a2⟩, ?_⟩
        have h1 := hstr i hil x.s.size (by
          rw [show D i = Kn.rd x from hd]
          unfold Kn.rd
          simp only [DataW.weights, Tryd.underlying25]
          show x.s.size ∈ DataW.weightsEach Tryd.prog [4, 2, 9] [.lit (.bool x.null), .lit (.int .i64 x.n), .lit (.string x.s.data.toList)]
          simp [DataW.weightsEach, DataW.weights])
        unfold reachBytes at h1
        unfold Kn.Z
        omega
      obtain ⟨b, off, spot⟩ := a
      have hspot : spot = none := by
        obtain ⟨x, ⟨h0, _⟩, _⟩ := hone 0 (by omega)
        simpa [Addr.add] using World.cell?_spot h0
      subst hspot
      have hlt : b < W.heap.size := by
        obtain ⟨x, ⟨h0, _⟩, _⟩ := hone 0 (by omega)
        have := World.block_lt_of_cell? W _ h0
        simpa [Addr.add] using this
      have hch : ∃ f : Nat → Kn.V, ∀ i, i < len → Kn.At W b (off + i * 3) (f i) ∧ Kn.Z (f i) := by
        have hone' : ∀ i, i < len → ∃ x : Kn.V, Kn.At W b (off + i * 3) x ∧ Kn.Z x := fun i hil => by
          obtain ⟨x, ⟨h0, h1, h2⟩, h3⟩ := hone i hil
          rw [add_plain] at h0 h1 h2
          rw [← Nat.add_assoc] at h1 h2
          exact ⟨x, ⟨h0, h1, h2⟩, h3⟩
        refine ⟨fun i => if hil : i < len then (hone' i hil).choose else ⟨false, 0, ⟨#[]⟩⟩, fun i hil => ?_⟩
        have hs := (hone' i hil).choose_spec
        simp only [dif_pos hil]
        exact hs
      obtain ⟨f, hf'⟩ := hch
      have hlen : ((List.range len).map f).length = len := by simp
      refine ⟨(List.range len).map f, some ⟨b, off, none⟩, cap, by rw [hlen], fun _ => ⟨_, cap, by rw [hlen], fun x hx => ?_, by rw [hlen]; omega, .inr ⟨b, off, rfl, hlt, fun i x hix => ?_⟩⟩⟩
      · obtain ⟨i, hi, rfl⟩ := List.mem_map.1 hx
        exact (hf' i (List.mem_range.1 hi)).2
      · rw [List.getElem?_map, Option.map_eq_some_iff] at hix
        obtain ⟨i', hi', rfl⟩ := hix
        obtain ⟨hil, rfl⟩ := List.getElem?_eq_some_iff.1 hi'
        rw [List.getElem_range]
        rw [List.length_range] at hil
        exact (hf' i hil).1
set_option maxRecDepth 100000 in
theorem Sk.open_deed_cells {fuel : Nat} {cs : List Value} {z : DataW H × List MemPlace} (h : DataW.trod enc Tryd.prog W 0 (fun _ => true) true fuel 37 cs = some z)
    (hs : ∀ n ∈ z.1.weights Tryd.prog 37, n ≤ reachBytes) : ∃ x : Sk.E, cs = [.bool x.gone, x.rv] ∧ Sk.Got W x.rv x.row := by
  obtain ⟨xs, f', _, hx, hcl, hxl, hg⟩ := DataW.trod_struct Tryd.underlying37 h
  have hC : Tryd.prog.cellsOf 37 = 2 := by kernel_rfl
  have i3 : Tryd.prog.cellsOf 4 = 1 := by kernel_rfl
  have ir : Tryd.prog.cellsOf 35 = 1 := by kernel_rfl
  rw [hC] at hcl
  match cs, hcl, xs, hxl with
  | [c0, c1], _, [y0, y1], _ =>
    have g0 : DataW.trod enc Tryd.prog W 0 (fun _ => true) true f' 4 ((List.drop 0 [c0, c1]).take (Tryd.prog.cellsOf 4)) = some y0 := hg 0 _ rfl
    have g1 : DataW.trod enc Tryd.prog W 0 (fun _ => true) true f' 35 ((List.drop 1 [c0, c1]).take (Tryd.prog.cellsOf 35)) = some y1 := hg 1 _ rfl
    rw [i3] at g0
    rw [ir] at g1
    obtain ⟨k, e0, r0⟩ := DataW.trod_bool Tryd.underlying4 (show DataW.trod enc Tryd.prog W 0 (fun _ => true) true f' 4 [c0] = some y0 from g0)
    have g1 : DataW.trod enc Tryd.prog W 0 (fun _ => true) true f' 35 [c1] = some y1 := g1
    simp only [List.cons.injEq, and_true] at e0
    subst e0
    obtain ⟨l, hl⟩ := Sk.open_row g1 fun n hn => hs n (by
      have hz : z.1 = .agg [y0.1, y1.1] := by rw [hx]; rfl
      rw [hz]
      simp only [DataW.weights, Tryd.underlying37]
      show n ∈ DataW.weightsEach Tryd.prog [4, 35] [y0.1, y1.1]
      simp only [DataW.weightsEach, List.append_nil, List.mem_append]
      exact .inr hn)
    exact ⟨⟨k, c1, l⟩, rfl, hl⟩
theorem Sk.fits {ts : List TypeId} {ds : List (DataW H)} (h : (DataW.weightsEach Tryd.prog ts ds).all (· ≤ reachBytes) = true) {j : Nat} {t : TypeId} {d : DataW H} (ht : ts[j]? = some t) (hd : ds[j]? = some d) : ∀ n ∈ d.weights Tryd.prog t, n ≤ reachBytes :=
  fun n hn => of_decide_eq_true (List.all_eq_true.1 h n (DataW.weights_mem_each ht hd _ hn))
set_option maxRecDepth 100000 in
/-- A deed, handed over. -/
theorem Sk.open_deed {ts : List TypeId} {ds : List (DataW H)} (hsz : (DataW.weightsEach Tryd.prog ts ds).all (· ≤ reachBytes) = true) {j : Nat} {v : Value} {d : DataW H} {ps : List MemPlace} {r : Reach} {b0 : Nat}
    (ht : ts[j]? = some 37) (hd : ds[j]? = some d) (hv : Value.okWide Tryd.prog W r b0 37 v) (h : DataW.Trod enc Tryd.prog W 0 (fun _ => true) true 37 v d ps) :
    ∃ x : Sk.E, v = .agg #[.bool x.gone, x.rv] ∧ Sk.Got W x.rv x.row := by
  obtain ⟨cs0, rfl, hcsz⟩ := okWide_struct Tryd.underlying37 hv
  obtain ⟨fuel, hf⟩ := h
  obtain ⟨x, hx, hg⟩ := Sk.open_deed_cells (show DataW.trod enc Tryd.prog W 0 (fun _ => true) true fuel 37 cs0.toList = some (d, ps) from hf) (Sk.fits hsz ht hd)
  exact ⟨x, by rw [← Array.toArray_toList (xs := cs0), hx], hg⟩
set_option maxRecDepth 100000 in
/-- A slice of deeds, handed over. -/
theorem Sk.open_deeds {ts : List TypeId} {ds : List (DataW H)} (hsz : (DataW.weightsEach Tryd.prog ts ds).all (· ≤ reachBytes) = true) {j : Nat} {v : Value} {d : DataW H} {ps : List MemPlace} {r : Reach} {b0 : Nat}
    (ht : ts[j]? = some 23) (hd : ds[j]? = some d) (hv : Value.okWide Tryd.prog W r b0 23 v) (h : DataW.Trod enc Tryd.prog W 0 (fun _ => true) true 23 v d ps) :
    ∃ L : List Sk.E, Sk.Deeds W v L := by
  obtain ⟨a0, len0, cap0, rfl⟩ := okWide_slice Tryd.underlying23 hv
  obtain ⟨fuel, hf⟩ := h
  have hs := Sk.fits hsz ht hd
  have hC : Tryd.prog.cellsOf 37 = 2 := by kernel_rfl
  rcases open_slice Tryd.underlying23 hf with ⟨hcs, hx⟩ | ⟨a, len, cap, m, n, D, Pl, hcs, _, hl, hm, hmm, hx, hi⟩
  · have hv : Value.slice a0 len0 cap0 = .slice none 0 0 := by simpa [Value.cells] using hcs
    exact ⟨[], none, 0, hv, Nat.le_refl _, by decide, (fun x hx => by cases hx), .inl rfl⟩
  · have hv : Value.slice a0 len0 cap0 = .slice (some a) len cap := by simpa [Value.cells] using hcs
    rw [hv]
    simp only [if_true] at hmm
    have hm' : cap ≤ 9223372036854775807 := by unfold maxLen at hm; omega
    by_cases hz : len = 0
    · subst hz
      exact ⟨[], some a, cap, rfl, Nat.zero_le _, hm', (fun x hx => by cases hx), .inl rfl⟩
    · have hz1 : d = .slice ((List.range len).map D) ((List.range (m - len)).map fun j => D (len + j)) := by
        have := congrArg Prod.fst hx
        exact this
      rw [hz1] at hs
      simp only [DataW.weights, Tryd.underlying23, List.mem_cons, List.mem_append] at hs
      have hstr : ∀ i, i < len → ∀ q, q ∈ (D i).weights Tryd.prog 37 → q ≤ reachBytes := fun i hil q hq =>
        hs q (.inr (.inl (Sk.wa (List.mem_map.2 ⟨i, List.mem_range.2 hil, rfl⟩) hq)))
      rw [hC] at hi
      have hone : ∀ i, i < len → ∃ x : Sk.E, (W.cell? (a.add (i * 2)) = some (.bool x.gone) ∧ W.cell? (a.add (i * 2 + 1)) = some x.rv) ∧ Sk.Got W x.rv x.row := fun i hil => by
        obtain ⟨cs', hc, ht⟩ := hi i (by omega)
        obtain ⟨x, rfl, hg⟩ := Sk.open_deed_cells ht (hstr i hil)
        obtain ⟨_, _, hat⟩ := World.cells?_some hc
        have a0 := hat 0 (by omega)
        have a1 := hat 1 (by omega)
        rw [add_add] at a0 a1
        exact ⟨x, ⟨a0, a1⟩, hg⟩
      obtain ⟨b, off, spot⟩ := a
      have hspot : spot = none := by
        obtain ⟨x, ⟨h0, _⟩, _⟩ := hone 0 (by omega)
        simpa [Addr.add] using World.cell?_spot h0
      subst hspot
      have hlt : b < W.heap.size := by
        obtain ⟨x, ⟨h0, _⟩, _⟩ := hone 0 (by omega)
        have := World.block_lt_of_cell? W _ h0
        simpa [Addr.add] using this
      have hch : ∃ f : Nat → Sk.E, ∀ i, i < len → (W.cell? ⟨b, off + i * 2, none⟩ = some (.bool (f i).gone) ∧ W.cell? ⟨b, off + i * 2 + 1, none⟩ = some (f i).rv) ∧ Sk.Got W (f i).rv (f i).row := by
        have hone' : ∀ i, i < len → ∃ x : Sk.E, (W.cell? ⟨b, off + i * 2, none⟩ = some (.bool x.gone) ∧ W.cell? ⟨b, off + i * 2 + 1, none⟩ = some x.rv) ∧ Sk.Got W x.rv x.row := fun i hil => by
          obtain ⟨x, ⟨h0, h1⟩, h3⟩ := hone i hil
          rw [add_plain] at h0 h1
          rw [← Nat.add_assoc] at h1
          exact ⟨x, ⟨h0, h1⟩, h3⟩
        refine ⟨fun i => if hil : i < len then (hone' i hil).choose else ⟨false, .slice none 0 0, []⟩, fun i hil => ?_⟩
        have hs := (hone' i hil).choose_spec
        simp only [dif_pos hil]
        exact hs
      obtain ⟨f, hf'⟩ := hch
      have hlen : ((List.range len).map f).length = len := by simp
      refine ⟨(List.range len).map f, some ⟨b, off, none⟩, cap, by rw [hlen], by rw [hlen]; exact hl, hm', fun x hx => ?_, .inr ⟨b, off, rfl, hlt, fun i x hix => ?_⟩⟩
      · obtain ⟨i, hi, rfl⟩ := List.mem_map.1 hx
        exact (hf' i (List.mem_range.1 hi)).2
      · rw [List.getElem?_map, Option.map_eq_some_iff] at hix
        obtain ⟨i', hi', rfl⟩ := hix
        obtain ⟨hil, rfl⟩ := List.getElem?_eq_some_iff.1 hi'
        rw [List.getElem_range]
        rw [List.length_range] at hil
        exact (hf' i hil).1
end
end Go.Proofs.YtfjhffldhpcdmaaDoor

namespace Go.Proofs.YtfjhffldhpcdmaaDoor
open Go Go.RowKit
set_option maxHeartbeats 4000000 in
set_option maxRecDepth 100000 in
theorem Sk.lawOwn0_w {w : World} (hT : Sk.Tab w) (gn : Bool) (a : Option Addr) (c : Nat) (v : Kn.V) :
    Calls Tryd.prog 7 #[.agg #[.bool gn, .slice a 0 c], v.val] w fun e w' => e = .returned (.bool true) ∧ Below w.heap.size w w' := by
  obtain ⟨wa, hwa⟩ : ∃ wa, wa = w.alloc (.cells #[.bool gn, .slice a 0 c] 37) := ⟨_, rfl⟩
  obtain ⟨wb, hwb⟩ : ∃ wb, wb = wa.alloc (.cells #[.bool v.null, .int .i64 v.n, .string v.s] 25) := ⟨_, rfl⟩
  have hsa : wa.heap.size = w.heap.size + 1 := by rw [hwa]; exact World.size_alloc ..
  have hba : Below w.heap.size w wa := by rw [hwa]; exact (Below.refl _ w).alloc (Nat.le_refl _) _
  have hbb : Below wa.heap.size wa wb := by rw [hwb]; exact (Below.refl _ wa).alloc (Nat.le_refl _) _
  have hb0 : Below w.heap.size w wb := hba.trans (hbb.mono (by omega))
  have hd : wa.heap[w.heap.size]? = some (.cells #[.bool gn, .slice a 0 c] 37 (0, 0)) := by rw [hwa]; exact heap_alloc_new w _
  have hsb : wb.heap.size = w.heap.size + 2 := by rw [hwb, World.size_alloc]; omega
  have HC : Hid (∀ W, Below wb.heap.size wb W → W.cell? ⟨w.heap.size, 1, none⟩ = some (.slice a 0 c) ∧ Below w.heap.size w W) := Lib.hid fun W g => by
    have h1 := (g.block w.heap.size (by omega)).trans ((hbb.block _ (by omega)).trans hd)
    exact ⟨by rw [cell_of_row _ _ _ _ _ _ h1]; rfl, hb0.trans (g.mono hb0.size)⟩
  have CL := Lib.hid (Sk.lives_c (hT.later hb0 hT.lt))
  have CL2 : Hid (∀ W, Below wb.heap.size wb W → _) := Lib.hid fun W g => Sk.lives_c (w := W) ((hT.later hb0 hT.lt).later g (hT.later hb0 hT.lt).lt)
  obtain ⟨vn, vi, vs⟩ := v
  unfold Kn.V.val
  clear hsa hba hbb hsb hb0 hd hT
  go_enter Tryd.func7, Tryd.ntmps7
  go_wp2_with fail
  rw [← hwa, ← hwb]
  clear hwa hwb
  with_reducible refine CL.out.mono ?_
  rintro e w1 ⟨rfl, g1⟩
  obtain ⟨d1, _⟩ := HC.out w1 g1
  have G1 := Lib.hid g1
  clear g1 CL
  go_wp2_with fail
  with_reducible refine (CL2.out w1 G1.out).mono ?_
  rintro e w2 ⟨rfl, g2⟩
  have HE := Lib.hid (HC.out w2 (G1.out.trans (g2.mono G1.out.size))).2
  clear g2 CL2 HC G1 d1
  go_wp2
  go_ret
  exact ⟨rfl, HE.out⟩
/-- What the law keeps: the deed and the value that came in, in boxes. -/
structure Sk.Ow (w : World) (gn : Bool) (b o n c : Nat) (l : List Kn.V) (v : Kn.V) (W : World) : Prop where
  bl : Below w.heap.size w W
  lt : w.heap.size + 1 < W.heap.size
  d : W.heap[w.heap.size]? = some (.cells #[.bool gn, .slice (some ⟨b, o, none⟩) n c] 37 (0, 0))
  v : W.heap[w.heap.size + 1]? = some (.cells #[.bool v.null, .int .i64 v.n, .string v.s] 25 (0, 0))
  tab : Sk.Tab W
  in_ : Sk.In W (.slice (some ⟨b, o, none⟩) n c) l
theorem Sk.Ow.later {w : World} {gn : Bool} {b o n c : Nat} {l : List Kn.V} {v : Kn.V} {W W' : World} (h : Sk.Ow w gn b o n c l v W) (g : Below W.heap.size W W') : Sk.Ow w gn b o n c l v W' :=
  ⟨h.bl.trans (g.mono h.bl.size), Nat.lt_of_lt_of_le h.lt g.size, (g.block _ (by have := h.lt; omega)).trans h.d, (g.block _ h.lt).trans h.v, h.tab.later g h.tab.lt, h.in_.later g⟩
theorem Sk.Ow.below {w : World} {gn : Bool} {b o n c : Nat} {l : List Kn.V} {v : Kn.V} {W W' : World} {B : Nat} (h : Sk.Ow w gn b o n c l v W) (hin : Sk.In w (.slice (some ⟨b, o, none⟩) n c) l) (hT : Sk.Tab w) (g : Below B W W') (hB : w.heap.size + 1 < B) : Sk.Ow w gn b o n c l v W' := by
  have hb : Below w.heap.size w W' := h.bl.trans (g.mono (by omega))
  exact ⟨hb, Nat.lt_of_lt_of_le h.lt g.size, (g.block _ (by omega)).trans h.d, (g.block _ (by omega)).trans h.v, hT.later hb hT.lt, hin.later hb⟩
theorem Sk.Ow.cells {w : World} {gn : Bool} {b o n c : Nat} {l r : List Kn.V} {k v : Kn.V} {W : World} (h : Sk.Ow w gn b o n c l v W) (hl : l = k :: r) :
    (W.cell? ⟨w.heap.size, 0, none⟩ = some (.bool gn) ∧ W.cell? ⟨w.heap.size, 1, none⟩ = some (.slice (some ⟨b, o, none⟩) n c)) ∧ Kn.At W (w.heap.size + 1) 0 v ∧ Kn.At W b o k := by
  refine ⟨⟨by rw [cell_of_row _ _ _ _ _ _ h.d]; rfl, by rw [cell_of_row _ _ _ _ _ _ h.d]; rfl⟩, ⟨by rw [cell_of_row _ _ _ _ _ _ h.v]; rfl, by rw [cell_of_row _ _ _ _ _ _ h.v]; rfl, by rw [cell_of_row _ _ _ _ _ _ h.v]; rfl⟩, ?_⟩
  obtain ⟨a, c', e, _, _, hh⟩ := h.in_
  simp only [Value.slice.injEq] at e
  obtain ⟨rfl, _, _⟩ := e
  rcases hh with ⟨e, _⟩ | ⟨b', o', e, _, hc⟩
  · cases e
  · simp only [Option.some.injEq, Addr.mk.injEq, and_true] at e
    obtain ⟨rfl, rfl⟩ := e
    have := hc 0 k (by rw [hl]; rfl)
    simpa using this
theorem Sk.In.vals {w : World} {v : Value} {l : List Kn.V} (h : Sk.In w v l) : Kn.Vals w v l := by
  obtain ⟨a, c, rfl, _, hl, h⟩ := h
  rcases h with ⟨_, _, rfl⟩ | ⟨b, o, rfl, hb, h⟩
  · exact ⟨a, c, rfl, .inl rfl⟩
  · exact ⟨_, c, rfl, .inr ⟨b, o, rfl, hb, by omega, h⟩⟩
theorem Sk.same_self (d : Dd.D) : Dd.same d d = true := by
  unfold Dd.same
  have h : Kn.sameR d.row d.row = true := by
    exact Kn.sameR_self _
  rw [h]
  simp
/-- The deed that the law hands over: a box, a row of its own. -/
structure Sk.Ob (w2 : World) (gn : Bool) (l : List Kn.V) (q gg cc : Nat) (W : World) : Prop where
  b : Below w2.heap.size w2 W
  hq : w2.heap.size ≤ q
  box : W.heap[q]? = some (.cells #[.bool gn, .slice (some ⟨gg, 0, none⟩) l.length cc] 37 (0, 0))
  rw : Sk.Rw w2.heap.size W (.slice (some ⟨gg, 0, none⟩) l.length cc) l
theorem Sk.Ob.new {w2 w4 : World} {gn : Bool} {l : List Kn.V} {gg cc : Nat} (h : Below w2.heap.size w2 w4) (hr : Sk.Rw w2.heap.size w4 (.slice (some ⟨gg, 0, none⟩) l.length cc) l) :
    Sk.Ob w2 gn l w4.heap.size gg cc (w4.alloc (.cells #[.bool gn, .slice (some ⟨gg, 0, none⟩) l.length cc] 37)) :=
  ⟨h.alloc h.size _, h.size, heap_alloc_new w4 _, hr.kept ((Below.refl _ w4).alloc (Nat.le_refl _) _)⟩
theorem Sk.Ob.set {w2 w4 : World} {gn : Bool} {l : List Kn.V} {q gg cc : Nat} {x y : Value} (h : Below w2.heap.size w2 w4) (hr : Sk.Rw w2.heap.size w4 (.slice (some ⟨gg, 0, none⟩) l.length cc) l) (hq : w2.heap.size ≤ q) (hb : w4.heap[q]? = some (.cells #[x, y] 37 (0, 0))) :
    Sk.Ob w2 gn l q gg cc ((w4.setCell ⟨q, 0, none⟩ (.bool gn)).setCell ⟨q, 1, none⟩ (.slice (some ⟨gg, 0, none⟩) l.length cc)) := by
  have hne : ∀ k, (Value.slice (some ⟨gg, 0, none⟩) l.length cc).ownBlock = some k → k ≠ q := fun k hk e => by
    obtain ⟨cs, hcs⟩ := hr.typed k hk
    rw [e, hb] at hcs
    simp only [Option.some.injEq, Obj.cells.injEq] at hcs
    exact absurd hcs.2.1 (by decide)
  refine ⟨Sk.put2 h hq _ _, hq, Sk.two_set _ _ hb, hr.same fun k hk => ?_⟩
  exact (Below.heap_setCell _ _ _ _ (hne k hk)).trans (Below.heap_setCell _ _ _ _ (hne k hk))
/-- A value stored into a row. -/
def Sk.st (w : World) (g i : Nat) (v : Kn.V) : World := ((w.setCell ⟨g, i, none⟩ (.bool v.null)).setCell ⟨g, i + 1, none⟩ (.int .i64 v.n)).setCell ⟨g, i + 2, none⟩ (.string v.s)
theorem Sk.st_size (w : World) (g i : Nat) (v : Kn.V) : (Sk.st w g i v).heap.size = w.heap.size := by simp [Sk.st, World.setCell]
theorem Sk.st_heap (w : World) (g i : Nat) (v : Kn.V) {b : Nat} (h : b ≠ g) : (Sk.st w g i v).heap[b]? = w.heap[b]? := by
  exact ((Below.heap_setCell _ ⟨g, i + 2, none⟩ _ b h).trans (Below.heap_setCell _ ⟨g, i + 1, none⟩ _ b h)).trans (Below.heap_setCell _ ⟨g, i, none⟩ _ b h)
theorem Sk.st_below {w : World} {B g : Nat} (h : B ≤ g) (i : Nat) (v : Kn.V) : Below B w (Sk.st w g i v) :=
  (((Below.refl B w).setCell (p := ⟨g, i, none⟩) h (.bool v.null)).setCell (p := ⟨g, i + 1, none⟩) h (.int .i64 v.n)).setCell (p := ⟨g, i + 2, none⟩) h (.string v.s)
theorem Sk.get_one (d : Dd.D) : Sk.get Sk.kd (Sk.put Sk.kd [] d) (Sk.kd d) = some d := by
  have h1 : Kn.cmp (Sk.kd d) (Sk.kd d) = 0 := Sk.cmp_self _
  have h2 : Sk.put Sk.kd [] d = [d] := rfl
  rw [h2]
  simp [Sk.get, Sk.at_, Sk.there, h1, List.takeWhile]
/-- What 'Get' tells of the one deed. -/
theorem Sk.PD.get1 {B : Nat} {S : Nat → Prop} {w : World} {p : Nat} {gn : Bool} {l r : List Kn.V} {k : Kn.V} (h : Sk.PD B S w p (Sk.put Sk.kd [] ⟨gn, l⟩)) (hl : l = k :: r) :
    Calls Tryd.prog 17 #[.pointer (some ⟨p, 0, none⟩), .agg #[.bool k.null, .int .i64 k.n, .string k.s]] w fun e w' => ∃ g c, e = .returned (.tuple #[.agg #[.bool gn, .slice (some ⟨g, 0, none⟩) l.length c], .bool true]) ∧ Sk.Rw w.heap.size w' (.slice (some ⟨g, 0, none⟩) l.length c) l ∧ w.heap.size ≤ g ∧ g < w'.heap.size ∧ Below w.heap.size w w' := by
  have := h.get k
  rw [show k = Sk.kd ⟨gn, l⟩ by rw [hl]; rfl, Sk.get_one] at this
  refine (show Calls _ _ _ _ _ from by rw [show k = Sk.kd ⟨gn, l⟩ by rw [hl]; rfl]; exact this).mono ?_
  rintro e w' ⟨u, rfl, hu, hb⟩
  rcases hu.form with ⟨_, e⟩ | ⟨g, c, rfl, _, _, h1, h2⟩
  · exact absurd e (by simp [hl])
  · exact ⟨g, c, rfl, hu, h1, h2, hb⟩
set_option maxHeartbeats 16000000 in
set_option maxRecDepth 100000 in
theorem Sk.lawOwn1_w {w : World} (hT : Sk.Tab w) (gn : Bool) (b o c : Nat) (l : List Kn.V) (v : Kn.V) (hin : Sk.In w (.slice (some ⟨b, o, none⟩) l.length c) l) (hne : l ≠ []) :
    Calls Tryd.prog 7 #[.agg #[.bool gn, .slice (some ⟨b, o, none⟩) l.length c], v.val] w fun e w' => e = .returned (.bool true) ∧ Below w.heap.size w w' := by
  obtain ⟨k, r, hkr⟩ : ∃ k r, l = k :: r := List.exists_cons_of_ne_nil hne
  obtain ⟨wb, hwb⟩ : ∃ wb, wb = (w.alloc (.cells #[.bool gn, .slice (some ⟨b, o, none⟩) l.length c] 37)).alloc (.cells #[.bool v.null, .int .i64 v.n, .string v.s] 25) := ⟨_, rfl⟩
  have hO : Sk.Ow w gn b o l.length c l v wb := by
    have hb : Below w.heap.size w wb := by rw [hwb]; exact ((Below.refl _ w).alloc (Nat.le_refl _) _).alloc (by simp) _
    refine ⟨hb, by rw [hwb]; simp, ?_, ?_, hT.later hb hT.lt, hin.later hb⟩
    · rw [hwb]
      exact (((Below.refl _ (w.alloc (.cells #[.bool gn, .slice (some ⟨b, o, none⟩) l.length c] 37))).alloc (Nat.le_refl _) _).block w.heap.size (by simp)).trans (heap_alloc_new w _)
    · rw [hwb]
      have := heap_alloc_new (w.alloc (.cells #[.bool gn, .slice (some ⟨b, o, none⟩) l.length c] 37)) (.cells #[.bool v.null, .int .i64 v.n, .string v.s] 25)
      rwa [World.size_alloc] at this
  have HO := Lib.hid hO
  have CL := Lib.hid (Sk.lives_c hO.tab)
  have HKR := Lib.hid hkr
  have HIN := Lib.hid hin
  have HTW := Lib.hid hT
  have hl0 : ((l.length : Int) == 0) = false := by rw [beq_eq_false_iff_ne, hkr]; simp; omega
  have hln : (0 : Int) < (l.length : Int) := by rw [hkr]; simp
  have hlm : l.length ≤ 4398046511104 := by obtain ⟨_, _, _, _, h, _⟩ := hin; exact h
  have hlmi : (l.length : Int) ≤ 4398046511104 := by omega
  have HLL : Hid (l.length ≤ 4398046511104 ∧ l ≠ []) := Lib.hid ⟨hlm, hne⟩
  clear hT hin hne hkr hO hlm
  obtain ⟨vn, vi, vs⟩ := v
  unfold Kn.V.val
  go_enter Tryd.func7, Tryd.ntmps7
  go_wp2_with fail
  rw [← hwb]
  clear hwb
  with_reducible refine CL.out.mono ?_
  rintro e w1 ⟨rfl, g1⟩
  have HO1 := Lib.hid (HO.out.later g1)
  obtain ⟨⟨d0, d1⟩, _⟩ := HO1.out.cells HKR.out
  have CN := Lib.hid (Sk.PD.new (B := w1.heap.size) (w := w1) (Nat.le_refl _) 3)
  clear g1 CL HO
  go_wp2_with fail
  with_reducible refine CN.out.mono ?_
  rintro e w2 ⟨rfl, h2, g2⟩
  have HO2 := Lib.hid (HO1.out.later g2)
  have H2 := Lib.hid h2
  have HS2 : Hid (w1.heap.size < w2.heap.size ∧ w.heap.size + 1 < w1.heap.size) := Lib.hid ⟨h2.at_p.2, HO1.out.lt⟩
  generalize w1.heap.size = p at H2 HS2 ⊢
  clear h2 g2 CN HO1 d0 d1
  obtain ⟨⟨d0, d1⟩, _⟩ := (HO2.out.later (Below.refl _ w2).drew).cells HKR.out
  have HD : Hid (∀ W, Below w2.heap.size w2 W → W.cell? ⟨w.heap.size, 0, none⟩ = some (.bool gn) ∧ W.cell? ⟨w.heap.size, 1, none⟩ = some (.slice (some ⟨b, o, none⟩) l.length c)) := Lib.hid fun W g => ((HO2.out.later g).cells HKR.out).1
  have HSRC : Hid (∀ W, Below w2.heap.size w2 W → Dk.Src Sk.ve W (.slice (some ⟨b, o, none⟩) l.length c) l) := Lib.hid fun W g => by
    obtain ⟨a', c', e, _, _, hh⟩ := (HO2.out.later g).in_
    simp only [Value.slice.injEq, true_and] at e
    obtain ⟨rfl, rfl⟩ := e
    rcases hh with ⟨e, _⟩ | ⟨b', o', e, _, hc⟩
    · cases e
    · simp only [Option.some.injEq, Addr.mk.injEq, and_true] at e
      obtain ⟨rfl, rfl⟩ := e
      exact .inr ⟨_, c, rfl, Dk.src_cells Sk.ve_len (by decide) fun i j x hx hj => by
        have := hc i x hx
        rcases (by omega : j = 0 ∨ j = 1 ∨ j = 2) with rfl | rfl | rfl
        · exact this.c0
        · exact this.c1
        · exact this.c2⟩
  go_upto_region 4 with (fail)
  go_cut [6] (fun s6 wx => ∃ q gg cc : Nat, s6 = .pointer (some ⟨q, 0, none⟩) ∧ Sk.Ob w2 gn l q gg cc wx)
  case first =>
    have ha : Below w2.heap.size w2 (w2.alloc (.cells #[.bool false, .slice none 0 0] 37)) := (Below.refl _ w2).alloc (Nat.le_refl _) _
    obtain ⟨e0, e1⟩ := HD.out _ ha
    have HA := Lib.hid ha.drew
    clear ha
    go_region_law (first
      | (refine Dk.step_appendB 35 _ 32 Tryd.underlying35 Cl.infoV rfl (by decide) Sk.ve_len Sk.ve_one l (show w2.heap.size ≤ w2.drew.heap.size from Nat.le_refl _) (Dk.Own.nil _ _) (by have := HLL.out.1; simp only [List.length_nil]; omega) (by have := HLL.out.1; simp only [List.length_nil]; omega) _ _ _ (by rfl) (by rfl) (by rfl) (by rfl) (HSRC.out w2.drew (Below.refl _ w2).drew) ?_; intro v4 w4 o4 g4
         have g5 : Below w2.heap.size w2 w4 := (Below.refl _ w2).drew.trans (g4.below (B := w2.heap.size) (Nat.le_refl _) (fun k hk => by cases hk))
         obtain ⟨e0, e1⟩ := HD.out w4 g5
         obtain ⟨gg, cc, rfl⟩ : ∃ g c, v4 = .slice (some ⟨g, 0, none⟩) l.length c := by
           rcases o4.form with ⟨_, e⟩ | ⟨g, c, e, _⟩
           · exact absurd e (by simpa using HLL.out.2)
           · exact ⟨g, c, by simpa using e⟩
         obtain ⟨i0, i1⟩ := HD.out (w4.alloc (.cells #[.bool false, .slice none 0 0] 37)) (g5.alloc g5.size _)
         have O4 := Lib.hid o4
         have G5 := Lib.hid g5
         clear o4 g4 g5)
      | (refine Dk.step_appendB 35 _ 32 Tryd.underlying35 Cl.infoV rfl (by decide) Sk.ve_len Sk.ve_one l HA.out.size (Dk.Own.nil _ _) (by have := HLL.out.1; simp only [List.length_nil]; omega) (by have := HLL.out.1; simp only [List.length_nil]; omega) _ _ _ (by rfl) (by rfl) (by rfl) (by rfl) (HSRC.out _ HA.out) ?_; intro v4 w4 o4 g4
         have g6 : Below (w2.heap.size + 1) (w2.alloc (.cells #[.bool false, .slice none 0 0] 37)).drew w4 := g4.below (by show w2.heap.size + 1 ≤ (w2.alloc (.cells #[.bool false, .slice none 0 0] 37)).heap.size; simp) (fun k hk => by cases hk)
         have g5 : Below w2.heap.size w2 w4 := HA.out.trans (g6.mono (Nat.le_succ _))
         obtain ⟨e0, e1⟩ := HD.out w4 g5
         obtain ⟨gg, cc, rfl⟩ : ∃ g c, v4 = .slice (some ⟨g, 0, none⟩) l.length c := by
           rcases o4.form with ⟨_, e⟩ | ⟨g, c, e, _⟩
           · exact absurd e (by simpa using HLL.out.2)
           · exact ⟨g, c, by simpa using e⟩
         have hbx := (g6.block w2.heap.size (by omega)).trans (heap_alloc_new w2 (.cells #[.bool false, .slice none 0 0] 37))
         have x0 : w4.cell? ⟨w2.heap.size, 0, none⟩ = some (.bool false) := by rw [cell_of_row _ _ _ _ _ _ hbx]; rfl
         have x1 : w4.cell? ⟨w2.heap.size, 1, none⟩ = some (.slice none 0 0) := by rw [cell_of_row _ _ _ _ _ _ hbx]; rfl
         have y0 := frozen_of_row _ _ 0 _ _ hbx
         have y1 := frozen_of_row _ _ 1 _ _ hbx
         have HBX := Lib.hid hbx
         have O4 := Lib.hid o4
         have G5 := Lib.hid g5
         clear o4 g4 g5 g6 hbx))
    all_goals
      go_wp2_with fail
      go_meet
      first
        | exact ⟨_, gg, cc, rfl, Sk.Ob.new G5.out O4.out⟩
        | exact ⟨_, gg, cc, rfl, Sk.Ob.set G5.out O4.out (Nat.le_refl _) HBX.out⟩
  case rest =>
    obtain ⟨q, gg, cc, rfl, hob⟩ := hcut
    have HOC := Lib.hid (HO2.out.later hob.b)
    have HL0 := Lib.hid hob.b.size
    have c0 : wc.cell? ⟨q, 0, none⟩ = some (.bool gn) := by rw [cell_of_row _ _ _ _ _ _ hob.box]; rfl
    have c1 : wc.cell? ⟨q, 1, none⟩ = some (.slice (some ⟨gg, 0, none⟩) l.length cc) := by rw [cell_of_row _ _ _ _ _ _ hob.box]; rfl
    have hqg : q ≠ gg := fun e => by
      obtain ⟨cs, hcs⟩ := hob.rw.typed gg rfl
      rw [← e, hob.box] at hcs
      simp only [Option.some.injEq, Obj.cells.injEq] at hcs
      exact absurd hcs.2.1 (by decide)
    have HZ : Hid (∀ x ∈ l, Kn.Z x) := Lib.hid (by obtain ⟨_, _, _, h, _⟩ := HIN.out; exact h)
    have CP := Lib.hid ((H2.out.later hob.b).put (by have := HS2.out; have := HL0.out; omega) HOC.out.tab (by have := HTW.out.lt; have := HS2.out; omega) gn (hob.rw.in_ HZ.out HLL.out.1) HLL.out.2 (by simp))
    have HB := Lib.hid hob
    have HQG := Lib.hid hqg
    clear HO2 HD HSRC d0 d1 hob hqg
    go_wp2_with fail
    with_reducible refine CP.out.mono ?_
    rintro e w3 ⟨rfl, h3, o3, g3⟩
    have HO3 := Lib.hid (HOC.out.below HIN.out HTW.out g3 (by have := HS2.out; omega))
    have hgs := HB.out.rw.base_le gg rfl
    have hgl := HB.out.rw.lt gg rfl
    have hqs := HB.out.hq
    have hql : q < wc.heap.size := (Array.getElem?_eq_some_iff.1 HB.out.box).1
    have hbq : w3.heap[q]? = _ := (o3.block q hql (by have := HS2.out; omega)).trans HB.out.box
    have hbg : w3.heap[gg]? = wc.heap[gg]? := o3.block gg hgl (by have := HS2.out; omega)
    have hr3 : Sk.Rw w2.heap.size w3 (.slice (some ⟨gg, 0, none⟩) l.length cc) l := HB.out.rw.same fun b hb => by
      obtain rfl : gg = b := by simpa [Value.ownBlock] using hb
      exact hbg
    replace c0 : w3.cell? ⟨q, 0, none⟩ = some (.bool gn) := by rw [cell_of_row _ _ _ _ _ _ hbq]; rfl
    replace c1 : w3.cell? ⟨q, 1, none⟩ = some (.slice (some ⟨gg, 0, none⟩) l.length cc) := by rw [cell_of_row _ _ _ _ _ _ hbq]; rfl
    obtain ⟨cs, hcs⟩ := hr3.typed gg rfl
    obtain ⟨_, ⟨v0, v1, v2⟩, _⟩ := HO3.out.cells HKR.out
    obtain ⟨w4, hw4⟩ : ∃ W, W = Sk.st w3 gg ((l.length - 1) * 3) ⟨vn, vi, vs⟩ := ⟨_, rfl⟩
    have hls : l.length - 1 < l.length := by omega
    have a0 := hr3.cell Sk.ve_len (g := gg) rfl (List.getElem?_eq_getElem hls) (j := 0) (by decide)
    have a1 := hr3.cell Sk.ve_len (g := gg) rfl (List.getElem?_eq_getElem hls) (j := 1) (by decide)
    have a2 := hr3.cell Sk.ve_len (g := gg) rfl (List.getElem?_eq_getElem hls) (j := 2) (by decide)
    simp only [Sk.ve, Nat.add_zero, List.getElem?_cons_zero, List.getElem?_cons_succ] at a0 a1 a2
    have f0 := frozen_of_row _ _ ((l.length - 1) * 3) _ _ hcs
    have f1 := frozen_of_row _ _ ((l.length - 1) * 3 + 1) _ _ hcs
    have f2 := frozen_of_row _ _ ((l.length - 1) * 3 + 2) _ _ hcs
    have g4 : Below w2.heap.size w3 w4 := by rw [hw4]; exact Sk.st_below hgs _ _
    have h4 : Sk.PD p (Sk.More (fun b => b = p) wc w3) w4 p (Sk.put Sk.kd [] ⟨gn, l⟩) := h3.same g4.size fun b hb => by
      rw [hw4]
      refine Sk.st_heap _ _ _ _ ?_
      have := HS2.out
      rcases hb with hb | hb <;> omega
    have HO4 := Lib.hid (HO3.out.below HIN.out HTW.out g4 (by have := HS2.out; omega))
    have CG := Lib.hid (h4.get1 HKR.out)
    have H4 := Lib.hid h4
    have HW4 := Lib.hid hw4
    have HSZ : Hid (w.heap.size + 1 < w4.heap.size) := Lib.hid HO4.out.lt
    clear h3 o3 g3 hgs hgl hqs hql hbq hbg hr3 hcs g4 h4 hw4 HO3 CP HOC
    unfold Sk.st at HW4
    go_upto_region 7 with (fail)
    rw [← HW4.out]
    clear a0 a1 a2 f0 f1 f2 c0 c1 v0 v1 v2
    obtain ⟨⟨d0, d1⟩, _, ⟨k0, k1, k2⟩⟩ := HO4.out.cells HKR.out
    go_wp2_with fail
    with_reducible refine CG.out.mono ?_
    rintro e w5 ⟨g7, c7, rfl, hr7, hg7, hg7', g5⟩
    obtain ⟨w6, hw6⟩ : ∃ W, W = w5.alloc (.cells #[.bool gn, .slice (some ⟨g7, 0, none⟩) l.length c7] 37) := ⟨_, rfl⟩
    have hb6 : Below w5.heap.size w5 w6 := by rw [hw6]; exact (Below.refl _ w5).alloc (Nat.le_refl _) _
    have g6 : Below w4.heap.size w4 w6 := g5.trans (hb6.mono g5.size)
    have HO6 := Lib.hid (HO4.out.later g6)
    have H6 := Lib.hid (H4.out.later g6)
    have hx6 : w6.heap[w5.heap.size]? = some (.cells #[.bool gn, .slice (some ⟨g7, 0, none⟩) l.length c7] 37 (0, 0)) := by rw [hw6]; exact heap_alloc_new w5 _
    have HX6 := Lib.hid hx6
    have hs6 : w6.heap.size = w5.heap.size + 1 := by rw [hw6]; exact World.size_alloc ..
    have HS6 : Hid (w4.heap.size ≤ g7 ∧ g7 < w5.heap.size ∧ w6.heap.size = w5.heap.size + 1) := Lib.hid ⟨hg7, hg7', hs6⟩
    have HR6 : Hid (Sk.Rw w4.heap.size w6 (.slice (some ⟨g7, 0, none⟩) l.length c7) l) := Lib.hid (hr7.kept hb6)
    have CS := Lib.hid (Dd.rsame_c (.slice (some ⟨g7, 0, none⟩) l.length c7) (.slice (some ⟨b, o, none⟩) l.length c) ⟨gn, l⟩ ⟨gn, l⟩ w6 (HR6.out.in_ HZ.out HLL.out.1).vals HO6.out.in_.vals)
    rw [Sk.same_self] at CS
    dsimp only at CS
    obtain ⟨⟨d0, d1⟩, _⟩ := HO6.out.cells HKR.out
    rw [hw6] at d0 d1
    have HW6 := Lib.hid hw6
    clear hb6 g6 hx6 hs6 hw6 hr7 hg7 hg7' k0 k1 k2 CG
    go_upto_region 8 with (fail)
    rw [HW6.out] at CS
    go_wp2_with fail
    with_reducible refine CS.out.mono ?_
    rintro e w7 ⟨rfl, g7'⟩
    rw [← HW6.out] at g7'
    have HO7 := Lib.hid (HO6.out.later g7')
    have H7 := Lib.hid (H6.out.later g7')
    have hx7 := (g7'.block w5.heap.size (by have := HS6.out; omega)).trans HX6.out
    have x1 : w7.cell? ⟨w5.heap.size, 1, none⟩ = some (.slice (some ⟨g7, 0, none⟩) l.length c7) := by rw [cell_of_row _ _ _ _ _ _ hx7]; rfl
    have hr7 : Sk.Rw w4.heap.size w7 (.slice (some ⟨g7, 0, none⟩) l.length c7) l := HR6.out.kept g7'
    obtain ⟨cs, hcs⟩ := hr7.typed g7 rfl
    have hk0 : l[0]? = some k := by rw [HKR.out]; rfl
    have a0 := hr7.cell Sk.ve_len (g := g7) rfl hk0 (j := 0) (by decide)
    have a1 := hr7.cell Sk.ve_len (g := g7) rfl hk0 (j := 1) (by decide)
    have a2 := hr7.cell Sk.ve_len (g := g7) rfl hk0 (j := 2) (by decide)
    simp only [Sk.ve, Nat.add_zero, Nat.zero_mul, Nat.zero_add, List.getElem?_cons_zero, List.getElem?_cons_succ] at a0 a1 a2
    have f0 := frozen_of_row _ _ 0 _ _ hcs
    have f1 := frozen_of_row _ _ 1 _ _ hcs
    have f2 := frozen_of_row _ _ 2 _ _ hcs
    obtain ⟨⟨d0, d1⟩, ⟨v0, v1, v2⟩, _⟩ := HO7.out.cells HKR.out
    obtain ⟨w8, hw8⟩ : ∃ W, W = Sk.st w7 g7 0 ⟨vn, vi, vs⟩ := ⟨_, rfl⟩
    have g8 : Below w4.heap.size w7 w8 := by rw [hw8]; exact Sk.st_below HS6.out.1 _ _
    have h8 := H7.out.same g8.size fun b hb => by
      rw [hw8]
      refine Sk.st_heap _ _ _ _ ?_
      have h1 := H4.out.lt b hb
      have := HS6.out.1
      omega
    have HO8 := Lib.hid (HO7.out.below HIN.out HTW.out g8 HSZ.out)
    have CG2 := Lib.hid (h8.get1 HKR.out)
    have H8 := Lib.hid h8
    have HW8 := Lib.hid hw8
    unfold Sk.st at HW8
    simp only [Nat.zero_add] at HW8
    clear hx7 hr7 hcs hk0 hw8 g8 h8 HW6 CS H4 H6 HX6 HR6 HO6
    go_upto_region 11 with (fail)
    rw [← HW8.out]
    clear a0 a1 a2 f0 f1 f2 x1 v0 v1 v2
    obtain ⟨⟨d0, d1⟩, _, ⟨k0, k1, k2⟩⟩ := HO8.out.cells HKR.out
    go_wp2_with fail
    with_reducible refine CG2.out.mono ?_
    rintro e w9 ⟨g9, c9, rfl, hr9, hg9, hg9', g10⟩
    obtain ⟨w10, hw10⟩ : ∃ W, W = w9.alloc (.cells #[.bool gn, .slice (some ⟨g9, 0, none⟩) l.length c9] 37) := ⟨_, rfl⟩
    have hb10 : Below w9.heap.size w9 w10 := by rw [hw10]; exact (Below.refl _ w9).alloc (Nat.le_refl _) _
    have HO10 := Lib.hid (HO8.out.later (g10.trans (hb10.mono g10.size)))
    have HR10 : Hid (Sk.Rw w8.heap.size w10 (.slice (some ⟨g9, 0, none⟩) l.length c9) l) := Lib.hid (hr9.kept hb10)
    have CS2 := Lib.hid (Dd.rsame_c (.slice (some ⟨g9, 0, none⟩) l.length c9) (.slice (some ⟨b, o, none⟩) l.length c) ⟨gn, l⟩ ⟨gn, l⟩ w10 (HR10.out.in_ HZ.out HLL.out.1).vals HO10.out.in_.vals)
    rw [Sk.same_self] at CS2
    dsimp only at CS2
    obtain ⟨⟨d0, d1⟩, _⟩ := HO10.out.cells HKR.out
    rw [hw10] at d0 d1
    have HE := Lib.hid HO10.out.bl
    rw [hw10] at CS2 HE
    clear hb10 hw10 hr9 hg9 hg9' g10 k0 k1 k2 CG2 HO10 HR10
    go_wp2_with fail
    with_reducible refine CS2.out.mono ?_
    rintro e w11 ⟨rfl, g11⟩
    have HE2 := Lib.hid (HE.out.trans (g11.mono HE.out.size))
    clear g11 CS2 HE
    go_wp2
    go_ret
    exact ⟨rfl, HE2.out⟩
/-- The law SkipOwn. -/
theorem Sk.lawOwn_w {w : World} (hT : Sk.Tab w) (gn : Bool) {u : Value} {l : List Kn.V} (v : Kn.V) (hin : Sk.Got w u l) :
    Calls Tryd.prog 7 #[.agg #[.bool gn, u], v.val] w fun e w' => e = .returned (.bool true) ∧ Below w.heap.size w w' := by
  obtain ⟨a, c, rfl, h⟩ := hin
  by_cases hne : l = []
  · subst hne
    exact Sk.lawOwn0_w hT gn a c v
  · obtain ⟨a', c', hv, hz, hl, hh⟩ := id (h hne)
    simp only [Value.slice.injEq, true_and] at hv
    obtain ⟨rfl, rfl⟩ := hv
    rcases hh with ⟨_, _, h0⟩ | ⟨b, o, rfl, hb, hc⟩
    · exact absurd h0 hne
    · exact Sk.lawOwn1_w hT gn b o c l v (h hne) hne
end Go.Proofs.YtfjhffldhpcdmaaDoor
