import Derived.Test.YteaglaijkafphaaDoorWAH
import Derived.Test.YteaglaijkafphaaDoorWAF
import Derived.Deep.DeepCutAuto
import Derived.Deep.QuietTactic
import Derived.BigQuiet
import Derived.WalkSmall
import Derived.Test.YteaglaijkafphaaDoorRows
import Derived.WalkKit
import Derived.WalkSpells
import Derived.WalkLawsBesides
import Derived.Deep.OwnRows
import Derived.Below
import Derived.Lib.Hide
import Derived.StillTailTactics
import Derived.Lib.BitFns
import Derived.Test.YteaglaijkafphaaDoorWAA
namespace Go.Proofs.YteaglaijkafphaaDoor
section
open Go.RowKit
end
section
open Go.RowKit
theorem Ty.Cur.drew {b : Nat} {w : World} {l : List UInt8} {e : Nat} (h : Ty.Cur b w l e) : Ty.Cur b w.drew l e := h
theorem Ty.Cur.drewN {b : Nat} {w : World} {l : List UInt8} {e : Nat} (h : Ty.Cur b w l e) (n : Nat) : Ty.Cur b (w.drewN n) l e := h
theorem Ty.Tabs.drewN {w : World} (h : Ty.Tabs w) (n : Nat) : Ty.Tabs (w.drewN n) := h.kept (Nat.le_refl _) fun _ _ => rfl
theorem Ty.txt_len (l : List UInt8) (m : Int) : (Ty.txt l m).1.length ≤ l.length := by
 unfold Ty.txt
 repeat' split
 all_goals simp
 all_goals omega
end
section
open Go.RowKit
def Ty.RC (r : Nat) (w : World) (s : ByteArray) (at_ er : Nat) : Prop := w.heap[r]? = some (.cells #[.string s, .int .i64 (at_ : Int), .int .i64 (er : Int)] 82 (0, 0))
theorem Ty.RC.cells {r : Nat} {w : World} {s : ByteArray} {a e : Nat} (h : Ty.RC r w s a e) : w.cell? ⟨r, 0, none⟩ = some (.string s) ∧ w.cell? ⟨r, 1, none⟩ = some (.int .i64 (a : Int)) ∧ w.cell? ⟨r, 2, none⟩ = some (.int .i64 (e : Int)) ∧ w.frozen? ⟨r, 1, none⟩ = false ∧ w.frozen? ⟨r, 2, none⟩ = false := by
 unfold Ty.RC at h
 refine ⟨?_, ?_, ?_, ?_, ?_⟩ <;> simp [World.cell?, World.frozen?, h]
theorem Ty.RC.lt {r : Nat} {w : World} {s : ByteArray} {a e : Nat} (h : Ty.RC r w s a e) : r < w.heap.size := lt_of_block h
theorem Ty.RC.below {r : Nat} {w w' : World} {s : ByteArray} {a e : Nat} (h : Ty.RC r w s a e) {B : Nat} (hb : Below B w w') (hr : r < B) : Ty.RC r w' s a e := by
 unfold Ty.RC at h ⊢
 rw [hb.block r hr]
 exact h
theorem Ty.RC.drewN {r : Nat} {w : World} {s : ByteArray} {a e : Nat} (h : Ty.RC r w s a e) (n : Nat) : Ty.RC r (w.drewN n) s a e := h
end
section
open Go.RowKit
def Ty.Peeked (r : Nat) (s : ByteArray) (a er : Nat) (w : World) (e : Ending) (w' : World) : Prop := e = .returned (Ty.numV (s.data.toList.drop a)) ∧ Ty.RC r w' s a er ∧ w.grownBy w' none
end
section
open Go.RowKit
def Ty.RS (r : Nat) (s : ByteArray) (w : World) (l : List UInt8) (e : Nat) : Prop := ∃ a, a ≤ s.size ∧ s.data.toList.drop a = l ∧ Ty.RC r w s a e
def Ty.RLeft (r : Nat) (s : ByteArray) (w : World) (v : Value) (l : List UInt8) (e' : Nat) (e : Ending) (w' : World) : Prop := e = .returned v ∧ Ty.RS r s w' l e' ∧ w.grownBy w' (some r)
end
section
open Go.RowKit
def Bt.Row (w : World) (g sz : Nat) (F : Nat → Bool) : Prop := w.rowIs g 5 sz (fun i => .int .u8 ((Bt.oct F i : Nat) : Int))
set_option maxRecDepth 100000 in
theorem Bt.Row.string {w : World} {g sz c : Nat} {F : Nat → Bool} (h : Bt.Row w g sz F) : (convert 89 9 (.slice (some ⟨g, 0, none⟩) sz c)).run Tryd.prog w = .ok (.string (Bt.bytes sz F)) w := by
 have := run_convert_bytes_arg (P := Tryd.prog) w 89 _ Tryd.underlying89 Tryd.underlying5 g 0 sz c ((List.range sz).map fun i => ((Bt.oct F i : Nat) : Int)) (by simp) (fun i hi => by
  have hc := h.cell hi
  have ea : (⟨g, 0 + i, none⟩ : Addr) = ⟨g, i, none⟩ := by rw [Nat.zero_add]
  rw [ea, hc]
  simp [List.getD, hi]) 9 Tryd.underlying9
 rw [this]
 have e : strOfNums ((List.range sz).map fun i => ((Bt.oct F i : Nat) : Int)) = Bt.bytes sz F := by
  unfold strOfNums Bt.bytes
  congr 1
  rw [List.map_map]
  rfl
 rw [e]
theorem Bt.by_trans {a b c : World} {r : Option Nat} (h : a.grownBy b r) (k : b.grownBy c r) : a.grownBy c r :=
 ⟨k.os.trans h.os, k.tape.trans h.tape, k.output.trans h.output, Nat.le_trans h.size k.size, fun i hi hn => (k.block i (Nat.lt_of_lt_of_le hi h.size) hn).trans (h.block i hi hn)⟩
theorem Bt.by_set (w : World) (b o : Nat) (u : Value) : w.grownBy (w.setCell ⟨b, o, none⟩ u) (some b) :=
 ⟨rfl, rfl, rfl, by simp [World.setCell], fun k _ hk => Below.heap_setCell _ _ _ _ (fun e => hk (by rw [e]))⟩
def Bt.Put (g sz : Nat) (F : Nat → Bool) (w w' : World) : Prop := Bt.Row w' g sz F ∧ w.grownBy w' (some g)
theorem Bt.or_byte (G : Nat → Bool) (a m q r : Nat) (hq : q = a / 8) (hr : r = a % 8) :
 bits .or .u8 ((Bt.oct G q : Nat) : Int) (IntKind.u64.wrap ((m : Int) * 2 ^ r) % 256) = ((Bt.oct (Bt.laid G a m) q : Nat) : Int) := by
 subst hq hr
 have e : IntKind.u64.wrap ((m : Int) * 2 ^ (a % 8)) % 256 = ((m * 2 ^ (a % 8) % 256 : Nat) : Int) := by
  rw [IntKind.wrap_u64]
  have e1 : (m : Int) * 2 ^ (a % 8) = ((m * 2 ^ (a % 8) : Nat) : Int) := by simp
  rw [e1]
  omega
 rw [e, (bits_nat .u8 8 (by decide) wraps_u8 _ _ (Bt.oct_lt G (a / 8)) (Nat.mod_lt _ (by decide))).2, Bt.laid_here]
theorem Bt.Put.next {g sz a m q r : Nat} {G : Nat → Bool} {w wr : World} (h : Bt.Put g sz G w wr) (hq : q = a / 8) (hr : r = a % 8) :
 Bt.Put g sz (Bt.laid G a m) w (wr.setCell ⟨g, q, none⟩ (.int .u8 (bits .or .u8 ((Bt.oct G q : Nat) : Int) (IntKind.u64.wrap ((m : Int) * 2 ^ r) % 256)))).drew := by
 obtain ⟨hR, hB⟩ := h
 rw [Bt.or_byte G a m q r hq hr]
 refine ⟨World.rowIs.drew (World.rowIs.congr (World.rowIs.set hR q _) fun i _ => ?_), ?_⟩
 ·by_cases e : i = q
  ·subst e
   rw [if_pos rfl]
  ·rw [if_neg e, Bt.laid_far G a m i (by rw [← hq]; exact e)]
 ·have h2 := Bt.by_trans hB (Bt.by_set wr g q (.int .u8 ((Bt.oct (Bt.laid G a m) q : Nat) : Int)))
  exact ⟨h2.os, h2.tape, h2.output, h2.size, h2.block⟩
end
section
open Go.RowKit
end
section
open Go.RowKit
structure Bt.Sl (w : World) (v : Value) (n : Nat) (f : Nat → Value) : Prop where
 is : ∃ a c, v = .slice a n c ∧ (n = 0 ∨ ∃ b o, a = some ⟨b, o, none⟩ ∧ b < w.heap.size ∧ ∀ i, i < n → w.cell? ⟨b, o + i, none⟩ = some (f i))
theorem Bt.Sl.later {w w' : World} {v : Value} {n : Nat} {f : Nat → Value} (h : Bt.Sl w v n f) (g : Below w.heap.size w w') : Bt.Sl w' v n f := by
 obtain ⟨a, c, rfl, h⟩ := h
 refine ⟨a, c, rfl, ?_⟩
 rcases h with h | ⟨b, o, rfl, hlt, h⟩
 ·exact .inl h
 ·exact .inr ⟨b, o, rfl, Nat.lt_of_lt_of_le hlt g.size, fun i hi => (g.cell (p := ⟨b, o + i, none⟩) hlt).trans (h i hi)⟩
def Bt.nv (X : Nat → Nat) (i : Nat) : Value := .int .u64 ((X i : Nat) : Int)
def Bt.bv (T : Nat → Bool) (i : Nat) : Value := .bool (T i)
theorem Bt.info8 : (Tryd.prog.info? 5).map (fun i => (i.zero, i.size, i.bytes)) = some (some (.int .u8 0), 1, 1) := by kernel_rfl
theorem Bt.Put.below {g sz : Nat} {F : Nat → Bool} {w w' : World} (h : Bt.Put g sz F w w') {B : Nat} (hB : B ≤ g) (hs : B ≤ w.heap.size) : Below B w w' :=
 ⟨h.2.os, h.2.tape, h.2.output, h.2.size, fun k hk => h.2.block k (by omega) (fun e => by have := Option.some.inj e; omega)⟩
def Bt.packV (n : Nat) (X : Nat → Nat) (q : Int) : Value :=
 if 0 ≤ q ∧ q ≤ 64 then (if q.toNat < Bt.wid n X then .tuple #[.string ⟨#[]⟩, .int .i64 4] else .tuple #[.string (Bt.bytes (Bt.need (n * q.toNat)) (Bt.pk n X q.toNat)), .int .i64 0])
 else .tuple #[.string ⟨#[]⟩, .int .i64 1]
end
section
open Go.RowKit
def Bt.utE (s : ByteArray) (z : Int) : Nat := if 0 ≤ z ∧ z ≤ 65536 then Bt.chk s z.toNat else 1
def Bt.utN (s : ByteArray) (z : Int) : Nat := if Bt.utE s z = 0 then z.toNat else 0
def Bt.upE (s : ByteArray) (z q : Int) : Nat := if (0 ≤ q ∧ q ≤ 64) ∧ 0 ≤ z ∧ z ≤ 65536 then Bt.chk s (z.toNat * q.toNat) else 1
def Bt.upN (s : ByteArray) (z q : Int) : Nat := if Bt.upE s z q = 0 then z.toNat else 0
def Bt.nums (s : ByteArray) (q : Nat) (i : Nat) : Nat := Bt.num q (fun j => Bt.bit s (i * q + j))
theorem Bt.Sl.nil (w : World) (f : Nat → Value) : Bt.Sl w (.slice none 0 0) 0 f := ⟨none, 0, rfl, .inl rfl⟩
theorem Bt.Sl.row {w : World} {g n c : Nat} {t : TypeId} {f : Nat → Value} (h : w.rowIs g t n f) : Bt.Sl w (.slice (some ⟨g, 0, none⟩) n c) n f :=
 ⟨_, c, rfl, .inr ⟨g, 0, rfl, h.lt, fun i hi => by rw [Nat.zero_add]; exact h.cell hi⟩⟩
def Bt.upTo (k : Nat) (f : Nat → Value) (z : Value) (i : Nat) : Value := if i < k then f i else z
theorem Bt.upTo_next {w : World} {g n k : Nat} {t : TypeId} {f : Nat → Value} {z u : Value} (h : w.rowIs g t n (Bt.upTo k f z)) (hu : u = f k) : (w.setCell ⟨g, k, none⟩ u).rowIs g t n (Bt.upTo (k + 1) f z) := by
 refine (World.rowIs.set h k u).congr fun i _ => ?_
 unfold Bt.upTo
 by_cases e : i = k
 ·subst e
  rw [if_pos rfl, if_pos (by omega), hu]
 ·rw [if_neg e]
  by_cases h2 : i < k
  ·rw [if_pos h2, if_pos (by omega)]
  ·rw [if_neg h2, if_neg (by omega)]
theorem Bt.below_set {w : World} {g i B : Nat} (hB : B ≤ g) (u : Value) : Below B w (w.setCell ⟨g, i, none⟩ u) :=
 ⟨rfl, rfl, rfl, by simp [World.setCell], fun k hk => Below.heap_setCell _ _ _ _ (by show k ≠ g; omega)⟩
end
section
open Go.RowKit
def Bt.Buf (e : TypeId) (base : Nat) (w : World) (v : Value) (n : Nat) (f : Nat → Value) : Prop := w.ownsRow base e 1 v n ((List.range n).map f)
theorem Bt.Buf.nil (e : TypeId) (base : Nat) (w : World) (f : Nat → Value) : Bt.Buf e base w (.slice none 0 0) 0 f := World.ownsRow_nil w base _ 1
theorem Bt.Buf.sl {e : TypeId} {base : Nat} {w : World} {v : Value} {n : Nat} {f : Nat → Value} (h : Bt.Buf e base w v n f) : Bt.Sl w v n f := by
 have h0 := h
 rcases h.2 with ⟨rfl, rfl⟩ | ⟨g, cap, cur, rfl, _, hg, _⟩
 ·exact Bt.Sl.nil _ _
 ·refine ⟨_, cap, rfl, .inr ⟨g, 0, rfl, (Array.getElem?_eq_some_iff.1 hg).1, fun i hi => ?_⟩⟩
  have := h0.cells (g := g) rfl i (f i) (by simp [hi])
  have ea : (⟨g, 0, none⟩ : Addr).add i = ⟨g, 0 + i, none⟩ := by unfold Addr.add; split <;> simp_all
  rwa [ea] at this
theorem Bt.Buf.kept {e : TypeId} {base : Nat} {w w' : World} {v : Value} {n : Nat} {f : Nat → Value} (h : Bt.Buf e base w v n f) (g : Below w.heap.size w w') : Bt.Buf e base w' v n f := by
 refine ⟨h.1, ?_⟩
 rcases h.2 with hn | ⟨b, cap, cur, rfl, hbb, hgg, rest⟩
 ·exact .inl hn
 ·exact .inr ⟨b, cap, cur, rfl, hbb, by rw [g.block b (Array.getElem?_eq_some_iff.1 hgg).1]; exact hgg, rest⟩
theorem Bt.Buf.congr {e : TypeId} {base : Nat} {w : World} {v : Value} {n : Nat} {f g : Nat → Value} (h : Bt.Buf e base w v n f) (hf : ∀ i, i < n → f i = g i) : Bt.Buf e base w v n g := by
 unfold Bt.Buf at h ⊢
 have : (List.range n).map g = (List.range n).map f := List.map_congr_left fun i hi => (hf i (List.mem_range.1 hi)).symm
 rw [this]; exact h
theorem Bt.Buf.base_le {e : TypeId} {base : Nat} {w : World} {v : Value} {n : Nat} {f : Nat → Value} (h : Bt.Buf e base w v n f) : ∀ k, v.ownBlock = some k → base ≤ k := by
 intro k hk
 rcases h.2 with ⟨rfl, _⟩ | ⟨b, cap, cur, rfl, hbb, _⟩
 ·cases hk
 ·have : b = k := by simpa [Value.ownBlock] using hk
  omega
theorem Bt.wpList_append_one (e t : TypeId) (z : Value) (by_ : Nat) (hu : Tryd.prog.underlying t = some (.slice e)) (hinfo : (Tryd.prog.info? e).map (fun i => (i.zero, i.size, i.bytes)) = some (some z, 1, by_)) (hz : z.cells.size = 1)
 {base : Nat} {w0 : World} {v : Value} {n : Nat} {f : Nat → Value} (hown : Bt.Buf e base w0 v n f) (hb : base ≤ w0.heap.size) (hl : (n + 1) * by_ ≤ 140737488355328) (hl2 : n + 1 ≤ 140737488355328)
 {ops : Array Oper} {rest : List Oper} {o : Oper} {a : Act} {Q : Exit → Act → World → Prop} (s x : Operand) (u : Value) (hu1 : u.oneCell' = true) (hgd : o.guard = none)
 (ho : o.op = .call { callee := .builtin .append, args := #[s, x], argTypes := #[t, t] })
 (hs : a.eval s = v) (hx : a.eval x = .slice (some ⟨w0.heap.size, 0, none⟩) 1 1)
 (h : ∀ v' w', (u = f n → Bt.Buf e base w' v' (n + 1) f) → Ty.Grew w0 w' v v' → wpList Tryd.prog ops Q rest (a.put o.dst v') w') :
 wpList Tryd.prog ops Q (o :: rest) a (w0.alloc (.cells #[u] e)) := by
 obtain ⟨i0, hi, hz0, hz1, hz2⟩ := info_parts hinfo
 refine Ty.wpList_append_tight _ hgd s x t ho base e i0 z 1 by_ hu hi hz0 hz1 hz2 hz (by decide) v n ((List.range n).map f) hs (World.ownsRow.alloc hown _) ⟨w0.heap.size, 0, none⟩ 1 1 [u] hx rfl (cell_one_new _ _ _)
  (fun x hx => by simp at hx; subst hx; exact hu1) (by unfold maxLen; omega) hl (by simp; omega) fun v' w' h1 h2 => h v' w' (fun hu => ?_) (h2.behind _)
 subst hu
 unfold Bt.Buf
 rw [List.range_succ, List.map_append]
 exact h1
end
section
open Go.RowKit
theorem Bt.Row.add {w : World} {g sz k q r : Nat} {T : Nat → Bool} (h : Bt.Row w g sz (Bt.tr k T)) (hT : T k = true) (hq : q = k / 8) (hr : r = k % 8) :
 Bt.Row (w.setCell ⟨g, q, none⟩ (.int .u8 ((((Bt.oct (Bt.tr k T) q : Nat) : Int) + 2 ^ r) % 256))) g sz (Bt.tr (k + 1) T) := by
 have e : (((Bt.oct (Bt.tr k T) q : Nat) : Int) + 2 ^ r) % 256 = ((Bt.oct (Bt.tr (k + 1) T) q : Nat) : Int) := by
  have h1 := Bt.tr_add T k hT
  have h2 := Bt.oct_lt (Bt.tr (k + 1) T) q
  rw [← hq, ← hr] at h1
  have e2 : (2 : Int) ^ r = ((2 ^ r : Nat) : Int) := by simp
  rw [e2]
  omega
 rw [e]
 refine World.rowIs.congr (World.rowIs.set h q _) fun i _ => ?_
 by_cases e : i = q
 ·subst e
  rw [if_pos rfl]
 ·rw [if_neg e, Bt.tr_far T k i (by rw [← hq]; exact e)]
theorem Bt.drewN_below (w : World) (n : Nat) : Below w.heap.size w (w.drewN n) := ⟨rfl, rfl, rfl, Nat.le_refl _, fun _ _ => rfl⟩
end
end Go.Proofs.YteaglaijkafphaaDoor
