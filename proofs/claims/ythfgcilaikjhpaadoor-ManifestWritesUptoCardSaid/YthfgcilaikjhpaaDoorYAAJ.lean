import Derived.Test.YthfgcilaikjhpaaDoorYAAI
import Derived.Lib.BitFns
import Derived.Test.YthfgcilaikjhpaaDoorYAAA
import Derived.BigQuiet
import Derived.Deep.QuietTactic
import Derived.Test.YthfgcilaikjhpaaDoorYAAG
import Derived.Lib.QuietBelow
import Derived.Deep.RegionHeld3
import Derived.Test.YthfgcilaikjhpaaDoorYAAH
namespace Go.Proofs.YthfgcilaikjhpaaDoor
section
open Go.RowKit
end
section
open Go.RowKit
structure Bt.Sl (w : World) (v : Value) (n : Nat) (f : Nat → Value) : Prop where
 is : ∃ a c, v = .slice a n c ∧ (n = 0 ∨ ∃ b o, a = some ⟨b, o, none⟩ ∧ b < w.heap.size ∧ ∀ i, i < n → w.cell? ⟨b, o + i, none⟩ = some (f i))
theorem Bt.Sl.later {w w' : World} {v : Value} {n : Nat} {f : Nat → Value} (h : Bt.Sl w v n f) (g : Below w.heap.size w w') : Bt.Sl w' v n f := by
 obtain ⟨a, c, rfl, h⟩ := h
 refine ⟨a, c, rfl, ?_⟩
 rcases h with h | ⟨b, o, rfl, hlt, h⟩
 ·exact .inl h
 ·exact .inr ⟨b, o, rfl, Nat.lt_of_lt_of_le hlt g.size, fun i hi => (g.cell (p := ⟨b, o + i, none⟩) hlt).trans (h i hi)⟩
def Bt.nv (X : Nat → Nat) (i : Nat) : Value := .int .u64 ((X i : Nat) : Int)
def Bt.bv (T : Nat → Bool) (i : Nat) : Value := .bool (T i)
theorem Bt.info8 : (Tryd.prog.info? 5).map (fun i => (i.zero, i.size, i.bytes)) = some (some (.int .u8 0), 1, 1) := by kernel_rfl
theorem Bt.Put.below {g sz : Nat} {F : Nat → Bool} {w w' : World} (h : Bt.Put g sz F w w') {B : Nat} (hB : B ≤ g) (hs : B ≤ w.heap.size) : Below B w w' :=
 ⟨h.2.os, h.2.tape, h.2.output, h.2.size, fun k hk => h.2.block k (by omega) (fun e => by have := Option.some.inj e; omega)⟩
def Bt.packV (n : Nat) (X : Nat → Nat) (q : Int) : Value :=
 if 0 ≤ q ∧ q ≤ 64 then (if q.toNat < Bt.wid n X then .tuple #[.string ⟨#[]⟩, .int .i64 4] else .tuple #[.string (Bt.bytes (Bt.need (n * q.toNat)) (Bt.pk n X q.toNat)), .int .i64 0])
 else .tuple #[.string ⟨#[]⟩, .int .i64 1]
end
section
open Go.RowKit
def Bt.utE (s : ByteArray) (z : Int) : Nat := if 0 ≤ z ∧ z ≤ 65536 then Bt.chk s z.toNat else 1
def Bt.utN (s : ByteArray) (z : Int) : Nat := if Bt.utE s z = 0 then z.toNat else 0
def Bt.upE (s : ByteArray) (z q : Int) : Nat := if (0 ≤ q ∧ q ≤ 64) ∧ 0 ≤ z ∧ z ≤ 65536 then Bt.chk s (z.toNat * q.toNat) else 1
def Bt.upN (s : ByteArray) (z q : Int) : Nat := if Bt.upE s z q = 0 then z.toNat else 0
def Bt.nums (s : ByteArray) (q : Nat) (i : Nat) : Nat := Bt.num q (fun j => Bt.bit s (i * q + j))
theorem Bt.Sl.nil (w : World) (f : Nat → Value) : Bt.Sl w (.slice none 0 0) 0 f := ⟨none, 0, rfl, .inl rfl⟩
theorem Bt.Sl.row {w : World} {g n c : Nat} {t : TypeId} {f : Nat → Value} (h : w.rowIs g t n f) : Bt.Sl w (.slice (some ⟨g, 0, none⟩) n c) n f :=
 ⟨_, c, rfl, .inr ⟨g, 0, rfl, h.lt, fun i hi => by rw [Nat.zero_add]; exact h.cell hi⟩⟩
def Bt.upTo (k : Nat) (f : Nat → Value) (z : Value) (i : Nat) : Value := if i < k then f i else z
theorem Bt.upTo_next {w : World} {g n k : Nat} {t : TypeId} {f : Nat → Value} {z u : Value} (h : w.rowIs g t n (Bt.upTo k f z)) (hu : u = f k) : (w.setCell ⟨g, k, none⟩ u).rowIs g t n (Bt.upTo (k + 1) f z) := by
 refine (World.rowIs.set h k u).congr fun i _ => ?_
 unfold Bt.upTo
 by_cases e : i = k
 ·subst e
  rw [if_pos rfl, if_pos (by omega), hu]
 ·rw [if_neg e]
  by_cases h2 : i < k
  ·rw [if_pos h2, if_pos (by omega)]
  ·rw [if_neg h2, if_neg (by omega)]
theorem Bt.below_set {w : World} {g i B : Nat} (hB : B ≤ g) (u : Value) : Below B w (w.setCell ⟨g, i, none⟩ u) :=
 ⟨rfl, rfl, rfl, by simp [World.setCell], fun k hk => Below.heap_setCell _ _ _ _ (by show k ≠ g; omega)⟩
end
section
open Go.RowKit
def Bt.Buf (e : TypeId) (base : Nat) (w : World) (v : Value) (n : Nat) (f : Nat → Value) : Prop := w.ownsRow base e 1 v n ((List.range n).map f)
theorem Bt.Buf.nil (e : TypeId) (base : Nat) (w : World) (f : Nat → Value) : Bt.Buf e base w (.slice none 0 0) 0 f := World.ownsRow_nil w base _ 1
theorem Bt.Buf.sl {e : TypeId} {base : Nat} {w : World} {v : Value} {n : Nat} {f : Nat → Value} (h : Bt.Buf e base w v n f) : Bt.Sl w v n f := by
 have h0 := h
 rcases h.2 with ⟨rfl, rfl⟩ | ⟨g, cap, cur, rfl, _, hg, _⟩
 ·exact Bt.Sl.nil _ _
 ·refine ⟨_, cap, rfl, .inr ⟨g, 0, rfl, (Array.getElem?_eq_some_iff.1 hg).1, fun i hi => ?_⟩⟩
  have := h0.cells (g := g) rfl i (f i) (by simp [hi])
  have ea : (⟨g, 0, none⟩ : Addr).add i = ⟨g, 0 + i, none⟩ := by unfold Addr.add; split <;> simp_all
  rwa [ea] at this
theorem Bt.Buf.kept {e : TypeId} {base : Nat} {w w' : World} {v : Value} {n : Nat} {f : Nat → Value} (h : Bt.Buf e base w v n f) (g : Below w.heap.size w w') : Bt.Buf e base w' v n f := by
 refine ⟨h.1, ?_⟩
 rcases h.2 with hn | ⟨b, cap, cur, rfl, hbb, hgg, rest⟩
 ·exact .inl hn
 ·exact .inr ⟨b, cap, cur, rfl, hbb, by rw [g.block b (Array.getElem?_eq_some_iff.1 hgg).1]; exact hgg, rest⟩
theorem Bt.Buf.congr {e : TypeId} {base : Nat} {w : World} {v : Value} {n : Nat} {f g : Nat → Value} (h : Bt.Buf e base w v n f) (hf : ∀ i, i < n → f i = g i) : Bt.Buf e base w v n g := by
 unfold Bt.Buf at h ⊢
 have : (List.range n).map g = (List.range n).map f := List.map_congr_left fun i hi => (hf i (List.mem_range.1 hi)).symm
 rw [this]; exact h
end
section
open Go.RowKit
theorem Bt.Row.add {w : World} {g sz k q r : Nat} {T : Nat → Bool} (h : Bt.Row w g sz (Bt.tr k T)) (hT : T k = true) (hq : q = k / 8) (hr : r = k % 8) :
 Bt.Row (w.setCell ⟨g, q, none⟩ (.int .u8 ((((Bt.oct (Bt.tr k T) q : Nat) : Int) + 2 ^ r) % 256))) g sz (Bt.tr (k + 1) T) := by
 have e : (((Bt.oct (Bt.tr k T) q : Nat) : Int) + 2 ^ r) % 256 = ((Bt.oct (Bt.tr (k + 1) T) q : Nat) : Int) := by
  have h1 := Bt.tr_add T k hT
  have h2 := Bt.oct_lt (Bt.tr (k + 1) T) q
  rw [← hq, ← hr] at h1
  have e2 : (2 : Int) ^ r = ((2 ^ r : Nat) : Int) := by simp
  rw [e2]
  omega
 rw [e]
 refine World.rowIs.congr (World.rowIs.set h q _) fun i _ => ?_
 by_cases e : i = q
 ·subst e
  rw [if_pos rfl]
 ·rw [if_neg e, Bt.tr_far T k i (by rw [← hq]; exact e)]
end
section
open Go.RowKit
def Bt.flat (X : Nat → Nat) (q x : Nat) : Bool := (X (x / q)).testBit (x % q)
end
section
open Go.RowKit
def Tx.sv (L : List Tx.Str) (i : Nat) : Value := .string (Ty.S (L.getD i []))
structure Tx.At (B : Nat) (w : World) (v : Value) (L : List Tx.Str) : Prop where
 is : ∃ a c, v = .slice a L.length c ∧ L.length ≤ c ∧ B ≤ w.heap.size ∧ ((L = [] ∧ (a = none → c = 0)) ∨ ∃ b o, a = some ⟨b, o, none⟩ ∧ b < B ∧ ∀ i, i < L.length → w.cell? ⟨b, o + i, none⟩ = some (Tx.sv L i))
theorem Tx.At.below {B : Nat} {w w' : World} {v : Value} {L : List Tx.Str} (h : Tx.At B w v L) (g : Below B w w') : Tx.At B w' v L := by
 obtain ⟨a, c, rfl, hc, hB, h⟩ := h
 refine ⟨a, c, rfl, hc, Nat.le_trans hB g.size, ?_⟩
 rcases h with h | ⟨b, o, rfl, hlt, h⟩
 ·exact .inl h
 ·exact .inr ⟨b, o, rfl, hlt, fun i hi => (g.cell (p := ⟨b, o + i, none⟩) hlt).trans (h i hi)⟩
theorem Tx.At.mono {B B' : Nat} {w : World} {v : Value} {L : List Tx.Str} (h : Tx.At B w v L) (h1 : B ≤ B') (h2 : B' ≤ w.heap.size) : Tx.At B' w v L := by
 obtain ⟨a, c, rfl, hc, hB, h⟩ := h
 refine ⟨a, c, rfl, hc, h2, ?_⟩
 rcases h with h | ⟨b, o, rfl, hlt, h⟩
 ·exact .inl h
 ·exact .inr ⟨b, o, rfl, by omega, h⟩
theorem Tx.At.nil (w : World) : Tx.At w.heap.size w (.slice none 0 0) [] := ⟨_, _, rfl, Nat.le_refl _, Nat.le_refl _, .inl ⟨rfl, fun _ => rfl⟩⟩
def Tx.posI (L : List Tx.Str) (t : Tx.Str) : Int := if t ∈ L then ((Tx.pos L t : Nat) : Int) else -1
end
section
open Go.RowKit
def Tx.Own (base : Nat) (w : World) (v : Value) (L : List Tx.Str) : Prop := Bt.Buf 9 base w v L.length (Tx.sv L)
theorem Tx.Own.nil (base : Nat) (w : World) : Tx.Own base w (.slice none 0 0) [] := Bt.Buf.nil _ _ _ _
theorem Tx.Own.post {base : Nat} {w : World} {v : Value} {M : List Tx.Str} {x : Tx.Str} (h : Bt.Buf 9 base w v (M.length + 1) (Tx.sv (M ++ [x]))) : Tx.Own base w v (M ++ [x]) := by
 unfold Tx.Own
 rw [List.length_append, List.length_singleton]
 exact h
theorem Tx.Own.at {base : Nat} {w : World} {v : Value} {L : List Tx.Str} (h : Tx.Own base w v L) : Tx.At w.heap.size w v L := by
 have hs := Bt.Buf.sl h
 obtain ⟨a, c, rfl, h1⟩ := hs
 have hc : L.length ≤ c ∧ (a = none → c = 0) := by
  rcases h.2 with ⟨e, e0⟩ | ⟨g, cap, cur, e, _, _, hcap, _⟩
  ·simp only [Value.slice.injEq] at e
   exact ⟨by omega, fun _ => by omega⟩
  ·simp only [Value.slice.injEq] at e
   exact ⟨by omega, fun e2 => by rw [e2] at e; exact absurd e.1 (by simp)⟩
 refine ⟨a, c, rfl, hc.1, Nat.le_refl _, ?_⟩
 rcases h1 with h1 | h1
 ·exact .inl ⟨List.eq_nil_of_length_eq_zero h1, hc.2⟩
 ·exact .inr h1
def Tx.Src (w : World) (u : Value) (K : List Tx.Str) : Prop := (u = .slice none 0 0 ∧ K = []) ∨ ∃ ad c, u = .slice (some ad) K.length c ∧ ∀ i, i < K.length → w.cell? (ad.add i) = some (Tx.sv K i)
theorem Tx.addr_add (b o i : Nat) : (⟨b, o, none⟩ : Addr).add i = ⟨b, o + i, none⟩ := by unfold Addr.add; split <;> simp_all
theorem Tx.Own.form {base : Nat} {w : World} {v : Value} {L : List Tx.Str} (h : Tx.Own base w v L) : (v = .slice none 0 0 ∧ L = []) ∨ ∃ g c, v = .slice (some ⟨g, 0, none⟩) L.length c ∧ L.length ≤ c ∧ g < w.heap.size ∧ ∀ i, i < L.length → w.cell? ⟨g, i, none⟩ = some (Tx.sv L i) := by
 rcases h.2 with ⟨e, e0⟩ | ⟨g, cap, cur, e, _, hgg, hcap, _⟩
 ·exact .inl ⟨e, List.eq_nil_of_length_eq_zero e0⟩
 ·refine .inr ⟨g, cap, e, hcap, (Array.getElem?_eq_some_iff.1 hgg).1, fun i hi => ?_⟩
  have := h.cells (g := g) (by rw [e]; rfl) i (Tx.sv L i) (by simp [hi])
  rwa [Tx.addr_add, Nat.zero_add] at this
theorem Tx.Own.mono {B B' : Nat} {w : World} {v : Value} {L : List Tx.Str} (h : Tx.Own B w v L) (hB : B' ≤ B) : Tx.Own B' w v L := by
 refine ⟨h.1, ?_⟩
 rcases h.2 with hn | ⟨b, cap, cur, rfl, hbb, rest⟩
 ·exact .inl hn
 ·exact .inr ⟨b, cap, cur, rfl, by omega, rest⟩
end
section
open Go.RowKit
def Fr.Mid (l : List UInt8) (a : Nat) (L : List Fr.Str) : Prop :=
 a ≤ l.length ∧ 8 * L.length ≤ a ∧ Fr.scan l = if (Fr.scan (l.drop a)).1 ≠ 0 then (8, [], 0) else (0, L ++ (Fr.scan (l.drop a)).2.1, a + (Fr.scan (l.drop a)).2.2)
theorem Fr.Mid.short {l : List UInt8} {a : Nat} {L : List Fr.Str} (h : Fr.Mid l a L) (h4 : (l.drop a).length < 4) : Fr.scan l = (0, L, a) := by
 rw [h.2.2, Fr.scan_is (l.drop a), if_pos h4]
 simp
theorem Fr.Mid.big {l : List UInt8} {a : Nat} {L : List Fr.Str} (h : Fr.Mid l a L) (h4 : ¬ (l.drop a).length < 4) (hb : 1048576 < Fr.val ((l.drop a).take 4)) : Fr.scan l = (8, [], 0) := by
 rw [h.2.2, Fr.scan_is (l.drop a), if_neg h4, if_pos hb]
 rfl
theorem Fr.Mid.torn {l : List UInt8} {a : Nat} {L : List Fr.Str} (h : Fr.Mid l a L) (h4 : ¬ (l.drop a).length < 4) (hb : ¬ 1048576 < Fr.val ((l.drop a).take 4)) (ht : (l.drop a).length < Fr.val ((l.drop a).take 4) + 8) : Fr.scan l = (0, L, a) := by
 rw [h.2.2, Fr.scan_is (l.drop a), if_neg h4, if_neg hb, if_pos ht]
 simp
theorem Fr.Mid.wrong {l : List UInt8} {a : Nat} {L : List Fr.Str} (h : Fr.Mid l a L) (h4 : ¬ (l.drop a).length < 4) (hb : ¬ 1048576 < Fr.val ((l.drop a).take 4)) (ht : ¬ (l.drop a).length < Fr.val ((l.drop a).take 4) + 8)
 (hs : Fr.val (((l.drop a).drop (4 + Fr.val ((l.drop a).take 4))).take 4) ≠ Fr.sum (((l.drop a).drop 4).take (Fr.val ((l.drop a).take 4)))) : Fr.scan l = (8, [], 0) := by
 rw [h.2.2, Fr.scan_is (l.drop a), if_neg h4, if_neg hb, if_neg ht, if_pos hs]
 rfl
theorem Fr.Mid.next {l : List UInt8} {a : Nat} {L : List Fr.Str} (h : Fr.Mid l a L) (h4 : ¬ (l.drop a).length < 4) (hb : ¬ 1048576 < Fr.val ((l.drop a).take 4)) (ht : ¬ (l.drop a).length < Fr.val ((l.drop a).take 4) + 8)
 (hs : Fr.val (((l.drop a).drop (4 + Fr.val ((l.drop a).take 4))).take 4) = Fr.sum (((l.drop a).drop 4).take (Fr.val ((l.drop a).take 4)))) : Fr.Mid l (a + (Fr.val ((l.drop a).take 4) + 8)) (L ++ [((l.drop a).drop 4).take (Fr.val ((l.drop a).take 4))]) := by
 have hlen : (l.drop a).length = l.length - a := List.length_drop
 refine ⟨by omega, by rw [List.length_append, List.length_singleton]; have := h.2.1; omega, ?_⟩
 have e := Fr.scan_is (l.drop a)
 rw [if_neg h4, if_neg hb, if_neg ht, if_neg (fun h => h hs), show (l.drop a).drop (Fr.val ((l.drop a).take 4) + 8) = l.drop (a + (Fr.val ((l.drop a).take 4) + 8)) from List.drop_drop] at e
 rw [h.2.2, e]
 generalize Fr.scan (l.drop (a + (Fr.val ((l.drop a).take 4) + 8))) = q
 generalize Fr.val ((l.drop a).take 4) = N
 by_cases h5 : q.1 ≠ 0
 ·simp [h5]
 ·have h6 : q.1 = 0 := by simpa using h5
  simp [h6, Nat.add_assoc]
def Fr.Got (w : World) (r : Nat × List Fr.Str × Nat) (e : Ending) (w' : World) : Prop :=
 ∃ v, e = .returned (.tuple #[v, .int .i64 ((r.2.2 : Nat) : Int), .int .i64 ((r.1 : Nat) : Int)]) ∧ Tx.At w'.heap.size w' v r.2.1 ∧ Below w.heap.size w w'
theorem Fr.Got.good {w w' : World} {r : Nat × List Fr.Str × Nat} {v : Value} {L : List Fr.Str} {a : Nat} (hr : r = (0, L, a)) (h : Tx.At w'.heap.size w' v L) (g : Below w.heap.size w w') : Fr.Got w r (.returned (.tuple #[v, .int .i64 (a : Int), .int .i64 0])) w' :=
 ⟨_, by rw [hr]; rfl, by rw [hr]; exact h, g⟩
end
section
open Go.RowKit
end
section
open Go
open Ty (encU U64 I64)
open Ig (rest sg)
open Tx (encT restT)
def Mf.P.i64 (p : Mf.P) : Prop := I64 p.lo.n ∧ I64 p.hi.n
theorem Mf.part_is {p : Mf.P} (h : Mf.part p = true) : (0 ≤ p.id ∧ p.id ≤ 999999999) ∧ (0 ≤ p.lv ∧ p.lv ≤ 3) ∧ Mf.key p.lo = true ∧ Mf.key p.hi = true ∧ Kn.cmp p.lo p.hi ≤ 0 := by
 unfold Mf.part at h
 simp only [Bool.and_eq_true, decide_eq_true_iff] at h
 exact ⟨(Mf.nm_iff _).1 h.1.1.1.1, h.1.1.1.2, h.1.1.2, h.1.2, h.2⟩
theorem Mf.encN_len (n : Int) : (Mf.encN n).length ≤ 9 := Ty.encU_len9 _
theorem Mf.encV_len {v : Kn.V} (h : Mf.key v = true) : (Mf.encV v).length ≤ 82 := by
 unfold Mf.key at h
 simp only [Bool.and_eq_true, Bool.not_eq_true', decide_eq_true_iff] at h
 have h1 : (Ig.encI v.n).length ≤ 9 := Ty.encU_len9 _
 have h2 : (encU v.s.data.toList.length).length ≤ 9 := Ty.encU_len9 _
 have h3 : v.s.data.toList.length ≤ 64 := by rw [Ty.length_data]; exact h.2
 unfold Mf.encV encT
 simp only [List.length_append]
 omega
theorem Mf.encP_len {p : Mf.P} (h : Mf.part p = true) : (Mf.encP p).length ≤ 182 := by
 obtain ⟨_, _, h3, h4, _⟩ := Mf.part_is h
 have := Mf.encV_len h3
 have := Mf.encV_len h4
 have := Mf.encN_len p.id
 have := Mf.encN_len p.lv
 unfold Mf.encP
 simp only [List.length_append]
 omega
theorem Mf.flat_len {α : Type} {enc : α → List UInt8} {m : Nat} : ∀ (L : List α) (_ : ∀ x ∈ L, (enc x).length ≤ m), (L.flatMap enc).length ≤ L.length * m
 | [], _ => by simp
 | x :: L, h => by
   have := Mf.flat_len L fun y hy => h y (by simp [hy])
   have := h x (by simp)
   rw [List.flatMap_cons, List.length_append, List.length_cons, Nat.add_mul]
   omega
theorem Mf.enc_len {e : Mf.E} (h : Mf.right e = true) : (Mf.enc e).length ≤ 200000 := by
 obtain ⟨h1, h2, _, h4, _, _⟩ := (Mf.right_iff e).1 h
 have a1 := Mf.flat_len e.drop (enc := Mf.encN) (m := 9) fun x _ => Mf.encN_len x
 have a2 := Mf.flat_len e.add (enc := Mf.encP) (m := 182) fun x hx => Mf.encP_len (h4 x hx)
 have := Mf.encN_len e.drop.length
 have := Mf.encN_len e.add.length
 have := Mf.encN_len e.floor
 have := Mf.encN_len e.next
 have := Nat.mul_le_mul_right 9 h1
 have := Nat.mul_le_mul_right 182 h2
 unfold Mf.enc
 simp only [List.length_append]
 omega
def Mf.rp : Mf.S → List (List UInt8) → Option Mf.S
 | s, [] => some s
 | s, t :: ts => match Mf.rd t with
   | none => none
   | some e => match Mf.ap s e with
     | none => none
     | some u => Mf.rp u ts
def Mf.rr (l : List UInt8) : Option Mf.S := if (Fr.scan l).1 = 0 then Mf.rp ⟨[], 0, 0⟩ (Fr.scan l).2.1 else none
end
section
open Go.RowKit
def Fr.all (l : List UInt8) : Nat × List Fr.Str := if (Fr.scan l).1 ≠ 0 then ((Fr.scan l).1, []) else if (Fr.scan l).2.2 < l.length then (2, []) else (0, (Fr.scan l).2.1)
def Fr.GotA (w : World) (r : Nat × List Fr.Str) (e : Ending) (w' : World) : Prop :=
 ∃ v, e = .returned (.tuple #[v, .int .i64 ((r.1 : Nat) : Int)]) ∧ Tx.At w'.heap.size w' v r.2 ∧ Below w.heap.size w w'
theorem Fr.GotA.good {w w' : World} {r : Nat × List Fr.Str} {v : Value} {L : List Fr.Str} (hr : r = (0, L)) (h : Tx.At w'.heap.size w' v L) (g : Below w.heap.size w w') : Fr.GotA w r (.returned (.tuple #[v, .int .i64 0])) w' :=
 ⟨_, by rw [hr]; rfl, by rw [hr]; exact h, g⟩
end
end Go.Proofs.YthfgcilaikjhpaaDoor
