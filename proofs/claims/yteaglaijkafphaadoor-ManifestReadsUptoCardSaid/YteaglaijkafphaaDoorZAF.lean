import Derived.Test.YteaglaijkafphaaDoorZAE
import Derived.Test.YteaglaijkafphaaDoorZAC
import Derived.BigQuiet
import Derived.Deep.QuietTactic
import Derived.Test.YteaglaijkafphaaDoorZAD
import Derived.Test.YteaglaijkafphaaDoorZAB
import Derived.Lib.QuietBelow
import Derived.Deep.RegionHeld3
namespace Go.Proofs.YteaglaijkafphaaDoor
section
open Go.RowKit
structure Bt.Sl (w : World) (v : Value) (n : Nat) (f : Nat → Value) : Prop where
 is : ∃ a c, v = .slice a n c ∧ (n = 0 ∨ ∃ b o, a = some ⟨b, o, none⟩ ∧ b < w.heap.size ∧ ∀ i, i < n → w.cell? ⟨b, o + i, none⟩ = some (f i))
theorem Bt.Sl.later {w w' : World} {v : Value} {n : Nat} {f : Nat → Value} (h : Bt.Sl w v n f) (g : Below w.heap.size w w') : Bt.Sl w' v n f := by
 obtain ⟨a, c, rfl, h⟩ := h
 refine ⟨a, c, rfl, ?_⟩
 rcases h with h | ⟨b, o, rfl, hlt, h⟩
 ·exact .inl h
 ·exact .inr ⟨b, o, rfl, Nat.lt_of_lt_of_le hlt g.size, fun i hi => (g.cell (p := ⟨b, o + i, none⟩) hlt).trans (h i hi)⟩
def Bt.nv (X : Nat → Nat) (i : Nat) : Value := .int .u64 ((X i : Nat) : Int)
def Bt.bv (T : Nat → Bool) (i : Nat) : Value := .bool (T i)
theorem Bt.info8 : (Tryd.prog.info? 5).map (fun i => (i.zero, i.size, i.bytes)) = some (some (.int .u8 0), 1, 1) := by kernel_rfl
theorem Bt.Put.below {g sz : Nat} {F : Nat → Bool} {w w' : World} (h : Bt.Put g sz F w w') {B : Nat} (hB : B ≤ g) (hs : B ≤ w.heap.size) : Below B w w' :=
 ⟨h.2.os, h.2.tape, h.2.output, h.2.size, fun k hk => h.2.block k (by omega) (fun e => by have := Option.some.inj e; omega)⟩
def Bt.packV (n : Nat) (X : Nat → Nat) (q : Int) : Value :=
 if 0 ≤ q ∧ q ≤ 64 then (if q.toNat < Bt.wid n X then .tuple #[.string ⟨#[]⟩, .int .i64 4] else .tuple #[.string (Bt.bytes (Bt.need (n * q.toNat)) (Bt.pk n X q.toNat)), .int .i64 0])
 else .tuple #[.string ⟨#[]⟩, .int .i64 1]
end
section
open Go.RowKit
def Bt.utE (s : ByteArray) (z : Int) : Nat := if 0 ≤ z ∧ z ≤ 65536 then Bt.chk s z.toNat else 1
def Bt.utN (s : ByteArray) (z : Int) : Nat := if Bt.utE s z = 0 then z.toNat else 0
def Bt.upE (s : ByteArray) (z q : Int) : Nat := if (0 ≤ q ∧ q ≤ 64) ∧ 0 ≤ z ∧ z ≤ 65536 then Bt.chk s (z.toNat * q.toNat) else 1
def Bt.upN (s : ByteArray) (z q : Int) : Nat := if Bt.upE s z q = 0 then z.toNat else 0
def Bt.nums (s : ByteArray) (q : Nat) (i : Nat) : Nat := Bt.num q (fun j => Bt.bit s (i * q + j))
theorem Bt.Sl.nil (w : World) (f : Nat → Value) : Bt.Sl w (.slice none 0 0) 0 f := ⟨none, 0, rfl, .inl rfl⟩
theorem Bt.Sl.row {w : World} {g n c : Nat} {t : TypeId} {f : Nat → Value} (h : w.rowIs g t n f) : Bt.Sl w (.slice (some ⟨g, 0, none⟩) n c) n f :=
 ⟨_, c, rfl, .inr ⟨g, 0, rfl, h.lt, fun i hi => by rw [Nat.zero_add]; exact h.cell hi⟩⟩
def Bt.upTo (k : Nat) (f : Nat → Value) (z : Value) (i : Nat) : Value := if i < k then f i else z
theorem Bt.upTo_next {w : World} {g n k : Nat} {t : TypeId} {f : Nat → Value} {z u : Value} (h : w.rowIs g t n (Bt.upTo k f z)) (hu : u = f k) : (w.setCell ⟨g, k, none⟩ u).rowIs g t n (Bt.upTo (k + 1) f z) := by
 refine (World.rowIs.set h k u).congr fun i _ => ?_
 unfold Bt.upTo
 by_cases e : i = k
 ·subst e
  rw [if_pos rfl, if_pos (by omega), hu]
 ·rw [if_neg e]
  by_cases h2 : i < k
  ·rw [if_pos h2, if_pos (by omega)]
  ·rw [if_neg h2, if_neg (by omega)]
theorem Bt.below_set {w : World} {g i B : Nat} (hB : B ≤ g) (u : Value) : Below B w (w.setCell ⟨g, i, none⟩ u) :=
 ⟨rfl, rfl, rfl, by simp [World.setCell], fun k hk => Below.heap_setCell _ _ _ _ (by show k ≠ g; omega)⟩
end
section
open Go.RowKit
def Bt.Buf (e : TypeId) (base : Nat) (w : World) (v : Value) (n : Nat) (f : Nat → Value) : Prop := w.ownsRow base e 1 v n ((List.range n).map f)
theorem Bt.Buf.nil (e : TypeId) (base : Nat) (w : World) (f : Nat → Value) : Bt.Buf e base w (.slice none 0 0) 0 f := World.ownsRow_nil w base _ 1
theorem Bt.Buf.sl {e : TypeId} {base : Nat} {w : World} {v : Value} {n : Nat} {f : Nat → Value} (h : Bt.Buf e base w v n f) : Bt.Sl w v n f := by
 have h0 := h
 rcases h.2 with ⟨rfl, rfl⟩ | ⟨g, cap, cur, rfl, _, hg, _⟩
 ·exact Bt.Sl.nil _ _
 ·refine ⟨_, cap, rfl, .inr ⟨g, 0, rfl, (Array.getElem?_eq_some_iff.1 hg).1, fun i hi => ?_⟩⟩
  have := h0.cells (g := g) rfl i (f i) (by simp [hi])
  have ea : (⟨g, 0, none⟩ : Addr).add i = ⟨g, 0 + i, none⟩ := by unfold Addr.add; split <;> simp_all
  rwa [ea] at this
theorem Bt.Buf.kept {e : TypeId} {base : Nat} {w w' : World} {v : Value} {n : Nat} {f : Nat → Value} (h : Bt.Buf e base w v n f) (g : Below w.heap.size w w') : Bt.Buf e base w' v n f := by
 refine ⟨h.1, ?_⟩
 rcases h.2 with hn | ⟨b, cap, cur, rfl, hbb, hgg, rest⟩
 ·exact .inl hn
 ·exact .inr ⟨b, cap, cur, rfl, hbb, by rw [g.block b (Array.getElem?_eq_some_iff.1 hgg).1]; exact hgg, rest⟩
theorem Bt.Buf.congr {e : TypeId} {base : Nat} {w : World} {v : Value} {n : Nat} {f g : Nat → Value} (h : Bt.Buf e base w v n f) (hf : ∀ i, i < n → f i = g i) : Bt.Buf e base w v n g := by
 unfold Bt.Buf at h ⊢
 have : (List.range n).map g = (List.range n).map f := List.map_congr_left fun i hi => (hf i (List.mem_range.1 hi)).symm
 rw [this]; exact h
theorem Bt.Buf.base_le {e : TypeId} {base : Nat} {w : World} {v : Value} {n : Nat} {f : Nat → Value} (h : Bt.Buf e base w v n f) : ∀ k, v.ownBlock = some k → base ≤ k := by
 intro k hk
 rcases h.2 with ⟨rfl, _⟩ | ⟨b, cap, cur, rfl, hbb, _⟩
 ·cases hk
 ·have : b = k := by simpa [Value.ownBlock] using hk
  omega
theorem Bt.wpList_append_one (e t : TypeId) (z : Value) (by_ : Nat) (hu : Tryd.prog.underlying t = some (.slice e)) (hinfo : (Tryd.prog.info? e).map (fun i => (i.zero, i.size, i.bytes)) = some (some z, 1, by_)) (hz : z.cells.size = 1)
 {base : Nat} {w0 : World} {v : Value} {n : Nat} {f : Nat → Value} (hown : Bt.Buf e base w0 v n f) (hb : base ≤ w0.heap.size) (hl : (n + 1) * by_ ≤ 140737488355328) (hl2 : n + 1 ≤ 140737488355328)
 {ops : Array Oper} {rest : List Oper} {o : Oper} {a : Act} {Q : Exit → Act → World → Prop} (s x : Operand) (u : Value) (hu1 : u.oneCell' = true) (hgd : o.guard = none)
 (ho : o.op = .call { callee := .builtin .append, args := #[s, x], argTypes := #[t, t] })
 (hs : a.eval s = v) (hx : a.eval x = .slice (some ⟨w0.heap.size, 0, none⟩) 1 1)
 (h : ∀ v' w', (u = f n → Bt.Buf e base w' v' (n + 1) f) → Ty.Grew w0 w' v v' → wpList Tryd.prog ops Q rest (a.put o.dst v') w') :
 wpList Tryd.prog ops Q (o :: rest) a (w0.alloc (.cells #[u] e)) := by
 obtain ⟨i0, hi, hz0, hz1, hz2⟩ := info_parts hinfo
 refine Ty.wpList_append_tight _ hgd s x t ho base e i0 z 1 by_ hu hi hz0 hz1 hz2 hz (by decide) v n ((List.range n).map f) hs (World.ownsRow.alloc hown _) ⟨w0.heap.size, 0, none⟩ 1 1 [u] hx rfl (cell_one_new _ _ _)
  (fun x hx => by simp at hx; subst hx; exact hu1) (by unfold maxLen; omega) hl (by simp; omega) fun v' w' h1 h2 => h v' w' (fun hu => ?_) (h2.behind _)
 subst hu
 unfold Bt.Buf
 rw [List.range_succ, List.map_append]
 exact h1
end
section
open Go.RowKit
theorem Bt.Row.add {w : World} {g sz k q r : Nat} {T : Nat → Bool} (h : Bt.Row w g sz (Bt.tr k T)) (hT : T k = true) (hq : q = k / 8) (hr : r = k % 8) :
 Bt.Row (w.setCell ⟨g, q, none⟩ (.int .u8 ((((Bt.oct (Bt.tr k T) q : Nat) : Int) + 2 ^ r) % 256))) g sz (Bt.tr (k + 1) T) := by
 have e : (((Bt.oct (Bt.tr k T) q : Nat) : Int) + 2 ^ r) % 256 = ((Bt.oct (Bt.tr (k + 1) T) q : Nat) : Int) := by
  have h1 := Bt.tr_add T k hT
  have h2 := Bt.oct_lt (Bt.tr (k + 1) T) q
  rw [← hq, ← hr] at h1
  have e2 : (2 : Int) ^ r = ((2 ^ r : Nat) : Int) := by simp
  rw [e2]
  omega
 rw [e]
 refine World.rowIs.congr (World.rowIs.set h q _) fun i _ => ?_
 by_cases e : i = q
 ·subst e
  rw [if_pos rfl]
 ·rw [if_neg e, Bt.tr_far T k i (by rw [← hq]; exact e)]
theorem Bt.drewN_below (w : World) (n : Nat) : Below w.heap.size w (w.drewN n) := ⟨rfl, rfl, rfl, Nat.le_refl _, fun _ _ => rfl⟩
end
section
open Go.RowKit
def Bt.flat (X : Nat → Nat) (q x : Nat) : Bool := (X (x / q)).testBit (x % q)
end
section
open Go.RowKit
def Tx.sv (L : List Tx.Str) (i : Nat) : Value := .string (Ty.S (L.getD i []))
structure Tx.At (B : Nat) (w : World) (v : Value) (L : List Tx.Str) : Prop where
 is : ∃ a c, v = .slice a L.length c ∧ L.length ≤ c ∧ B ≤ w.heap.size ∧ ((L = [] ∧ (a = none → c = 0)) ∨ ∃ b o, a = some ⟨b, o, none⟩ ∧ b < B ∧ ∀ i, i < L.length → w.cell? ⟨b, o + i, none⟩ = some (Tx.sv L i))
theorem Tx.At.below {B : Nat} {w w' : World} {v : Value} {L : List Tx.Str} (h : Tx.At B w v L) (g : Below B w w') : Tx.At B w' v L := by
 obtain ⟨a, c, rfl, hc, hB, h⟩ := h
 refine ⟨a, c, rfl, hc, Nat.le_trans hB g.size, ?_⟩
 rcases h with h | ⟨b, o, rfl, hlt, h⟩
 ·exact .inl h
 ·exact .inr ⟨b, o, rfl, hlt, fun i hi => (g.cell (p := ⟨b, o + i, none⟩) hlt).trans (h i hi)⟩
theorem Tx.At.mono {B B' : Nat} {w : World} {v : Value} {L : List Tx.Str} (h : Tx.At B w v L) (h1 : B ≤ B') (h2 : B' ≤ w.heap.size) : Tx.At B' w v L := by
 obtain ⟨a, c, rfl, hc, hB, h⟩ := h
 refine ⟨a, c, rfl, hc, h2, ?_⟩
 rcases h with h | ⟨b, o, rfl, hlt, h⟩
 ·exact .inl h
 ·exact .inr ⟨b, o, rfl, by omega, h⟩
theorem Tx.At.nil (w : World) : Tx.At w.heap.size w (.slice none 0 0) [] := ⟨_, _, rfl, Nat.le_refl _, Nat.le_refl _, .inl ⟨rfl, fun _ => rfl⟩⟩
def Tx.posI (L : List Tx.Str) (t : Tx.Str) : Int := if t ∈ L then ((Tx.pos L t : Nat) : Int) else -1
end
section
open Go.RowKit
theorem Tx.infoS : (Tryd.prog.info? 9).map (fun i => (i.zero, i.size, i.bytes)) = some (some (.string ⟨#[]⟩), 1, 16) := by kernel_rfl
def Tx.Own (base : Nat) (w : World) (v : Value) (L : List Tx.Str) : Prop := Bt.Buf 9 base w v L.length (Tx.sv L)
theorem Tx.Own.nil (base : Nat) (w : World) : Tx.Own base w (.slice none 0 0) [] := Bt.Buf.nil _ _ _ _
theorem Tx.sv_left (M R : List Tx.Str) {i : Nat} (h : i < M.length) : Tx.sv (M ++ R) i = Tx.sv M i := by
 unfold Tx.sv
 rw [List.getD, List.getD, List.getElem?_append_left h]
theorem Tx.sv_right (M R : List Tx.Str) (i : Nat) : Tx.sv (M ++ R) (M.length + i) = Tx.sv R i := by
 unfold Tx.sv
 have e : M.length + i - M.length = i := by omega
 rw [List.getD, List.getD, List.getElem?_append_right (by omega), e]
theorem Tx.Own.pre {base : Nat} {w : World} {v : Value} {M : List Tx.Str} (h : Tx.Own base w v M) (x : Tx.Str) : Bt.Buf 9 base w v M.length (Tx.sv (M ++ [x])) :=
 Bt.Buf.congr h fun i hi => by rw [Tx.sv_left M [x] hi]
theorem Tx.Own.post {base : Nat} {w : World} {v : Value} {M : List Tx.Str} {x : Tx.Str} (h : Bt.Buf 9 base w v (M.length + 1) (Tx.sv (M ++ [x]))) : Tx.Own base w v (M ++ [x]) := by
 unfold Tx.Own
 rw [List.length_append, List.length_singleton]
 exact h
theorem Tx.sv_snoc (M : List Tx.Str) (x : Tx.Str) : Value.string (Ty.S x) = Tx.sv (M ++ [x]) M.length := by
 have := Tx.sv_right M [x] 0
 rw [Nat.add_zero] at this
 rw [this]
 rfl
theorem Tx.Own.at {base : Nat} {w : World} {v : Value} {L : List Tx.Str} (h : Tx.Own base w v L) : Tx.At w.heap.size w v L := by
 have hs := Bt.Buf.sl h
 obtain ⟨a, c, rfl, h1⟩ := hs
 have hc : L.length ≤ c ∧ (a = none → c = 0) := by
  rcases h.2 with ⟨e, e0⟩ | ⟨g, cap, cur, e, _, _, hcap, _⟩
  ·simp only [Value.slice.injEq] at e
   exact ⟨by omega, fun _ => by omega⟩
  ·simp only [Value.slice.injEq] at e
   exact ⟨by omega, fun e2 => by rw [e2] at e; exact absurd e.1 (by simp)⟩
 refine ⟨a, c, rfl, hc.1, Nat.le_refl _, ?_⟩
 rcases h1 with h1 | h1
 ·exact .inl ⟨List.eq_nil_of_length_eq_zero h1, hc.2⟩
 ·exact .inr h1
def Tx.Src (w : World) (u : Value) (K : List Tx.Str) : Prop := (u = .slice none 0 0 ∧ K = []) ∨ ∃ ad c, u = .slice (some ad) K.length c ∧ ∀ i, i < K.length → w.cell? (ad.add i) = some (Tx.sv K i)
theorem Tx.addr_add (b o i : Nat) : (⟨b, o, none⟩ : Addr).add i = ⟨b, o + i, none⟩ := by unfold Addr.add; split <;> simp_all
theorem Tx.Own.form {base : Nat} {w : World} {v : Value} {L : List Tx.Str} (h : Tx.Own base w v L) : (v = .slice none 0 0 ∧ L = []) ∨ ∃ g c, v = .slice (some ⟨g, 0, none⟩) L.length c ∧ L.length ≤ c ∧ g < w.heap.size ∧ ∀ i, i < L.length → w.cell? ⟨g, i, none⟩ = some (Tx.sv L i) := by
 rcases h.2 with ⟨e, e0⟩ | ⟨g, cap, cur, e, _, hgg, hcap, _⟩
 ·exact .inl ⟨e, List.eq_nil_of_length_eq_zero e0⟩
 ·refine .inr ⟨g, cap, e, hcap, (Array.getElem?_eq_some_iff.1 hgg).1, fun i hi => ?_⟩
  have := h.cells (g := g) (by rw [e]; rfl) i (Tx.sv L i) (by simp [hi])
  rwa [Tx.addr_add, Nat.zero_add] at this
theorem Tx.grew_below {wo w w' : World} {v v' : Value} {L : List Tx.Str} (hb : Below wo.heap.size wo w) (ho : Tx.Own wo.heap.size w v L) (g : Ty.Grew w w' v v') : Below wo.heap.size wo w' :=
 hb.trans (g.below hb.size (Bt.Buf.base_le ho))
theorem Tx.Own.mono {B B' : Nat} {w : World} {v : Value} {L : List Tx.Str} (h : Tx.Own B w v L) (hB : B' ≤ B) : Tx.Own B' w v L := by
 refine ⟨h.1, ?_⟩
 rcases h.2 with hn | ⟨b, cap, cur, rfl, hbb, rest⟩
 ·exact .inl hn
 ·exact .inr ⟨b, cap, cur, rfl, by omega, rest⟩
end
section
open Go.RowKit
def Fr.Mid (l : List UInt8) (a : Nat) (L : List Fr.Str) : Prop :=
 a ≤ l.length ∧ 8 * L.length ≤ a ∧ Fr.scan l = if (Fr.scan (l.drop a)).1 ≠ 0 then (8, [], 0) else (0, L ++ (Fr.scan (l.drop a)).2.1, a + (Fr.scan (l.drop a)).2.2)
theorem Fr.Mid.start (l : List UInt8) : Fr.Mid l 0 [] := by
 refine ⟨Nat.zero_le _, by simp, ?_⟩
 rw [List.drop_zero]
 rcases Fr.scan_err l with e | e
 ·rw [if_neg (by rw [e]; simp)]
  exact Prod.ext e (Prod.ext (by simp) (by simp))
 ·rw [e]; rfl
theorem Fr.Mid.short {l : List UInt8} {a : Nat} {L : List Fr.Str} (h : Fr.Mid l a L) (h4 : (l.drop a).length < 4) : Fr.scan l = (0, L, a) := by
 rw [h.2.2, Fr.scan_is (l.drop a), if_pos h4]
 simp
theorem Fr.Mid.big {l : List UInt8} {a : Nat} {L : List Fr.Str} (h : Fr.Mid l a L) (h4 : ¬ (l.drop a).length < 4) (hb : 1048576 < Fr.val ((l.drop a).take 4)) : Fr.scan l = (8, [], 0) := by
 rw [h.2.2, Fr.scan_is (l.drop a), if_neg h4, if_pos hb]
 rfl
theorem Fr.Mid.torn {l : List UInt8} {a : Nat} {L : List Fr.Str} (h : Fr.Mid l a L) (h4 : ¬ (l.drop a).length < 4) (hb : ¬ 1048576 < Fr.val ((l.drop a).take 4)) (ht : (l.drop a).length < Fr.val ((l.drop a).take 4) + 8) : Fr.scan l = (0, L, a) := by
 rw [h.2.2, Fr.scan_is (l.drop a), if_neg h4, if_neg hb, if_pos ht]
 simp
theorem Fr.Mid.wrong {l : List UInt8} {a : Nat} {L : List Fr.Str} (h : Fr.Mid l a L) (h4 : ¬ (l.drop a).length < 4) (hb : ¬ 1048576 < Fr.val ((l.drop a).take 4)) (ht : ¬ (l.drop a).length < Fr.val ((l.drop a).take 4) + 8)
 (hs : Fr.val (((l.drop a).drop (4 + Fr.val ((l.drop a).take 4))).take 4) ≠ Fr.sum (((l.drop a).drop 4).take (Fr.val ((l.drop a).take 4)))) : Fr.scan l = (8, [], 0) := by
 rw [h.2.2, Fr.scan_is (l.drop a), if_neg h4, if_neg hb, if_neg ht, if_pos hs]
 rfl
theorem Fr.Mid.next {l : List UInt8} {a : Nat} {L : List Fr.Str} (h : Fr.Mid l a L) (h4 : ¬ (l.drop a).length < 4) (hb : ¬ 1048576 < Fr.val ((l.drop a).take 4)) (ht : ¬ (l.drop a).length < Fr.val ((l.drop a).take 4) + 8)
 (hs : Fr.val (((l.drop a).drop (4 + Fr.val ((l.drop a).take 4))).take 4) = Fr.sum (((l.drop a).drop 4).take (Fr.val ((l.drop a).take 4)))) : Fr.Mid l (a + (Fr.val ((l.drop a).take 4) + 8)) (L ++ [((l.drop a).drop 4).take (Fr.val ((l.drop a).take 4))]) := by
 have hlen : (l.drop a).length = l.length - a := List.length_drop
 refine ⟨by omega, by rw [List.length_append, List.length_singleton]; have := h.2.1; omega, ?_⟩
 have e := Fr.scan_is (l.drop a)
 rw [if_neg h4, if_neg hb, if_neg ht, if_neg (fun h => h hs), show (l.drop a).drop (Fr.val ((l.drop a).take 4) + 8) = l.drop (a + (Fr.val ((l.drop a).take 4) + 8)) from List.drop_drop] at e
 rw [h.2.2, e]
 generalize Fr.scan (l.drop (a + (Fr.val ((l.drop a).take 4) + 8))) = q
 generalize Fr.val ((l.drop a).take 4) = N
 by_cases h5 : q.1 ≠ 0
 ·simp [h5]
 ·have h6 : q.1 = 0 := by simpa using h5
  simp [h6, Nat.add_assoc]
def Fr.Got (w : World) (r : Nat × List Fr.Str × Nat) (e : Ending) (w' : World) : Prop :=
 ∃ v, e = .returned (.tuple #[v, .int .i64 ((r.2.2 : Nat) : Int), .int .i64 ((r.1 : Nat) : Int)]) ∧ Tx.At w'.heap.size w' v r.2.1 ∧ Below w.heap.size w w'
theorem Fr.Got.bad {w w' : World} {r : Nat × List Fr.Str × Nat} (hr : r = (8, [], 0)) (g : Below w.heap.size w w') : Fr.Got w r (.returned (.tuple #[.slice none 0 0, .int .i64 0, .int .i64 8])) w' :=
 ⟨_, by rw [hr]; rfl, by rw [hr]; exact Tx.At.nil _, g⟩
theorem Fr.Got.good {w w' : World} {r : Nat × List Fr.Str × Nat} {v : Value} {L : List Fr.Str} {a : Nat} (hr : r = (0, L, a)) (h : Tx.At w'.heap.size w' v L) (g : Below w.heap.size w w') : Fr.Got w r (.returned (.tuple #[v, .int .i64 (a : Int), .int .i64 0])) w' :=
 ⟨_, by rw [hr]; rfl, by rw [hr]; exact h, g⟩
theorem Fr.ext_at (s : ByteArray) (a b : Nat) : s.extract a b = Ty.S ((s.data.toList.drop a).take (b - a)) := Ty.extract_S s a b
end
section
open Go.RowKit
set_option maxHeartbeats 4000000 in
set_option maxRecDepth 100000 in
theorem Fr.rscan_c (s : ByteArray) (hs : s.size ≤ 70368744177664) (w : World) :
 Calls Tryd.prog 17 #[.string s] w (Fr.Got w (Fr.scan s.data.toList)) := by
 obtain ⟨l, hl⟩ : ∃ l, l = s.data.toList := ⟨_, rfl⟩
 have hll : l.length = s.size := by rw [hl, Ty.length_data]
 rw [← hl]
 have HL := Lib.hid hl
 have HLL := Lib.hid hll
 have HM0 := Lib.hid (Fr.Mid.start l)
 obtain ⟨R, hR⟩ : ∃ R, R = Fr.scan l := ⟨_, rfl⟩
 rw [← hR]
 have HRR := Lib.hid hR
 clear hR hl hll
 go_enter Tryd.func17, Tryd.ntmps17
 go_wp2
 go_loopw [5, 6] (fun ov av wr => ∃ (a : Nat) (L : List Fr.Str), av = .int .i64 a ∧ Fr.Mid l a L ∧ Tx.Own w.heap.size wr ov L ∧ Below w.heap.size w wr) (fun _ av _ => s.size - (intOf av).toNat)
 case atStart => exact ⟨0, [], rfl, HM0.out, Tx.Own.nil _ _, Below.refl _ _⟩
 case round =>
  obtain ⟨a, L, rfl, hM, hO, hb⟩ := hrel
  have has : a ≤ s.size := by have := hM.1; rw [HLL.out] at this; exact this
  have hL8 : 8 * L.length ≤ a := hM.2.1
  have hdl : (l.drop a).length = s.size - a := by rw [List.length_drop, HLL.out]
  have HM := Lib.hid hM
  have HO := Lib.hid hO
  have HB := Lib.hid hb
  have hws := hb.size
  have ha0 : (0 : Int) ≤ (a : Int) := by omega
  clear hM hO hb HM0
  by_cases h4 : s.size - a < 4
  ·have hti : ¬ (4 : Int) ≤ (s.size : Int) - (a : Int) := by omega
   have HE := Lib.hid (HRR.out.trans (HM.out.short (by omega)))
   have HAT := Lib.hid (Tx.Own.at HO.out)
   clear h4 hdl
   go_wp2
   go_ret3
   exact Fr.Got.good HE.out HAT.out HB.out
  ·have hti : (4 : Int) ≤ (s.size : Int) - (a : Int) := by omega
   have h4' : ¬ (l.drop a).length < 4 := by omega
   have hx : s.extract a (a + 4) = Ty.S ((l.drop a).take 4) := by rw [Fr.ext_at, HL.out, Nat.add_sub_cancel_left]
   have hxs : (Ty.S ((l.drop a).take 4)).size = 4 := by rw [Ty.size_S, List.length_take]; omega
   have cn := fun wz => Fr.rnumber_c (Ty.S ((l.drop a).take 4)) (by omega) wz
   rw [Ty.data_S, List.take_take, Nat.min_self] at cn
   have hN32 : Fr.val ((l.drop a).take 4) < 4294967296 := by
    have := Fr.val_lt ((l.drop a).take 4)
    rw [List.length_take, Nat.min_eq_left (by omega)] at this
    exact this
   have FB := Lib.hid fun h => HRR.out.trans (HM.out.big h4' h)
   have FT := Lib.hid fun h h2 => HRR.out.trans (HM.out.torn h4' h h2)
   have FW := Lib.hid fun h h2 h3 => HRR.out.trans (HM.out.wrong h4' h h2 h3)
   have FN := Lib.hid fun h h2 h3 => HM.out.next h4' h h2 h3
   generalize Fr.val ((l.drop a).take 4) = N at cn hN32 FB FT FW FN
   generalize hX4 : Ty.S ((l.drop a).take 4) = X4 at hx hxs cn
   have t1 : ((a : Int) + 4).toNat = a + 4 := by omega
   clear hX4 h4 h4'
   go_wp2_with fail
   with_reducible refine (cn _).mono ?_
   rintro e w1 ⟨rfl, n1, hw1⟩
   have HB1 : Hid (Below w.heap.size w w1) := Lib.hid (by rw [hw1]; exact HB.out.trans ((Bt.drewN_below _ _).mono hws))
   have HO1 : Hid (Tx.Own w.heap.size w1 u5 L) := Lib.hid (by rw [hw1]; exact Bt.Buf.kept HO.out (Bt.drewN_below _ _))
   clear hw1 cn HO HB
   by_cases hb : 1048576 < N
   ·have hbi : (1048576 : Int) < (N : Int) := by omega
    have HE := Lib.hid (FB.out hb)
    clear hb FT FW FN
    go_wp2
    go_ret3
    exact Fr.Got.bad HE.out HB1.out
   ·have hbi : ¬ (1048576 : Int) < (N : Int) := by omega
    clear FB
    by_cases ht : s.size - a < N + 8
    ·have hti2 : (s.size : Int) - (a : Int) < (N : Int) + 8 := by omega
     have HE := Lib.hid (FT.out hb (by omega))
     have HAT := Lib.hid (Tx.Own.at HO1.out)
     clear hb ht FW FN FT hdl
     go_wp2
     go_ret3
     exact Fr.Got.good HE.out HAT.out HB1.out
    ·have hti2 : ¬ (s.size : Int) - (a : Int) < (N : Int) + 8 := by omega
     have ht' : ¬ (l.drop a).length < N + 8 := by omega
     have hT : s.extract (a + 4) (a + 4 + N) = Ty.S (((l.drop a).drop 4).take N) := by rw [Fr.ext_at, HL.out, List.drop_drop, Nat.add_sub_cancel_left]
     have hY : s.extract (a + 4 + N) (a + 8 + N) = Ty.S (((l.drop a).drop (4 + N)).take 4) := by rw [Fr.ext_at, HL.out, List.drop_drop, show a + 8 + N - (a + 4 + N) = 4 by omega, Nat.add_assoc]
     have hTs : (Ty.S (((l.drop a).drop 4).take N)).size ≤ 1048576 := by rw [Ty.size_S, List.length_take]; omega
     have hYs : (Ty.S (((l.drop a).drop (4 + N)).take 4)).size = 4 := by rw [Ty.size_S, List.length_take, List.length_drop]; omega
     have cs := fun wz => Fr.rsum_c (Ty.S (((l.drop a).drop 4).take N)) (by omega) wz
     have cn := fun wz => Fr.rnumber_c (Ty.S (((l.drop a).drop (4 + N)).take 4)) (by omega) wz
     rw [Ty.data_S, List.take_take, Nat.min_self] at cn
     rw [Ty.data_S] at cs
     have FW := Lib.hid (FW.out hb ht')
     have FN := Lib.hid (FN.out hb ht')
     have HTS : Hid (Ty.S (((l.drop a).drop 4).take N) = Ty.S (((l.drop a).drop 4).take N)) := Lib.hid rfl
     generalize Fr.val (((l.drop a).drop (4 + N)).take 4) = V at cn FW FN
     generalize Fr.sum (((l.drop a).drop 4).take N) = M at cs FW FN
     generalize ((l.drop a).drop 4).take N = K at hT hTs cs FN HTS
     generalize hX5 : Ty.S (((l.drop a).drop (4 + N)).take 4) = Y at hY hYs cn
     obtain ⟨T, hTT⟩ : ∃ T, T = Ty.S K := ⟨_, rfl⟩
     rw [← hTT] at hT hTs cs
     have HTT := Lib.hid hTT
     have t2 : ((a : Int) + 4 + (N : Int)).toNat = a + 4 + N := by omega
     have t3 : ((a : Int) + 8 + (N : Int)).toNat = a + 8 + N := by omega
     have hN2 : a + N + 8 ≤ s.size := by omega
     clear hX5 hTT HTS hb ht ht' hdl
     go_wp2_with fail
     with_reducible refine (cn _).mono ?_
     rintro e w2 ⟨rfl, n2, hw2⟩
     have HB2 : Hid (Below w.heap.size w w2) := Lib.hid (by rw [hw2]; exact HB1.out.trans ((Bt.drewN_below _ _).mono HB1.out.size))
     have HO2 : Hid (Tx.Own w.heap.size w2 u5 L) := Lib.hid (by rw [hw2]; exact Bt.Buf.kept HO1.out (Bt.drewN_below _ _))
     clear hw2 cn HO1 HB1
     go_wp2_with fail
     with_reducible refine (cs _).mono ?_
     rintro e w3 ⟨rfl, hw3⟩
     subst w3
     clear cs
     by_cases hv : V = M
     ·have hvi : ((V : Nat) : Int) = ((M : Nat) : Int) := by rw [hv]
      have HNX := Lib.hid (FN.out hv)
      clear FW FN hv
      have hws2 := HB2.out.size
      have hLL : (L.length + 1) * 16 ≤ 140737488355328 := by omega
      have hO2 := HO2.out
      go_wp2_with (at_builtin; refine Bt.wpList_append_one 9 45 (.string ⟨#[]⟩) 16 Tryd.underlying45 Tx.infoS rfl (hO2.pre K) hws2 hLL (by omega) (.tmp 55) (.tmp 57) _ rfl rfl rfl rfl rfl ?_; intro v3 w3 h3 g3)
      have HO3 := Lib.hid (Tx.Own.post (h3 (by rw [← Tx.sv_snoc, ← HTT.out])))
      have HB3 := Lib.hid (Tx.grew_below HB2.out hO2 g3)
      clear h3 g3 hO2 hLL
      go_wp2
      go_roundw
      case rel => exact ⟨a + (N + 8), L ++ [K], by congr 1, HNX.out, HO3.out, HB3.out⟩
      case measure => simp [intOf]; omega
     ·have hvi : ¬ ((V : Nat) : Int) = ((M : Nat) : Int) := by omega
      have HE := Lib.hid (HRR.out.trans (HRR.out.symm.trans (FW.out hv)))
      clear FW FN hv
      go_wp2
      go_ret3
      exact Fr.Got.bad HE.out HB2.out
end
section
open Go
open Ty (encU U64 I64)
open Ig (rest sg)
open Tx (encT restT)
theorem Mf.sX_sim : Mf.Sim Mf.em Mf.St.ok (fun _ => True) Mf.sX Mf.rdX :=
 (Mf.sC_sim _ (fun _ => True)).bind (fun _ => (Mf.Sim.loop (Mf.sC_sim _ (fun _ => True)) _).bind (fun _ => (Mf.sC_sim _ (fun _ => True)).bind (fun _ => (Mf.Sim.loop Mf.sP_sim _).bind (fun _ =>
  (Mf.sC_sim _ (fun _ => True)).bind (fun _ => (Mf.sC_sim _ (fun _ => True)).bind (fun _ => .pure _) fun _ _ _ _ => trivial) fun _ _ _ _ => trivial) fun _ _ _ _ _ _ => trivial) fun _ _ _ _ => trivial) fun _ _ _ _ _ _ => trivial) fun _ _ _ _ => trivial
theorem Mf.fin_0 {l : List UInt8} {e : Nat} (h : Ty.fin l e = 0) : e = 0 ∧ l = [] := by
 unfold Ty.fin at h
 split at h
 ·cases h
 ·rename_i hn
  refine ⟨h, ?_⟩
  by_cases hl : l = []
  ·exact hl
  ·exact absurd ⟨h, hl⟩ hn
theorem Mf.rd_of {l : List UInt8} {x : Int × Int × Mf.E} {r : List UInt8} (h : Mf.rdX l = some (x, r)) : Mf.rd l = if r = [] then some x.2.2 else none := by
 obtain ⟨n, m, e⟩ := x
 unfold Mf.rd
 rw [h]
 cases r with
 | nil => rfl
 | cons b r => rw [if_neg (by simp)]
theorem Mf.sX_rd (l : List UInt8) : Mf.rd l = if (Mf.sX (Mf.em l)).2.wr = false ∧ Ty.fin (Mf.sX (Mf.em l)).2.l (Mf.sX (Mf.em l)).2.e = 0 then some (Mf.sX (Mf.em l)).1.2.2 else none := by
 cases hx : Mf.rdX l with
 | none =>
   rw [if_neg ?_]
   ·unfold Mf.rd; rw [hx]
   ·rintro ⟨h1, h2⟩
    exact Mf.sX_sim.back l ⟨(Mf.fin_0 h2).1, h1⟩ trivial hx
 | some p =>
   obtain ⟨x, r⟩ := p
   rw [Mf.rd_of hx, Mf.sX_sim.good l x r hx]
   show _ = if false = false ∧ Ty.fin r 0 = 0 then some x.2.2 else none
   unfold Ty.fin
   by_cases hr : r = []
   ·simp [hr]
   ·simp [hr]
theorem Mf.dX_sim : Mf.Sim Mf.ec Mf.okc (fun x : Int × Int × Mf.E => 0 ≤ x.1 ∧ 0 ≤ x.2.1 ∧ Mf.right x.2.2 = true) Mf.dX Mf.rdX := by
 have hL := fun n => Mf.Sim.gloop (em := Mf.ec) Mf.go_iff (fun _ => rfl) (Mf.dC_sim 999999999 (by decide)) n
 have hP := fun n => Mf.Sim.gloop (em := Mf.ec) Mf.go_iff (fun _ => rfl) Mf.dP_sim n
 have hnm : ∀ x : Int, Mf.nm x = true → 0 ≤ x ∧ x ≤ ((999999999 : Nat) : Int) := fun x h => by have := (Mf.nm_iff x).1 h; exact ⟨this.1, by have := this.2; omega⟩
 have hb : ∀ n ds m ps a, Mf.Sim Mf.ec Mf.okc (fun x : Int × Int × Mf.E => 0 ≤ x.1 ∧ 0 ≤ x.2.1 ∧ Mf.right x.2.2 = true) (Mf.sb Mf.dC fun b => Mf.sp (n, m, ⟨ds, ps, a, b⟩)) (Mf.bd (Mf.rdC 999999999) fun b => Mf.pr (n, m, ⟨ds, ps, a, b⟩)) := fun n ds m ps a =>
  (Mf.dC_sim 999999999 (by decide)).bind (fun b => .pure _) fun b s _ hv => hnm b ((Mf.right_iff _).1 hv.2.2).2.2.2.2.2
 have ha : ∀ n ds m ps, Mf.Sim Mf.ec Mf.okc (fun x : Int × Int × Mf.E => 0 ≤ x.1 ∧ 0 ≤ x.2.1 ∧ Mf.right x.2.2 = true) (Mf.sb Mf.dC fun a => Mf.sb Mf.dC fun b => Mf.sp (n, m, ⟨ds, ps, a, b⟩)) (Mf.bd (Mf.rdC 999999999) fun a => Mf.bd (Mf.rdC 999999999) fun b => Mf.pr (n, m, ⟨ds, ps, a, b⟩)) := fun n ds m ps =>
  (Mf.dC_sim 999999999 (by decide)).bind (fun a => hb n ds m ps a) fun a s _ hv => hnm a ((Mf.right_iff _).1 hv.2.2).2.2.2.2.1
 have hp : ∀ n ds m, Mf.Sim Mf.ec Mf.okc (fun x : Int × Int × Mf.E => 0 ≤ x.1 ∧ 0 ≤ x.2.1 ∧ Mf.right x.2.2 = true) (Mf.sb (Mf.gL Mf.go Mf.dP m.toNat) fun ps => Mf.sb Mf.dC fun a => Mf.sb Mf.dC fun b => Mf.sp (n, m, ⟨ds, ps, a, b⟩)) (Mf.bd (Mf.rdL Mf.rdP m.toNat) fun ps => Mf.bd (Mf.rdC 999999999) fun a => Mf.bd (Mf.rdC 999999999) fun b => Mf.pr (n, m, ⟨ds, ps, a, b⟩)) := fun n ds m =>
  (hP m.toNat).1.bind (fun ps => ha n ds m ps) fun ps s _ hv => ((Mf.right_iff _).1 hv.2.2).2.2.2.1
 have hm : ∀ n ds, Mf.Sim Mf.ec Mf.okc (fun x : Int × Int × Mf.E => 0 ≤ x.1 ∧ 0 ≤ x.2.1 ∧ Mf.right x.2.2 = true) (Mf.sb Mf.dC fun m => Mf.sb (Mf.gL Mf.go Mf.dP m.toNat) fun ps => Mf.sb Mf.dC fun a => Mf.sb Mf.dC fun b => Mf.sp (n, m, ⟨ds, ps, a, b⟩)) (Mf.bd (Mf.rdC 1000) fun m => Mf.bd (Mf.rdL Mf.rdP m.toNat) fun ps => Mf.bd (Mf.rdC 999999999) fun a => Mf.bd (Mf.rdC 999999999) fun b => Mf.pr (n, m, ⟨ds, ps, a, b⟩)) := fun n ds =>
  (Mf.dC_sim 1000 (by decide)).bind (fun m => hp n ds m) fun m s hk hv => by
   have h2 : ((Mf.gL Mf.go Mf.dP m.toNat) s).1.length ≤ 1000 := ((Mf.right_iff _).1 hv.2.2).2.1
   have h3 := (hP m.toNat).2 s ((ha n ds m _).mono _ hk)
   have h0 : 0 ≤ m := hv.2.1
   omega
 have hd : ∀ n, Mf.Sim Mf.ec Mf.okc (fun x : Int × Int × Mf.E => 0 ≤ x.1 ∧ 0 ≤ x.2.1 ∧ Mf.right x.2.2 = true) (Mf.sb (Mf.gL Mf.go Mf.dC n.toNat) fun ds => Mf.sb Mf.dC fun m => Mf.sb (Mf.gL Mf.go Mf.dP m.toNat) fun ps => Mf.sb Mf.dC fun a => Mf.sb Mf.dC fun b => Mf.sp (n, m, ⟨ds, ps, a, b⟩)) (Mf.bd (Mf.rdL (Mf.rdC 999999999) n.toNat) fun ds => Mf.bd (Mf.rdC 1000) fun m => Mf.bd (Mf.rdL Mf.rdP m.toNat) fun ps => Mf.bd (Mf.rdC 999999999) fun a => Mf.bd (Mf.rdC 999999999) fun b => Mf.pr (n, m, ⟨ds, ps, a, b⟩)) := fun n =>
  (hL n.toNat).1.bind (fun ds => hm n ds) fun ds s _ hv x hx => hnm x (((Mf.right_iff _).1 hv.2.2).2.2.1 x hx)
 exact (Mf.dC_sim 1000 (by decide)).bind (fun n => hd n) fun n s hk hv => by
  have h2 : ((Mf.gL Mf.go Mf.dC n.toNat) s).1.length ≤ 1000 := ((Mf.right_iff _).1 hv.2.2).1
  have h3 := (hL n.toNat).2 s ((hm n _).mono _ hk)
  have h0 : 0 ≤ n := hv.1
  omega
theorem Mf.rdC_0 {most : Nat} {l : List UInt8} {x : Int} {r : List UInt8} (h : Mf.rdC most l = some (x, r)) : 0 ≤ x := by
 unfold Mf.rdC at h
 split at h
 ·simp only [Option.some.injEq, Prod.mk.injEq] at h
  omega
 ·cases h
theorem Mf.bd_some {α β : Type} {f : List UInt8 → Option (α × List UInt8)} {g : α → List UInt8 → Option (β × List UInt8)} {l : List UInt8} {y : β} {r : List UInt8} (h : Mf.bd f g l = some (y, r)) : ∃ x r1, f l = some (x, r1) ∧ g x r1 = some (y, r) := by
 unfold Mf.bd at h
 cases hf : f l with
 | none => rw [hf] at h; cases h
 | some p =>
   obtain ⟨x, r1⟩ := p
   rw [hf] at h
   exact ⟨x, r1, rfl, h⟩
theorem Mf.rdX_0 {l : List UInt8} {x : Int × Int × Mf.E} {r : List UInt8} (h : Mf.rdX l = some (x, r)) : 0 ≤ x.1 ∧ 0 ≤ x.2.1 := by
 unfold Mf.rdX at h
 obtain ⟨n, r1, h1, h⟩ := Mf.bd_some h
 obtain ⟨ds, r2, h2, h⟩ := Mf.bd_some h
 obtain ⟨m, r3, h3, h⟩ := Mf.bd_some h
 obtain ⟨ps, r4, h4, h⟩ := Mf.bd_some h
 obtain ⟨a, r5, h5, h⟩ := Mf.bd_some h
 obtain ⟨b, r6, h6, h⟩ := Mf.bd_some h
 unfold Mf.pr at h
 simp only [Option.some.injEq, Prod.mk.injEq] at h
 obtain ⟨rfl, _⟩ := h
 exact ⟨Mf.rdC_0 h1, Mf.rdC_0 h3⟩
theorem Mf.dX_yes {l : List UInt8} (h : Mf.dok (Mf.dX (Mf.ec l)) = true) : Mf.rd l = some (Mf.dX (Mf.ec l)).1.2.2 ∧ Mf.right (Mf.dX (Mf.ec l)).1.2.2 = true := by
 unfold Mf.dok at h
 simp only [Bool.and_eq_true, decide_eq_true_iff, beq_iff_eq] at h
 obtain ⟨⟨⟨h1, h2⟩, h3⟩, h4⟩ := h
 refine ⟨?_, h4⟩
 cases hx : Mf.rdX l with
 | none => exact absurd hx (Mf.dX_sim.back l (Mf.fin_0 h3).1 ⟨h1, h2, h4⟩)
 | some p =>
   obtain ⟨x, r⟩ := p
   rw [Mf.rd_of hx]
   have e := Mf.dX_sim.good l x r hx
   rw [e] at h3 ⊢
   rw [if_pos (show r = [] from (Mf.fin_0 h3).2)]
theorem Mf.dX_no {l : List UInt8} (h : Mf.dok (Mf.dX (Mf.ec l)) = false) (e : Mf.E) (hr : Mf.rd l = some e) : Mf.right e = false := by
 cases hx : Mf.rdX l with
 | none => unfold Mf.rd at hr; rw [hx] at hr; cases hr
 | some p =>
   obtain ⟨x, r⟩ := p
   rw [Mf.rd_of hx] at hr
   split at hr
   ·rename_i h0
    subst h0
    have hy := Mf.dX_sim.good l x [] hx
    rw [hy] at h
    obtain ⟨p1, p2⟩ := Mf.rdX_0 hx
    obtain rfl : x.2.2 = e := by simpa using hr
    unfold Mf.dok at h
    have hf : Ty.fin (Mf.ec ([] : List UInt8)).1 (Mf.ec ([] : List UInt8)).2 = 0 := by unfold Ty.fin Mf.ec; simp
    simp only [hf, p1, p2, decide_true, Bool.true_and, beq_self_eq_true] at h
    exact h
   ·cases hr
def Mf.P.i64 (p : Mf.P) : Prop := I64 p.lo.n ∧ I64 p.hi.n
def Mf.rp : Mf.S → List (List UInt8) → Option Mf.S
 | s, [] => some s
 | s, t :: ts => match Mf.rd t with
   | none => none
   | some e => match Mf.ap s e with
     | none => none
     | some u => Mf.rp u ts
theorem Mf.rp_step {s : Mf.S} {ts : List (List UInt8)} {k : Nat} {t : List UInt8} (h : ts[k]? = some t) : Mf.rp s (ts.drop k) = match Mf.rd t with
 | none => none
 | some e => match Mf.ap s e with
   | none => none
   | some u => Mf.rp u (ts.drop (k + 1)) := by
 obtain ⟨hk, rfl⟩ := List.getElem?_eq_some_iff.1 h
 rw [List.drop_eq_getElem_cons hk]
 rfl
theorem Mf.rp_end {s : Mf.S} {ts : List (List UInt8)} {k : Nat} (h : ¬ k < ts.length) : Mf.rp s (ts.drop k) = some s := by
 rw [List.drop_eq_nil_of_le (by omega)]
 rfl
def Mf.rr (l : List UInt8) : Option Mf.S := if (Fr.scan l).1 = 0 then Mf.rp ⟨[], 0, 0⟩ (Fr.scan l).2.1 else none
end
end Go.Proofs.YteaglaijkafphaaDoor
