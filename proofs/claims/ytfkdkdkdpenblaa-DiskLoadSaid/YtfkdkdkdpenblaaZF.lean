/-
  Contracts of package bits: Pack whatever comes in; Untruths, Unpack.
  The document's answers for package bits: a bit of bytes, bits of bytes, bits as bytes, the same lists, which number fits, how wide numbers are.
  The document's answers for package bits: Untruths, bits as bytes, the same lists, which number fits, Width.
  The document's answers for package bits: Pack, Unpack.
-/
import Derived.Test.YtfkdkdkdpenblaaZE
import Derived.Test.YtfkdkdkdpenblaaZA
import Derived.BigQuiet
import Derived.Deep.QuietTactic
namespace Go.Proofs.Ytfkdkdkdpenblaa
open Go.RowKit
/-- Which error truths, numbers have, and how many there are. -/
def Bt.utE (s : ByteArray) (z : Int) : Nat := if 0 ≤ z ∧ z ≤ 65536 then Bt.chk s z.toNat else 1
def Bt.utN (s : ByteArray) (z : Int) : Nat := if Bt.utE s z = 0 then z.toNat else 0
def Bt.upE (s : ByteArray) (z q : Int) : Nat := if (0 ≤ q ∧ q ≤ 64) ∧ 0 ≤ z ∧ z ≤ 65536 then Bt.chk s (z.toNat * q.toNat) else 1
def Bt.upN (s : ByteArray) (z q : Int) : Nat := if Bt.upE s z q = 0 then z.toNat else 0
/-- The numbers of so many bits in bytes. -/
def Bt.nums (s : ByteArray) (q : Nat) (i : Nat) : Nat := Bt.num q (fun j => Bt.bit s (i * q + j))
theorem Bt.Sl.nil (w : World) (f : Nat → Value) : Bt.Sl w (.slice none 0 0) 0 f := ⟨none, 0, rfl, .inl rfl⟩
theorem Bt.Sl.row {w : World} {g n c : Nat} {t : TypeId} {f : Nat → Value} (h : w.rowIs g t n f) : Bt.Sl w (.slice (some ⟨g, 0, none⟩) n c) n f :=
  ⟨_, c, rfl, .inr ⟨g, 0, rfl, h.lt, fun i hi => by rw [Nat.zero_add]; exact h.cell hi⟩⟩
theorem Bt.infoB : (Try.prog.info? 4).map (fun i => (i.zero, i.size, i.bytes)) = some (some (.bool false), 1, 1) := by kernel_rfl
theorem Bt.infoU : (Try.prog.info? 120).map (fun i => (i.zero, i.size, i.bytes)) = some (some (.int .u64 0), 1, 8) := by kernel_rfl
theorem Bt.num_one (g : Nat → Bool) : Bt.num 1 g = (g 0).toNat := by simp [Bt.num]
/-- So far k of n values are laid. -/
def Bt.upTo (k : Nat) (f : Nat → Value) (z : Value) (i : Nat) : Value := if i < k then f i else z
theorem Bt.upTo_next {w : World} {g n k : Nat} {t : TypeId} {f : Nat → Value} {z u : Value} (h : w.rowIs g t n (Bt.upTo k f z)) (hu : u = f k) : (w.setCell ⟨g, k, none⟩ u).rowIs g t n (Bt.upTo (k + 1) f z) := by
  refine (World.rowIs.set h k u).congr fun i _ => ?_
  unfold Bt.upTo
  by_cases e : i = k
  · subst e
    rw [if_pos rfl, if_pos (by omega), hu]
  · rw [if_neg e]
    by_cases h2 : i < k
    · rw [if_pos h2, if_pos (by omega)]
    · rw [if_neg h2, if_neg (by omega)]
theorem Bt.below_set {w : World} {g i B : Nat} (hB : B ≤ g) (u : Value) : Below B w (w.setCell ⟨g, i, none⟩ u) :=
  ⟨rfl, rfl, rfl, by simp [World.setCell], fun k hk => Below.heap_setCell _ _ _ _ (by show k ≠ g; omega)⟩
end Go.Proofs.Ytfkdkdkdpenblaa

namespace Go.Proofs.Ytfkdkdkdpenblaa
open Go.RowKit
theorem Bt.retb {x y : Bool} (h : x = y) : Ending.returned (.bool x) = Ending.returned (.bool y) := by rw [h]
theorem Bt.testBit_mod (b r : Nat) : (((b : Int) / 2 ^ r).tmod 2 == 1) = b.testBit r := by
  rw [Nat.testBit_eq_decide_div_mod_eq]
  have e : ((b : Int) / 2 ^ r).tmod 2 = ((b / 2 ^ r % 2 : Nat) : Int) := by
    have e0 : (b : Int) / 2 ^ r = ((b / 2 ^ r : Nat) : Int) := by simp
    rw [e0, Int.tmod_eq_emod_of_nonneg (Int.natCast_nonneg _)]
    simp
  rw [e, Bool.eq_iff_iff, beq_iff_eq, decide_eq_true_iff]
  omega
/-- A slice that a call owns: n values. -/
def Bt.Buf (e : TypeId) (base : Nat) (w : World) (v : Value) (n : Nat) (f : Nat → Value) : Prop := w.ownsRow base e 1 v n ((List.range n).map f)
theorem Bt.Buf.nil (e : TypeId) (base : Nat) (w : World) (f : Nat → Value) : Bt.Buf e base w (.slice none 0 0) 0 f := World.ownsRow_nil w base _ 1
theorem Bt.Buf.sl {e : TypeId} {base : Nat} {w : World} {v : Value} {n : Nat} {f : Nat → Value} (h : Bt.Buf e base w v n f) : Bt.Sl w v n f := by
  have h0 := h
  rcases h.2 with ⟨rfl, rfl⟩ | ⟨g, cap, cur, rfl, _, hg, _⟩
  · exact Bt.Sl.nil _ _
  · refine ⟨_, cap, rfl, .inr ⟨g, 0, rfl, (Array.getElem?_eq_some_iff.1 hg).1, fun i hi => ?_⟩⟩
    have := h0.cells (g := g) rfl i (f i) (by simp [hi])
    have ea : (⟨g, 0, none⟩ : Addr).add i = ⟨g, 0 + i, none⟩ := by unfold Addr.add; split <;> simp_all
    rwa [ea] at this
theorem Bt.Buf.kept {e : TypeId} {base : Nat} {w w' : World} {v : Value} {n : Nat} {f : Nat → Value} (h : Bt.Buf e base w v n f) (g : Below w.heap.size w w') : Bt.Buf e base w' v n f := by
  refine ⟨h.1, ?_⟩
  rcases h.2 with hn | ⟨b, cap, cur, rfl, hbb, hgg, rest⟩
  · exact .inl hn
  · exact .inr ⟨b, cap, cur, rfl, hbb, by rw [g.block b (Array.getElem?_eq_some_iff.1 hgg).1]; exact hgg, rest⟩
theorem Bt.Buf.congr {e : TypeId} {base : Nat} {w : World} {v : Value} {n : Nat} {f g : Nat → Value} (h : Bt.Buf e base w v n f) (hf : ∀ i, i < n → f i = g i) : Bt.Buf e base w v n g := by
  unfold Bt.Buf at h ⊢
  have : (List.range n).map g = (List.range n).map f := List.map_congr_left fun i hi => (hf i (List.mem_range.1 hi)).symm
  rw [this]; exact h
theorem Bt.Buf.base_le {e : TypeId} {base : Nat} {w : World} {v : Value} {n : Nat} {f : Nat → Value} (h : Bt.Buf e base w v n f) : ∀ k, v.ownBlock = some k → base ≤ k := by
  intro k hk
  rcases h.2 with ⟨rfl, _⟩ | ⟨b, cap, cur, rfl, hbb, _⟩
  · cases hk
  · have : b = k := by simpa [Value.ownBlock] using hk
    omega
/-- One more value appended: the walk's law. -/
theorem Bt.wpList_append_one (e t : TypeId) (z : Value) (by_ : Nat) (hu : Try.prog.underlying t = some (.slice e)) (hinfo : (Try.prog.info? e).map (fun i => (i.zero, i.size, i.bytes)) = some (some z, 1, by_)) (hz : z.cells.size = 1)
    {base : Nat} {w0 : World} {v : Value} {n : Nat} {f : Nat → Value} (hown : Bt.Buf e base w0 v n f) (hb : base ≤ w0.heap.size) (hl : (n + 1) * by_ ≤ 140737488355328) (hl2 : n + 1 ≤ 140737488355328)
    {ops : Array Oper} {rest : List Oper} {o : Oper} {a : Act} {Q : Exit → Act → World → Prop} (s x : Operand) (u : Value) (hu1 : u.oneCell' = true) (hgd : o.guard = none)
    (ho : o.op = .call { callee := .builtin .append, args := #[s, x], argTypes := #[t, t] })
    (hs : a.eval s = v) (hx : a.eval x = .slice (some ⟨w0.heap.size, 0, none⟩) 1 1)
    (h : ∀ v' w', (u = f n → Bt.Buf e base w' v' (n + 1) f) → Ty.Grew w0 w' v v' → wpList Try.prog ops Q rest (a.put o.dst v') w') :
    wpList Try.prog ops Q (o :: rest) a (w0.alloc (.cells #[u] e)) := by
  obtain ⟨i0, hi, hz0, hz1, hz2⟩ := info_parts hinfo
  refine Ty.wpList_append_tight _ hgd s x t ho base e i0 z 1 by_ hu hi hz0 hz1 hz2 hz (by decide) v n ((List.range n).map f) hs (World.ownsRow.alloc hown _) ⟨w0.heap.size, 0, none⟩ 1 1 [u] hx rfl (cell_one_new _ _ _)
    (fun x hx => by simp at hx; subst hx; exact hu1) (by unfold maxLen; omega) hl (by simp; omega) fun v' w' h1 h2 => h v' w' (fun hu => ?_) (h2.behind _)
  subst hu
  unfold Bt.Buf
  rw [List.range_succ, List.map_append]
  exact h1
theorem Bt.grew_below {w w' : World} {v v' : Value} (h : Ty.Grew w w' v v') {B : Nat} (hB : B ≤ w.heap.size) (hv : ∀ k, v.ownBlock = some k → B ≤ k) : Below B w w' := h.below hB hv
end Go.Proofs.Ytfkdkdkdpenblaa

namespace Go.Proofs.Ytfkdkdkdpenblaa
open Go.RowKit
theorem Bt.Row.add {w : World} {g sz k q r : Nat} {T : Nat → Bool} (h : Bt.Row w g sz (Bt.tr k T)) (hT : T k = true) (hq : q = k / 8) (hr : r = k % 8) :
    Bt.Row (w.setCell ⟨g, q, none⟩ (.int .u8 ((((Bt.oct (Bt.tr k T) q : Nat) : Int) + 2 ^ r) % 256))) g sz (Bt.tr (k + 1) T) := by
  have e : (((Bt.oct (Bt.tr k T) q : Nat) : Int) + 2 ^ r) % 256 = ((Bt.oct (Bt.tr (k + 1) T) q : Nat) : Int) := by
    have h1 := Bt.tr_add T k hT
    have h2 := Bt.oct_lt (Bt.tr (k + 1) T) q
    rw [← hq, ← hr] at h1
    have e2 : (2 : Int) ^ r = ((2 ^ r : Nat) : Int) := by simp
    rw [e2]
    omega
  rw [e]
  refine World.rowIs.congr (World.rowIs.set h q _) fun i _ => ?_
  by_cases e : i = q
  · subst e
    rw [if_pos rfl]
  · rw [if_neg e, Bt.tr_far T k i (by rw [← hq]; exact e)]
theorem Bt.drewN_below (w : World) (n : Nat) : Below w.heap.size w (w.drewN n) := ⟨rfl, rfl, rfl, Nat.le_refl _, fun _ _ => rfl⟩
theorem Bt.fit_int (n q : Nat) (hq : q < 64) : decide ((n : Int) < IntKind.u64.wrap (2 ^ q)) = decide (bitLen n ≤ q) := by
  have e0 : (2 : Int) ^ q = ((2 ^ q : Nat) : Int) := by simp
  have h2 : 2 ^ q ≤ 2 ^ 63 := Nat.pow_le_pow_right (by decide) (by omega)
  have e1 : IntKind.u64.wrap ((2 ^ q : Nat) : Int) = ((2 ^ q : Nat) : Int) := Bt.wraps_u64 _ (Int.natCast_nonneg _) (by omega)
  rw [e0, e1, decide_eq_decide, bitLen_le]
  omega
end Go.Proofs.Ytfkdkdkdpenblaa

namespace Go.Proofs.Ytfkdkdkdpenblaa
open Go.RowKit
/-- The bits of numbers of q bits, one behind the other. -/
def Bt.flat (X : Nat → Nat) (q x : Nat) : Bool := (X (x / q)).testBit (x % q)
theorem Bt.flat_at (X : Nat → Nat) (q k j : Nat) (hj : j < q) : Bt.flat X q (k * q + j) = (X k).testBit j := by
  obtain ⟨d, m⟩ := Bt.div_mid (i := k) hj
  unfold Bt.flat
  rw [d, m]
theorem Bt.packV_bad {n : Nat} {X : Nat → Nat} {q k : Nat} (hq : q ≤ 64) (hk : k < n) (hb : ¬ bitLen (X k) ≤ q) : Bt.packV n X (q : Int) = .tuple #[.string ⟨#[]⟩, .int .i64 4] := by
  unfold Bt.packV
  rw [if_pos (by omega), if_pos ?_]
  rcases Nat.lt_or_ge q (Bt.wid n X) with h | h
  · simpa using h
  · exact absurd ((bitLen_le _ _).2 ((Bt.wid_le n X q).1 h k hk)) hb
theorem Bt.packV_good {n : Nat} {X : Nat → Nat} {q : Nat} (hq : q ≤ 64) (h : ∀ i, i < n → bitLen (X i) ≤ q) : Bt.packV n X (q : Int) = .tuple #[.string (Bt.bytes (Bt.need (n * q)) (Bt.tr (n * q) (Bt.flat X q))), .int .i64 0] := by
  unfold Bt.packV
  rw [if_pos (by omega), if_neg ?_]
  · rfl
  · have := (Bt.wid_le n X q).2 fun i hi => (bitLen_le _ _).1 (h i hi)
    simpa using this
theorem Bt.num_step (s : ByteArray) (p j : Nat) (hj : j < 64) (hb : Bt.bit s (p + j) = true) : IntKind.u64.wrap (((Bt.num j (fun t => Bt.bit s (p + t)) : Nat) : Int) + IntKind.u64.wrap (2 ^ j)) = ((Bt.num (j + 1) (fun t => Bt.bit s (p + t)) : Nat) : Int) := by
  have h1 := Bt.num_lt (j + 1) (fun t => Bt.bit s (p + t))
  have h2 : 2 ^ (j + 1) ≤ 2 ^ 64 := Nat.pow_le_pow_right (by decide) (by omega)
  have e0 : (2 : Int) ^ j = ((2 ^ j : Nat) : Int) := by simp
  have h3 : 2 ^ j ≤ 2 ^ 63 := Nat.pow_le_pow_right (by decide) (by omega)
  have e1 : IntKind.u64.wrap ((2 ^ j : Nat) : Int) = ((2 ^ j : Nat) : Int) := Bt.wraps_u64 _ (Int.natCast_nonneg _) (by omega)
  have e2 : Bt.num (j + 1) (fun t => Bt.bit s (p + t)) = Bt.num j (fun t => Bt.bit s (p + t)) + 2 ^ j := by
    show Bt.num j (fun t => Bt.bit s (p + t)) + (Bt.bit s (p + j)).toNat * 2 ^ j = _
    rw [hb]; simp
  rw [e2] at h1
  rw [e0, e1, e2]
  rw [Bt.wraps_u64 _ (by omega) (by omega)]
  omega
theorem Bt.num_skip (s : ByteArray) (p j : Nat) (hb : Bt.bit s (p + j) = false) : Bt.num (j + 1) (fun t => Bt.bit s (p + t)) = Bt.num j (fun t => Bt.bit s (p + t)) := by
  show Bt.num j (fun t => Bt.bit s (p + t)) + (Bt.bit s (p + j)).toNat * 2 ^ j = _
  rw [hb]; simp
end Go.Proofs.Ytfkdkdkdpenblaa
