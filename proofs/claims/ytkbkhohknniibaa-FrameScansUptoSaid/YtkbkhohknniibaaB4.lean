/-
  Contracts of package bits: Width, Truths, Pack.
-/
import Derived.Test.YtkbkhohknniibaaB3
namespace Go.Proofs.Ytkbkhohknniibaa
open Go.RowKit
/-- n values that lie one behind the other. -/
structure Bt.Sl (w : World) (v : Value) (n : Nat) (f : Nat → Value) : Prop where
  is : ∃ a c, v = .slice a n c ∧ (n = 0 ∨ ∃ b o, a = some ⟨b, o, none⟩ ∧ b < w.heap.size ∧ ∀ i, i < n → w.cell? ⟨b, o + i, none⟩ = some (f i))
theorem Bt.Sl.later {w w' : World} {v : Value} {n : Nat} {f : Nat → Value} (h : Bt.Sl w v n f) (g : Below w.heap.size w w') : Bt.Sl w' v n f := by
  obtain ⟨a, c, rfl, h⟩ := h
  refine ⟨a, c, rfl, ?_⟩
  rcases h with h | ⟨b, o, rfl, hlt, h⟩
  · exact .inl h
  · exact .inr ⟨b, o, rfl, Nat.lt_of_lt_of_le hlt g.size, fun i hi => (g.cell (p := ⟨b, o + i, none⟩) hlt).trans (h i hi)⟩
/-- A number as a value; a truth as a value. -/
def Bt.nv (X : Nat → Nat) (i : Nat) : Value := .int .u64 ((X i : Nat) : Int)
def Bt.bv (T : Nat → Bool) (i : Nat) : Value := .bool (T i)
theorem Bt.or_u64 (a b : Nat) (ha : a < 2 ^ 64) (hb : b < 2 ^ 64) : bits .or .u64 (a : Int) (b : Int) = ((a ||| b : Nat) : Int) := (bits_nat .u64 64 (by decide) Bt.wraps_u64 _ _ ha hb).2
theorem Bt.oct_zero (i : Nat) : Bt.oct (fun _ => false) i = 0 := Bt.num_is (by decide) fun j _ => by simp
theorem Bt.made (w : World) (n : Nat) : Bt.Row (w.alloc (.cells (madeCells #[.int .u8 0] n) 5)) w.heap.size n (fun _ => false) :=
  (World.rowIs_made w (.int .u8 0) n 5).congr fun i _ => by rw [Bt.oct_zero]; rfl
theorem Bt.info8 : (Try.prog.info? 5).map (fun i => (i.zero, i.size, i.bytes)) = some (some (.int .u8 0), 1, 1) := by kernel_rfl
theorem Bt.Put.below {g sz : Nat} {F : Nat → Bool} {w w' : World} (h : Bt.Put g sz F w w') {B : Nat} (hB : B ≤ g) (hs : B ≤ w.heap.size) : Below B w w' :=
  ⟨h.2.os, h.2.tape, h.2.output, h.2.size, fun k hk => h.2.block k (by omega) (fun e => by have := Option.some.inj e; omega)⟩
theorem Bt.rets {x y : ByteArray} (h : x = y) : Ending.returned (.string x) = Ending.returned (.string y) := by rw [h]
/-- What Pack returns. -/
def Bt.packV (n : Nat) (X : Nat → Nat) (q : Int) : Value :=
  if 0 ≤ q ∧ q ≤ 64 then (if q.toNat < Bt.wid n X then .tuple #[.string ⟨#[]⟩, .int .i64 4] else .tuple #[.string (Bt.bytes (Bt.need (n * q.toNat)) (Bt.pk n X q.toNat)), .int .i64 0])
  else .tuple #[.string ⟨#[]⟩, .int .i64 1]
theorem Bt.mul_le (n q : Nat) (hq : q ≤ 64) : n * q ≤ n * 64 := Nat.mul_le_mul_left _ hq
end Go.Proofs.Ytkbkhohknniibaa
