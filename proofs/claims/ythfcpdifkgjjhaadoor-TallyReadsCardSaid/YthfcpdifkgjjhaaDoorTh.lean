/-
  A slice of things that came in: its cells; the kind of a thing.
-/
import Derived.Test.YthfcpdifkgjjhaaDoorL3
import Derived.Deep.Slices
import Derived.Deep.Fields
import Derived.ChangeSame
import Derived.ProofKit
namespace Go.Proofs.YthfcpdifkgjjhaaDoor
open Go.RowKit
/-- A thing: its kind, its number, its text. -/
structure Ty.Thing where
  k : Int
  n : Int
  s : List UInt8
/-- The kind, as the laws reckon it. -/
def Ty.Thing.kd (t : Ty.Thing) : Int := t.k % 4
/-- The things in hand: their cells lie one behind the other. -/
def Ty.Ths (w : World) (v : Value) (l : List Ty.Thing) : Prop :=
  (∃ a c, v = .slice a 0 c ∧ l = []) ∨ ∃ b off c, v = .slice (some ⟨b, off, none⟩) l.length c ∧ b < w.heap.size ∧ l.length ≤ 9223372036854775807 ∧
    ∀ i t, l[i]? = some t → w.cell? ⟨b, off + i * 3, none⟩ = some (.int .i64 t.k) ∧ w.cell? ⟨b, off + i * 3 + 1, none⟩ = some (.int .i64 t.n) ∧ w.cell? ⟨b, off + i * 3 + 2, none⟩ = some (.string (Ty.S t.s)) ∧ Ty.I64 t.n
theorem Ty.kd_of (k : Int) : wrap64 ((IntKind.u64.wrap k).tmod 4) = k % 4 := by
  have h0 : 0 ≤ IntKind.u64.wrap k := by rw [IntKind.wrap_u64]; omega
  rw [Int.tmod_eq_emod_of_nonneg h0, IntWalk.wrap64_in _ (by omega), IntKind.wrap_u64]
  omega
set_option maxHeartbeats 400000 in
theorem Ty.kind_c (k n : Int) (s : ByteArray) (q : Int) (hq : k % 4 = q) (w : World) :
    Calls Tryd.prog 18 #[.agg #[.int .i64 k, .int .i64 n, .string s]] w fun e w' => e = .returned (.int .i64 q) ∧ Below w.heap.size w w' := by
  go_enter Tryd.func18, Tryd.ntmps18
  go_wp2
  go_ret
  exact ⟨Ty.ret_i ((Ty.kd_of k).trans hq), (Below.refl _ _).alloc (Nat.le_refl _) _⟩
theorem Ty.Ths.later {w w' : World} {v : Value} {l : List Ty.Thing} (h : Ty.Ths w v l) (hb : Below w.heap.size w w') : Ty.Ths w' v l := by
  rcases h with h | ⟨b, off, c, rfl, hlt, hm, hc⟩
  · exact .inl h
  · refine .inr ⟨b, off, c, rfl, Nat.lt_of_lt_of_le hlt hb.size, hm, fun i t ht => ?_⟩
    obtain ⟨a1, a2, a3, a4⟩ := hc i t ht
    exact ⟨(hb.cell (p := ⟨b, off + i * 3, none⟩) hlt).trans a1, (hb.cell (p := ⟨b, off + i * 3 + 1, none⟩) hlt).trans a2, (hb.cell (p := ⟨b, off + i * 3 + 2, none⟩) hlt).trans a3, a4⟩
/-- The bytes of a thing. -/
def Ty.tb (t : Ty.Thing) : List UInt8 :=
  if t.kd = 0 then Ty.encU (IntKind.u64.wrap t.n).toNat else if t.kd = 1 then Ty.encU (Ty.zig t.n).toNat else if t.kd = 2 then Ty.encU t.s.length ++ t.s else [UInt8.ofNat (t.n % 256).toNat]
end Go.Proofs.YthfcpdifkgjjhaaDoor
