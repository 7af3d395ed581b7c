/-
  The document's answers for package column: Read.
  The document's column Read once more: the values' block is new. Written by gen_xf.py.
-/
import Derived.Test.YtfbjmehkipcmbaaGreatDoorZAR
import Derived.Deep.RegionHeld3
import Derived.Test.YtfbjmehkipcmbaaGreatDoorZAQ
namespace Go.Proofs.YtfbjmehkipcmbaaGreatDoor
open Go.RowKit
open Ty (num)
open Ig (rest)
def Cl.RelF (w9 : World) (T : List Bool) (M : List Kn.V) (ov jv iv : Value) (wr : World) : Prop :=
  ∃ (q j : Nat) (O : List Kn.V), iv = .int .i64 q ∧ jv = .int .i64 j ∧ Cl.MidF T M q j O ∧ Cl.Own w9.heap.size wr ov O ∧ Below w9.heap.size w9 wr
end Go.Proofs.YtfbjmehkipcmbaaGreatDoor

namespace Go.Proofs.YtfbjmehkipcmbaaGreatDoor
open Go.RowKit
open Ty (num)
open Ig (rest)
def Bk.GotF (w : World) (r : Nat × List Kn.V) (e : Ending) (w' : World) : Prop :=
  ∃ v, e = .returned (.tuple #[v, .int .i64 ((r.1 : Nat) : Int)]) ∧ Kn.Vals w' v r.2 ∧ Dd.Fresh w.heap.size v ∧ Below w.heap.size w w'
theorem Bk.GotF.bad {w w' : World} {r : Nat × List Kn.V} {z : Int} {q : Nat} (hr : r = (q, [])) (hz : z = (q : Int)) (g : Below w.heap.size w w') : Bk.GotF w r (.returned (.tuple #[.slice none 0 0, .int .i64 z])) w' :=
  ⟨_, by rw [hr, hz], by rw [hr]; exact ⟨_, 0, rfl, .inl rfl⟩, Dd.Fresh.nil _, g⟩
theorem Bk.GotF.good {w w' : World} {r : Nat × List Kn.V} {v : Value} {L : List Kn.V} (hr : r = (0, L)) (h : Kn.Vals w' v L) (hf : Dd.Fresh w.heap.size v) (g : Below w.heap.size w w') : Bk.GotF w r (.returned (.tuple #[v, .int .i64 0])) w' :=
  ⟨v, by rw [hr]; rfl, by rw [hr]; exact h, hf, g⟩
end Go.Proofs.YtfbjmehkipcmbaaGreatDoor
