/-
  The document's answers for package ints: runs read.
  The document's answers for package ints: packed numbers read.
-/
import Derived.Test.YtfbjmehkipcmbaaGreatDoorZAM
import Derived.Deep.Onto
namespace Go.Proofs.YtfbjmehkipcmbaaGreatDoor
open Go.RowKit
open Ig (nth encI encR grp low off diffs prv sg rest)
open Ty (encU num)
def Ig.RRd (r : Nat) (s : ByteArray) (w : World) (t : Nat × List Int × List UInt8) (e : Ending) (w' : World) : Prop :=
  ∃ v, e = .returned (.tuple #[v, .int .i64 ((t.1 : Nat) : Int)]) ∧ Ig.Own w.heap.size w' v (if t.1 = 0 then t.2.1 else []) ∧ (t.1 = 0 → Ty.RS r s w' t.2.2 0) ∧ w.grownBy w' (some r)
theorem Ig.RRd.bad {r : Nat} {s : ByteArray} {w w' : World} {t : Nat × List Int × List UInt8} {z : Int} (hz : z = ((t.1 : Nat) : Int)) (h : t.1 ≠ 0) (g : w.grownBy w' (some r)) : Ig.RRd r s w t (.returned (.tuple #[.slice none 0 0, .int .i64 z])) w' :=
  ⟨_, by rw [hz], by rw [if_neg h]; exact Ig.Own.nil _ _, fun e => absurd e h, g⟩
theorem Ig.RRd.good {r : Nat} {s : ByteArray} {w w' : World} {t : Nat × List Int × List UInt8} {v : Value} (h : t.1 = 0) (ho : Ig.Own w.heap.size w' v t.2.1) (hc : Ty.RS r s w' t.2.2 0) (g : w.grownBy w' (some r)) : Ig.RRd r s w t (.returned (.tuple #[v, .int .i64 0])) w' :=
  ⟨_, by rw [h]; rfl, by rw [if_pos h]; exact ho, fun _ => hc, g⟩
end Go.Proofs.YtfbjmehkipcmbaaGreatDoor

namespace Go.Proofs.YtfbjmehkipcmbaaGreatDoor
open Go.RowKit
open Ig (nth encI encR grp low off diffs prv sg rest outs good un rdPacked)
open Ty (encU num)
def Ig.anyZ (X : Nat → Nat) (k : Nat) : Bool := (List.range k).any (fun i => X i == 0)
end Go.Proofs.YtfbjmehkipcmbaaGreatDoor
