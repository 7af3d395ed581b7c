/-
  
  
  
  
  
  
-/
import Derived.Test.YtbelkhkllneifaaGreatDoorWBAQ
import Derived.Lib.QuietBelow
import Derived.BigQuiet
import Derived.Test.YtbelkhkllneifaaGreatDoorWBAK
import Derived.Test.YtbelkhkllneifaaGreatDoorWBAL
import Derived.Test.YtbelkhkllneifaaGreatDoorWBAJ
namespace Go.Proofs.YtbelkhkllneifaaGreatDoor
open Go.RowKit
end Go.Proofs.YtbelkhkllneifaaGreatDoor

namespace Go.Proofs.YtbelkhkllneifaaGreatDoor
open Go Go.RowKit
end Go.Proofs.YtbelkhkllneifaaGreatDoor

namespace Go.Proofs.YtbelkhkllneifaaGreatDoor
open Go.RowKit
end Go.Proofs.YtbelkhkllneifaaGreatDoor

namespace Go.Proofs.YtbelkhkllneifaaGreatDoor
open Go.RowKit
end Go.Proofs.YtbelkhkllneifaaGreatDoor

namespace Go.Proofs.YtbelkhkllneifaaGreatDoor
open Go Go.RowKit
def Rn.PartOf (w : World) (L : List Dd.D) (i : Nat) (e : Ending) (w' : World) : Prop := ∃ x, e = .returned (Bk.sv x) ∧ Bk.Ds w' (Bk.sv x) (Rn.bk L i) ∧ Below w.heap.size w w'
end Go.Proofs.YtbelkhkllneifaaGreatDoor

namespace Go.Proofs.YtbelkhkllneifaaGreatDoor
open Go.RowKit
structure Sk.Off (S : Nat → Prop) (w w' : World) : Prop where
 os : w'.os = w.os
 tape : w'.tape = w.tape
 output : w'.output = w.output
 size : w.heap.size ≤ w'.heap.size
 block : ∀ k, k < w.heap.size → ¬ S k → w'.heap[k]? = w.heap[k]?
def Sk.More (S : Nat → Prop) (w w' : World) (b : Nat) : Prop := S b ∨ (w.heap.size ≤ b ∧ b < w'.heap.size)
theorem Sk.Off.refl (S : Nat → Prop) (w : World) : Sk.Off S w w := ⟨rfl, rfl, rfl, Nat.le_refl _, fun _ _ _ => rfl⟩
theorem Sk.Off.below {S : Nat → Prop} {w w' : World} (h : Sk.Off S w w') {B : Nat} (hB : B ≤ w.heap.size) (hS : ∀ b, S b → B ≤ b) : Below B w w' :=
 ⟨h.os, h.tape, h.output, h.size, fun k hk => h.block k (by omega) (fun hs => by have := hS k hs; omega)⟩
theorem Sk.Off.same {S : Nat → Prop} {w w1 w2 : World} (h : Sk.Off S w w1) (g : Sk.Off S w1 w2) : Sk.Off S w w2 :=
 ⟨g.os.trans h.os, g.tape.trans h.tape, g.output.trans h.output, Nat.le_trans h.size g.size, fun k hk hn => (g.block k (Nat.lt_of_lt_of_le hk h.size) hn).trans (h.block k hk hn)⟩
def Sk.Row (B : Nat) (w : World) (v : Value) (l : List Kn.V) : Prop := ∃ a c, v = .slice a l.length c ∧ l.length ≤ 9223372036854775807 ∧ (∀ x ∈ l, Kn.Z x) ∧ (l = [] ∨ ∃ b o, a = some ⟨b, o, none⟩ ∧ b < B ∧ b < w.heap.size ∧ ∀ i x, l[i]? = some x → Kn.At w b (o + i * 3) x)
theorem Sk.At_below {B : Nat} {w w' : World} {b o : Nat} {v : Kn.V} (h : Kn.At w b o v) (hb : b < B) (g : Below B w w') : Kn.At w' b o v :=
 ⟨(g.cell (p := ⟨b, o, none⟩) hb).trans h.c0, (g.cell (p := ⟨b, o + 1, none⟩) hb).trans h.c1, (g.cell (p := ⟨b, o + 2, none⟩) hb).trans h.c2⟩
theorem Sk.Row.below {B : Nat} {w w' : World} {v : Value} {l : List Kn.V} (h : Sk.Row B w v l) (g : Below B w w') : Sk.Row B w' v l := by
 obtain ⟨a, c, hv, hm, hz, h⟩ := h
 refine ⟨a, c, hv, hm, hz, ?_⟩
 rcases h with h | ⟨b, o, ha, hb, hl, h⟩
 ·exact .inl h
 ·exact .inr ⟨b, o, ha, hb, Nat.lt_of_lt_of_le hl g.size, fun i x hx => Sk.At_below (h i x hx) hb g⟩
theorem Sk.Row.vals {B : Nat} {w : World} {v : Value} {l : List Kn.V} (h : Sk.Row B w v l) : Kn.Vals w v l := by
 obtain ⟨a, c, hv, hm, _, h⟩ := h
 refine ⟨a, c, hv, ?_⟩
 rcases h with h | ⟨b, o, ha, _, hl, h⟩
 ·exact .inl h
 ·exact .inr ⟨b, o, ha, hl, hm, h⟩
structure Sk.E where
 gone : Bool
 rv : Value
 row : List Kn.V
def Sk.E.enc (x : Sk.E) : List Value := [.bool x.gone, x.rv]
def Sk.E.d (x : Sk.E) : Dd.D := ⟨x.gone, x.row⟩
def Sk.kd (d : Dd.D) : Kn.V := d.row.headD ⟨true, 0, ⟨#[]⟩⟩
def Sk.ke (x : Sk.E) : Kn.V := Sk.kd x.d
structure Sk.Cell (w : World) (g i : Nat) (x : Sk.E) (rb ro rn rc : Nat) : Prop where
 c : w.cell? ⟨g, i * 2 + 1, none⟩ = some (.slice (some ⟨rb, ro, none⟩) rn rc)
 c0 : w.cell? ⟨g, i * 2, none⟩ = some (.bool x.gone)
 k : Kn.At w rb ro (Sk.ke x)
 pos : 0 < rn
 rv : x.rv = .slice (some ⟨rb, ro, none⟩) rn rc
end Go.Proofs.YtbelkhkllneifaaGreatDoor
