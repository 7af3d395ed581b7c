import Derived.Test.YtbelkhkllneifaaGreatDoorWEBD
import Derived.Test.YtbelkhkllneifaaGreatDoorWEAK
import Derived.Deep.RegionHeld3
namespace Go.Proofs.YtbelkhkllneifaaGreatDoor
open Go Go.RowKit Go.Shelf
attribute [local go_sem] Oper.semAt_some
section
variable {P : Program}
theorem Rn.range_wa {α : Type} {g : Operand} {ps : Array Tmp} {assign body : Code} {Q : Exit → Act → World → Prop} {a : Act} {w : World} {gf : Nat} {lb : Array Value}
 (hg : a.eval g = .func (.func gf) #[] lb) (eg : ∀ args w, (callFunc gf args).run P w = .ok (.enter gf args) w)
 {En : α → Array Value → World → Prop} {D : Nat → Prop} {xs : List α} {w0 : World} (hseq : Rn.Seq P gf lb En D xs w0) (hb0 : Below w0.heap.size w0 w) (hD : ∀ b, D b → b < w.heap.size)
 (hps : ∀ x args W, En x args W → args.size = ps.size)
 (I : List α → World → Prop) (Ix : Code → List α → World → Prop) (hI : OwnFrom w.heap.size I) (hIx : ∀ c, OwnFrom w.heap.size (Ix c)) (h0 : I [] w)
 (Ax : Array Value → List α → α → Act → World → Prop) (hAx : ∀ T pre x a', OwnFrom w.heap.size fun (_ : Unit) W => Ax T pre x a' W)
 (hassign : ∀ l pre x args W, I pre W → En x args W → pre ++ [x] <+: xs → Rn.Kd D w W →
  assign.wpIn (Fence.wide.inRound l) 7 P (Exit.then (fun a' W' => Below W.heap.size W W' ∧ Ax a.tmps pre x a' W') (fun _ _ _ => False)) { tmps := (ps.zip args).foldl (fun t (p, v) => t.setIfInBounds p v) a.tmps, defers := [] } W)
 (hbody : ∀ l pre x a' W, w.heap.size ≤ l → (∃ r, W.heap[l]? = some (.loop r)) → Ax a.tmps pre x a' W → pre ++ [x] <+: xs → Rn.Kd D w W → body.wpIn (Fence.wide.inRound l) 7 P (Rn.left w.heap.size D I Ix (pre ++ [x]) W) a' W)
 (hdone : ∀ N W, w.heap.size ≤ N → I xs W → W.heap[N]? = some (.deferred (some [])) → Q .normal { a with defers := { target := .collected N, args := #[] } :: a.defers } W)
 (hstop : ∀ N c pre W, w.heap.size ≤ N → pre <+: xs → pre ≠ [] → Ix c pre W → W.heap[N]? = some (.deferred (some [])) → c.wpIn Fence.wide 9 P Q { a with defers := { target := .collected N, args := #[] } :: a.defers } W) :
 (Code.rangeFunc g ps assign body).wpIn Fence.wide 9 P Q a w :=
 Rn.range_w hg eg hseq hb0 hD hps I Ix hI hIx h0 (Ax a.tmps) (hAx a.tmps) hassign hbody hdone hstop
end
end Go.Proofs.YtbelkhkllneifaaGreatDoor
