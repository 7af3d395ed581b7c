/-
  An argument of the law FrameBurst opened: a burst by value.
-/
import Derived.Test.YtkbkhohknniibaaF9
import Derived.Deep.Slices
import Derived.Deep.Fields
import Derived.ChangeSame
import Derived.ProofKit
import Derived.OpenShut
import Derived.SizedLaws
namespace Go.Proofs.Ytkbkhohknniibaa
open Go.RowKit Go.ChangeShapes Go.WideShapes Go.ChangeAt Go.Deep
section
variable {H : Type} {enc : TypeId × Value → H} {W : World}
set_option maxRecDepth 100000 in
theorem Fr.open_burst {v : Value} {d : DataW H} {ps : List MemPlace} {r : Reach} {b0 : Nat} (hv : Value.okWide Try.prog W r b0 39 v) (h : DataW.Trod enc Try.prog W 0 (fun _ => true) true 39 v d ps) :
    ∃ (a : Int) (X : Nat), v = .agg #[.int .i64 a, .int .u32 (X : Int)] ∧ Ty.I64 a ∧ X < 4294967296 := by
  obtain ⟨cs0, rfl, hcsz⟩ := okWide_struct Try.underlying39 hv
  obtain ⟨fuel, hf⟩ := h
  have hf : DataW.trod enc Try.prog W 0 (fun _ => true) true fuel 39 cs0.toList = some (d, ps) := hf
  generalize hcs : cs0.toList = cs at hf
  obtain ⟨xs, f', _, hx, hcl, hxl, hg⟩ := DataW.trod_struct Try.underlying39 hf
  have hC : Try.prog.cellsOf 39 = 2 := by kernel_rfl
  have i1 : Try.prog.cellsOf 3 = 1 := by kernel_rfl
  have i2 : Try.prog.cellsOf 23 = 1 := by kernel_rfl
  rw [hC] at hcl
  match cs, hcl, xs, hxl with
  | [c0, c1], _, [y0, y1], _ =>
    have g0 : DataW.trod enc Try.prog W 0 (fun _ => true) true f' 3 ((List.drop 0 [c0, c1]).take (Try.prog.cellsOf 3)) = some y0 := hg 0 _ rfl
    have g1 : DataW.trod enc Try.prog W 0 (fun _ => true) true f' 23 ((List.drop 1 [c0, c1]).take (Try.prog.cellsOf 23)) = some y1 := hg 1 _ rfl
    rw [i1] at g0
    rw [i2] at g1
    obtain ⟨n, e0, _, w0⟩ := DataW.trod_int Try.underlying3 (show DataW.trod enc Try.prog W 0 (fun _ => true) true f' 3 [c0] = some y0 from g0)
    obtain ⟨k, e1, _, w1⟩ := DataW.trod_int Try.underlying23 (show DataW.trod enc Try.prog W 0 (fun _ => true) true f' 23 [c1] = some y1 from g1)
    simp only [List.cons.injEq, and_true] at e0 e1
    subst e0 e1
    have b1 := bounds_u32 w1
    refine ⟨n, k.toNat, ?_, bounds_i64 w0, by omega⟩
    rw [← Array.toArray_toList (xs := cs0), hcs, show ((k.toNat : Nat) : Int) = k by omega]
end
end Go.Proofs.Ytkbkhohknniibaa
