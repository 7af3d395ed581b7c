/-
  Contracts of package tally: signed numbers as unsigned ones and back; Int and Text.
-/
import Derived.Test.YtdjnjhlcdcmeaaaW2
namespace Go.Proofs.Ytdjnjhlcdcmeaaa
open Go.RowKit
theorem Ty.w_neg {n : Int} (h : Ty.I64 n) (h0 : n < 0) : IntKind.u64.wrap (IntKind.u64.wrap (-IntKind.u64.wrap (IntKind.u64.wrap n * 2)) - 1) = Ty.zig n := by
  unfold Ty.I64 at h; unfold Ty.zig; simp only [IntKind.wrap_u64]; rw [if_neg (by omega)]; omega
theorem Ty.w_pos {n : Int} (h : Ty.I64 n) (h0 : 0 ≤ n) : IntKind.u64.wrap (IntKind.u64.wrap n * 2) = Ty.zig n := by
  unfold Ty.I64 at h; unfold Ty.zig; simp only [IntKind.wrap_u64]; rw [if_pos (by omega)]; omega
theorem Ty.w_odd {n : Nat} (h : Ty.U64 n) (h0 : n % 2 = 1) : wrap64 (wrap64 (-wrap64 (IntKind.u64.wrap (↑n / 2))) - 1) = Ty.zag n := by
  unfold Ty.U64 at h; unfold Ty.zag; simp only [IntKind.wrap_u64]; unfold wrap64; rw [if_pos (by omega)]; omega
theorem Ty.w_even {n : Nat} (h : Ty.U64 n) (h0 : ¬ n % 2 = 1) : wrap64 (IntKind.u64.wrap (↑n / 2)) = Ty.zag n := by
  unfold Ty.U64 at h; unfold Ty.zag; simp only [IntKind.wrap_u64]; unfold wrap64; rw [if_neg (by omega)]; omega
theorem Ty.ret_i {k : IntKind} {a b : Int} (h : a = b) : Ending.returned (.int k a) = .returned (.int k b) := by rw [h]
end Go.Proofs.Ytdjnjhlcdcmeaaa
