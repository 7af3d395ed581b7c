/-
  Contracts of package tally: signed numbers as unsigned ones and back; Int and Text.
-/
import Derived.Test.YtccjfmjgkkpndaaDoorW2
namespace Go.Proofs.YtccjfmjgkkpndaaDoor
open Go.RowKit
theorem Ty.w_neg {n : Int} (h : Ty.I64 n) (h0 : n < 0) : IntKind.u64.wrap (IntKind.u64.wrap (-IntKind.u64.wrap (IntKind.u64.wrap n * 2)) - 1) = Ty.zig n := by
  unfold Ty.I64 at h; unfold Ty.zig; simp only [IntKind.wrap_u64]; rw [if_neg (by omega)]; omega
theorem Ty.w_pos {n : Int} (h : Ty.I64 n) (h0 : 0 ≤ n) : IntKind.u64.wrap (IntKind.u64.wrap n * 2) = Ty.zig n := by
  unfold Ty.I64 at h; unfold Ty.zig; simp only [IntKind.wrap_u64]; rw [if_pos (by omega)]; omega
theorem Ty.w_odd {n : Nat} (h : Ty.U64 n) (h0 : n % 2 = 1) : wrap64 (wrap64 (-wrap64 (IntKind.u64.wrap (↑n / 2))) - 1) = Ty.zag n := by
  unfold Ty.U64 at h; unfold Ty.zag; simp only [IntKind.wrap_u64]; unfold wrap64; rw [if_pos (by omega)]; omega
theorem Ty.w_even {n : Nat} (h : Ty.U64 n) (h0 : ¬ n % 2 = 1) : wrap64 (IntKind.u64.wrap (↑n / 2)) = Ty.zag n := by
  unfold Ty.U64 at h; unfold Ty.zag; simp only [IntKind.wrap_u64]; unfold wrap64; rw [if_neg (by omega)]; omega
theorem Ty.ret_i {k : IntKind} {a b : Int} (h : a = b) : Ending.returned (.int k a) = .returned (.int k b) := by rw [h]
set_option maxHeartbeats 400000 in
theorem Ty.unsigned_c (n : Int) (w : World) (hn : Ty.I64 n) :
    Calls Tryd.prog 51 #[.int .i64 n] w fun e w' => e = .returned (.int .u64 (Ty.zig n)) ∧ w' = w := by
  by_cases h : n < 0
  · have H := Lib.hid (Ty.w_neg hn h)
    go_enter Tryd.func51, Tryd.ntmps51
    go_wp2
    go_ret
    exact ⟨Ty.ret_i H.out, rfl⟩
  · have H := Lib.hid (Ty.w_pos hn (by omega))
    go_enter Tryd.func51, Tryd.ntmps51
    go_wp2
    go_ret
    exact ⟨Ty.ret_i H.out, rfl⟩
set_option maxHeartbeats 400000 in
theorem Ty.signed_nat (n : Nat) (w : World) (hn : Ty.U64 n) :
    Calls Tryd.prog 67 #[.int .u64 n] w fun e w' => e = .returned (.int .i64 (Ty.zag n)) ∧ w' = w := by
  by_cases h : n % 2 = 1
  · have H := Lib.hid (Ty.w_odd hn h)
    go_enter Tryd.func67, Tryd.ntmps67
    go_wp2
    go_ret
    exact ⟨Ty.ret_i H.out, rfl⟩
  · have H := Lib.hid (Ty.w_even hn h)
    go_enter Tryd.func67, Tryd.ntmps67
    go_wp2
    go_ret
    exact ⟨Ty.ret_i H.out, rfl⟩
theorem Ty.signed_c (z : Int) (h0 : 0 ≤ z) (w : World) (hn : Ty.U64 z.toNat) :
    Calls Tryd.prog 67 #[.int .u64 z] w fun e w' => e = .returned (.int .i64 (Ty.zag z)) ∧ w' = w := by
  have := Ty.signed_nat z.toNat w hn
  rwa [Int.toNat_of_nonneg h0] at this
set_option maxHeartbeats 400000 in
/-- Int appends the encoding of its number. -/
theorem Ty.int_c (base : Nat) (v : Value) (bs : List UInt8) (n : Int) (hn : Ty.I64 n) (w : World) (h : Ty.Tabs w) (hown : Ty.Buf base w v bs) (hb : base ≤ w.heap.size) (hlen : bs.length + 9 ≤ 140737488355328) :
    Calls Tryd.prog 37 #[v, .int .i64 n] w (Ty.Written base w v (bs ++ Ty.encU (Ty.zig n).toNat)) := by
  go_enter Tryd.func37, Tryd.ntmps37
  go_wp2_with fail
  refine (Ty.unsigned_c n _ hn).mono ?_
  rintro e w' ⟨rfl, rfl⟩
  go_wp2_with fail
  refine (Ty.uint_c base v bs _ (Ty.zig_nonneg n) (Ty.zig_u64 hn) _ h hown hb hlen).mono ?_
  rintro e w1 ⟨v1, rfl, hB, hG⟩
  go_wp2
  go_ret
  exact ⟨v1, rfl, hB, hG⟩
set_option maxHeartbeats 400000 in
/-- Text appends the encoding of its string. -/
theorem Ty.text_c (base : Nat) (v : Value) (bs : List UInt8) (s : ByteArray) (w : World) (h : Ty.Tabs w) (hown : Ty.Buf base w v bs) (hb : base ≤ w.heap.size) (hlen : bs.length + 9 + s.size ≤ 140737488355328) :
    Calls Tryd.prog 36 #[v, .string s] w (Ty.Written base w v (bs ++ Ty.encU s.size ++ s.data.toList)) := by
  have hu : Ty.U64 ((s.size : Int)).toNat := by unfold Ty.U64; omega
  have h9 := Ty.encU_len9 s.size
  go_enter Tryd.func36, Tryd.ntmps36
  go_wp2_with fail
  refine (Ty.uint_c base v bs _ (by omega) hu _ h hown hb (by omega)).mono ?_
  rintro e w1 ⟨v1, rfl, hB, hG⟩
  have hs1 := hG.by_.size
  go_wp2_with (at_builtin; refine Ty.wpList_append_text hB (by omega) (by simp; omega) (.tmp 9) (.tmp 10) rfl rfl rfl rfl ?_; intro v2 w2 h2 g2)
  go_ret
  exact ⟨v2, rfl, by simpa using h2, hG.trans g2⟩
end Go.Proofs.YtccjfmjgkkpndaaDoor
