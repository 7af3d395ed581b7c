/-
  Contracts of the document's answers for tally: the bytes of a number, of a text.
-/
import Derived.Test.YtccjfmjgkkpndaaDoorL3
import Derived.Test.YtccjfmjgkkpndaaDoorM4
namespace Go.Proofs.YtccjfmjgkkpndaaDoor
open Go.RowKit
/-- So far: k bytes of the number are still to be written, of size sz. -/
def Ty.RMid (base n sz k : Nat) (wr : World) (v : Value) : Prop :=
  (k = sz ∧ Ty.Buf base wr v []) ∨ (k < sz ∧ ∃ done, Ty.encU n = done ++ Ty.low k n ∧ done.length + k ≤ 9 ∧ Ty.Buf base wr v done)
theorem Ty.Buf.base {base : Nat} {w : World} {v : Value} {bs : List UInt8} (h : Ty.Buf base w v bs) : ∀ k, v.ownBlock = some k → base ≤ k := fun k hk => (h.lt k hk).1
/-- A string that was made anew. -/
def Ty.Str (w : World) (bs : List UInt8) (e : Ending) (w' : World) : Prop := e = .returned (.string (Ty.S bs)) ∧ Below w.heap.size w w'
theorem Ty.RMid.first {base n sz k : Nat} {w1 : World} {v1 : Value} (hk : k = Ty.after (Ty.form n)) (hs : sz = k + 1) {X : Int} (hX : X = ((Ty.head n).toNat : Int)) (h1 : ∀ u : UInt8, X = (u.toNat : Int) → Ty.Buf base w1 v1 ([] ++ [u])) : Ty.RMid base n sz k w1 v1 :=
  .inr ⟨by omega, [Ty.head n], by rw [hk]; exact Ty.encU_split n, by have := Ty.after_le n; simp; omega, h1 _ hX⟩
theorem Ty.RMid.next {base n sz k : Nat} {done : List UInt8} {w1 : World} {v1 : Value} (hd : Ty.encU n = done ++ Ty.low (k + 1) n) (hl : done.length + (k + 1) ≤ 9) (hk : k + 1 < sz)
    (h1 : ∀ u : UInt8, ((n : Int) / 2 ^ (8 * k) % 256) = (u.toNat : Int) → Ty.Buf base w1 v1 (done ++ [u])) : Ty.RMid base n sz k w1 v1 :=
  .inr ⟨by omega, done ++ [UInt8.ofNat (n / 256 ^ k % 256)], by rw [hd, Ty.low_succ]; simp, by simp; omega, h1 _ (Ty.low_byte n k)⟩
theorem Ty.rhead0 (n : Nat) (h : Ty.form n = 0) : (n : Int) % 256 = ((Ty.head n).toNat : Int) := by
  have := (Ty.head_is n).1
  have hb := Ty.form_is n
  rw [h] at this; simp [Ty.after] at this; omega
theorem Ty.rhead1 (n : Nat) (h : Ty.form n = 1) : ((n : Int) / 256 + 64) % 256 = ((Ty.head n).toNat : Int) := by
  have := (Ty.head_is n).1
  have hb := Ty.form_is n
  rw [h] at this; simp [Ty.after] at this; omega
theorem Ty.rhead2 (n : Nat) (h : Ty.form n = 2) : ((n : Int) / 16777216 + 128) % 256 = ((Ty.head n).toNat : Int) := by
  have := (Ty.head_is n).1
  have hb := Ty.form_is n
  rw [h] at this; simp [Ty.after] at this; omega
theorem Ty.rhead3 (n : Nat) (h : Ty.form n = 3) : (192 : Int) = ((Ty.head n).toNat : Int) := by
  have := (Ty.head_is n).1
  rw [h] at this; simp at this; omega
set_option maxHeartbeats 2000000 in
theorem Ty.ruint_nat (n : Nat) (w : World) :
    Calls Tryd.prog 40 #[.int .u64 n] w (Ty.Str w (Ty.encU n)) := by
  have hf : ((n : Int) < 64 ∧ Ty.form n = 0) ∨ (¬ (n : Int) < 64 ∧ (n : Int) < 16384 ∧ Ty.form n = 1) ∨ (¬ (n : Int) < 64 ∧ ¬ (n : Int) < 16384 ∧ (n : Int) < 1073741824 ∧ Ty.form n = 2) ∨ (¬ (n : Int) < 64 ∧ ¬ (n : Int) < 16384 ∧ ¬ (n : Int) < 1073741824 ∧ Ty.form n = 3) := by have := Ty.form_is n; omega
  rcases hf with ⟨h1, hf⟩ | ⟨h1, h2, hf⟩ | ⟨h1, h2, h3, hf⟩ | ⟨h1, h2, h3, hf⟩
  · have HF := Lib.hid hf
    clear hf
    go_enter Tryd.func40, Tryd.ntmps40
    go_wp2
    go_loopw [5, 6] (fun vr i wr => ∃ k : Nat, i = .int .i64 ((k : Int) - 1) ∧ Ty.RMid w.heap.size n 1 k wr vr ∧ Below w.heap.size w wr) (fun _ i _ => (intOf i + 1).toNat)
    case atStart => exact ⟨1, rfl, .inl ⟨rfl, Ty.Buf.nil _ _⟩, Below.refl _ _⟩
    case round =>
      try clear h3
      try clear h2
      clear h1
      obtain ⟨k, rfl, hm, hb⟩ := hrel
      have hbs := hb.size
      rcases hm with ⟨rfl, hB⟩ | ⟨hk, done, hd, hl, hB⟩
      · go_wp2_with (at_builtin; refine Ty.wpList_append_byte hB hbs (by simp) (.tmp 39) (.tmp 41) _ rfl rfl rfl rfl ?_; intro v2 w2 h2 g2)
        have hb2 := hb.trans (g2.below hbs hB.base)
        refine ⟨⟨0, rfl, Ty.RMid.first (by rw [HF.out]; rfl) rfl (Ty.rhead0 n HF.out) h2, hb2⟩, by simp [intOf]⟩
      · have hk0 : k = 0 := by omega
        subst hk0
        have Hdn : Hid (Ty.encU n = done) := Lib.hid (by simpa [Ty.low] using hd)
        have hcv := hB.str
        clear hd
        go_wp2
        go_ret
        exact ⟨by rw [Hdn.out]; rfl, hb⟩
  · have HF := Lib.hid hf
    clear hf
    go_enter Tryd.func40, Tryd.ntmps40
    go_wp2
    go_loopw [5, 6] (fun vr i wr => ∃ k : Nat, i = .int .i64 ((k : Int) - 1) ∧ Ty.RMid w.heap.size n 2 k wr vr ∧ Below w.heap.size w wr) (fun _ i _ => (intOf i + 1).toNat)
    case atStart => exact ⟨2, rfl, .inl ⟨rfl, Ty.Buf.nil _ _⟩, Below.refl _ _⟩
    case round =>
      try clear h3
      try clear h2
      clear h1
      obtain ⟨k, rfl, hm, hb⟩ := hrel
      have hbs := hb.size
      rcases hm with ⟨rfl, hB⟩ | ⟨hk, done, hd, hl, hB⟩
      · go_wp2_with (at_builtin; refine Ty.wpList_append_byte hB hbs (by simp) (.tmp 39) (.tmp 41) _ rfl rfl rfl rfl ?_; intro v2 w2 h2 g2)
        have hb2 := hb.trans (g2.below hbs hB.base)
        refine ⟨⟨1, rfl, Ty.RMid.first (by rw [HF.out]; rfl) rfl (Ty.rhead1 n HF.out) h2, hb2⟩, by simp [intOf]⟩
      · rcases k with _ | k
        · have Hdn : Hid (Ty.encU n = done) := Lib.hid (by simpa [Ty.low] using hd)
          have hcv := hB.str
          clear hd
          go_wp2
          go_ret
          exact ⟨by rw [Hdn.out]; rfl, hb⟩
        · have Hd := Lib.hid hd
          clear hd
          have hne : ((k : Int) == 1) = false := by rw [beq_eq_false_iff_ne]; omega
          have hl2 : done.length + 1 ≤ 140737488355328 := by omega
          go_wp2_with (at_builtin; refine Ty.wpList_append_byte hB hbs hl2 (.tmp 39) (.tmp 41) _ rfl rfl rfl rfl ?_; intro v2 w2 h2 g2)
          go_roundw
          have hb2 := hb.trans (g2.below hbs hB.base)
          case rel => exact ⟨k, rfl, Ty.RMid.next Hd.out hl hk h2, hb2⟩
          case measure => simp [intOf]
  · have HF := Lib.hid hf
    clear hf
    go_enter Tryd.func40, Tryd.ntmps40
    go_wp2
    go_loopw [5, 6] (fun vr i wr => ∃ k : Nat, i = .int .i64 ((k : Int) - 1) ∧ Ty.RMid w.heap.size n 4 k wr vr ∧ Below w.heap.size w wr) (fun _ i _ => (intOf i + 1).toNat)
    case atStart => exact ⟨4, rfl, .inl ⟨rfl, Ty.Buf.nil _ _⟩, Below.refl _ _⟩
    case round =>
      try clear h3
      try clear h2
      clear h1
      obtain ⟨k, rfl, hm, hb⟩ := hrel
      have hbs := hb.size
      rcases hm with ⟨rfl, hB⟩ | ⟨hk, done, hd, hl, hB⟩
      · go_wp2_with (at_builtin; refine Ty.wpList_append_byte hB hbs (by simp) (.tmp 39) (.tmp 41) _ rfl rfl rfl rfl ?_; intro v2 w2 h2 g2)
        have hb2 := hb.trans (g2.below hbs hB.base)
        refine ⟨⟨3, rfl, Ty.RMid.first (by rw [HF.out]; rfl) rfl (Ty.rhead2 n HF.out) h2, hb2⟩, by simp [intOf]⟩
      · rcases k with _ | k
        · have Hdn : Hid (Ty.encU n = done) := Lib.hid (by simpa [Ty.low] using hd)
          have hcv := hB.str
          clear hd
          go_wp2
          go_ret
          exact ⟨by rw [Hdn.out]; rfl, hb⟩
        · have Hd := Lib.hid hd
          clear hd
          have hne : ((k : Int) == 3) = false := by rw [beq_eq_false_iff_ne]; omega
          have hl2 : done.length + 1 ≤ 140737488355328 := by omega
          go_wp2_with (at_builtin; refine Ty.wpList_append_byte hB hbs hl2 (.tmp 39) (.tmp 41) _ rfl rfl rfl rfl ?_; intro v2 w2 h2 g2)
          go_roundw
          have hb2 := hb.trans (g2.below hbs hB.base)
          case rel => exact ⟨k, rfl, Ty.RMid.next Hd.out hl hk h2, hb2⟩
          case measure => simp [intOf]
  · have HF := Lib.hid hf
    clear hf
    go_enter Tryd.func40, Tryd.ntmps40
    go_wp2
    go_loopw [5, 6] (fun vr i wr => ∃ k : Nat, i = .int .i64 ((k : Int) - 1) ∧ Ty.RMid w.heap.size n 9 k wr vr ∧ Below w.heap.size w wr) (fun _ i _ => (intOf i + 1).toNat)
    case atStart => exact ⟨9, rfl, .inl ⟨rfl, Ty.Buf.nil _ _⟩, Below.refl _ _⟩
    case round =>
      try clear h3
      try clear h2
      clear h1
      obtain ⟨k, rfl, hm, hb⟩ := hrel
      have hbs := hb.size
      rcases hm with ⟨rfl, hB⟩ | ⟨hk, done, hd, hl, hB⟩
      · go_wp2_with (at_builtin; refine Ty.wpList_append_byte hB hbs (by simp) (.tmp 39) (.tmp 41) _ rfl rfl rfl rfl ?_; intro v2 w2 h2 g2)
        have hb2 := hb.trans (g2.below hbs hB.base)
        refine ⟨⟨8, rfl, Ty.RMid.first (by rw [HF.out]; rfl) rfl (Ty.rhead3 n HF.out) h2, hb2⟩, by simp [intOf]⟩
      · rcases k with _ | k
        · have Hdn : Hid (Ty.encU n = done) := Lib.hid (by simpa [Ty.low] using hd)
          have hcv := hB.str
          clear hd
          go_wp2
          go_ret
          exact ⟨by rw [Hdn.out]; rfl, hb⟩
        · have Hd := Lib.hid hd
          clear hd
          have hne : ((k : Int) == 8) = false := by rw [beq_eq_false_iff_ne]; omega
          have hl2 : done.length + 1 ≤ 140737488355328 := by omega
          go_wp2_with (at_builtin; refine Ty.wpList_append_byte hB hbs hl2 (.tmp 39) (.tmp 41) _ rfl rfl rfl rfl ?_; intro v2 w2 h2 g2)
          go_roundw
          have hb2 := hb.trans (g2.below hbs hB.base)
          case rel => exact ⟨k, rfl, Ty.RMid.next Hd.out hl hk h2, hb2⟩
          case measure => simp [intOf]
set_option maxHeartbeats 400000 in
theorem Ty.rtext_c (s : ByteArray) (hs : s.size ≤ 140737488351232) (w : World) :
    Calls Tryd.prog 25 #[.string s] w (Ty.Str w (Ty.encU s.size ++ s.data.toList)) := by
  have h9 : (Ty.S (Ty.encU s.size)).size ≤ 9 := Ty.encU_len9 _
  go_enter Tryd.func25, Tryd.ntmps25
  go_wp2_with fail
  refine (Ty.ruint_nat s.size _).mono ?_
  rintro e w1 ⟨rfl, hb⟩
  go_wp2
  go_ret
  exact ⟨congrArg (fun x => Ending.returned (.string x)) (ByteArray.mk_append_mk (Ty.encU s.size) s.data.toList), hb⟩
theorem Ty.fw_neg {n : Int} (h : Ty.I64 n) (h0 : n < 0) : IntKind.u64.wrap (IntKind.u64.wrap (2 * IntKind.u64.wrap (wrap64 (-wrap64 (n + 1)))) + 1) = Ty.zig n := by
  unfold Ty.I64 at h; unfold Ty.zig; simp only [IntKind.wrap_u64]; unfold wrap64; rw [if_neg (by omega)]; omega
theorem Ty.fw_pos {n : Int} (h : Ty.I64 n) (h0 : 0 ≤ n) : IntKind.u64.wrap (2 * IntKind.u64.wrap n) = Ty.zig n := by
  unfold Ty.I64 at h; unfold Ty.zig; simp only [IntKind.wrap_u64]; rw [if_pos (by omega)]; omega
set_option maxHeartbeats 400000 in
theorem Ty.fold_c (n : Int) (w : World) (hn : Ty.I64 n) :
    Calls Tryd.prog 41 #[.int .i64 n] w fun e w' => e = .returned (.int .u64 (Ty.zig n)) ∧ w' = w := by
  by_cases h : n < 0
  · have H := Lib.hid (Ty.fw_neg hn h)
    go_enter Tryd.func41, Tryd.ntmps41
    go_wp2
    go_ret
    exact ⟨Ty.ret_i H.out, rfl⟩
  · have H := Lib.hid (Ty.fw_pos hn (by omega))
    go_enter Tryd.func41, Tryd.ntmps41
    go_wp2
    go_ret
    exact ⟨Ty.ret_i H.out, rfl⟩
theorem Ty.ruint_c (z : Int) (h0 : 0 ≤ z) (w : World) :
    Calls Tryd.prog 40 #[.int .u64 z] w (Ty.Str w (Ty.encU z.toNat)) := by
  have := Ty.ruint_nat z.toNat w
  rwa [Int.toNat_of_nonneg h0] at this
set_option maxHeartbeats 400000 in
theorem Ty.rint_c (n : Int) (w : World) (hn : Ty.I64 n) :
    Calls Tryd.prog 24 #[.int .i64 n] w (Ty.Str w (Ty.encU (Ty.zig n).toNat)) := by
  go_enter Tryd.func24, Tryd.ntmps24
  go_wp2_with fail
  refine (Ty.fold_c n _ hn).mono ?_
  rintro e w' ⟨rfl, rfl⟩
  go_wp2_with fail
  refine (Ty.ruint_c _ (Ty.zig_nonneg n) _).mono ?_
  rintro e w1 ⟨rfl, hb⟩
  go_wp2
  go_ret
  exact ⟨rfl, hb⟩
set_option maxHeartbeats 400000 in
theorem Ty.open_nat (n : Nat) (w : World) (hn : Ty.U64 n) :
    Calls Tryd.prog 61 #[.int .u64 n] w fun e w' => e = .returned (.int .i64 (Ty.zag n)) ∧ w' = w := by
  by_cases h : n % 2 = 1
  · have H := Lib.hid (Ty.w_odd hn h)
    go_enter Tryd.func61, Tryd.ntmps61
    go_wp2
    go_ret
    exact ⟨Ty.ret_i H.out, rfl⟩
  · have H := Lib.hid (Ty.w_even hn h)
    go_enter Tryd.func61, Tryd.ntmps61
    go_wp2
    go_ret
    exact ⟨Ty.ret_i H.out, rfl⟩
end Go.Proofs.YtccjfmjgkkpndaaDoor
