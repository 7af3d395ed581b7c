/-
  Contracts of package tally: what Uint, Int and Text append to a buffer of the caller's own.
-/
import Derived.Test.YtccjfmjgkkpndaaDoorW1
import Derived.Test.YtccjfmjgkkpndaaDoorOwn
import Derived.Lib.Hide
namespace Go.Proofs.YtccjfmjgkkpndaaDoor
open Go.RowKit
/-- So far: k bytes of the number are still to be written. -/
def Ty.Mid (base : Nat) (w : World) (v0 : Value) (bs : List UInt8) (n k : Nat) (wr : World) (v : Value) : Prop :=
  ∃ done, Ty.encU n = done ++ Ty.low k n ∧ done.length + k ≤ 9 ∧ Ty.Buf base wr v (bs ++ done) ∧ Ty.Grew w wr v0 v
def Ty.Written (base : Nat) (w : World) (v : Value) (bs : List UInt8) (e : Ending) (w' : World) : Prop := ∃ v', e = .returned v' ∧ Ty.Buf base w' v' bs ∧ Ty.Grew w w' v v'
theorem Ty.Mid.first {base : Nat} {w : World} {v : Value} {bs : List UInt8} {n k : Nat} {w1 : World} {v1 : Value} (hk : k = Ty.after (Ty.form n)) {X : Int} (hX : X = ((Ty.head n).toNat : Int)) (h1 : ∀ u : UInt8, X = (u.toNat : Int) → Ty.Buf base w1 v1 (bs ++ [u])) (g1 : Ty.Grew w w1 v v1) : Ty.Mid base w v bs n k w1 v1 :=
  ⟨[Ty.head n], by rw [hk]; exact Ty.encU_split n, by have := Ty.after_le n; simp; omega, h1 _ hX, g1⟩
theorem Ty.Mid.next {base : Nat} {w : World} {v0 v : Value} {bs done : List UInt8} {n k : Nat} {wr w1 : World} {v1 : Value} (hd : Ty.encU n = done ++ Ty.low (k + 1) n) (hl : done.length + (k + 1) ≤ 9) (hG : Ty.Grew w wr v0 v)
    (h1 : ∀ u : UInt8, ((n : Int) / 2 ^ (8 * k) % 256) = (u.toNat : Int) → Ty.Buf base w1 v1 (bs ++ done ++ [u])) (g1 : Ty.Grew wr w1 v v1) : Ty.Mid base w v0 bs n k w1 v1 := by
  refine ⟨done ++ [UInt8.ofNat (n / 256 ^ k % 256)], by rw [hd, Ty.low_succ]; simp, by simp; omega, ?_, hG.trans g1⟩
  have := h1 _ (Ty.low_byte n k)
  simpa using this
theorem Ty.Mid.end {base : Nat} {w : World} {v0 v : Value} {bs done : List UInt8} {n : Nat} {wr : World} (hd : Ty.encU n = done ++ Ty.low 0 n) (hB : Ty.Buf base wr v (bs ++ done)) (hG : Ty.Grew w wr v0 v) : Ty.Written base w v0 (bs ++ Ty.encU n) (.returned v) wr :=
  ⟨v, rfl, by rw [hd]; simpa [Ty.low] using hB, hG⟩

set_option maxHeartbeats 1000000 in
theorem Ty.uint_nat (base : Nat) (v : Value) (bs : List UInt8) (n : Nat) (hn : Ty.U64 n) (w : World) (h : Ty.Tabs w) (hown : Ty.Buf base w v bs) (hb : base ≤ w.heap.size) (hlen : bs.length + 9 ≤ 140737488355328) :
    Calls Tryd.prog 50 #[v, .int .u64 n] w (Ty.Written base w v (bs ++ Ty.encU n)) := by
  have H := h
  obtain ⟨z0, z1, z2, z3, s0, s1, s2, s3, _⟩ := h
  have hf : Ty.form n = 0 ∨ Ty.form n = 1 ∨ Ty.form n = 2 ∨ Ty.form n = 3 := by have := Ty.form_le n; omega
  rcases hf with hf | hf | hf | hf
  all_goals
    have HF := Lib.hid hf
    go_enter Tryd.func50, Tryd.ntmps50
    go_wp2_with fail
    refine (Ty.formOf_c n _ H).mono ?_
    rintro e w' ⟨rfl, rfl⟩
    go_wp2_with (at_builtin; refine Ty.wpList_append_byte hown hb (by omega) (.tmp 14) (.tmp 24) _ rfl rfl rfl rfl ?_; intro v1 w1 h1 g1)
    go_loopw [0, 7] (fun vr i wr => ∃ k : Nat, i = .int .i64 ((k : Int) - 1) ∧ Ty.Mid base w' v bs n k wr vr) (fun _ i _ => (intOf i + 1).toNat)
    case atStart =>
      first
        | exact ⟨0, rfl, Ty.Mid.first (by rw [HF.out]; rfl) (Ty.head0 n HF.out) h1 g1⟩
        | exact ⟨1, rfl, Ty.Mid.first (by rw [HF.out]; rfl) (Ty.head1 n HF.out) h1 g1⟩
        | exact ⟨3, rfl, Ty.Mid.first (by rw [HF.out]; rfl) (Ty.head2 n HF.out) h1 g1⟩
        | exact ⟨8, rfl, Ty.Mid.first (by rw [HF.out]; rfl) (Ty.head3 n HF.out hn) h1 g1⟩
    case round =>
      obtain ⟨k, rfl, hm⟩ := hrel
      obtain ⟨done, hd, hl, hB, hG⟩ := hm
      have Hd := Lib.hid hd
      clear hd h1 g1
      have hbs := hG.by_.size
      rcases k with _ | k
      · go_wp2
        go_ret
        exact Ty.Mid.end Hd.out hB hG
      · have hk : k ≤ 8 := by omega
        have hl2 : (bs ++ done).length + 1 ≤ 140737488355328 := by simp; omega
        have hb2 : base ≤ wr.heap.size := by omega
        go_wp2_with (at_builtin; refine Ty.wpList_append_byte hB hb2 hl2 (.tmp 32) (.tmp 38) _ rfl rfl rfl rfl ?_; intro v2 w2 h2 g2)
        go_roundw
        case rel => exact ⟨k, rfl, Ty.Mid.next Hd.out hl hG h2 g2⟩
        case measure => simp [intOf]
/-- Uint appends the encoding of its number. -/
theorem Ty.uint_c (base : Nat) (v : Value) (bs : List UInt8) (z : Int) (h0 : 0 ≤ z) (hz : Ty.U64 z.toNat) (w : World) (h : Ty.Tabs w) (hown : Ty.Buf base w v bs) (hb : base ≤ w.heap.size) (hlen : bs.length + 9 ≤ 140737488355328) :
    Calls Tryd.prog 50 #[v, .int .u64 z] w (Ty.Written base w v (bs ++ Ty.encU z.toNat)) := by
  have := Ty.uint_nat base v bs z.toNat hz w h hown hb hlen
  rwa [Int.toNat_of_nonneg h0] at this
end Go.Proofs.YtccjfmjgkkpndaaDoor
