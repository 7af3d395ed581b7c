/-
  The document's answers for package texts: pick, where it fails ahead of the indices.
-/
import Derived.Test.YtkgmildbhelelaaDoorQ6
namespace Go.Proofs.YtkgmildbhelelaaDoor
open Go.RowKit
open Ty (encU num txt)
open Tx (rdPick)
theorem Tx.by_then {w0 w : World} {b : Nat} (g : w0.grownBy w (some b)) (n : Nat) : w0.grownBy (w.drewN n) (some b) := Tx.below_by (Bt.drewN_below w n) g
theorem Tx.rbyte_x (r : Nat) (s : ByteArray) (hs : s.size ≤ 140737488351232) (x : UInt8) (t : List UInt8) (w : World) (h : Ty.RS r s w (x :: t) 0) :
    Calls Tryd.prog 42 #[.pointer (some ⟨r, 0, none⟩)] w (Ty.RLeft r s w (.int .i64 ((x.toNat : Nat) : Int)) t 0) := Ty.rbyte_m r s hs (x :: t) 0 w h
theorem Tx.need_is {n q m : Nat} (h : n * q = m) : ((m : Int) + 7) / 8 = ((Bt.need (n * q) : Nat) : Int) := by
  rw [h]
  unfold Bt.need
  omega
set_option maxHeartbeats 1000000 in
theorem Tx.rpick_nil (r : Nat) (s : ByteArray) (hs : s.size ≤ 140737488351232) (n : Nat) (vd : Value) (d : List Tx.Str) (w : World) (h : Ty.RS r s w [] 0) :
    Calls Tryd.prog 59 #[.pointer (some ⟨r, 0, none⟩), .int .i64 n, vd] w (Tx.RRd r s w (rdPick n d [])) := by
  have cb := Ty.rbyte_m r s hs [] 0 w h
  have e1 : Ty.rdB [] 0 = (0, [], 2) := rfl
  rw [e1] at cb
  clear e1 h
  go_enter Tryd.func59, Tryd.ntmps59
  go_wp2_with fail
  refine cb.mono ?_
  rintro e w4 ⟨rfl, hc4, hg4⟩
  have he4 := Tx.RS_err hc4
  simp only [Int.cast_ofNat_Int] at he4
  have HG4 := Lib.hid hg4
  clear cb hc4 hg4
  go_wp2_with fail
  go_quiet (fail)
  go_wp2
  go_ret2
  exact Tx.RRd.bad rfl (by rw [Tx.rdPk1]; decide) (Tx.by_then HG4.out _)
set_option maxHeartbeats 1000000 in
theorem Tx.rpick_wide (r : Nat) (s : ByteArray) (hs : s.size ≤ 140737488351232) (n : Nat) (vd : Value) (d : List Tx.Str) (x : UInt8) (t : List UInt8) (w : World) (h : Ty.RS r s w (x :: t) 0) (h64 : 64 < x.toNat) :
    Calls Tryd.prog 59 #[.pointer (some ⟨r, 0, none⟩), .int .i64 n, vd] w (Tx.RRd r s w (rdPick n d (x :: t))) := by
  have cb := Tx.rbyte_x r s hs x t w h
  have HB := Lib.hid (Tx.rdPk2 (n := n) (d := d) (r := t) h64)
  have h64i : (64 : Int) < (x.toNat : Int) := by omega
  clear h h64
  go_enter Tryd.func59, Tryd.ntmps59
  go_wp2_with fail
  refine cb.mono ?_
  rintro e w4 ⟨rfl, hc4, hg4⟩
  have he4 := Tx.RS_err hc4
  simp only [Int.natCast_zero] at he4
  have HG4 := Lib.hid hg4
  clear cb hc4 hg4
  go_wp2
  go_ret2
  exact Tx.RRd.bad (by rw [HB.out]; rfl) (by rw [HB.out]; decide) HG4.out
set_option maxHeartbeats 1000000 in
theorem Tx.rpick_short (r : Nat) (s : ByteArray) (hs : s.size ≤ 140737488351232) (n : Nat) (hn : n ≤ 65536) (vd : Value) (d : List Tx.Str) (x : UInt8) (t : List UInt8) (w : World) (h : Ty.RS r s w (x :: t) 0) (h64 : ¬ 64 < x.toNat) (hss : t.length < Bt.need (n * x.toNat)) :
    Calls Tryd.prog 59 #[.pointer (some ⟨r, 0, none⟩), .int .i64 n, vd] w (Tx.RRd r s w (rdPick n d (x :: t))) := by
  have cb := Tx.rbyte_x r s hs x t w h
  have HB := Lib.hid (Tx.rdPk3 (d := d) h64 hss)
  obtain ⟨q, hq⟩ : ∃ q, q = x.toNat := ⟨_, rfl⟩
  rw [← hq] at cb h64 hss
  have hmul := Bt.mul_le n q (by omega)
  obtain ⟨m, hm⟩ : ∃ m, n * q = m := ⟨_, rfl⟩
  have hmi : (n : Int) * (q : Int) = (m : Int) := by rw [← hm]; simp
  have hmm : m ≤ 4194304 := by omega
  have hd := Tx.need_is hm
  obtain ⟨sz, hsz⟩ : ∃ sz, sz = Bt.need (n * q) := ⟨_, rfl⟩
  rw [← hsz] at hd hss
  have hsz2 : sz ≤ 524289 := by rw [hsz, hm]; unfold Bt.need; omega
  have hq64i : ¬ (64 : Int) < (q : Int) := by omega
  have hlt : (t.length : Int) < (sz : Int) := by omega
  have cl := fun wz (hc : Ty.RS r s wz t 0) => Ty.rleft_m r s hs t 0 wz hc
  clear h h64 hss hsz hm hq hmul
  go_enter Tryd.func59, Tryd.ntmps59
  go_wp2_with fail
  refine cb.mono ?_
  rintro e w4 ⟨rfl, hc4, hg4⟩
  have he4 := Tx.RS_err hc4
  simp only [Int.natCast_zero] at he4
  have HG4 := Lib.hid hg4
  have cl4 := cl _ hc4
  clear cb hc4 hg4 cl
  go_wp2_with fail
  refine cl4.mono ?_
  rintro e w5 ⟨rfl, hc5, hg5⟩
  have HG5 := Lib.hid (Ty.by_trans HG4.out hg5)
  clear cl4 hc5 hg5
  go_wp2
  go_ret2
  exact Tx.RRd.bad (by rw [HB.out]; rfl) (by rw [HB.out]; decide) HG5.out
end Go.Proofs.YtkgmildbhelelaaDoor
