/-
  Contracts of package bits: Width, Truths, Pack.
-/
import Derived.Test.YtkgmildbhelelaaDoorB3
namespace Go.Proofs.YtkgmildbhelelaaDoor
open Go.RowKit
/-- n values that lie one behind the other. -/
structure Bt.Sl (w : World) (v : Value) (n : Nat) (f : Nat → Value) : Prop where
  is : ∃ a c, v = .slice a n c ∧ (n = 0 ∨ ∃ b o, a = some ⟨b, o, none⟩ ∧ b < w.heap.size ∧ ∀ i, i < n → w.cell? ⟨b, o + i, none⟩ = some (f i))
theorem Bt.Sl.later {w w' : World} {v : Value} {n : Nat} {f : Nat → Value} (h : Bt.Sl w v n f) (g : Below w.heap.size w w') : Bt.Sl w' v n f := by
  obtain ⟨a, c, rfl, h⟩ := h
  refine ⟨a, c, rfl, ?_⟩
  rcases h with h | ⟨b, o, rfl, hlt, h⟩
  · exact .inl h
  · exact .inr ⟨b, o, rfl, Nat.lt_of_lt_of_le hlt g.size, fun i hi => (g.cell (p := ⟨b, o + i, none⟩) hlt).trans (h i hi)⟩
/-- A number as a value; a truth as a value. -/
def Bt.nv (X : Nat → Nat) (i : Nat) : Value := .int .u64 ((X i : Nat) : Int)
def Bt.bv (T : Nat → Bool) (i : Nat) : Value := .bool (T i)
theorem Bt.or_u64 (a b : Nat) (ha : a < 2 ^ 64) (hb : b < 2 ^ 64) : bits .or .u64 (a : Int) (b : Int) = ((a ||| b : Nat) : Int) := (bits_nat .u64 64 (by decide) Bt.wraps_u64 _ _ ha hb).2
set_option maxHeartbeats 1000000 in
theorem Bt.width_c (v : Value) (n : Nat) (X : Nat → Nat) (w : World) (h : Bt.Sl w v n (Bt.nv X)) (hX : ∀ i, X i < 2 ^ 64) (hn : n ≤ 140737488355328) :
    Calls Tryd.prog 107 #[v] w fun e w' => e = .returned (.int .i64 (Bt.wid n X : Nat)) ∧ w' = w := by
  obtain ⟨a, c, rfl, h⟩ := h
  have c1 := fun w => Bt.len64_c (Bt.orN n X) ((Bt.orN_lt n X 64).2 fun i _ => hX i) w
  have e1 : bitLen (Bt.orN n X) = Bt.wid n X := rfl
  rw [e1] at c1
  have HX := Lib.hid hX
  clear hX e1
  go_enter Tryd.func107, Tryd.ntmps107
  go_wp2
  go_loop [3, 8] (fun m i => ∃ k : Nat, k ≤ n ∧ i = .int .i64 k ∧ m = .int .u64 (Bt.orN k X : Nat)) (fun _ i => n - (intOf i).toNat)
  case atStart => exact ⟨0, by omega, rfl, rfl⟩
  case round =>
    obtain ⟨k, hk, rfl, rfl⟩ := hrel
    by_cases hl : k < n
    · rcases h with h | ⟨b, o, rfl, hlt, h⟩
      · omega
      · have hc := h k hl
        unfold Bt.nv at hc
        have hkl : (k : Int) < (n : Int) := by omega
        have hk0 : (0 : Int) ≤ (k : Int) := by omega
        clear h
        go_wp2
        go_round
        case rel => exact ⟨k + 1, by omega, by simp, by rw [Bt.or_u64 _ _ ((Bt.orN_lt k X 64).2 fun i _ => HX.out i) (HX.out k)]; rfl⟩
        case measure => simp [intOf]; omega
    · obtain rfl : k = n := by omega
      have hkl : ¬ (k : Int) < (k : Int) := by omega
      go_wp2_with fail
      refine (c1 _).mono ?_
      rintro e w' ⟨rfl, rfl⟩
      go_wp2
      go_ret
      exact ⟨rfl, rfl⟩
theorem Bt.oct_zero (i : Nat) : Bt.oct (fun _ => false) i = 0 := Bt.num_is (by decide) fun j _ => by simp
theorem Bt.made (w : World) (n : Nat) : Bt.Row (w.alloc (.cells (madeCells #[.int .u8 0] n) 5)) w.heap.size n (fun _ => false) :=
  (World.rowIs_made w (.int .u8 0) n 5).congr fun i _ => by rw [Bt.oct_zero]; rfl
theorem Bt.info8 : (Tryd.prog.info? 5).map (fun i => (i.zero, i.size, i.bytes)) = some (some (.int .u8 0), 1, 1) := by kernel_rfl
theorem Bt.Put.below {g sz : Nat} {F : Nat → Bool} {w w' : World} (h : Bt.Put g sz F w w') {B : Nat} (hB : B ≤ g) (hs : B ≤ w.heap.size) : Below B w w' :=
  ⟨h.2.os, h.2.tape, h.2.output, h.2.size, fun k hk => h.2.block k (by omega) (fun e => by have := Option.some.inj e; omega)⟩
theorem Bt.rets {x y : ByteArray} (h : x = y) : Ending.returned (.string x) = Ending.returned (.string y) := by rw [h]
/-- What Pack returns. -/
def Bt.packV (n : Nat) (X : Nat → Nat) (q : Int) : Value :=
  if 0 ≤ q ∧ q ≤ 64 then (if q.toNat < Bt.wid n X then .tuple #[.string ⟨#[]⟩, .int .i64 4] else .tuple #[.string (Bt.bytes (Bt.need (n * q.toNat)) (Bt.pk n X q.toNat)), .int .i64 0])
  else .tuple #[.string ⟨#[]⟩, .int .i64 1]
theorem Bt.mul_le (n q : Nat) (hq : q ≤ 64) : n * q ≤ n * 64 := Nat.mul_le_mul_left _ hq
set_option maxHeartbeats 1000000 in
theorem Bt.pack_ok (v : Value) (n : Nat) (X : Nat → Nat) (q : Nat) (w : World) (h : Bt.Sl w v n (Bt.nv X)) (hX : ∀ i, X i < 2 ^ 64) (hn : n ≤ 17592186044416) (hq : q ≤ 64) (hw : Bt.wid n X ≤ q) :
    Calls Tryd.prog 108 #[v, .int .i64 q] w fun e w' => e = .returned (.tuple #[.string (Bt.bytes (Bt.need (n * q)) (Bt.pk n X q)), .int .i64 0]) ∧ Below w.heap.size w w' := by
  have c0 := Bt.rightWidth_c q
  rw [decide_eq_true ⟨by omega, by omega⟩] at c0
  have c3 := Bt.width_c v n X w h hX (by omega)
  obtain ⟨a, c, rfl, h⟩ := h
  have hmul := Bt.mul_le n q hq
  generalize hm : n * q = m at hmul ⊢
  have hmi : (n : Int) * (q : Int) = (m : Int) := by rw [← hm]; simp
  have c1 := fun w => Bt.size_c m (by omega) w
  have hroom := (Bt.need_room m).1
  have hz : Bt.need m ≤ 140737488355328 := by unfold Bt.need; omega
  generalize Bt.need m = sz at c1 hroom hz ⊢
  have hmk := run_make_row' (P := Tryd.prog) 47 5 (.int .u8 0) 1 Tryd.underlying47 Bt.info8 rfl .i64 .i64 sz (by omega) (by omega)
  have HF : Hid (n ≤ 17592186044416 ∧ q ≤ 64 ∧ m ≤ n * 64 ∧ n * q = m ∧ m ≤ 8 * sz ∧ sz ≤ 140737488355328 ∧ (∀ i, X i < 2 ^ 64) ∧ ∀ i, i < n → X i < 2 ^ q) := Lib.hid ⟨hn, hq, hmul, hm, hroom, hz, hX, (Bt.wid_le n X q).1 hw⟩
  have hmm : m ≤ 1125899906842624 := by omega
  have hwi : ((Bt.wid n X : Nat) : Int) ≤ (q : Int) := by omega
  clear hn hq hmul hm hroom hz hX hw
  go_enter Tryd.func108, Tryd.ntmps108
  go_wp2_with fail
  refine (c0 _).mono ?_
  rintro e w0 ⟨rfl, rfl⟩
  go_wp2_with fail
  refine c3.mono ?_
  rintro e w1 ⟨rfl, rfl⟩
  go_wp2_with fail
  refine (c1 _).mono ?_
  rintro e w1 ⟨rfl, rfl⟩
  go_wp2_with fail
  have hR := Bt.made w1 sz
  have hB : Below w1.heap.size w1 (w1.alloc (.cells (madeCells #[.int .u8 0] sz) 5)) := (Below.refl _ _).alloc (Nat.le_refl _) _
  generalize w1.alloc (.cells (madeCells #[.int .u8 0] sz) 5) = w2 at hR hB ⊢
  clear hmk c0 c1 c3 hwi
  generalize hg : w1.heap.size = g at h hR hB
  have HGE := Lib.hid hg
  clear hg
  go_loopw [24] (fun i wr => ∃ k : Nat, k ≤ n ∧ i = .int .i64 k ∧ Bt.Row wr g sz (Bt.pk k X q) ∧ Below g w1 wr ∧ g < wr.heap.size) (fun i _ => n - (intOf i).toNat)
  case atStart => exact ⟨0, by omega, rfl, by rw [Bt.pk_zero]; exact hR, hB, hR.lt⟩
  case round =>
    obtain ⟨k, hk, rfl, hRk, hBk, hlt⟩ := hrel
    have HR := Lib.hid hRk
    clear hR hB hRk
    by_cases hl : k < n
    · rcases h with h | ⟨b, o, rfl, hb, h⟩
      · omega
      · have hc : wr.cell? ⟨b, o + k, none⟩ = some (.int .u64 ((X k : Nat) : Int)) := (hBk.cell (p := ⟨b, o + k, none⟩) hb).trans (h k hl)
        have hkl : (k : Int) < (n : Int) := by omega
        have hk0 : (0 : Int) ≤ (k : Int) := by omega
        obtain ⟨fn, fq, f64, fm, f8, fz, fX, fw⟩ := HF.out
        have hk2 : (k : Int) < 140737488355328 := by omega
        obtain ⟨p, ep⟩ : ∃ p, p = k * q := ⟨_, rfl⟩
        have hpi : (k : Int) * (q : Int) = (p : Int) := by rw [ep]; simp
        have hpq : p + q ≤ m := by
          have : (k + 1) * q ≤ n * q := Nat.mul_le_mul_right _ hl
          rw [Nat.succ_mul] at this
          omega
        have hp2 : p ≤ 1125899906842624 := by omega
        have cp := Bt.put_c g sz sz (Bt.pk k X q) p (X k) wr HR.out (Nat.lt_of_lt_of_le (fw k hl) (Nat.pow_le_pow_right (by decide) (by omega))) (fX k) (by omega) (by omega)
        have HP0 : Hid (Bt.pk (k + 1) X q = Bt.putF (Bt.pk k X q) p (X k)) := Lib.hid (by rw [ep]; exact Bt.pk_put X q k (fw k hl))
        clear h fn fq f64 fm f8 fz fX fw hpq ep
        go_wp2_with fail
        refine cp.mono ?_
        rintro e w3 ⟨rfl, hP⟩
        have hB3 := hBk.trans (hP.below (Nat.le_refl _) (by omega))
        have hs3 : g < w3.heap.size := hP.1.lt
        have HP := Lib.hid hP
        clear hP hlt hBk hc cp
        go_wp2
        go_roundw
        case rel => exact ⟨k + 1, by omega, by simp, by rw [HP0.out]; exact HP.out.1, hB3, hs3⟩
        case measure => simp [intOf]; omega
    · obtain rfl : k = n := by omega
      have hkl : ¬ (k : Int) < (k : Int) := by omega
      have hs := HR.out.string (c := sz)
      go_wp2
      go_ret2
      exact ⟨rfl, by rw [HGE.out]; exact hBk⟩
end Go.Proofs.YtkgmildbhelelaaDoor
