/-
  Contracts of package bits: Pack whatever comes in; Untruths, Unpack.
-/
import Derived.Test.YtkgmildbhelelaaDoorB4
namespace Go.Proofs.YtkgmildbhelelaaDoor
open Go.RowKit
set_option maxHeartbeats 1000000 in
theorem Bt.pack_c (v : Value) (n : Nat) (X : Nat → Nat) (z : Int) (w : World) (h : Bt.Sl w v n (Bt.nv X)) (hX : ∀ i, X i < 2 ^ 64) (hn : n ≤ 17592186044416) :
    Calls Tryd.prog 108 #[v, .int .i64 z] w fun e w' => e = .returned (Bt.packV n X z) ∧ Below w.heap.size w w' := by
  by_cases hz : 0 ≤ z ∧ z ≤ 64
  · obtain ⟨q, rfl⟩ := Int.eq_ofNat_of_zero_le hz.1
    by_cases hw : q < Bt.wid n X
    · have e : Bt.packV n X (q : Int) = .tuple #[.string ⟨#[]⟩, .int .i64 4] := by
        unfold Bt.packV
        rw [if_pos hz, if_pos (by simpa using hw)]
      rw [e]
      have c0 := Bt.rightWidth_c q
      rw [decide_eq_true hz] at c0
      have c3 := Bt.width_c v n X w h hX (by omega)
      have hwi : (q : Int) < ((Bt.wid n X : Nat) : Int) := by omega
      obtain ⟨a, c, rfl, h⟩ := h
      clear h hX hn hz hw e
      go_enter Tryd.func108, Tryd.ntmps108
      go_wp2_with fail
      refine (c0 _).mono ?_
      rintro e w0 ⟨rfl, rfl⟩
      go_wp2_with fail
      refine c3.mono ?_
      rintro e w1 ⟨rfl, rfl⟩
      go_wp2
      go_ret2
      exact ⟨rfl, Below.refl _ _⟩
    · have e : Bt.packV n X (q : Int) = .tuple #[.string (Bt.bytes (Bt.need (n * q)) (Bt.pk n X q)), .int .i64 0] := by
        unfold Bt.packV
        rw [if_pos hz, if_neg (by simpa using hw)]
        rfl
      rw [e]
      exact Bt.pack_ok v n X q w h hX hn (by omega) (by omega)
  · have e : Bt.packV n X z = .tuple #[.string ⟨#[]⟩, .int .i64 1] := by
      unfold Bt.packV
      rw [if_neg hz]
    rw [e]
    have c0 := Bt.rightWidth_c z
    rw [decide_eq_false hz] at c0
    obtain ⟨a, c, rfl, h⟩ := h
    clear h hX hn hz e
    go_enter Tryd.func108, Tryd.ntmps108
    go_wp2_with fail
    refine (c0 _).mono ?_
    rintro e w0 ⟨rfl, rfl⟩
    go_wp2
    go_ret2
    exact ⟨rfl, Below.refl _ _⟩
/-- Which error truths, numbers have, and how many there are. -/
def Bt.utE (s : ByteArray) (z : Int) : Nat := if 0 ≤ z ∧ z ≤ 65536 then Bt.chk s z.toNat else 1
def Bt.utN (s : ByteArray) (z : Int) : Nat := if Bt.utE s z = 0 then z.toNat else 0
def Bt.upE (s : ByteArray) (z q : Int) : Nat := if (0 ≤ q ∧ q ≤ 64) ∧ 0 ≤ z ∧ z ≤ 65536 then Bt.chk s (z.toNat * q.toNat) else 1
def Bt.upN (s : ByteArray) (z q : Int) : Nat := if Bt.upE s z q = 0 then z.toNat else 0
/-- The numbers of so many bits in bytes. -/
def Bt.nums (s : ByteArray) (q : Nat) (i : Nat) : Nat := Bt.num q (fun j => Bt.bit s (i * q + j))
theorem Bt.Sl.nil (w : World) (f : Nat → Value) : Bt.Sl w (.slice none 0 0) 0 f := ⟨none, 0, rfl, .inl rfl⟩
theorem Bt.Sl.row {w : World} {g n c : Nat} {t : TypeId} {f : Nat → Value} (h : w.rowIs g t n f) : Bt.Sl w (.slice (some ⟨g, 0, none⟩) n c) n f :=
  ⟨_, c, rfl, .inr ⟨g, 0, rfl, h.lt, fun i hi => by rw [Nat.zero_add]; exact h.cell hi⟩⟩
theorem Bt.infoB : (Tryd.prog.info? 4).map (fun i => (i.zero, i.size, i.bytes)) = some (some (.bool false), 1, 1) := by kernel_rfl
theorem Bt.infoU : (Tryd.prog.info? 49).map (fun i => (i.zero, i.size, i.bytes)) = some (some (.int .u64 0), 1, 8) := by kernel_rfl
theorem Bt.num_one (g : Nat → Bool) : Bt.num 1 g = (g 0).toNat := by simp [Bt.num]
/-- So far k of n values are laid. -/
def Bt.upTo (k : Nat) (f : Nat → Value) (z : Value) (i : Nat) : Value := if i < k then f i else z
theorem Bt.upTo_next {w : World} {g n k : Nat} {t : TypeId} {f : Nat → Value} {z u : Value} (h : w.rowIs g t n (Bt.upTo k f z)) (hu : u = f k) : (w.setCell ⟨g, k, none⟩ u).rowIs g t n (Bt.upTo (k + 1) f z) := by
  refine (World.rowIs.set h k u).congr fun i _ => ?_
  unfold Bt.upTo
  by_cases e : i = k
  · subst e
    rw [if_pos rfl, if_pos (by omega), hu]
  · rw [if_neg e]
    by_cases h2 : i < k
    · rw [if_pos h2, if_pos (by omega)]
    · rw [if_neg h2, if_neg (by omega)]
theorem Bt.below_set {w : World} {g i B : Nat} (hB : B ≤ g) (u : Value) : Below B w (w.setCell ⟨g, i, none⟩ u) :=
  ⟨rfl, rfl, rfl, by simp [World.setCell], fun k hk => Below.heap_setCell _ _ _ _ (by show k ≠ g; omega)⟩
set_option maxHeartbeats 1000000 in
theorem Bt.unpack_c (s : ByteArray) (z y : Int) (w : World) (hs : s.size ≤ 140737488355328) :
    Calls Tryd.prog 114 #[.string s, .int .i64 z, .int .i64 y] w fun e w' => ∃ v, e = .returned (.tuple #[v, .int .i64 (Bt.upE s z y : Nat)]) ∧ Bt.Sl w' v (Bt.upN s z y) (Bt.nv (Bt.nums s y.toNat)) ∧ Below w.heap.size w w' := by
  have ca := Bt.rightWidth_c y
  have c0 := Bt.rightCount_c z
  by_cases hy : 0 ≤ y ∧ y ≤ 64
  · rw [decide_eq_true hy] at ca
    by_cases hz : 0 ≤ z ∧ z ≤ 65536
    · rw [decide_eq_true hz] at c0
      obtain ⟨n, rfl⟩ := Int.eq_ofNat_of_zero_le hz.1
      obtain ⟨q, rfl⟩ := Int.eq_ofNat_of_zero_le hy.1
      have hn : n ≤ 65536 := by omega
      have hq : q ≤ 64 := by omega
      have hmul := Bt.mul_le n q hq
      have e1 : Bt.upE s (n : Int) (q : Int) = Bt.chk s (n * q) := by unfold Bt.upE; rw [if_pos ⟨hy, hz⟩]; rfl
      have e2 : Bt.upN s (n : Int) (q : Int) = if Bt.chk s (n * q) = 0 then n else 0 := by unfold Bt.upN; rw [e1]; rfl
      rw [e1, e2, Int.toNat_natCast]
      generalize hm : n * q = m at hmul ⊢
      have hmi : (n : Int) * (q : Int) = (m : Int) := by rw [← hm]; simp
      have hmm : m ≤ 4194304 := by omega
      have c1 := fun w => Bt.check_c s m w (by omega) (by omega)
      by_cases hc : Bt.chk s m = 0
      · rw [if_pos hc]
        obtain ⟨hsz, _⟩ := Bt.chk_ok hc
        have hroom := (Bt.need_room m).1
        rw [hc] at c1 ⊢
        have hmk := run_make_row' (P := Tryd.prog) 70 49 (.int .u64 0) 8 Tryd.underlying70 Bt.infoU rfl .i64 .i64 n (by omega) (by omega)
        have HS : Hid (m ≤ 8 * s.size ∧ n * q = m ∧ q ≤ 64) := Lib.hid ⟨by omega, hm, hq⟩
        clear hsz hroom hc e1 e2 hz hy hm hmul
        go_enter Tryd.func114, Tryd.ntmps114
        go_wp2_with fail
        refine (ca _).mono ?_
        rintro e w0 ⟨rfl, rfl⟩
        go_wp2_with fail
        refine (c0 _).mono ?_
        rintro e w0 ⟨rfl, rfl⟩
        go_wp2_with fail
        refine (c1 _).mono ?_
        rintro e w1 ⟨rfl, rfl⟩
        go_wp2_with fail
        have hR : (w1.alloc (.cells (madeCells #[.int .u64 0] n) 49)).rowIs w1.heap.size 49 n (Bt.upTo 0 (Bt.nv (Bt.nums s q)) (.int .u64 0)) := (World.rowIs_made w1 (.int .u64 0) n 49).congr fun i _ => by unfold Bt.upTo; rw [if_neg (by omega)]
        have hB : Below w1.heap.size w1 (w1.alloc (.cells (madeCells #[.int .u64 0] n) 49)) := (Below.refl _ _).alloc (Nat.le_refl _) _
        generalize w1.alloc (.cells (madeCells #[.int .u64 0] n) 49) = w2 at hR hB ⊢
        clear hmk c0 c1 ca
        generalize hg : w1.heap.size = g at hR hB
        have HGE := Lib.hid hg
        clear hg
        go_loopw [30] (fun i wr => ∃ k : Nat, k ≤ n ∧ i = .int .i64 k ∧ wr.rowIs g 49 n (Bt.upTo k (Bt.nv (Bt.nums s q)) (.int .u64 0)) ∧ Below g w1 wr) (fun i _ => n - (intOf i).toNat)
        case atStart => exact ⟨0, by omega, rfl, hR, hB⟩
        case round =>
          obtain ⟨k, hk, rfl, hRk, hBk⟩ := hrel
          have HR := Lib.hid hRk
          clear hR hB hRk
          by_cases hl : k < n
          · have hkl : (k : Int) < (n : Int) := by omega
            have hk0 : (0 : Int) ≤ (k : Int) := by omega
            have hf := HR.out.frozen k
            obtain ⟨p, ep⟩ : ∃ p, p = k * q := ⟨_, rfl⟩
            have hpi : (k : Int) * (q : Int) = (p : Int) := by rw [ep]; simp
            obtain ⟨f1, f2, f3⟩ := HS.out
            have hpq : p + q ≤ m := by
              have : (k + 1) * q ≤ n * q := Nat.mul_le_mul_right _ hl
              rw [Nat.succ_mul] at this
              omega
            have cg := fun w => Bt.get_c s p q w f3 (by omega) (by omega)
            have hp2 : p ≤ 4194304 := by omega
            have hcl := HR.out.cell hl
            have e3 : Bt.num q (fun j => Bt.bit s (p + j)) = Bt.nums s q k := by unfold Bt.nums; rw [ep]
            rw [e3] at cg
            clear f1 f2 f3 hpq ep e3
            go_wp2_with fail
            refine (cg _).mono ?_
            rintro e w3 ⟨rfl, rfl⟩
            go_wp2
            go_roundw
            case rel => exact ⟨k + 1, by omega, by simp, Bt.upTo_next HR.out rfl, hBk.trans (Bt.below_set (Nat.le_refl _) _)⟩
            case measure => simp [intOf]; omega
          · obtain rfl : k = n := by omega
            have hkl : ¬ (k : Int) < (k : Int) := by omega
            go_wp2
            go_ret2
            exact ⟨_, rfl, Bt.Sl.row (HR.out.congr fun i hi => by unfold Bt.upTo; rw [if_pos hi]), by rw [HGE.out]; exact hBk⟩
      · rw [if_neg hc]
        generalize Bt.chk s m = C at hc c1 ⊢
        have hC : ((C : Int) != 0) = true := by rw [bne_iff_ne]; omega
        clear e1 e2 hz hy hc hm hmul hq hn
        go_enter Tryd.func114, Tryd.ntmps114
        go_wp2_with fail
        refine (ca _).mono ?_
        rintro e w0 ⟨rfl, rfl⟩
        go_wp2_with fail
        refine (c0 _).mono ?_
        rintro e w0 ⟨rfl, rfl⟩
        go_wp2_with fail
        refine (c1 _).mono ?_
        rintro e w1 ⟨rfl, rfl⟩
        go_wp2
        go_ret2
        exact ⟨_, rfl, Bt.Sl.nil _ _, Below.refl _ _⟩
    · rw [decide_eq_false hz] at c0
      have e1 : Bt.upE s z y = 1 := by unfold Bt.upE; rw [if_neg (by rintro ⟨_, h⟩; exact hz h)]
      have e2 : Bt.upN s z y = 0 := by unfold Bt.upN; rw [e1]; rfl
      rw [e1, e2]
      clear e1 e2 hz hy
      go_enter Tryd.func114, Tryd.ntmps114
      go_wp2_with fail
      refine (ca _).mono ?_
      rintro e w0 ⟨rfl, rfl⟩
      go_wp2_with fail
      refine (c0 _).mono ?_
      rintro e w0 ⟨rfl, rfl⟩
      go_wp2
      go_ret2
      exact ⟨_, rfl, Bt.Sl.nil _ _, Below.refl _ _⟩
  · rw [decide_eq_false hy] at ca
    have e1 : Bt.upE s z y = 1 := by unfold Bt.upE; rw [if_neg (by rintro ⟨h, _⟩; exact hy h)]
    have e2 : Bt.upN s z y = 0 := by unfold Bt.upN; rw [e1]; rfl
    rw [e1, e2]
    clear e1 e2 hy
    go_enter Tryd.func114, Tryd.ntmps114
    go_wp2_with fail
    refine (ca _).mono ?_
    rintro e w0 ⟨rfl, rfl⟩
    go_wp2
    go_ret2
    exact ⟨_, rfl, Bt.Sl.nil _ _, Below.refl _ _⟩
end Go.Proofs.YtkgmildbhelelaaDoor
