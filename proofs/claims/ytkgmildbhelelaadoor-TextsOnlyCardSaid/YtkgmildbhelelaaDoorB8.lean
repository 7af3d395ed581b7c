/-
  The document's answers for package bits: Pack, Unpack.
-/
import Derived.Test.YtkgmildbhelelaaDoorB7
namespace Go.Proofs.YtkgmildbhelelaaDoor
open Go.RowKit
/-- The bits of numbers of q bits, one behind the other. -/
def Bt.flat (X : Nat → Nat) (q x : Nat) : Bool := (X (x / q)).testBit (x % q)
theorem Bt.flat_at (X : Nat → Nat) (q k j : Nat) (hj : j < q) : Bt.flat X q (k * q + j) = (X k).testBit j := by
  obtain ⟨d, m⟩ := Bt.div_mid (i := k) hj
  unfold Bt.flat
  rw [d, m]
theorem Bt.packV_bad {n : Nat} {X : Nat → Nat} {q k : Nat} (hq : q ≤ 64) (hk : k < n) (hb : ¬ bitLen (X k) ≤ q) : Bt.packV n X (q : Int) = .tuple #[.string ⟨#[]⟩, .int .i64 4] := by
  unfold Bt.packV
  rw [if_pos (by omega), if_pos ?_]
  rcases Nat.lt_or_ge q (Bt.wid n X) with h | h
  · simpa using h
  · exact absurd ((bitLen_le _ _).2 ((Bt.wid_le n X q).1 h k hk)) hb
theorem Bt.packV_good {n : Nat} {X : Nat → Nat} {q : Nat} (hq : q ≤ 64) (h : ∀ i, i < n → bitLen (X i) ≤ q) : Bt.packV n X (q : Int) = .tuple #[.string (Bt.bytes (Bt.need (n * q)) (Bt.tr (n * q) (Bt.flat X q))), .int .i64 0] := by
  unfold Bt.packV
  rw [if_pos (by omega), if_neg ?_]
  · rfl
  · have := (Bt.wid_le n X q).2 fun i hi => (bitLen_le _ _).1 (h i hi)
    simpa using this
set_option maxHeartbeats 2000000 in
theorem Bt.rpack_c (v : Value) (n : Nat) (X : Nat → Nat) (z : Int) (w : World) (h : Bt.Sl w v n (Bt.nv X)) (hX : ∀ i, X i < 2 ^ 64) (hn : n ≤ 1099511627776) :
    Calls Tryd.prog 55 #[v, .int .i64 z] w fun e w' => e = .returned (Bt.packV n X z) ∧ Below w.heap.size w w' := by
  obtain ⟨a, c, rfl, h⟩ := h
  by_cases h1 : z < 0
  · have e : Bt.packV n X z = .tuple #[.string ⟨#[]⟩, .int .i64 1] := by unfold Bt.packV; rw [if_neg (by omega)]
    rw [e]
    clear e h hX hn
    go_enter Tryd.func55, Tryd.ntmps55
    go_wp2
    go_ret2
    exact ⟨rfl, Below.refl _ _⟩
  · by_cases h2 : 64 < z
    · have e : Bt.packV n X z = .tuple #[.string ⟨#[]⟩, .int .i64 1] := by unfold Bt.packV; rw [if_neg (by omega)]
      rw [e]
      clear e h hX hn
      go_enter Tryd.func55, Tryd.ntmps55
      go_wp2
      go_ret2
      exact ⟨rfl, Below.refl _ _⟩
    · obtain ⟨q, rfl⟩ := Int.eq_ofNat_of_zero_le (show 0 ≤ z by omega)
      have hq : q ≤ 64 := by omega
      have hmul := Bt.mul_le n q hq
      generalize hPV : Bt.packV n X (q : Int) = PV
      have HPV := Lib.hid hPV
      have HX := Lib.hid hX
      have HN := Lib.hid (And.intro hn (And.intro hq hmul))
      clear hPV hX hn hmul
      go_enter Tryd.func55, Tryd.ntmps55
      go_wp2
      generalize hg : w.heap.size = g at h
      have hgl : g ≤ w.heap.size := by omega
      have HGE := Lib.hid hg
      clear hg
      go_loopw [6, 7] (fun v i wr => ∃ k : Nat, k ≤ n ∧ i = .int .i64 k ∧ Bt.Buf 4 g wr v (k * q) (Bt.bv (Bt.flat X q)) ∧ Below g w wr ∧ g ≤ wr.heap.size ∧ ∀ i, i < k → bitLen (X i) ≤ q) (fun _ i _ => n - (intOf i).toNat)
      case atStart => exact ⟨0, by omega, rfl, by rw [Nat.zero_mul]; exact Bt.Buf.nil _ _ _ _, Below.refl _ _, hgl, fun i hi => by omega⟩
      case round =>
        obtain ⟨k, hk, rfl, hBf, hBl, hgs, hfit⟩ := hrel
        have HBf := Lib.hid hBf
        have HFit := Lib.hid hfit
        clear hBf hfit hgl
        by_cases hl : k < n
        · rcases h with h | ⟨b, o, rfl, hlt, h⟩
          · omega
          · have hc : wr.cell? ⟨b, o + k, none⟩ = some (.int .u64 ((X k : Nat) : Int)) := (hBl.cell (p := ⟨b, o + k, none⟩) hlt).trans (h k hl)
            have hkl : (k : Int) < (n : Int) := by omega
            have hk0 : (0 : Int) ≤ (k : Int) := by omega
            have hk2 : (k : Int) < 140737488355328 := by have := HN.out; omega
            have cf := fun w => Bt.fits_c (X k) q w (HX.out k) hq
            have hckeep : ∀ w', Below g wr w' → w'.cell? ⟨b, o + k, none⟩ = some (.int .u64 ((X k : Nat) : Int)) := fun w' hw' => (hw'.cell (p := ⟨b, o + k, none⟩) hlt).trans hc
            have HC := Lib.hid hckeep
            clear hckeep h
            by_cases hb : bitLen (X k) ≤ q
            · rw [decide_eq_true hb] at cf
              have HB := Lib.hid hb
              clear hb
              go_wp2_with fail
              refine (cf _).mono ?_
              rintro e w3 ⟨rfl, rfl⟩
              clear cf
              go_wp2
              go_loopw [6, 8] (fun v i wi => ∃ j : Nat, j ≤ q ∧ i = .int .i64 j ∧ Bt.Buf 4 g wi v (k * q + j) (Bt.bv (Bt.flat X q)) ∧ Below g w3 wi ∧ g ≤ wi.heap.size) (fun _ i _ => q - (intOf i).toNat)
              case atStart => exact ⟨0, by omega, rfl, HBf.out, Below.refl _ _, hgs⟩
              case round =>
                obtain ⟨j, hj, rfl, hBi, hBb, hgi⟩ := hrel
                have HBi := Lib.hid hBi
                clear hBi
                by_cases hjl : j < q
                · have hcx := HC.out wr hBb
                  have hjq : (j : Int) < (q : Int) := by omega
                  have hj64 : (j : Int) < 64 := by omega
                  have hB0 := HBi.out
                  have hlen : k * q + j + 1 ≤ 140737488355328 := by
                    have := Bt.mid_lt (n := n) (w := q) hl hjl
                    have := HN.out
                    omega
                  have HF : Hid (Value.bool ((((X k : Nat) : Int) / 2 ^ j).tmod 2 == 1) = Bt.bv (Bt.flat X q) (k * q + j)) := Lib.hid (by unfold Bt.bv; rw [Bt.flat_at X q k j hjl, Bt.testBit_mod])
                  go_wp2_with (at_builtin; refine Bt.wpList_append_one 4 108 (.bool false) 1 Tryd.underlying108 Bt.infoB rfl hB0 hgi (by omega) hlen (.tmp 33) (.tmp 43) _ rfl rfl rfl rfl rfl ?_; intro v1 w1 h1 g1)
                  have H1 := Lib.hid (h1 HF.out)
                  have G1 := Lib.hid (g1.below hgi hB0.base_le)
                  have S1 := Lib.hid g1.by_.size
                  clear h1 g1
                  go_roundw
                  case rel => exact ⟨j + 1, by omega, by simp, H1.out, hBb.trans G1.out, by have := S1.out; omega⟩
                  case measure => simp [intOf]; omega
                · obtain rfl : j = q := by omega
                  have hjq : ¬ (j : Int) < (j : Int) := by omega
                  have hBB := hBl.trans hBb
                  go_wp2
                  go_roundw
                  case rel => exact ⟨k + 1, by omega, by simp, by rw [Nat.succ_mul]; exact HBi.out, hBB, hgi, fun i hi => by
                    rcases Nat.lt_or_ge i k with h | h
                    · exact HFit.out i h
                    · obtain rfl : i = k := by omega
                      exact HB.out⟩
                  case measure => simp [intOf]; omega
            · rw [decide_eq_false hb] at cf
              have e : PV = .tuple #[.string ⟨#[]⟩, .int .i64 4] := by rw [← HPV.out]; exact Bt.packV_bad hq hl hb
              subst e
              clear hb
              go_wp2_with fail
              refine (cf _).mono ?_
              rintro e w3 ⟨rfl, rfl⟩
              go_wp2
              go_ret2
              exact ⟨rfl, by rw [HGE.out]; exact hBl⟩
        · obtain rfl : k = n := by omega
          have hkl : ¬ (k : Int) < (k : Int) := by omega
          have cB := Bt.rbytes_c _ (k * q) (Bt.flat X q) wr HBf.out.sl (by have := HN.out; omega)
          have e : PV = .tuple #[.string (Bt.bytes (Bt.need (k * q)) (Bt.tr (k * q) (Bt.flat X q))), .int .i64 0] := by rw [← HPV.out]; exact Bt.packV_good hq HFit.out
          subst e
          go_wp2_with fail
          refine cB.mono ?_
          rintro e w3 ⟨rfl, g3⟩
          have hB3 := hBl.trans (g3.mono hgs)
          clear g3 hBl cB
          go_wp2
          go_ret2
          exact ⟨rfl, by rw [HGE.out]; exact hB3⟩
theorem Bt.num_step (s : ByteArray) (p j : Nat) (hj : j < 64) (hb : Bt.bit s (p + j) = true) : IntKind.u64.wrap (((Bt.num j (fun t => Bt.bit s (p + t)) : Nat) : Int) + IntKind.u64.wrap (2 ^ j)) = ((Bt.num (j + 1) (fun t => Bt.bit s (p + t)) : Nat) : Int) := by
  have h1 := Bt.num_lt (j + 1) (fun t => Bt.bit s (p + t))
  have h2 : 2 ^ (j + 1) ≤ 2 ^ 64 := Nat.pow_le_pow_right (by decide) (by omega)
  have e0 : (2 : Int) ^ j = ((2 ^ j : Nat) : Int) := by simp
  have h3 : 2 ^ j ≤ 2 ^ 63 := Nat.pow_le_pow_right (by decide) (by omega)
  have e1 : IntKind.u64.wrap ((2 ^ j : Nat) : Int) = ((2 ^ j : Nat) : Int) := Bt.wraps_u64 _ (Int.natCast_nonneg _) (by omega)
  have e2 : Bt.num (j + 1) (fun t => Bt.bit s (p + t)) = Bt.num j (fun t => Bt.bit s (p + t)) + 2 ^ j := by
    show Bt.num j (fun t => Bt.bit s (p + t)) + (Bt.bit s (p + j)).toNat * 2 ^ j = _
    rw [hb]; simp
  rw [e2] at h1
  rw [e0, e1, e2]
  rw [Bt.wraps_u64 _ (by omega) (by omega)]
  omega
theorem Bt.num_skip (s : ByteArray) (p j : Nat) (hb : Bt.bit s (p + j) = false) : Bt.num (j + 1) (fun t => Bt.bit s (p + t)) = Bt.num j (fun t => Bt.bit s (p + t)) := by
  show Bt.num j (fun t => Bt.bit s (p + t)) + (Bt.bit s (p + j)).toNat * 2 ^ j = _
  rw [hb]; simp
set_option maxHeartbeats 2000000 in
theorem Bt.runpack_c (s : ByteArray) (z y : Int) (w : World) (hs : s.size ≤ 140737488355328) :
    Calls Tryd.prog 78 #[.string s, .int .i64 z, .int .i64 y] w fun e w' => ∃ v, e = .returned (.tuple #[v, .int .i64 (Bt.upE s z y : Nat)]) ∧ Bt.Sl w' v (Bt.upN s z y) (Bt.nv (Bt.nums s y.toNat)) ∧ Below w.heap.size w w' := by
  by_cases hy : 0 ≤ y ∧ y ≤ 64
  · by_cases hz : 0 ≤ z ∧ z ≤ 65536
    · obtain ⟨n, rfl⟩ := Int.eq_ofNat_of_zero_le hz.1
      obtain ⟨q, rfl⟩ := Int.eq_ofNat_of_zero_le hy.1
      have hn : n ≤ 65536 := by omega
      have hq : q ≤ 64 := by omega
      have hmul := Bt.mul_le n q hq
      have e1 : Bt.upE s (n : Int) (q : Int) = Bt.chk s (n * q) := by unfold Bt.upE; rw [if_pos ⟨hy, hz⟩]; rfl
      have e2 : Bt.upN s (n : Int) (q : Int) = if Bt.chk s (n * q) = 0 then n else 0 := by unfold Bt.upN; rw [e1]; rfl
      rw [e1, e2, Int.toNat_natCast]
      generalize hm : n * q = m at hmul ⊢
      have hmi : (n : Int) * (q : Int) = (m : Int) := by rw [← hm]; simp
      have hmm : m ≤ 4194304 := by omega
      have c1 := fun w => Bt.unbits_c s m w (by omega) hs
      by_cases hc : Bt.chk s m = 0
      · rw [if_pos hc, hc] at c1
        rw [if_pos hc, hc]
        have HM := Lib.hid (And.intro hm hq)
        clear hc e1 e2 hz hy hm hmul hs
        go_enter Tryd.func78, Tryd.ntmps78
        go_wp2_with fail
        refine (c1 _).mono ?_
        rintro e w1 ⟨v, rfl, hS, hB⟩
        clear c1
        obtain ⟨a, c, rfl, h⟩ := hS
        go_wp2
        generalize hg : w1.heap.size = g at h
        have hgl : g ≤ w1.heap.size := by omega
        have HGE : Hid (w.heap.size ≤ g) := Lib.hid (by rw [← hg]; exact hB.size)
        clear hg
        go_loopw [10, 11] (fun u i wr => ∃ k : Nat, k ≤ n ∧ i = .int .i64 k ∧ Bt.Buf 49 g wr u k (Bt.nv (Bt.nums s q)) ∧ Below g w1 wr ∧ g ≤ wr.heap.size) (fun _ i _ => n - (intOf i).toNat)
        case atStart => exact ⟨0, by omega, rfl, Bt.Buf.nil _ _ _ _, Below.refl _ _, hgl⟩
        case round =>
          obtain ⟨k, hk, rfl, hBf, hBl, hgs⟩ := hrel
          have HBf := Lib.hid hBf
          clear hBf hgl
          by_cases hl : k < n
          · have hkl : (k : Int) < (n : Int) := by omega
            have hk0 : (0 : Int) ≤ (k : Int) := by omega
            obtain ⟨p, ep⟩ : ∃ p, p = k * q := ⟨_, rfl⟩
            have hpi : (k : Int) * (q : Int) = (p : Int) := by rw [ep]; simp
            have hpq : p + q ≤ m := by
              have : (k + 1) * q ≤ n * q := Nat.mul_le_mul_right _ hl
              rw [Nat.succ_mul] at this
              have := HM.out.1
              omega
            have HEP : Hid (Bt.nums s q k = Bt.num q (fun t => Bt.bit s (p + t))) := Lib.hid (by rw [ep]; rfl)
            clear ep
            go_wp2
            go_loop [12, 13] (fun x i => ∃ j : Nat, j ≤ q ∧ i = .int .i64 j ∧ x = .int .u64 (Bt.num j (fun t => Bt.bit s (p + t)) : Nat)) (fun _ i => q - (intOf i).toNat)
            case atStart => exact ⟨0, by omega, rfl, rfl⟩
            case round =>
              obtain ⟨j, hj, rfl, rfl⟩ := hrel
              by_cases hjl : j < q
              · have hjq : (j : Int) < (q : Int) := by omega
                have hj64 : (j : Int) < 64 := by omega
                rcases h with h | ⟨b, o, rfl, hlt, h⟩
                · omega
                · have hcx : wr.cell? ⟨b, o + (p + j), none⟩ = some (.bool (Bt.bit s (p + j))) := (hBl.cell (p := ⟨b, o + (p + j), none⟩) hlt).trans (h (p + j) (by omega))
                  obtain ⟨r, er⟩ : ∃ r, r = p + j := ⟨_, rfl⟩
                  have hri : (p : Int) + (j : Int) = (r : Int) := by omega
                  have hrm : (r : Int) < (m : Int) := by omega
                  have hr0 : (0 : Int) ≤ (r : Int) := by omega
                  rw [← er] at hcx
                  have ER := Lib.hid er
                  cases hbt : Bt.bit s r
                  · have HSK := Lib.hid (Bt.num_skip s p j (by rw [← er]; exact hbt))
                    rw [hbt] at hcx
                    clear hbt h er
                    go_wp2
                    go_round
                    case rel => exact ⟨j + 1, by omega, by simp, by rw [HSK.out]⟩
                    case measure => simp [intOf]; omega
                  · have HSK := Lib.hid (Bt.num_step s p j (by omega) (by rw [← er]; exact hbt))
                    rw [hbt] at hcx
                    clear hbt h er
                    go_wp2
                    go_round
                    case rel => exact ⟨j + 1, by omega, by simp, by rw [HSK.out]⟩
                    case measure => simp [intOf]; omega
              · obtain rfl : j = q := by omega
                have hjq : ¬ (j : Int) < (j : Int) := by omega
                have hB0 := HBf.out
                go_wp2_with (at_builtin; refine Bt.wpList_append_one 49 70 (.int .u64 0) 8 Tryd.underlying70 Bt.infoU rfl hB0 hgs (by omega) (by omega) (.tmp 62) (.tmp 64) _ rfl rfl rfl rfl rfl ?_; intro v1 w2 h1 g1)
                have H1 := Lib.hid (h1 (by unfold Bt.nv; rw [HEP.out]))
                have G1 := Lib.hid (g1.below hgs hB0.base_le)
                have S1 := Lib.hid g1.by_.size
                clear h1 g1
                go_roundw
                case rel => exact ⟨k + 1, by omega, by simp, H1.out, hBl.trans G1.out, by have := S1.out; omega⟩
                case measure => simp [intOf]; omega
          · obtain rfl : k = n := by omega
            have hkl : ¬ (k : Int) < (k : Int) := by omega
            go_wp2
            go_ret2
            exact ⟨_, rfl, HBf.out.sl, hB.trans (hBl.mono HGE.out)⟩
      · rw [if_neg hc] at c1
        rw [if_neg hc]
        generalize Bt.chk s m = C at hc c1 ⊢
        have hC : ((C : Int) != 0) = true := by rw [bne_iff_ne]; omega
        clear e1 e2 hz hy hc hm hmul hs
        go_enter Tryd.func78, Tryd.ntmps78
        go_wp2_with fail
        refine (c1 _).mono ?_
        rintro e w1 ⟨v, rfl, hS, hB⟩
        clear c1 hS
        go_wp2
        go_ret2
        exact ⟨_, rfl, Bt.Sl.nil _ _, hB⟩
    · have hy1 : ¬ y < 0 := by omega
      have hy2 : ¬ 64 < y := by omega
      by_cases hz1 : z < 0
      · have e1 : Bt.upE s z y = 1 := by unfold Bt.upE; rw [if_neg (by omega)]
        have e2 : Bt.upN s z y = 0 := by unfold Bt.upN; rw [e1]; rfl
        rw [e1, e2]
        clear e1 e2
        go_enter Tryd.func78, Tryd.ntmps78
        go_wp2
        go_ret2
        exact ⟨_, rfl, Bt.Sl.nil _ _, Below.refl _ _⟩
      · have hz2 : 65536 < z := by omega
        have e1 : Bt.upE s z y = 1 := by unfold Bt.upE; rw [if_neg (by omega)]
        have e2 : Bt.upN s z y = 0 := by unfold Bt.upN; rw [e1]; rfl
        rw [e1, e2]
        clear e1 e2
        go_enter Tryd.func78, Tryd.ntmps78
        go_wp2
        go_ret2
        exact ⟨_, rfl, Bt.Sl.nil _ _, Below.refl _ _⟩
  · by_cases hy1 : y < 0
    · have e1 : Bt.upE s z y = 1 := by unfold Bt.upE; rw [if_neg (by omega)]
      have e2 : Bt.upN s z y = 0 := by unfold Bt.upN; rw [e1]; rfl
      rw [e1, e2]
      clear e1 e2
      go_enter Tryd.func78, Tryd.ntmps78
      go_wp2
      go_ret2
      exact ⟨_, rfl, Bt.Sl.nil _ _, Below.refl _ _⟩
    · have hy2 : 64 < y := by omega
      have e1 : Bt.upE s z y = 1 := by unfold Bt.upE; rw [if_neg (by omega)]
      have e2 : Bt.upN s z y = 0 := by unfold Bt.upN; rw [e1]; rfl
      rw [e1, e2]
      clear e1 e2
      go_enter Tryd.func78, Tryd.ntmps78
      go_wp2
      go_ret2
      exact ⟨_, rfl, Bt.Sl.nil _ _, Below.refl _ _⟩
end Go.Proofs.YtkgmildbhelelaaDoor
