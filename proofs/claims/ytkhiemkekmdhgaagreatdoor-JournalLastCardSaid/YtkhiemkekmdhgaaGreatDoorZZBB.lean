import Derived.Test.YtkhiemkekmdhgaaGreatDoorZZBA
import Derived.BigQuiet
namespace Go.Proofs.YtkhiemkekmdhgaaGreatDoor
open Go Go.RowKit
theorem Jn.same_self (d : Dd.D) : Dd.same d d = true := by
 unfold Dd.same
 rw [Kn.sameR_self]
 simp
theorem Jn.keys {w : World} {L : List Dd.D} {R : Nat → Option Addr × Nat × Nat} (hv : ∀ (i : Nat) (x : Dd.D), L[i]? = some x → Kn.Vals w (Bk.sv (R i)) x.row) (hne : ∀ x ∈ L, x.row ≠ []) (i : Nat) (x : Dd.D) (hx : L[i]? = some x) :
 ∃ rb ro rc, R i = (some ⟨rb, ro, none⟩, x.row.length, rc) ∧ (0 : Int) < (x.row.length : Int) ∧ ∀ W, Below w.heap.size w W → Kn.At W rb ro (Bk.key x) := by
 have h := hv i x hx
 have hn := hne x (List.mem_of_getElem? hx)
 have hl := List.length_pos_iff.2 hn
 generalize R i = r at h ⊢
 obtain ⟨a, n, c⟩ := r
 obtain ⟨rfl, b, o, rfl, hb, hat⟩ := Rn.row_at h (Rn.key_at hn)
 rw [Nat.zero_mul, Nat.add_zero] at hat
 exact ⟨b, o, c, rfl, by omega, fun W g => hat.later g⟩
theorem Jn.key_no {x k : Kn.V} (h : Kn.cmp x k ≠ 0) : (x.null == k.null) = false ∨ ((x.null == k.null) = true ∧ (x.n == k.n) = false) ∨ ((x.null == k.null) = true ∧ (x.n == k.n) = true ∧ (x.s.toList == k.s.toList) = false) := by
 have hs : Kn.same x k = false := by
  rw [← Kn.cmp_zero]
  simpa using h
 unfold Kn.same at hs
 revert hs
 cases x.null <;> cases k.null <;> cases (x.n == k.n) <;> cases (x.s.toList == k.s.toList) <;> simp
theorem Jn.last_le {L : List Dd.D} {x y : Dd.D} {t a : Nat} (h : L[a]? = some y) (ht : t ≤ a) : Jn.last L x t (a + 1 - t) = if Kn.cmp (Bk.key y) (Bk.key x) = 0 then y else Jn.last L x t (a - t) := by
 rw [show a + 1 - t = (a - t) + 1 by omega]
 exact Jn.last_step (by rw [show t + (a - t) = a by omega]; exact h)
set_option maxHeartbeats 16000000 in
set_option maxRecDepth 100000 in
theorem Jn.last_w (v u : Value) (s : List Kn.C) (L : List Dd.D) (w : World) (hT : Jn.TS w) (hs : Dd.Cols w v s) (hu : Bk.Ds w u L) (hi : ∀ d ∈ L, ∀ x ∈ d.row, Ty.I64 x.n) :
 Calls Tryz.prog 6 #[v, u] w fun e w' => e = .returned (.bool true) ∧ Below w.heap.size w w' := by
 obtain ⟨R, hdr, hrv⟩ := hu.dr
 obtain ⟨ua, uc, rfl, hcell⟩ := hdr.is
 have hlc : L.length ≤ uc ∧ uc ≤ 9223372036854775807 := by
  obtain ⟨a9, c9, e9, h1, h2, _⟩ := hu
  simp only [Value.slice.injEq] at e9
  obtain ⟨-, -, rfl⟩ := e9
  exact ⟨h1, h2⟩
 have HT := Lib.hid hT
 have HII := Lib.hid hi
 have HRV := Lib.hid hrv
 obtain ⟨m, hm⟩ : ∃ m, m = min L.length 100 := ⟨_, rfl⟩
 have hmi : min (L.length : Int) 100 = (m : Int) := by omega
 have hmx : max (m : Int) 0 = (m : Int) := by omega
 have hm0 : (0 : Int) ≤ (m : Int) := by omega
 have hm3 : (m : Int) ≤ 100 := by omega
 have hmc : (m : Int) ≤ (uc : Int) := by omega
 have hnu : (L.length : Int) ≤ (uc : Int) := by omega
 have HM : Hid (m ≤ 100 ∧ m ≤ L.length) := Lib.hid ⟨by omega, by omega⟩
 have CW := Lib.hid fun (W : World) (g : Below w.heap.size w W) (i : Nat) (d : Dd.D) (h : L[i]? = some d) => Jn.write_c v (Bk.sv (R i)) s d W (hT.1.below g) (hs.later g) ((hrv i d h).later g) (hi d (List.mem_of_getElem? h))
 have CP := Lib.hid fun (W : World) (vt : Value) (TS : List Fr.Str) (g : Below w.heap.size w W) (ht : Tx.At W.heap.size W vt TS) (h1 : Jn.tot TS ≤ 4194304) (h2 : TS.length ≤ 1048576) => Jn.replay_c v vt s TS W (hT.below g) (hs.later g) ht h1 h2
 have HH : Hid (∀ i d, L[i]? = some d → ∃ b o, ua = some ⟨b, o, none⟩ ∧ ∀ W, Below w.heap.size w W → W.cell? ⟨b, o + i * 2, none⟩ = some (.bool d.gone) ∧ W.cell? ⟨b, o + i * 2 + 1, none⟩ = some (Bk.sv (R i))) := Lib.hid fun i d hd => by
  rcases hcell with h | ⟨b, o, ha, hb, h⟩
  ·rw [h] at hd; simp at hd
  ·exact ⟨b, o, ha, fun W g => ⟨(g.cell (p := ⟨b, o + i * 2, none⟩) hb).trans (h i d hd).1, (g.cell (p := ⟨b, o + i * 2 + 1, none⟩) hb).trans (h i d hd).2⟩⟩
 obtain ⟨M, hM⟩ : ∃ M, M = L.take m := ⟨_, rfl⟩
 have hMl : M.length = m := by rw [hM, List.length_take]; omega
 have HML := Lib.hid hMl
 have HMX : Hid (∀ i d, M[i]? = some d → L[i]? = some d ∧ i < m) := Lib.hid fun i d h => Jn.min_take (by rw [← hM]; exact h)
 have hxi : ∀ i, i < m → ∃ d, M[i]? = some d := fun i h => ⟨M[i], List.getElem?_eq_getElem (by omega)⟩
 have HXI := Lib.hid hxi
 obtain ⟨va, vc, rfl, -⟩ := id hs.1
 clear hT hm hdr hrv hcell hi hs hu hlc hM hMl hxi
 go_enter Tryz.func6, Tryz.ntmps6
 go_wp2_with fail
 refine (Jn.lives_c w HT.out.1).mono ?_
 rintro e w1 ⟨rfl, g1⟩
 have HB1 := Lib.hid g1
 clear g1
 go_wp2_with fail
 go_loopw [5, 6] (fun av iv wr => ∃ i : Nat, i ≤ m ∧ av = .string (Ty.S (Jn.tx s (M.take i))) ∧ iv = .int .i64 i ∧ Hid (Jn.Ok s (M.take i)) ∧ Below w.heap.size w wr) (fun _ iv _ => m - (intOf iv).toNat)
 case atStart => exact ⟨0, Nat.zero_le _, by simp; rfl, rfl, Lib.hid (fun d hd => by simp at hd), HB1.out⟩
 case round =>
  obtain ⟨i, him, rfl, rfl, HOK, hb⟩ := hrel
  have HB := Lib.hid hb
  have di0 : (0 : Int) ≤ (i : Int) := by omega
  by_cases hl : i < m
  ·have dk : (i : Int) < (m : Int) := by omega
   obtain ⟨d, hxm⟩ := HXI.out i hl
   obtain ⟨hx, -⟩ := HMX.out i d hxm
   obtain ⟨b, o, rfl, hc⟩ := HH.out i d hx
   obtain ⟨c0, c1⟩ := hc wr hb
   have CWW := Lib.hid (CW.out wr hb i d hx)
   generalize R i = rk at c1 CWW
   obtain ⟨ra, rn, rc⟩ := rk
   simp only [Bk.sv] at c1 CWW
   have HL := Lib.hid hl
   by_cases h0 : Dd.fitE s d = 0
   ·have hl508 := Jn.wS_le s d
    have HOK2 : Hid (Jn.Ok s (M.take (i + 1))) := Lib.hid (by
     obtain ⟨hk8, e8⟩ := List.getElem?_eq_some_iff.1 hxm
     rw [List.take_succ_eq_append_getElem hk8, e8]
     intro x hx8
     rcases List.mem_append.1 hx8 with h8 | h8
     ·exact HOK.out x h8
     ·rw [List.mem_singleton] at h8
      subst h8
      exact ⟨h0, HII.out x (List.mem_of_getElem? hx)⟩)
    have hwv : Jn.wV s d = .tuple #[.string (Ty.S (Jn.wS s d)), .int .i64 0] := by unfold Jn.wV; rw [h0]
    rw [hwv] at CWW
    have hta : (Jn.tx s (M.take i)).length ≤ 508 * 100 := by
     have := Jn.tx_le (s := s) (L := M.take i) fun x hx => (HOK.out x hx).1
     rw [List.length_take] at this
     have := HM.out
     omega
    have ea := Jn.tx_next hxm h0
    have hct : Ty.S (Jn.tx s (M.take i)) ++ Ty.S (Jn.wS s d) = Ty.S (Jn.tx s (M.take (i + 1))) := by rw [ea]; exact Jn.S_add _ _
    have n1 : ¬ 9223372036854775807 < (Ty.S (Jn.tx s (M.take i))).size + (Ty.S (Jn.wS s d)).size := by rw [Ty.size_S, Ty.size_S]; omega
    generalize Ty.S (Jn.tx s (M.take i)) = X at n1 hct
    generalize Ty.S (Jn.wS s d) = Y at n1 hct CWW
    obtain ⟨S2, hS2⟩ : ∃ S2, S2 = Ty.S (Jn.tx s (M.take (i + 1))) := ⟨_, rfl⟩
    rw [← hS2] at hct
    have HS2 := Lib.hid hS2
    clear hc hb hx hxm hl508 hwv hta hS2 hl h0 ea
    go_wp2_with fail
    refine (CWW.out).mono ?_
    rintro e w4 ⟨rfl, g4⟩
    have HB4 := Lib.hid (HB.out.trans (g4.mono HB.out.size))
    clear g4 c0 c1
    go_wp2
    go_roundw
    case rel => exact ⟨i + 1, HL.out, by rw [HS2.out], by simp, HOK2, HB4.out⟩
    case measure => (have := HL.out; simp [intOf]; omega)
   ·rw [Jn.wV_bad h0] at CWW
    have hne : (Dd.fitE s d != 0) = true := by rw [bne_iff_ne]; exact h0
    generalize Dd.fitE s d = E at CWW hne
    generalize Ty.S (Jn.tx s (M.take i)) = X1
    clear hc hb hx hxm hl h0
    go_wp2_with fail
    refine (CWW.out).mono ?_
    rintro e w4 ⟨rfl, g4⟩
    have HB4 := Lib.hid (HB.out.trans (g4.mono HB.out.size))
    clear g4 c0 c1
    go_wp2
    go_ret
    exact ⟨rfl, HB4.out⟩
  ·obtain rfl : i = m := by omega
   have dk : ¬ (i : Int) < (i : Int) := by omega
   have e1 : M.take i = M := List.take_of_length_le (by rw [HML.out]; exact Nat.le_refl _)
   have HOM : Hid (Jn.Ok s M) := Lib.hid (by have := HOK.out; rwa [e1] at this)
   rw [e1]
   have hta := Jn.tx_le (s := s) (L := M) fun x hx => (HOM.out x hx).1
   have hm9 := HM.out
   have hml := HML.out
   have hzero : M = [] → (Jn.rp s [Jn.tx s M]).2 = [] := fun e => by rw [e, Jn.tx_nil]; exact Jn.rp_nil s
   have hmany : M ≠ [] → Jn.rp s [Jn.tx s M] = (0, Mg.puts [] M) := fun e => Jn.rp_one (Jn.ok_right HOM.out e) HOM.out
   have HBB := Lib.hid hb
   have HO1 : Hid (∀ W : World, Tx.At (W.alloc (.cells #[.string (Ty.S (Jn.tx s M))] 9)).heap.size (W.alloc (.cells #[.string (Ty.S (Jn.tx s M))] 9)) (.slice (some ⟨W.heap.size, 0, none⟩) 1 1) [Jn.tx s M]) := Lib.hid fun W => Jn.at_one W _
   have CP1 := Lib.hid fun (W : World) (vt : Value) (g : Below w.heap.size w W) (ht : Tx.At W.heap.size W vt [Jn.tx s M]) => CP.out W vt [Jn.tx s M] g ht (by simp [Jn.tot]; omega) (by simp)
   generalize Jn.rp s [Jn.tx s M] = r at CP1 hzero hmany
   obtain ⟨re, X⟩ := r
   generalize Ty.S (Jn.tx s M) = X3 at HO1 ⊢
   by_cases h0 : M = []
   ·obtain rfl : X = [] := hzero h0
    have hi0 : ((i : Int) == 0) = true := by rw [beq_iff_eq, ← hml, h0]; rfl
    clear hzero hmany hta hm9 hml e1 hb hl him h0
    go_wp2_with fail
    refine (CP1.out _ _ (HBB.out.alloc HBB.out.size _) (HO1.out wr)).mono ?_
    rintro e w3 ⟨p, rfl, hp, g3⟩
    have HG3 := Lib.hid ((HBB.out.alloc HBB.out.size _).trans (g3.mono (HBB.out.alloc HBB.out.size _).size))
    obtain ⟨pa, pc, rfl, -⟩ := hp
    clear g3
    simp only [List.length_nil]
    go_wp2
    go_ret
    exact ⟨rfl, HG3.out⟩
   ·obtain ⟨rfl, rfl⟩ : re = 0 ∧ X = Mg.puts [] M := by have := hmany h0; simpa using this
    have hi0 : ((i : Int) == 0) = false := by
     rw [beq_eq_false_iff_ne]
     intro e
     exact h0 (List.eq_nil_of_length_eq_zero (by omega))
    clear hzero hmany hta hm9 hml e1 hb hl him h0
    go_wp2_with fail
    refine (CP1.out _ _ (HBB.out.alloc HBB.out.size _) (HO1.out wr)).mono ?_
    rintro e w3 ⟨p, rfl, hp, g3⟩
    have HG3 := Lib.hid ((HBB.out.alloc HBB.out.size _).trans (g3.mono (HBB.out.alloc HBB.out.size _).size))
    have HPX := Lib.hid hp
    clear g3
    have hp : Bk.Ds w3 p (Mg.puts [] M) := hp
    obtain ⟨RX, hxr, hxv⟩ := hp.dr
    obtain ⟨pa, pc, rfl, hxc⟩ := hxr.is
    have HXC : Hid (∀ k z, (Mg.puts [] M)[k]? = some z → ∃ b o, pa = some ⟨b, o, none⟩ ∧ b < w3.heap.size ∧ ∀ W, Below w3.heap.size w3 W → W.cell? ⟨b, o + k * 2, none⟩ = some (.bool z.gone) ∧ W.cell? ⟨b, o + k * 2 + 1, none⟩ = some (Bk.sv (RX k))) := Lib.hid fun k z hz => by
     rcases hxc with h | ⟨b, o, ha, hb, h⟩
     ·rw [h] at hz; simp at hz
     ·exact ⟨b, o, ha, hb, fun W g => ⟨(g.cell (p := ⟨b, o + k * 2, none⟩) hb).trans (h k z hz).1, (g.cell (p := ⟨b, o + k * 2 + 1, none⟩) hb).trans (h k z hz).2⟩⟩
    have hmf : ∀ x ∈ M, Dd.fitE s x = 0 := fun x hx => (HOM.out x hx).1
    have HMF := Lib.hid hmf
    have HXV := Lib.hid hxv
    have HXK := Lib.hid (Jn.keys hxv fun x hx => Jn.fit_ne (hmf x (Jn.puts_mem hx)))
    have HMV : Hid (∀ (j : Nat) (x : Dd.D), M[j]? = some x → Kn.Vals w (Bk.sv (R j)) x.row) := Lib.hid fun j x h => HRV.out j x (HMX.out j x h).1
    have HMK := Lib.hid (Jn.keys HMV.out fun x hx => Jn.fit_ne (hmf x hx))
    have HXN : Hid ((Mg.puts [] M).length ≤ i ∧ i ≤ 100) := Lib.hid ⟨by have := Jn.puts_len M []; rw [HML.out] at this; simpa using this, HM.out.1⟩
    have HAS : Hid (Sk.Asc Bk.key (Mg.puts [] M)) := Lib.hid (Mg.puts_asc _ List.Pairwise.nil)
    have HGN := Lib.hid fun (j : Nat) (x : Dd.D) (h : M[j]? = some x) => Jn.get_newest h
    have HXM := Lib.hid fun (y : Dd.D) (h : y ∈ Mg.puts [] M) => Jn.puts_mem h
    obtain ⟨XX, hXX⟩ : ∃ XX, XX = Mg.puts [] M := ⟨_, rfl⟩
    rw [← hXX] at HPX HXC HXV HXK HXN HAS HGN HXM ⊢
    clear hxr hxv hxc hp hXX hmf
    go_wp2_with fail
    go_loopw [11] (fun iv wr => ∃ t : Nat, t ≤ i ∧ iv = .int .i64 t ∧ Below w3.heap.size w3 wr) (fun iv _ => i - (intOf iv).toNat)
    case atStart => exact ⟨0, Nat.zero_le _, rfl, Below.refl _ _⟩
    case round =>
     obtain ⟨t, hti, rfl, hbt⟩ := hrel
     have HBT := Lib.hid hbt
     have dt0 : (0 : Int) ≤ (t : Int) := by omega
     by_cases htl : t < i
     ·have dti : (t : Int) < (i : Int) := by omega
      have dt9 : (t : Int) ≤ 100 := by have := HXN.out.2; omega
      obtain ⟨d, hd⟩ : ∃ d, M[t]? = some d := ⟨M[t]'(by rw [HML.out]; exact htl), List.getElem?_eq_getElem _⟩
      have hbw := HG3.out.trans (hbt.mono HG3.out.size)
      obtain ⟨ab, ao, rfl, hac⟩ := HH.out t d (HMX.out t d hd).1
      obtain ⟨c0, c1⟩ := hac wr hbw
      obtain ⟨rb, ro, rc, hR, hrl, hat⟩ := HMK.out t d hd
      rw [hR] at c1
      simp only [Bk.sv] at c1
      have HDF := Lib.hid (HMF.out d (List.mem_of_getElem? hd))
      have HDD := Lib.hid hd
      have HBW := Lib.hid hbw
      have HAT := Lib.hid hat
      have HRT := Lib.hid hR
      have HHC : Hid (∀ (j : Nat) (x : Dd.D), M[j]? = some x → ∀ W, Below w.heap.size w W → W.cell? ⟨ab, ao + j * 2, none⟩ = some (.bool x.gone) ∧ W.cell? ⟨ab, ao + j * 2 + 1, none⟩ = some (Bk.sv (R j))) := Lib.hid fun j x hx => by
       obtain ⟨b9, o9, e9, h9⟩ := HH.out j x (HMX.out j x hx).1
       simp only [Option.some.injEq, Addr.mk.injEq] at e9
       obtain ⟨rfl, rfl, -⟩ := e9
       exact h9
      obtain ⟨q, hq⟩ : ∃ q, q = wr.heap.size := ⟨_, rfl⟩
      obtain ⟨wl, hwl⟩ : ∃ wl, wl = wr.alloc (.cells #[.bool d.gone, .slice (some ⟨rb, ro, none⟩) d.row.length rc] 26) := ⟨_, rfl⟩
      have HWL : Hid (Below wr.heap.size wr wl ∧ wl.heap[q]? = some (.cells #[.bool d.gone, .slice (some ⟨rb, ro, none⟩) d.row.length rc] 26 (0, 0)) ∧ q = wr.heap.size) := Lib.hid ⟨by rw [hwl]; exact (Below.refl _ _).alloc (Nat.le_refl _) _, by rw [hwl, hq]; exact heap_alloc_new wr _, hq⟩
      have HTL := Lib.hid htl
      have HHX := Lib.hid HH.out
      clear hd hbw hac hat hR htl hti hbt HH
      go_wp2_with fail
      rw [← hwl, ← hq]
      clear hwl hq c0 c1
      go_loopw [13] (fun av w4 => ∃ a : Nat, t ≤ a ∧ a ≤ i ∧ av = .int .i64 a ∧ Hid (∃ j, M[j]? = some (Jn.last M d t (a - t)) ∧ w4.heap[q]? = some (.cells #[.bool (Jn.last M d t (a - t)).gone, Bk.sv (R j)] 26 (0, 0))) ∧ Below q wl w4) (fun av _ => i - (intOf av).toNat)
      case atStart => exact ⟨t, Nat.le_refl _, Nat.le_of_lt HTL.out, rfl, Lib.hid ⟨t, by rw [Nat.sub_self]; exact HDD.out, by rw [Nat.sub_self, HRT.out]; exact HWL.out.2.1⟩, Below.refl _ _⟩
      case round =>
       obtain ⟨a, hta, hai, rfl, HLA, hba⟩ := hrel
       have HBA := Lib.hid hba
       have da0 : (0 : Int) ≤ (a : Int) := by omega
       have da9 : (a : Int) ≤ 100 := by have := HXN.out.2; omega
       have HBQ : Hid (Below w.heap.size w wr) := Lib.hid (by
        have h1 := HBW.out.trans (HWL.out.1.mono HBW.out.size)
        exact h1.trans (hba.mono (by rw [HWL.out.2.2]; exact HBW.out.size)))
       by_cases hal : a < i
       ·have dai : (a : Int) < (i : Int) := by omega
        obtain ⟨e, he⟩ : ∃ e, M[a]? = some e := ⟨M[a]'(by rw [HML.out]; exact hal), List.getElem?_eq_getElem _⟩
        obtain ⟨e0, e1⟩ := HHC.out a e he wr HBQ.out
        obtain ⟨d0, d1⟩ := HHC.out t d HDD.out wr HBQ.out
        obtain ⟨xb, xo, xc, hRa, hxl, hxat⟩ := HMK.out a e he
        rw [hRa] at e1
        rw [HRT.out] at d1
        simp only [Bk.sv] at e1 d1
        obtain ⟨x0, x1, x2⟩ := hxat wr HBQ.out
        obtain ⟨k0, k1, k2⟩ := HAT.out wr HBQ.out
        have HLS := Lib.hid (Jn.last_le (x := d) he hta)
        have HKE := Lib.hid fun h => Jn.key_eq (HMF.out e (List.mem_of_getElem? he)) HDF.out h
        have HKN := Lib.hid fun (h : Kn.cmp (Bk.key e) (Bk.key d) ≠ 0) => Jn.key_no h
        obtain ⟨jl, hjl, hblk⟩ := HLA.out
        by_cases hc : Kn.cmp (Bk.key e) (Bk.key d) = 0
        ·have hke := HKE.out hc
         rw [hke] at x0 x1 x2
         have HNW : Hid (Jn.last M d t (a + 1 - t) = e) := Lib.hid (by rw [HLS.out, if_pos hc])
         have HEE := Lib.hid (And.intro he hRa)
         have HBK := Lib.hid hblk
         have q0 := cell_of_row _ _ 0 _ _ _ hblk
         have q1 := cell_of_row _ _ 1 _ _ _ hblk
         have f0 := frozen_of_row _ _ 0 _ _ hblk
         have f1 := frozen_of_row _ _ 1 _ _ hblk
         simp only [List.getElem?_toArray, List.getElem?_cons_zero, List.getElem?_cons_succ] at q0 q1
         have HAL := Lib.hid (And.intro hta hal)
         generalize Bk.key d = K at x0 x1 x2 k0 k1 k2
         obtain ⟨kn, ki, ks⟩ := K
         simp only at x0 x1 x2 k0 k1 k2
         generalize Jn.last M d t (a - t) = ly at hblk q0 q1 HBK
         obtain ⟨lra, lrn, lrc⟩ := R jl
         clear he hRa hxat hba hc hke hjl hblk hal hta hai HLA HLS HKE HKN
         go_wp2_with fail
         go_quiet (fail)
         go_wp2_with fail
         go_roundw
         case rel =>
          refine ⟨a + 1, by have := HAL.out; omega, by have := HAL.out; omega, by simp, Lib.hid ⟨a, by rw [HNW.out]; exact HEE.out.1, ?_⟩, ?_⟩
          ·rw [HNW.out, HEE.out.2]
           exact Sk.two_set _ _ (show (wr.drewN nq).heap[q]? = _ from HBK.out)
          ·exact ((Kn.below_drewN HBA.out _).setCell (p := ⟨q, 0, none⟩) (Nat.le_refl _) _).setCell (p := ⟨q, 1, none⟩) (Nat.le_refl _) _
         case measure => (have := HAL.out.2; simp [intOf]; omega)
        ·have HNW : Hid (Jn.last M d t (a + 1 - t) = Jn.last M d t (a - t)) := Lib.hid (by rw [HLS.out, if_neg hc])
         have HBK := Lib.hid (And.intro hjl hblk)
         have HAL := Lib.hid (And.intro hta hal)
         have hno := HKN.out hc
         generalize Bk.key e = K9 at x0 x1 x2 hno
         generalize Bk.key d = K at k0 k1 k2 hno
         obtain ⟨kn, ki, ks⟩ := K
         obtain ⟨xn, xi, xs⟩ := K9
         simp only at x0 x1 x2 k0 k1 k2 hno
         clear he hRa hxat hba hc hjl hblk hal hta hai HLA HLS HKE HKN
         rcases hno with hno | ⟨hn1, hno⟩ | ⟨hn1, hn2, hno⟩
         all_goals
          go_wp2_with fail
          go_quiet (fail)
          go_wp2_with fail
          go_roundw
          case rel => exact ⟨a + 1, by have := HAL.out; omega, by have := HAL.out; omega, by simp, Lib.hid ⟨jl, by rw [HNW.out]; exact HBK.out.1, by rw [HNW.out]; exact HBK.out.2⟩, Kn.below_drewN HBA.out _⟩
          case measure => (have := HAL.out.2; simp [intOf]; omega)
       ·obtain rfl : a = i := by omega
        have daa : ¬ (a : Int) < (a : Int) := by omega
        obtain ⟨jl, hjl, hblk⟩ := HLA.out
        have hg := HGN.out t d HDD.out
        rw [HML.out] at hg
        generalize Jn.last M d t (a - t) = y at hjl hblk hg
        obtain ⟨p9, hp9, -, huniq⟩ := Jn.place HAS.out hg
        have hpl := (List.getElem?_eq_some_iff.1 hp9).1
        have HP9 := Lib.hid (And.intro hp9 hpl)
        have HUN := Lib.hid huniq
        have HYJ := Lib.hid hjl
        obtain ⟨yb, yo, yc, hRy, hyl, hyat⟩ := HMK.out jl y hjl
        have hvy := HMV.out jl y hjl
        rw [hRy] at hblk hvy
        simp only [Bk.sv] at hblk hvy
        obtain ⟨w5, rfl⟩ : ∃ w5 : World, w5 = wr := ⟨wr, rfl⟩
        have HBLK := Lib.hid hblk
        have HYAT := Lib.hid hyat
        have HVY := Lib.hid hvy
        have HB5 := Lib.hid HBQ.out
        have HB35 : Hid (Below w3.heap.size w3 w5) := Lib.hid (by
         have h1 := HBT.out.trans (HWL.out.1.mono HBT.out.size)
         exact h1.trans (hba.mono (by rw [HWL.out.2.2]; exact HBT.out.size)))
        have hqlt := (Array.getElem?_eq_some_iff.1 hblk).1
        have HQL := Lib.hid hqlt
        have HPXL : Hid ((XX.length : Int) ≤ 100) := Lib.hid (by have := HXN.out; omega)
        clear hjl hblk hg hp9 huniq hpl hRy hyat hvy hqlt hba hta hai hal HLA
        go_wp2_with fail
        go_loopw [14, 15] (fun nv kv w6 => ∃ (k : Nat) (nn : Int), k ≤ XX.length ∧ kv = .int .i64 k ∧ nv = .int .i64 nn ∧ Hid (nn = if p9 < k then 1 else 0) ∧ Below w5.heap.size w5 w6) (fun _ kv _ => XX.length - (intOf kv).toNat)
        case atStart => exact ⟨0, 0, Nat.zero_le _, rfl, rfl, Lib.hid (by simp), Below.refl _ _⟩
        case round =>
         obtain ⟨k, nn, hkx, rfl, rfl, HNN, hb6⟩ := hrel
         have HB6 := Lib.hid hb6
         have dk0 : (0 : Int) ≤ (k : Int) := by omega
         have hxl9 := HPXL.out
         have H5W := Lib.hid (HB5.out.trans (hb6.mono HB5.out.size))
         have H3W := Lib.hid (HB35.out.trans (hb6.mono HB35.out.size))
         by_cases hkl : k < XX.length
         ·have dkx : (k : Int) < (XX.length : Int) := by omega
          have hz := List.getElem?_eq_getElem hkl
          generalize XX[k] = z at hz
          obtain ⟨b2, o2, rfl, hb2, hzc⟩ := HXC.out k z hz
          obtain ⟨z0, z1⟩ := hzc wr H3W.out
          obtain ⟨zb, zo, zc, hRz, hzl, hzat⟩ := HXK.out k z hz
          have hvz := (HXV.out k z hz).later H3W.out
          rw [hRz] at z1 hvz
          simp only [Bk.sv] at z1 hvz
          obtain ⟨x0, x1, x2⟩ := hzat wr H3W.out
          obtain ⟨k0, k1, k2⟩ := HYAT.out wr H5W.out
          have hblk := (hb6.block q HQL.out).trans HBLK.out
          have q0 := cell_of_row _ _ 0 _ _ _ hblk
          have q1 := cell_of_row _ _ 1 _ _ _ hblk
          simp only [List.getElem?_toArray, List.getElem?_cons_zero, List.getElem?_cons_succ] at q0 q1
          have HKL := Lib.hid hkl
          have hvy := HVY.out.later H5W.out
          by_cases hkp : k = p9
          ·subst hkp
           obtain rfl : y = z := by have := HP9.out.1; rw [hz] at this; simpa using this.symm
           obtain rfl : nn = 0 := by have := HNN.out; rwa [if_neg (Nat.lt_irrefl _)] at this
           have HN1 : Hid ((0 : Int) + 1 = if k < k + 1 then 1 else 0) := Lib.hid (by rw [if_pos (Nat.lt_succ_self _)]; rfl)
           have CH := Lib.hid fun (W : World) (g : Below wr.heap.size wr W) => Dd.rsame_c _ _ y y W (hvz.later g) (hvy.later g)
           rw [Jn.same_self] at CH
           generalize Bk.key y = K at x0 x1 x2 k0 k1 k2
           obtain ⟨kn, ki, ks⟩ := K
           simp only at x0 x1 x2 k0 k1 k2
           clear hz hzc hRz hzat hvz hvy hblk hkl hkx hb6 hb2 HXC
           go_wp2_with fail
           go_quiet (fail)
           go_upto_region 30 with (fail)
           have HQ6 : Hid (Below wr.heap.size wr (wr.drewN nq)) := Lib.hid (Kn.below_drewN (Below.refl _ _) _)
           have z0 : (wr.drewN nq).cell? _ = _ := z0
           have z1 : (wr.drewN nq).cell? _ = _ := z1
           have q0 : (wr.drewN nq).cell? _ = _ := q0
           have q1 : (wr.drewN nq).cell? _ = _ := q1
           clear x0 x1 x2 k0 k1 k2
           obtain ⟨w6, hw6⟩ : ∃ X, X = wr.drewN nq := ⟨_, rfl⟩
           rw [← hw6] at HQ6 z0 z1 q0 q1 ⊢
           clear hw6
           have Z0 := fun d os => cell_regrown z0 d os
           have Z1 := fun d os => cell_regrown z1 d os
           have Q0 := fun d os => cell_regrown q0 d os
           have Q1 := fun d os => cell_regrown q1 d os
           have CA : Hid (∀ p : Regrown, _) := Lib.hid fun p : Regrown => Calls.regrown_of (d := p.d) (os := p.os) (w := w6) (CH.out _ (HQ6.out.trans ((below_regrown w6 p.d p.os).mono HQ6.out.size)))
           clear z0 z1 q0 q1
           refine wp_region_quiet_below (by kernel_rfl) (by kernel_rfl) ?_
           repeat (go_big_quiet_step (first | with_reducible exact CA.out _))
           refine wpQuiet_nil ?_
           intro w8 hw8
           have HB8 := Lib.hid (HB6.out.trans ((HQ6.out.trans ((Bk.below_reg hw8).mono HQ6.out.size)).mono HB6.out.size))
           clear hw8 Z0 Z1 Q0 Q1
           go_wp2
           go_roundw
           case rel => exact ⟨k + 1, _, HKL.out, by simp, rfl, HN1, HB8.out⟩
           case measure => (have := HKL.out; simp [intOf]; omega)
          ·have hno := Jn.key_no (HUN.out k z hz hkp)
           have HN1 : Hid (nn = if p9 < k + 1 then 1 else 0) := Lib.hid (by
            rw [HNN.out]
            by_cases h : p9 < k
            ·rw [if_pos h, if_pos (by omega)]
            ·rw [if_neg h, if_neg (by omega)])
           generalize Bk.key z = K9 at x0 x1 x2 hno
           generalize Bk.key y = K at k0 k1 k2 hno
           obtain ⟨kn, ki, ks⟩ := K
           obtain ⟨xn, xi, xs⟩ := K9
           simp only at x0 x1 x2 k0 k1 k2 hno
           clear hz hzc hRz hzat hvz hvy hblk hkl hkx hb6 hb2 HXC hkp
           rcases hno with hno | ⟨hn1, hno⟩ | ⟨hn1, hn2, hno⟩
           all_goals
            go_wp2_with fail
            go_quiet (fail)
            go_wp2_with fail
            go_roundw
            case rel => exact ⟨k + 1, _, HKL.out, by simp, rfl, HN1, Kn.below_drewN HB6.out _⟩
            case measure => (have := HKL.out; simp [intOf]; omega)
         ·obtain rfl : k = XX.length := by omega
          have dkx : ¬ (XX.length : Int) < (XX.length : Int) := by omega
          obtain rfl : nn = 1 := by have := HNN.out; rwa [if_pos HP9.out.2] at this
          clear hkl hkx hb6 hxl9
          go_wp2
          go_roundw
          case rel => exact ⟨t + 1, HTL.out, by simp, H3W.out⟩
          case measure => (have := HTL.out; simp [intOf]; omega)
     ·obtain rfl : t = i := by omega
      have dtt : ¬ (t : Int) < (t : Int) := by omega
      have HFN := Lib.hid (HG3.out.trans (hbt.mono HG3.out.size))
      have hxl : (XX.length : Int) ≤ (t : Int) := by have := HXN.out.1; omega
      clear hti htl hbt
      go_wp2
      go_ret
      exact ⟨rfl, HFN.out⟩
end Go.Proofs.YtkhiemkekmdhgaaGreatDoor
