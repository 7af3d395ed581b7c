import Derived.Test.YtikdcmplihgdcaaZAI
import Derived.Test.YtikdcmplihgdcaaZAG
import Derived.Test.YtikdcmplihgdcaaZAR
import Derived.Lib.QuietBelow
import Derived.BigQuiet
namespace Go.Proofs.Ytikdcmplihgdcaa
section
open Go.RowKit
theorem Mg.ways (xn kn : Bool) (xi ki : Int) (xs ks : ByteArray) :
 ((Kn.cmp ⟨xn, xi, xs⟩ ⟨kn, ki, ks⟩ == 0) = false ∧ xn = true ∧ kn = false) ∨ ((Kn.cmp ⟨xn, xi, xs⟩ ⟨kn, ki, ks⟩ == 0) = false ∧ xn = false ∧ kn = true)
 ∨ ((Kn.cmp ⟨xn, xi, xs⟩ ⟨kn, ki, ks⟩ == 0) = true ∧ xn = true ∧ kn = true ∧ (xi == ki) = false) ∨ ((Kn.cmp ⟨xn, xi, xs⟩ ⟨kn, ki, ks⟩ == 0) = true ∧ xn = true ∧ kn = true ∧ (xi == ki) = true ∧ (xs.toList == ks.toList) = false)
 ∨ ((Kn.cmp ⟨xn, xi, xs⟩ ⟨kn, ki, ks⟩ == 0) = true ∧ xn = true ∧ kn = true ∧ (xi == ki) = true ∧ (xs.toList == ks.toList) = true)
 ∨ ((Kn.cmp ⟨xn, xi, xs⟩ ⟨kn, ki, ks⟩ == 0) = false ∧ xn = false ∧ kn = false ∧ (xi == ki) = false) ∨ ((Kn.cmp ⟨xn, xi, xs⟩ ⟨kn, ki, ks⟩ == 0) = false ∧ xn = false ∧ kn = false ∧ (xi == ki) = true ∧ (xs.toList == ks.toList) = false)
 ∨ ((Kn.cmp ⟨xn, xi, xs⟩ ⟨kn, ki, ks⟩ == 0) = true ∧ xn = false ∧ kn = false ∧ (xi == ki) = true ∧ (xs.toList == ks.toList) = true) := by
 rw [Kn.cmp_zero]
 unfold Kn.same
 simp only
 cases xn <;> cases kn <;> cases (xi == ki) <;> cases (xs.toList == ks.toList) <;> simp
theorem Mg.has_yes {L : List Dd.D} {k : Kn.V} {i : Nat} {d : Dd.D} (h : L[i]? = some d) (hc : (Kn.cmp (Bk.key d) k == 0) = true) : Mg.has L k = true := by
 unfold Mg.has
 exact List.any_eq_true.2 ⟨d, List.mem_of_getElem? h, hc⟩
theorem Mg.has_no {L : List Dd.D} {k : Kn.V} (h : ∀ j d, j < L.length → L[j]? = some d → (Kn.cmp (Bk.key d) k == 0) = false) : Mg.has L k = false := by
 unfold Mg.has
 rw [List.any_eq_false]
 intro d hd
 obtain ⟨i, hi, e⟩ := List.getElem_of_mem hd
 rw [h i d hi (by rw [List.getElem?_eq_getElem hi, e])]
 decide
theorem Mg.no_next {L : List Dd.D} {k : Kn.V} {i : Nat} {d : Dd.D} (hd : L[i]? = some d) (hc : (Kn.cmp (Bk.key d) k == 0) = false) (h : ∀ j d, j < i → L[j]? = some d → (Kn.cmp (Bk.key d) k == 0) = false) : ∀ j d, j < i + 1 → L[j]? = some d → (Kn.cmp (Bk.key d) k == 0) = false := fun j x hj hx => by
 rcases Nat.lt_or_ge j i with h1 | h1
 ·exact h j x h1 hx
 ·obtain rfl : j = i := by omega
  rw [hd] at hx
  obtain rfl : d = x := by simpa using hx
  exact hc
theorem Mg.retb {a b : Bool} (h : a = b) : Ending.returned (.bool a) = Ending.returned (.bool b) := by rw [h]
set_option maxHeartbeats 8000000 in
set_option maxRecDepth 100000 in
theorem Mg.has_c (v : Value) (L : List Dd.D) (k : Kn.V) (w : World) (hv : Bk.Ds w v L) (hr : ∀ d ∈ L, d.row ≠ []) :
 Calls Try.prog 19 #[v, k.val] w fun e w' => e = .returned (.bool (Mg.has L k)) ∧ Below w.heap.size w w' := by
 obtain ⟨R, hr9, hrv⟩ := hv.dr
 have hcm : L.length ≤ 9223372036854775807 := by obtain ⟨_, c, _, h1, h2, _⟩ := hv; omega
 have HRV := Lib.hid hrv
 have HRN := Lib.hid hr
 have HCM := Lib.hid hcm
 obtain ⟨a, c, rfl, h⟩ := hr9
 have HH := Lib.hid h
 generalize hB : Mg.has L k = B
 have HBV := Lib.hid hB
 have HYES := Lib.hid fun (i : Nat) (d : Dd.D) (h : L[i]? = some d) (hc : (Kn.cmp (Bk.key d) k == 0) = true) => (hB.symm.trans (Mg.has_yes h hc) : B = true)
 have HNO := Lib.hid fun (h : ∀ j d, j < L.length → L[j]? = some d → (Kn.cmp (Bk.key d) k == 0) = false) => (hB.symm.trans (Mg.has_no h) : B = false)
 have HNEXT := Lib.hid fun (i : Nat) (d : Dd.D) => Mg.no_next (L := L) (k := k) (i := i) (d := d)
 have hka : Kn.At (w.alloc (.cells #[.bool k.null, .int .i64 k.n, .string k.s] 37)) w.heap.size 0 k := Kn.At.new w k _
 have HB0 : Hid (Below w.heap.size w (w.alloc (.cells #[.bool k.null, .int .i64 k.n, .string k.s] 37))) := Lib.hid ((Below.refl _ _).alloc (Nat.le_refl _) _)
 obtain ⟨kn, ki, ks⟩ := k
 have HKA := Lib.hid hka
 clear hv hrv hr hcm h hB hka HBV
 unfold Kn.V.val
 go_enter Try.func19, Try.ntmps19
 go_wp2_with fail
 obtain ⟨q, hq⟩ : ∃ q, q = w.heap.size := ⟨_, rfl⟩
 rw [← hq] at HKA ⊢
 generalize w.alloc _ = w1 at HKA HB0 ⊢
 clear hq
 go_loopw [5] (fun i wr => ∃ j : Nat, j ≤ L.length ∧ i = .int .i64 j ∧ Hid (∀ t d, t < j → L[t]? = some d → (Kn.cmp (Bk.key d) ⟨kn, ki, ks⟩ == 0) = false) ∧ Below w1.heap.size w1 wr) (fun i _ => L.length - (intOf i).toNat)
 case atStart => exact ⟨0, Nat.zero_le _, rfl, Lib.hid (fun t d ht => by omega), Below.refl _ _⟩
 case round =>
  obtain ⟨j, hj, rfl, HS, hBr⟩ := hrel
  have HBR := Lib.hid hBr
  by_cases hjl : j < L.length
  ·rcases HH.out with rfl | ⟨b, o, rfl, hlt, hc⟩
   ·simp at hjl
   ·have hx := List.getElem?_eq_getElem hjl
    generalize L[j] = d at hx
    have hbw := HB0.out.trans (hBr.mono HB0.out.size)
    obtain ⟨c0, c1⟩ := hc j d hx
    have c1 := (hbw.cell (p := ⟨b, o + j * 2 + 1, none⟩) hlt).trans c1
    have hv9 := (HRV.out j d hx).later hbw
    have hne := HRN.out d (List.mem_of_getElem? hx)
    have hkey := Rn.key_at hne
    have hrl : (0 : Int) < (d.row.length : Int) := by have := List.length_pos_iff.2 hne; omega
    generalize R j = rk at c1 hv9
    obtain ⟨ra, rn, rc⟩ := rk
    simp only [Bk.sv] at c1 hv9
    have HYES := Lib.hid (HYES.out j d hx)
    have HNEXT := Lib.hid (fun h => HNEXT.out j d hx h HS.out)
    generalize Bk.key d = x at hkey HYES HNEXT
    obtain ⟨rfl, b2, o2, rfl, hb2, hat⟩ := Rn.row_at hv9 hkey
    obtain ⟨e0, e1, e2⟩ := hat
    simp only [Nat.zero_mul, Nat.add_zero] at e0 e1 e2
    obtain ⟨k0, k1, k2⟩ := HKA.out.later hBr
    simp only [Nat.zero_add] at k1 k2
    obtain ⟨xn, xi, xs⟩ := x
    simp only at e0 e1 e2 k0 k1 k2
    have dk : (j : Int) < (L.length : Int) := by omega
    have dk0 : (0 : Int) ≤ (j : Int) := by omega
    have HJ := Lib.hid hjl
    have HJM : Hid ((j : Int) ≤ 9223372036854775806) := Lib.hid (by have := HCM.out; omega)
    clear hc hx hv9 hne hkey c0 hjl hj hlt hb2 hbw hBr
    generalize d.row.length = rl at c1 hrl
    have hjm := HJM.out
    rcases Mg.ways xn kn xi ki xs ks with ⟨h0, rfl, rfl⟩ | ⟨h0, rfl, rfl⟩ | ⟨h0, rfl, rfl, h1⟩ | ⟨h0, rfl, rfl, h1, h2⟩ | ⟨h0, rfl, rfl, h1, h2⟩ | ⟨h0, rfl, rfl, h1⟩ | ⟨h0, rfl, rfl, h1, h2⟩ | ⟨h0, rfl, rfl, h1, h2⟩
    all_goals
     have HF := Lib.hid h0
     clear h0
     go_wp2_with fail
     go_quiet (fail)
     go_wp2
    all_goals first
     | (go_ret
        exact ⟨Mg.retb (HYES.out HF.out).symm, HB0.out.trans ((Kn.below_drewN HBR.out _).mono HB0.out.size)⟩)
     | (go_roundw
        case rel => exact ⟨j + 1, HJ.out, by simp, Lib.hid (HNEXT.out HF.out), Kn.below_drewN HBR.out _⟩
        case measure => (have := HJ.out; simp [intOf]; omega))
  ·obtain rfl : j = L.length := by omega
   have dk : ¬ (L.length : Int) < (L.length : Int) := by omega
   have HE := Lib.hid (HNO.out fun t d ht hd => HS.out t d ht hd)
   clear hj hjl hBr
   go_wp2
   go_ret
   exact ⟨Mg.retb HE.out.symm, HB0.out.trans (HBR.out.mono HB0.out.size)⟩
end
section
open Go Go.RowKit
theorem Mg.key_cells {w : World} {v : Value} {L : List Dd.D} (h : Bk.Ds w v L) {i : Nat} {d : Dd.D} (hd : L[i]? = some d) (hne : d.row ≠ []) :
 ∃ b o c rb ro rc, v = .slice (some ⟨b, o, none⟩) L.length c ∧ b < w.heap.size ∧ rb < w.heap.size ∧ w.cell? ⟨b, o + i * 2 + 1, none⟩ = some (.slice (some ⟨rb, ro, none⟩) d.row.length rc) ∧ Kn.At w rb ro (Bk.key d) := by
 obtain ⟨a, c, rfl, _, _, h⟩ := h
 rcases h with rfl | ⟨b, o, rfl, hb, h⟩
 ·simp at hd
 ·obtain ⟨u, c0, c1, ra, rc, rfl, hu⟩ := h i d hd
  rcases hu with hu | ⟨rb, ro, rfl, hrb, _, hu⟩
  ·exact absurd hu hne
  ·refine ⟨b, o, c, rb, ro, rc, rfl, hb, hrb, c1, ?_⟩
   have := hu 0 _ (Rn.key_at hne)
   rwa [Nat.zero_mul, Nat.add_zero] at this
theorem Mg.le_sum : ∀ {l : List Nat} {x : Nat}, x ∈ l → x ≤ l.sum
 | y :: l, x, h => by
   rw [List.sum_cons]
   rcases List.mem_cons.1 h with rfl | h
   ·omega
   ·have := Mg.le_sum h
    omega
theorem Mg.any_take {EE : List (List Dd.D)} {k : Kn.V} {i : Nat} {L : List Dd.D} (h : EE[i]? = some L) : (EE.take (i + 1)).any (fun l => Mg.has l k) = ((EE.take i).any (fun l => Mg.has l k) || Mg.has L k) := by
 obtain ⟨hi, rfl⟩ := List.getElem?_eq_some_iff.1 h
 rw [List.take_succ_eq_append_getElem hi, List.any_append]
 simp
set_option maxHeartbeats 16000000 in
set_option maxRecDepth 100000 in
theorem Mg.order_w (v : Value) (LL : List (List Dd.D)) (w : World) (hv : Mg.Ls w v LL) (hz : ∀ L ∈ LL, Bk.Zs L) :
 Calls Try.prog 5 #[v] w fun e w' => e = .returned (.bool true) ∧ Below w.heap.size w w' := by
 have HV := Lib.hid hv
 have HZ := Lib.hid (Mg.early_zs hz)
 have HE := Lib.hid (Mg.early_sz LL)
 have HEA := Lib.hid (Mg.early_len LL)
 have CE := Lib.hid fun (W : World) (g : Below w.heap.size w W) => Mg.early_c _ LL W (HV.out.later g)
 obtain ⟨a, c, rfl, -, -, -⟩ := hv
 generalize Mg.early LL = EE at HZ HE HEA CE
 clear hz
 go_enter Try.func5, Try.ntmps5
 go_wp2_with fail
 refine (Mg.lives_c w).mono ?_
 rintro e w1 ⟨rfl, g1⟩
 have HG1 := Lib.hid g1
 have CE1 := Lib.hid (CE.out w1 g1)
 clear g1
 go_wp2_with fail
 refine (CE1.out).mono ?_
 rintro e w2 ⟨u, rfl, hu, g2⟩
 have HG2 := Lib.hid (Mg.grow HG1.out g2)
 have HU := Lib.hid hu
 obtain ⟨a2, c2, rfl, -, -, -⟩ := hu
 clear g2
 go_wp2_with fail
 refine (Mg.newest_c _ EE w2 HU.out HZ.out (Mg.fit_of (by have := HE.out; omega))).mono ?_
 rintro e w3 ⟨x, rfl, hx, g3⟩
 have HG3 := Lib.hid (Mg.grow HG2.out g3)
 have HU3 := Lib.hid (HU.out.later g3)
 clear g3 HU
 obtain ⟨al, hal⟩ : ∃ al, al = Mg.all EE := ⟨_, rfl⟩
 obtain ⟨e1, e2⟩ := Mg.all_of hal.symm
 rw [e2] at hx
 rw [e1]
 clear e1 e2
 cases al
 ·simp only [Bool.false_eq_true, if_false] at hx ⊢
  obtain ⟨a3, c3, rfl, -, -, -⟩ := hx
  simp only [List.length_nil]
  go_wp2
  go_ret
  exact ⟨rfl, HG3.out⟩
 ·simp only [if_true] at hx ⊢
  have HX := Lib.hid hx
  have HAL : Hid (Mg.all EE = true) := Lib.hid hal.symm
  obtain ⟨a3, c3, rfl, -, -, -⟩ := hx
  have HXS := Lib.hid (Mg.nw_sorted HAL.out)
  have HXN := Lib.hid (Mg.sorted_iff.1 HXS.out).1
  have HXZ : Hid (Bk.Zs (Mg.nw EE)) := Lib.hid fun d hd => by
   obtain ⟨l, hl, hdl⟩ := Mg.mem_nw hd
   exact HZ.out l hl d hdl
  have HEN : Hid (∀ L ∈ EE, ∀ d ∈ L, d.row ≠ []) := Lib.hid fun L hL => (Mg.sorted_iff.1 (Mg.all_mem HAL.out hL)).1
  have HHAS := Lib.hid fun (L : List Dd.D) (hL : L ∈ EE) (d : Dd.D) (hd : d ∈ L) => Mg.has_nw HAL.out hL hd
  have HONE := Lib.hid fun (y : Dd.D) (hy : y ∈ Mg.nw EE) => Mg.has_one hy
  have HXL : Hid ((Mg.nw EE).length ≤ 720) := Lib.hid (Nat.le_trans (Mg.nw_len EE) HE.out)
  have HNL : Hid (EE.length ≤ 12) := Lib.hid (by have := HEA.out; omega)
  have HLL : Hid (∀ L ∈ EE, L.length ≤ 720) := Lib.hid fun L hL => by
   have h1 := HE.out
   have : L.length ≤ Mg.sz EE := by
    unfold Mg.sz
    exact Mg.le_sum (List.mem_map.2 ⟨L, hL, rfl⟩)
   omega
  have HCS := Lib.hid (Bk.rsorted_c _ _ w3 HX.out HXZ.out)
  rw [HXS.out] at HCS
  generalize Mg.nw EE = X at HX HXN HHAS HONE HXL HCS ⊢
  clear hal HXS HXZ HE HEA HZ HAL
  go_wp2_with fail
  refine (HCS.out).mono ?_
  rintro e w4 ⟨rfl, g4⟩
  have HG4 := Lib.hid (Mg.grow HG3.out g4)
  have HX4 := Lib.hid (HX.out.later g4)
  have HU4 := Lib.hid (HU3.out.later g4)
  clear g4 HX HU3 HCS
  obtain ⟨R, hR, hRV⟩ := HU4.out.lr
  have HRV := Lib.hid hRV
  obtain ⟨a9, c9, e9, -, -, h9⟩ := hR
  simp only [Value.slice.injEq] at e9
  obtain ⟨rfl, -, rfl⟩ := e9
  have HC := Lib.hid h9
  clear hRV h9
  have hnl := HNL.out
  generalize hN : EE.length = N at hnl ⊢
  have HN := Lib.hid hN
  generalize hM : X.length = M at HXL ⊢
  have HM := Lib.hid hM
  clear hN hM
  go_wp2_with fail
  go_loopw [5] (fun iv wr => ∃ i : Nat, i ≤ N ∧ iv = .int .i64 i ∧ Below w4.heap.size w4 wr) (fun iv _ => N - (intOf iv).toNat)
  case atStart => exact ⟨0, Nat.zero_le _, rfl, Below.refl _ _⟩
  case round =>
   obtain ⟨i, hi, rfl, hB⟩ := hrel
   have HB := Lib.hid hB
   have hi0 : (0 : Int) ≤ (i : Int) := by omega
   by_cases hil : i < N
   ·have hx := List.getElem?_eq_getElem (show i < EE.length by rw [HN.out]; exact hil)
    generalize EE[i]'(by rw [HN.out]; exact hil) = L at hx
    rcases HC.out with h9 | ⟨b, o, rfl, hlt, hc⟩
    ·rw [h9] at hx; simp at hx
    have HCI := Lib.hid (hc i L hx)
    have HDI := Lib.hid (HRV.out i L hx)
    have HLT := Lib.hid hlt
    have HML := Lib.hid (HLL.out L (List.mem_of_getElem? hx))
    have HNE := Lib.hid (HEN.out L (List.mem_of_getElem? hx))
    have HHL := Lib.hid (HHAS.out L (List.mem_of_getElem? hx))
    obtain ⟨⟨ra, rn, rc⟩, hr9⟩ : ∃ p, p = R i := ⟨_, rfl⟩
    rw [← hr9] at HCI HDI
    simp only [Bk.sv] at HCI HDI
    obtain ⟨_, _, e9, -, -, -⟩ := id HDI.out
    simp only [Value.slice.injEq] at e9
    obtain ⟨rfl, rfl, rfl⟩ := e9
    have hii : (i : Int) < (N : Int) := by omega
    have HIL := Lib.hid hil
    clear hx hc hlt hr9 hi hil hB
    go_wp2_with fail
    go_loopw [6] (fun kv wr => ∃ k : Nat, k ≤ L.length ∧ kv = .int .i64 k ∧ Below w4.heap.size w4 wr) (fun kv _ => L.length - (intOf kv).toNat)
    case atStart => exact ⟨0, Nat.zero_le _, rfl, HB.out⟩
    case round =>
     obtain ⟨k, hk, rfl, hB⟩ := hrel
     have HB2 := Lib.hid hB
     have hk0 : (0 : Int) ≤ (k : Int) := by omega
     have c0 := (hB.cell (p := ⟨b, o + i, none⟩) HLT.out).trans HCI.out
     by_cases hkl : k < L.length
     ·have hy := List.getElem?_eq_getElem hkl
      generalize L[k] = d at hy
      have hne := HNE.out d (List.mem_of_getElem? hy)
      obtain ⟨b2, o2, c7, rb, ro, rc7, e7, hb2, hrb, d1, hat⟩ := Mg.key_cells HDI.out hy hne
      simp only [Value.slice.injEq] at e7
      obtain ⟨rfl, -, rfl⟩ := e7
      have d1 := (hB.cell (p := ⟨b2, o2 + k * 2 + 1, none⟩) hb2).trans d1
      obtain ⟨k0, k1, k2⟩ := hat.later hB
      have HHH := Lib.hid (Mg.has_c _ X (Bk.key d) wr (HX4.out.later hB) HXN.out)
      rw [HHL.out d (List.mem_of_getElem? hy), HM.out] at HHH
      generalize Bk.key d = q at k0 k1 k2 HHH
      obtain ⟨qn, qi, qs⟩ := q
      unfold Kn.V.val at HHH
      simp only at k0 k1 k2 HHH
      have hrl : (0 : Int) < (d.row.length : Int) := by have := List.length_pos_iff.2 hne; omega
      generalize d.row.length = rl at d1 hrl
      have hki : (k : Int) < (L.length : Int) := by omega
      have hkm : (k : Int) ≤ 720 := by have := HML.out; omega
      have HKL := Lib.hid hkl
      clear hy hne hat hb2 hrb hkl hk hB
      go_wp2_with fail
      refine (HHH.out).mono ?_
      rintro e w7 ⟨rfl, g7⟩
      have HB7 := Lib.hid (Mg.grow HB2.out g7)
      clear g7 c0 d1 k0 k1 k2
      go_wp2
      go_roundw
      case rel => exact ⟨k + 1, HKL.out, by simp, HB7.out⟩
      case measure => (have := HKL.out; simp [intOf]; omega)
     ·obtain rfl : k = L.length := by omega
      have hki : ¬ (L.length : Int) < (L.length : Int) := by omega
      have hi2 : (i : Int) ≤ 12 := by have := HIL.out; omega
      clear hk hkl hB
      go_wp2
      go_roundw
      case rel => exact ⟨i + 1, HIL.out, by simp, HB2.out⟩
      case measure => (have := HIL.out; simp [intOf]; omega)
   ·obtain rfl : N = i := by omega
    have hii : ¬ (N : Int) < (N : Int) := by omega
    clear hi hil hB
    obtain ⟨w5, hw5⟩ : ∃ w5, w5 = wr := ⟨_, rfl⟩
    rw [← hw5] at HB ⊢
    clear hw5
    have HX5 := Lib.hid (HX4.out.later HB.out)
    go_upto_region 18 with (fail)
    have HKB := Lib.hid HB.out
    go_loopw [7] (fun kv wr => ∃ k : Nat, k ≤ M ∧ kv = .int .i64 k ∧ Below w4.heap.size w4 wr) (fun kv _ => M - (intOf kv).toNat)
    case atStart => exact ⟨0, Nat.zero_le _, rfl, HKB.out⟩
    case round =>
     obtain ⟨k, hk, rfl, hB⟩ := hrel
     have HB2 := Lib.hid hB
     have hk0 : (0 : Int) ≤ (k : Int) := by omega
     by_cases hkl : k < M
     ·have hy := List.getElem?_eq_getElem (show k < X.length by rw [HM.out]; exact hkl)
      generalize X[k]'(by rw [HM.out]; exact hkl) = d at hy
      have hne := HXN.out d (List.mem_of_getElem? hy)
      obtain ⟨b2, o2, c7, rb, ro, rc7, e7, hb2, hrb, d1, hat⟩ := Mg.key_cells HX4.out hy hne
      rw [HM.out] at e7
      simp only [Value.slice.injEq] at e7
      obtain ⟨rfl, -, rfl⟩ := e7
      have HD1 := Lib.hid d1
      have HAT := Lib.hid hat
      have HB2L := Lib.hid hb2
      have HON := Lib.hid (HONE.out d (List.mem_of_getElem? hy))
      have hrl : (0 : Int) < (d.row.length : Int) := by have := List.length_pos_iff.2 hne; omega
      have HRL := Lib.hid hrl
      have hki : (k : Int) < (M : Int) := by omega
      have hkm : (k : Int) ≤ 720 := by have := HXL.out; omega
      have HKL := Lib.hid hkl
      generalize hQ : Bk.key d = Q at HAT HON
      generalize d.row.length = rl at HD1 HRL
      clear hy hne hat hb2 hrb hkl hk hB d1 hrl hQ
      go_wp2_with fail
      go_loopw [8, 9] (fun ov iv wr => ∃ i : Nat, i ≤ N ∧ iv = .int .i64 i ∧ ov = .bool ((EE.take i).any fun l => Mg.has l Q) ∧ Below w4.heap.size w4 wr) (fun _ iv _ => N - (intOf iv).toNat)
      case atStart => exact ⟨0, Nat.zero_le _, rfl, rfl, HB2.out⟩
      case round =>
       obtain ⟨i, hi, rfl, rfl, hB⟩ := hrel
       have HB3 := Lib.hid hB
       have hi0 : (0 : Int) ≤ (i : Int) := by omega
       by_cases hil : i < N
       ·have hx := List.getElem?_eq_getElem (show i < EE.length by rw [HN.out]; exact hil)
        generalize EE[i]'(by rw [HN.out]; exact hil) = L at hx
        rcases HC.out with h9 | ⟨b, o, rfl, hlt, hc⟩
        ·rw [h9] at hx; simp at hx
        have c0 := (hB.cell (p := ⟨b, o + i, none⟩) hlt).trans (hc i L hx)
        have hdi := (HRV.out i L hx).later hB
        have HAN := Lib.hid (Mg.any_take (k := Q) hx)
        have HNE := HEN.out L (List.mem_of_getElem? hx)
        generalize R i = r9 at c0 hdi
        obtain ⟨ra, rn, rc⟩ := r9
        simp only [Bk.sv] at c0 hdi
        have hii : (i : Int) < (N : Int) := by omega
        have hi2 : (i : Int) ≤ 12 := by omega
        have HIL := Lib.hid hil
        have d1 := (hB.cell (p := ⟨b2, o2 + k * 2 + 1, none⟩) HB2L.out).trans HD1.out
        obtain ⟨k0, k1, k2⟩ := HAT.out.later hB
        have hrl := HRL.out
        have CH := Lib.hid fun (W : World) (g : Below wr.heap.size wr W) => Mg.has_c _ L Q W (hdi.later g) HNE
        generalize (EE.take i).any (fun l => Mg.has l Q) = one at HAN ⊢
        generalize Mg.has L Q = hs at HAN CH
        obtain ⟨qn, qi, qs⟩ := Q
        unfold Kn.V.val at CH
        simp only at k0 k1 k2 CH
        have C0 := fun d os => cell_regrown c0 d os
        have D1 := fun d os => cell_regrown d1 d os
        have K0 := fun d os => cell_regrown k0 d os
        have K1 := fun d os => cell_regrown k1 d os
        have K2 := fun d os => cell_regrown k2 d os
        have CA : Hid (∀ p : Regrown, _) := Lib.hid fun p : Regrown => Calls.regrown_of (d := p.d) (os := p.os) (w := wr) (CH.out _ (below_regrown wr p.d p.os))
        clear hx hc hlt hi hil hB hdi HNE c0 d1 k0 k1 k2
        go_upto_region 24 with (fail)
        cases one
        ·refine wp_region_quiet_below (by kernel_rfl) (by kernel_rfl) ?_
         repeat (go_big_quiet_step (first | with_reducible exact CA.out _))
         refine wpQuiet_nil ?_
         intro w8 hw8
         have HB8 := Lib.hid (Mg.grow HB3.out (Bk.below_reg hw8))
         clear hw8 C0 D1 K0 K1 K2
         go_wp2
         go_roundw
         case rel => exact ⟨i + 1, HIL.out, by simp, by rw [HAN.out, Bool.false_or], HB8.out⟩
         case measure => (have := HIL.out; simp [intOf]; omega)
        ·refine wp_region_quiet_below (by kernel_rfl) (by kernel_rfl) ?_
         repeat (go_big_quiet_step (first | with_reducible exact CA.out _))
         refine wpQuiet_nil ?_
         intro w8 hw8
         have HB8 := Lib.hid (Mg.grow HB3.out (Bk.below_reg hw8))
         clear hw8 C0 D1 K0 K1 K2
         go_wp2
         go_roundw
         case rel => exact ⟨i + 1, HIL.out, by simp, by rw [HAN.out, Bool.true_or], HB8.out⟩
         case measure => (have := HIL.out; simp [intOf]; omega)
       ·obtain rfl : i = N := by omega
        have hii : ¬ (i : Int) < (i : Int) := by omega
        have HT : Hid ((EE.take i).any (fun l => Mg.has l Q) = true) := Lib.hid (by
         rw [← HN.out, List.take_length]
         obtain ⟨l, hl, h⟩ := HON.out
         exact List.any_eq_true.2 ⟨l, hl, h⟩)
        rw [HT.out]
        clear hi hil hB
        go_wp2
        go_roundw
        case rel => exact ⟨k + 1, HKL.out, by simp, HB3.out⟩
        case measure => (have := HKL.out; simp [intOf]; omega)
     ·obtain rfl : k = M := by omega
      have hki : ¬ (k : Int) < (k : Int) := by omega
      have HG9 := Lib.hid (Mg.grow HG4.out HB2.out)
      clear hk hkl hB
      go_wp2
      go_ret
      exact ⟨rfl, HG9.out⟩
end
end Go.Proofs.Ytikdcmplihgdcaa
