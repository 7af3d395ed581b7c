import Derived.Test.YtkhiemkekmdhgaaDoorZDAI
import Derived.Test.YtkhiemkekmdhgaaDoorZDAH
import Derived.Test.YtkhiemkekmdhgaaDoorZDAM
import Derived.Test.YtkhiemkekmdhgaaDoorZDAK
import Derived.Test.YtkhiemkekmdhgaaDoorZDAJ
import Derived.Test.YtkhiemkekmdhgaaDoorZDAD
import Derived.Deep.Slices
import Derived.Deep.Fields
import Derived.ChangeSame
import Derived.ProofKit
import Derived.OpenShut
import Derived.SizedLaws
namespace Go.Proofs.YtkhiemkekmdhgaaDoor
section
open Go.RowKit
theorem Bk.same_self (d : Dd.D) : Dd.same d d = true := by
 unfold Dd.same
 rw [Kn.sameR_self]
 simp
set_option maxHeartbeats 4000000 in
set_option maxRecDepth 100000 in
theorem Bk.rsame_c (u v : Value) (L : List Dd.D) (w : World) (hu : Bk.Ds w u L) (hv : Bk.Ds w v L) :
 Calls Tryd.prog 12 #[u, v] w fun e w' => e = .returned (.bool true) ∧ Below w.heap.size w w' := by
 obtain ⟨a, c, rfl, hlc, hcm, h⟩ := hu
 obtain ⟨a2, c2, rfl, hlc2, hcm2, h2⟩ := hv
 have HH := Lib.hid h
 have HH2 := Lib.hid h2
 clear h h2
 have hz : ((L.length : Int) != (L.length : Int)) = false := by simp
 go_enter Tryd.func12, Tryd.ntmps12
 go_wp2_with fail
 go_loopw [5] (fun i wr => ∃ k : Nat, k ≤ L.length ∧ i = .int .i64 k ∧ Below w.heap.size w wr) (fun i _ => L.length - (intOf i).toNat)
 case atStart => exact ⟨0, Nat.zero_le _, rfl, Below.refl _ _⟩
 case round =>
  obtain ⟨k, hk, rfl, hg⟩ := hrel
  have HG := Lib.hid hg
  by_cases hkl : k < L.length
  ·rcases HH.out with rfl | ⟨b, o, rfl, hlt, hc⟩
   ·simp at hkl
   ·rcases HH2.out with rfl | ⟨b2, o2, rfl, hlt2, hc2⟩
    ·simp at hkl
    ·have hx := List.getElem?_eq_getElem hkl
     generalize L[k] = d at hx
     obtain ⟨u0, c0, c1, hu⟩ := hc k d hx
     obtain ⟨u2, d0, d1, hu2⟩ := hc2 k d hx
     have hu := hu.later hg
     have hu2 := hu2.later hg
     have c0 := (hg.cell (p := ⟨b, o + k * 2, none⟩) hlt).trans c0
     have c1 := (hg.cell (p := ⟨b, o + k * 2 + 1, none⟩) hlt).trans c1
     have d0 := (hg.cell (p := ⟨b2, o2 + k * 2, none⟩) hlt2).trans d0
     have d1 := (hg.cell (p := ⟨b2, o2 + k * 2 + 1, none⟩) hlt2).trans d1
     have dk : (k : Int) < (L.length : Int) := by omega
     have dk0 : (0 : Int) ≤ (k : Int) := by omega
     have HK := Lib.hid hkl
     have hm : L.length ≤ 9223372036854775807 := Nat.le_trans hlc hcm
     have C0 := fun d os => cell_regrown c0 d os
     have C1 := fun d os => cell_regrown c1 d os
     have D0 := fun d os => cell_regrown d0 d os
     have D1 := fun d os => cell_regrown d1 d os
     have CS : Hid (∀ p : Regrown, _) := Lib.hid fun p : Regrown => Calls.regrown_of (d := p.d) (os := p.os) (w := wr) (Dd.rsame_c u0 u2 d d _ (hu.later (below_regrown wr p.d p.os)) (hu2.later (below_regrown wr p.d p.os)))
     rw [Bk.same_self] at CS
     obtain ⟨ua, uc, e1, -⟩ := hu
     obtain ⟨ub, ud, e2, -⟩ := hu2
     have HC := Lib.hid hc
     have HC2 := Lib.hid hc2
     clear c0 c1 d0 d1 hc hc2 hx hkl hk hg
     subst e1 e2
     go_upto_region 6 with (fail)
     refine wp_region_quiet_below (by kernel_rfl) (by kernel_rfl) ?_
     repeat (go_big_quiet_step (first | with_reducible exact CS.out _))
     refine wpQuiet_nil ?_
     intro _ hw'
     have HG2 := Lib.hid (HG.out.trans ((Bk.below_reg hw').mono HG.out.size))
     go_wp2
     go_roundw
     case rel => exact ⟨k + 1, HK.out, by simp, HG2.out⟩
     case measure => (have := HK.out; simp [intOf]; omega)
  ·obtain rfl : k = L.length := by omega
   have dk : ¬ (L.length : Int) < (L.length : Int) := by omega
   clear hk hkl hg
   go_wp2
   go_ret
   exact ⟨rfl, HG.out⟩
end
section
open Go Go.RowKit
theorem Jn.infoInt : (Tryd.prog.info? 3).map (fun i => (i.zero, i.size, i.bytes)) = some (some (.int .i64 0), 1, 8) := by kernel_rfl
def Jn.ends (s : List Kn.C) (L : List Dd.D) (i : Nat) : Value := .int .i64 ((Jn.en s L i : Nat) : Int)
theorem Jn.ds_take {w : World} {a : Option Addr} {n c j : Nat} {L : List Dd.D} (h : Bk.Ds w (.slice a n c) L) (hj : j ≤ n) : Bk.Ds w (.slice a j c) (L.take j) := by
 obtain ⟨a, c, e, h1, h2, h⟩ := h
 simp only [Value.slice.injEq] at e
 obtain ⟨rfl, rfl, rfl⟩ := e
 have hl : (L.take j).length = j := by rw [List.length_take]; omega
 refine ⟨_, _, by rw [hl], by rw [hl]; omega, h2, ?_⟩
 rcases h with h | ⟨b, o, ha, hb, h⟩
 ·exact .inl (by rw [h, List.take_nil])
 ·refine .inr ⟨b, o, ha, hb, fun i x hx => h i x ?_⟩
  rw [List.getElem?_take] at hx
  split at hx
  ·exact hx
  ·cases hx
theorem Jn.ext_at (s : ByteArray) (q : Nat) : s.extract 0 q = Ty.S (s.data.toList.take q) := by
 apply ByteArray.ext
 rw [ByteArray.data_extract]
 apply Array.toList_inj.1
 rw [Array.toList_extract]
 unfold Ty.S
 simp
set_option maxHeartbeats 8000000 in
set_option maxRecDepth 100000 in
theorem Jn.torn_w (v u : Value) (s : List Kn.C) (L : List Dd.D) (cut : Int) (w : World) (hT : Jn.T w) (hs : Dd.Cols w v s) (hu : Bk.Ds w u L) (hi : ∀ d ∈ L, ∀ x ∈ d.row, Ty.I64 x.n) :
 Calls Tryd.prog 4 #[v, u, .int .i64 cut] w fun e w' => e = .returned (.bool true) ∧ Below w.heap.size w w' := by
 obtain ⟨R, hdr, hrv⟩ := hu.dr
 have HU := Lib.hid hu
 obtain ⟨ua, uc, rfl, hcell⟩ := hdr.is
 have hlc : L.length ≤ uc ∧ uc ≤ 9223372036854775807 := by
  obtain ⟨a9, c9, e9, h1, h2, _⟩ := hu
  simp only [Value.slice.injEq] at e9
  obtain ⟨-, -, rfl⟩ := e9
  exact ⟨h1, h2⟩
 have HH := Lib.hid hcell
 have HT := Lib.hid hT
 have HII := Lib.hid hi
 have CW := Lib.hid fun (W : World) (g : Below w.heap.size w W) (i : Nat) (d : Dd.D) (h : L[i]? = some d) => Jn.write_c v (Bk.sv (R i)) s d W (hT.below g) (hs.later g) ((hrv i d h).later g) (hi d (List.mem_of_getElem? h))
 have CR := Lib.hid fun (W : World) (t : List UInt8) (g : Below w.heap.size w W) (h : t.length ≤ 4194304) => Jn.read_c v s (Ty.S t) W (hT.below g) (hs.later g) (by rw [Ty.size_S]; exact h)
 obtain ⟨n, hnn⟩ : ∃ n, n = L.length := ⟨_, rfl⟩
 have HN := Lib.hid hnn
 have HLC := Lib.hid hlc
 have hn2 : n ≤ 9223372036854775807 := by omega
 have hnc : n ≤ uc := by omega
 rw [← hnn] at HU ⊢
 obtain ⟨va, vc, rfl, -⟩ := id hs.1
 clear hdr hrv hcell hi hs hnn hlc hu hT
 go_enter Tryd.func4, Tryd.ntmps4
 go_wp2_with fail
 refine (Jn.lives_c w HT.out).mono ?_
 rintro e w1 ⟨rfl, g1⟩
 have HB1 := Lib.hid g1
 clear g1
 go_wp2_with fail
 go_loopw [7, 8, 9] (fun sv ev i wr => ∃ k : Nat, k ≤ n ∧ k ≤ 300 ∧ sv = .string (Ty.S (Jn.tx s (L.take k))) ∧ i = .int .i64 k ∧ Hid (Jn.Ok s (L.take k)) ∧ Bt.Buf 3 w.heap.size wr ev k (Jn.ends s L) ∧ Below w.heap.size w wr) (fun _ _ i _ => 300 - (intOf i).toNat)
 case atStart => exact ⟨0, Nat.zero_le _, Nat.zero_le _, by simp; rfl, rfl, Lib.hid (fun d hd => by simp at hd), Bt.Buf.nil _ _ _ _, HB1.out⟩
 case round =>
  obtain ⟨k, hkn, hk3, rfl, rfl, HOK, hO, hb⟩ := hrel
  have HB := Lib.hid hb
  have HO := Lib.hid hO
  clear hO
  have dk0 : (0 : Int) ≤ (k : Int) := by omega
  have dk9 : (k : Int) ≤ 300 := by omega
  by_cases hl : k < n ∧ k < 300
  ·obtain ⟨hl1, hl3⟩ := hl
   have dk : (k : Int) < (n : Int) := by omega
   have dk3 : (k : Int) < 300 := by omega
   rcases HH.out with h | ⟨b, o, rfl, hlt, h⟩
   ·have := HN.out; rw [h] at this; simp at this; omega
   ·have hkL : k < L.length := by rw [← HN.out]; exact hl1
    have hx := List.getElem?_eq_getElem hkL
    generalize L[k] = d at hx
    obtain ⟨c0, c1⟩ := h k d hx
    have c0 := (hb.cell (p := ⟨b, o + k * 2, none⟩) hlt).trans c0
    have c1 := (hb.cell (p := ⟨b, o + k * 2 + 1, none⟩) hlt).trans c1
    have CWW := Lib.hid (CW.out wr hb k d hx)
    generalize R k = rk at c1 CWW
    obtain ⟨ra, rn, rc⟩ := rk
    simp only [Bk.sv] at c1 CWW
    have HX := Lib.hid hx
    have HL13 := Lib.hid (And.intro hl1 hl3)
    by_cases h0 : Dd.fitE s d = 0
    ·have hnext := Jn.tx_next hx h0
     have hl508 := Jn.wS_le s d
     have htl := Jn.tx_le (s := s) (L := L.take k) fun x hx => (HOK.out x hx).1
     rw [List.length_take] at htl
     have HOK2 : Hid (Jn.Ok s (L.take (k + 1))) := Lib.hid (by
      obtain ⟨hk8, e8⟩ := List.getElem?_eq_some_iff.1 hx
      rw [List.take_succ_eq_append_getElem hk8, e8]
      intro x hx8
      rcases List.mem_append.1 hx8 with h8 | h8
      ·exact HOK.out x h8
      ·rw [List.mem_singleton] at h8
       subst h8
       exact ⟨h0, HII.out x (List.mem_of_getElem? hx)⟩)
     have hwv : Jn.wV s d = .tuple #[.string (Ty.S (Jn.wS s d)), .int .i64 0] := by unfold Jn.wV; rw [h0]
     rw [hwv] at CWW
     have hct : Ty.S (Jn.tx s (L.take k)) ++ Ty.S (Jn.wS s d) = Ty.S (Jn.tx s (L.take (k + 1))) := by rw [hnext]; exact Jn.S_add _ _
     have HCT := Lib.hid hct
     have hez : (Ty.S (Jn.tx s (L.take (k + 1)))).size = Jn.en s L k := Ty.size_S _
     have HEZ := Lib.hid hez
     have n1 : ¬ 9223372036854775807 < (Ty.S (Jn.tx s (L.take k))).size + (Ty.S (Jn.wS s d)).size := by rw [Ty.size_S, Ty.size_S]; omega
     have hzb : Jn.en s L k ≤ 400000 := by rw [← hez, Ty.size_S, hnext, List.length_append]; omega
     generalize Ty.S (Jn.tx s (L.take k)) = X at n1 hct HCT
     generalize Ty.S (Jn.wS s d) = Y at n1 hct HCT CWW
     obtain ⟨S2, hS2⟩ : ∃ S2, S2 = Ty.S (Jn.tx s (L.take (k + 1))) := ⟨_, rfl⟩
     rw [← hS2] at hct HCT HEZ
     have HS2 := Lib.hid hS2
     have HZB := Lib.hid hzb
     clear h hb hkL hx hnext hl508 htl hwv hez hS2 hl1 hl3 hzb h0
     go_wp2_with fail
     refine (CWW.out).mono ?_
     rintro e w4 ⟨rfl, g4⟩
     have HB4 := Lib.hid (HB.out.trans (g4.mono HB.out.size))
     have hO4 := Bt.Buf.kept HO.out g4
     have hws := HB4.out.size
     clear g4 c0 c1
     go_wp2_with (at_builtin; refine Bt.wpList_append_one 3 29 (.int .i64 0) 8 Tryd.underlying29 Jn.infoInt rfl hO4 hws (by omega) (by omega) (.tmp 42) (.tmp 45) _ rfl rfl rfl rfl rfl ?_; intro v5 w5 h5 g5)
     have HO5 := Lib.hid (h5 (by rw [HEZ.out]; rfl))
     have HB5 := Lib.hid (HB4.out.trans (g5.below hws (Bt.Buf.base_le hO4)))
     clear h5 g5 hO4 hws
     go_wp2
     go_roundw
     case rel => exact ⟨k + 1, HL13.out.1, HL13.out.2, by rw [HS2.out], by simp, HOK2, HO5.out, HB5.out⟩
     case measure => (have := HL13.out.2; simp [intOf]; omega)
    ·rw [Jn.wV_bad h0] at CWW
     have hne : (Dd.fitE s d != 0) = true := by rw [bne_iff_ne]; exact h0
     generalize Dd.fitE s d = E at CWW hne
     clear h hb hkL hx hl1 hl3 h0
     go_wp2_with fail
     refine (CWW.out).mono ?_
     rintro e w4 ⟨rfl, g4⟩
     have HB4 := Lib.hid (HB.out.trans (g4.mono HB.out.size))
     clear g4 c0 c1
     go_wp2
     go_ret
     exact ⟨rfl, HB4.out⟩
  ·have HBB := Lib.hid hb
   have HKX : Hid (k = 0 ∨ L.take k ≠ []) := Lib.hid (by
    rcases Nat.eq_zero_or_pos k with h | h
    ·exact .inl h
    ·exact .inr fun e => by
      have := congrArg List.length e
      rw [List.length_take, List.length_nil, ← HN.out] at this
      omega)
   have hyz : (Ty.S (Jn.tx s (L.take k))).size = (Jn.tx s (L.take k)).length := Ty.size_S _
   have htl := Jn.tx_le (s := s) (L := L.take k) fun x hx => (HOK.out x hx).1
   rw [List.length_take] at htl
   obtain ⟨X, hX⟩ : ∃ X, X = Ty.S (Jn.tx s (L.take k)) := ⟨_, rfl⟩
   rw [← hX] at hyz ⊢
   obtain ⟨q, hq, hq2⟩ : ∃ q : Nat, (IntKind.u64.wrap cut).tmod ((X.size : Int) + 1) = (q : Int) ∧ q ≤ X.size := by
    rw [Int.tmod_eq_emod_of_nonneg (by rw [IntKind.wrap_u64]; exact Int.emod_nonneg _ (by decide))]
    have h1 := Int.emod_nonneg (IntKind.u64.wrap cut) (b := (X.size : Int) + 1) (by omega)
    have h2 := Int.emod_lt_of_pos (IntKind.u64.wrap cut) (b := (X.size : Int) + 1) (by omega)
    exact ⟨(IntKind.u64.wrap cut % ((X.size : Int) + 1)).toNat, by omega, by omega⟩
   have hXs : X.size ≤ 400000 := by omega
   have hxe : X.extract 0 q = Ty.S ((Jn.tx s (L.take k)).take q) := by rw [Jn.ext_at, hX, Ty.data_S]
   have hqs : (Ty.S ((Jn.tx s (L.take k)).take q)).size ≤ 400000 := by rw [Ty.size_S, List.length_take]; omega
   have CRR := Lib.hid fun (W : World) (g : Below w.heap.size w W) => CR.out W ((Jn.tx s (L.take k)).take q) g (by rw [List.length_take]; omega)
   rw [Ty.data_S] at CRR
   have hq0 : (q : Int) ≤ (X.size : Int) := by omega
   have hq1 : (0 : Int) ≤ (q : Int) := by omega
   have hq3 : (q : Int) < 9223372036854775808 := by omega
   by_cases hk0 : k = 0
   ·have dk : ¬ (k : Int) < (n : Int) := by omega
    have hki : ((k : Int) == 0) = true := by rw [beq_iff_eq]; omega
    have hk9 : ¬ (0 : Int) < (k : Int) := by omega
    have hr : (Jn.rd s ((Jn.tx s (L.take k)).take q)).2 = [] := by
     rw [hk0, List.take_zero, Jn.tx_nil, List.take_nil]
     exact Jn.rd_nil s
    generalize Ty.S ((Jn.tx s (L.take k)).take q) = X2 at hxe hqs CRR
    generalize Jn.rd s ((Jn.tx s (L.take k)).take q) = RS at CRR hr
    obtain ⟨er, RL⟩ := RS
    obtain rfl : RL = [] := hr
    clear hX hb hyz hq2 htl hl HKX hk0
    go_wp2_with fail
    refine (CRR.out wr HBB.out).mono ?_
    rintro e w3 ⟨p, rfl, hp, g3⟩
    have HB3 := Lib.hid (HBB.out.trans (g3.mono HBB.out.size))
    have HO3 := Lib.hid (Bt.Buf.kept HO.out g3)
    obtain ⟨pa, pc, rfl, -⟩ := hp
    obtain ⟨ea, ec, rfl, -⟩ := (Bt.Buf.sl HO3.out).is
    clear g3
    simp only [List.length_nil]
    go_wp2_with fail
    go_loopw [15] (fun iv wr2 => iv = .int .i64 0 ∧ Below w3.heap.size w3 wr2) (fun iv _ => 0)
    case atStart => exact ⟨rfl, Below.refl _ _⟩
    case round =>
     obtain ⟨rfl, hb2⟩ := hrel
     have HBR := Lib.hid (HB3.out.trans (hb2.mono HB3.out.size))
     clear hb2
     try clear hxe; try clear hq; try clear hqs; try clear hq0; try clear hq1; try clear hq3; try clear hXs; try clear hn2; try clear hnc; try clear dk; try clear dk0; try clear dk9; try clear hkn; try clear hk3
     go_upto_region 18 with (fail)
     go_wp2
     go_ret
     exact ⟨rfl, HBR.out⟩
   ·rcases (by omega : (¬ (k : Int) < (n : Int)) ∨ ((k : Int) < (n : Int) ∧ ¬ (k : Int) < 300)) with dk | ⟨dk, dk3⟩
    all_goals
     have hki : ((k : Int) == 0) = false := by rw [beq_eq_false_iff_ne]; omega
     have hne := HKX.out.resolve_left hk0
     have hrt := Jn.ok_right HOK.out hne
     have hrd := Jn.rd_tx hrt HOK.out q
     have hkl : (L.take k).length = k := by rw [List.length_take, ← HN.out]; omega
     have HWI : Hid (∀ j, j ≤ k → (∀ i, i < j → Jn.en s L i ≤ q) → (j = k ∨ q < Jn.en s L j) → (L.take k).take (Fr.whole ((L.take k).map (Dd.enc s)) q) = L.take j) := Lib.hid fun j hj h1 h2 => by
      have hen : ∀ i, i < k → Jn.en s (L.take k) i = Jn.en s L i := fun i hi => by unfold Jn.en; rw [List.take_take, Nat.min_eq_left (by omega)]
      have := Jn.whole_en (s := s) (L := L.take k) (k := q) (m := j) (by omega) (fun i hi => by rw [hen i (by omega)]; exact h1 i hi) (by
       rcases h2 with h2 | h2
       ·exact .inl (by omega)
       ·rcases Nat.lt_or_ge j k with h3 | h3
        ·exact .inr (by rw [hen j h3]; exact h2)
        ·exact .inl (by omega))
      rw [this, List.take_take, Nat.min_eq_left hj]
     rw [hrd] at CRR
     generalize (L.take k).take (Fr.whole ((L.take k).map (Dd.enc s)) q) = AL at HWI CRR
     generalize Ty.S ((Jn.tx s (L.take k)).take q) = X2 at hxe hqs CRR
     clear hX hb hyz hq2 htl hl HKX hk0 hne hrt hrd
     go_wp2_with fail
     refine (CRR.out wr HBB.out).mono ?_
     rintro e w3 ⟨p, rfl, hp, g3⟩
     have HB3 := Lib.hid (HBB.out.trans (g3.mono HBB.out.size))
     have HO3 := Lib.hid (Bt.Buf.kept HO.out g3)
     have HP := Lib.hid hp
     obtain ⟨pa, pc, rfl, -⟩ := hp
     obtain ⟨ea, ec, rfl, hee⟩ := (Bt.Buf.sl HO3.out).is
     clear g3
     obtain ⟨b2, o2, HEA, HCE⟩ : ∃ b2 o2, Hid (k ≠ 0 → ea = some ⟨b2, o2, none⟩) ∧ Hid (∀ i, i < k → ∀ wz, Below w3.heap.size w3 wz → wz.cell? ⟨b2, o2 + i, none⟩ = some (Jn.ends s L i)) := by
      rcases hee with h | ⟨b2, o2, rfl, hlt, h⟩
      ·exact ⟨0, 0, Lib.hid fun h2 => absurd h h2, Lib.hid fun i hi => by omega⟩
      ·exact ⟨b2, o2, Lib.hid fun _ => rfl, Lib.hid fun i hi wz g => (g.cell (p := ⟨b2, o2 + i, none⟩) hlt).trans (h i hi)⟩
     clear hee
     go_wp2_with fail
     go_loopw [15] (fun iv wr => ∃ j : Nat, j ≤ k ∧ iv = .int .i64 j ∧ Hid (∀ i, i < j → Jn.en s L i ≤ q) ∧ Below w3.heap.size w3 wr) (fun iv _ => k - (intOf iv).toNat)
     case atStart => exact ⟨0, by omega, rfl, Lib.hid (fun i hi => absurd hi (by omega)), Below.refl _ _⟩
     case round =>
      obtain ⟨j, hjk, rfl, HQ5, hb2⟩ := hrel
      have HBR := Lib.hid (HB3.out.trans (hb2.mono HB3.out.size))
      have HP2 := Lib.hid (HP.out.later hb2)
      have dj0 : (0 : Int) ≤ (j : Int) := by omega
      have HJK := Lib.hid hjk
      have hend : Hid (∀ (HZ : (L.take j) = AL), Calls Tryd.prog 12 #[.slice pa AL.length pc, .slice ua j uc] wr fun e w' => e = .returned (.bool true) ∧ Below wr.heap.size wr w') := Lib.hid fun HZ => by
       have h1 : Bk.Ds wr (.slice ua j uc) (L.take j) := Jn.ds_take (HU.out.later HBR.out) (by omega)
       rw [HZ] at h1
       exact Bk.rsame_c _ _ AL wr HP2.out h1
      have hju : (j : Int) ≤ (uc : Int) := by omega
      by_cases hl2 : j < k
      ·obtain rfl := HEA.out (by omega)
       have hcj := HCE.out j hl2 _ hb2
       unfold Jn.ends at hcj
       have dj : (j : Int) < (k : Int) := by omega
       have dj2 : (j : Int) < 140737488355328 := by omega
       by_cases hzq : Jn.en s L j ≤ q
       ·have HQ6 : Hid (∀ i, i < j + 1 → Jn.en s L i ≤ q) := Lib.hid fun i hi => by
         rcases (by omega : i < j ∨ i = j) with h | rfl
         ·exact HQ5.out i h
         ·exact hzq
        have HJ2 : Hid (j + 1 ≤ k) := Lib.hid hl2
        generalize Jn.en s L j = Z at hcj hzq
        have hzi : (Z : Int) ≤ (q : Int) := by omega
        have HB2 := Lib.hid hb2
        clear hzq hb2 hl2 hjk
        go_wp2
        go_roundw
        case rel => exact ⟨j + 1, HJ2.out, by simp, HQ6, HB2.out⟩
        case measure => (have := HJ2.out; simp [intOf]; omega)
       ·have CS := Lib.hid (hend.out (HWI.out j hjk HQ5.out (.inr (by omega))).symm)
        generalize Jn.en s L j = Z at hcj hzq
        have hzi : ¬ (Z : Int) ≤ (q : Int) := by omega
        clear hzq hb2 hl2 hjk hend
        try clear hxe; try clear hq; try clear hqs; try clear hq0; try clear hq1; try clear hq3; try clear hXs
        go_wp2_with fail
        refine (CS.out).mono ?_
        rintro e w5 ⟨rfl, g5⟩
        have HB5 := Lib.hid (HBR.out.trans (g5.mono HBR.out.size))
        clear g5
        go_wp2
        go_ret
        exact ⟨rfl, HB5.out⟩
      ·obtain rfl : j = k := by omega
       have CS := Lib.hid (hend.out (HWI.out j hjk HQ5.out (.inl rfl)).symm)
       have dj : ¬ (j : Int) < (j : Int) := by omega
       clear hb2 hl2 hjk hend
       try clear hxe; try clear hq; try clear hqs; try clear hq0; try clear hq1; try clear hq3; try clear hXs
       go_wp2_with fail
       refine (CS.out).mono ?_
       rintro e w5 ⟨rfl, g5⟩
       have HB5 := Lib.hid (HBR.out.trans (g5.mono HBR.out.size))
       clear g5
       go_wp2
       go_ret
       exact ⟨rfl, HB5.out⟩
end
section
open Go.RowKit Go.ChangeShapes Go.WideShapes Go.ChangeAt Go.Deep
section
variable {H : Type} {enc : TypeId × Value → H} {W : World}
set_option maxRecDepth 100000 in
theorem Cl.open_cells {fuel : Nat} {cs : List Value} {z : DataW H × List MemPlace} (h : DataW.trod enc Tryd.prog W 0 (fun _ => true) true fuel 46 cs = some z) :
 ∃ x : Kn.V, cs = [.bool x.null, .int .i64 x.n, .string x.s] ∧ Ty.I64 x.n := by
 obtain ⟨xs, f', _, hx, hcl, hxl, hg⟩ := DataW.trod_struct Tryd.underlying46 h
 have hC : Tryd.prog.cellsOf 46 = 3 := by kernel_rfl
 have i3 : Tryd.prog.cellsOf 4 = 1 := by kernel_rfl
 have i2 : Tryd.prog.cellsOf 2 = 1 := by kernel_rfl
 have i9 : Tryd.prog.cellsOf 9 = 1 := by kernel_rfl
 rw [hC] at hcl
 match cs, hcl, xs, hxl with
 | [c0, c1, c2], _, [y0, y1, y2], _ =>
   have g0 : DataW.trod enc Tryd.prog W 0 (fun _ => true) true f' 4 ((List.drop 0 [c0, c1, c2]).take (Tryd.prog.cellsOf 4)) = some y0 := hg 0 _ rfl
   have g1 : DataW.trod enc Tryd.prog W 0 (fun _ => true) true f' 2 ((List.drop 1 [c0, c1, c2]).take (Tryd.prog.cellsOf 2)) = some y1 := hg 1 _ rfl
   have g2 : DataW.trod enc Tryd.prog W 0 (fun _ => true) true f' 9 ((List.drop 2 [c0, c1, c2]).take (Tryd.prog.cellsOf 9)) = some y2 := hg 2 _ rfl
   rw [i3] at g0
   rw [i2] at g1
   rw [i9] at g2
   obtain ⟨k, e0, r0⟩ := DataW.trod_bool Tryd.underlying4 (show DataW.trod enc Tryd.prog W 0 (fun _ => true) true f' 4 [c0] = some y0 from g0)
   obtain ⟨n, e1, r1, w1⟩ := DataW.trod_int Tryd.underlying2 (show DataW.trod enc Tryd.prog W 0 (fun _ => true) true f' 2 [c1] = some y1 from g1)
   obtain ⟨s, e2, r2, _⟩ := DataW.trod_string Tryd.underlying9 (show DataW.trod enc Tryd.prog W 0 (fun _ => true) true f' 9 [c2] = some y2 from g2)
   simp only [List.cons.injEq, and_true] at e0 e1 e2
   subst e0 e1 e2 r0 r1 r2
   exact ⟨⟨k, n, s⟩, rfl, bounds_i64 w1⟩
end
end
section
open Go.RowKit Go.ChangeShapes Go.WideShapes Go.ChangeAt Go.Deep
section
variable {H : Type} {enc : TypeId × Value → H} {W : World}
def Kn.rd (x : Kn.V) : DataW H := .agg [.lit (.bool x.null), .lit (.int .i64 x.n), .lit (.string x.s.data.toList)]
set_option maxRecDepth 100000 in
theorem Kn.open_cells {fuel : Nat} {cs : List Value} {z : DataW H × List MemPlace} (h : DataW.trod enc Tryd.prog W 0 (fun _ => true) true fuel 46 cs = some z) :
 ∃ x : Kn.V, cs = [.bool x.null, .int .i64 x.n, .string x.s] ∧ z.1 = Kn.rd x := by
 obtain ⟨xs, f', _, hx, hcl, hxl, hg⟩ := DataW.trod_struct Tryd.underlying46 h
 have hC : Tryd.prog.cellsOf 46 = 3 := by kernel_rfl
 have i3 : Tryd.prog.cellsOf 4 = 1 := by kernel_rfl
 have i2 : Tryd.prog.cellsOf 2 = 1 := by kernel_rfl
 have i9 : Tryd.prog.cellsOf 9 = 1 := by kernel_rfl
 rw [hC] at hcl
 match cs, hcl, xs, hxl with
 | [c0, c1, c2], _, [y0, y1, y2], _ =>
   have g0 : DataW.trod enc Tryd.prog W 0 (fun _ => true) true f' 4 ((List.drop 0 [c0, c1, c2]).take (Tryd.prog.cellsOf 4)) = some y0 := hg 0 _ rfl
   have g1 : DataW.trod enc Tryd.prog W 0 (fun _ => true) true f' 2 ((List.drop 1 [c0, c1, c2]).take (Tryd.prog.cellsOf 2)) = some y1 := hg 1 _ rfl
   have g2 : DataW.trod enc Tryd.prog W 0 (fun _ => true) true f' 9 ((List.drop 2 [c0, c1, c2]).take (Tryd.prog.cellsOf 9)) = some y2 := hg 2 _ rfl
   rw [i3] at g0
   rw [i2] at g1
   rw [i9] at g2
   obtain ⟨k, e0, r0⟩ := DataW.trod_bool Tryd.underlying4 (show DataW.trod enc Tryd.prog W 0 (fun _ => true) true f' 4 [c0] = some y0 from g0)
   obtain ⟨n, e1, r1, w1⟩ := DataW.trod_int Tryd.underlying2 (show DataW.trod enc Tryd.prog W 0 (fun _ => true) true f' 2 [c1] = some y1 from g1)
   obtain ⟨s, e2, r2, _⟩ := DataW.trod_string Tryd.underlying9 (show DataW.trod enc Tryd.prog W 0 (fun _ => true) true f' 9 [c2] = some y2 from g2)
   simp only [List.cons.injEq, and_true] at e0 e1 e2
   subst e0 e1 e2 r0 r1 r2
   exact ⟨⟨k, n, s⟩, rfl, by rw [hx]; rfl⟩
set_option maxRecDepth 100000 in
theorem Kn.open_col_cells {fuel : Nat} {cs : List Value} {z : DataW H × List MemPlace} (h : DataW.trod enc Tryd.prog W 0 (fun _ => true) true fuel 44 cs = some z) :
 ∃ x : Kn.C, cs = [.int .i64 x.k, .bool x.null] := by
 obtain ⟨xs, f', _, hx, hcl, hxl, hg⟩ := DataW.trod_struct Tryd.underlying44 h
 have hC : Tryd.prog.cellsOf 44 = 2 := by kernel_rfl
 have i3 : Tryd.prog.cellsOf 4 = 1 := by kernel_rfl
 have i2 : Tryd.prog.cellsOf 42 = 1 := by kernel_rfl
 rw [hC] at hcl
 match cs, hcl, xs, hxl with
 | [c0, c1], _, [y0, y1], _ =>
   have g0 : DataW.trod enc Tryd.prog W 0 (fun _ => true) true f' 42 ((List.drop 0 [c0, c1]).take (Tryd.prog.cellsOf 42)) = some y0 := hg 0 _ rfl
   have g1 : DataW.trod enc Tryd.prog W 0 (fun _ => true) true f' 4 ((List.drop 1 [c0, c1]).take (Tryd.prog.cellsOf 4)) = some y1 := hg 1 _ rfl
   rw [i2] at g0
   rw [i3] at g1
   obtain ⟨n, e0, _⟩ := DataW.trod_int Tryd.underlying42 (show DataW.trod enc Tryd.prog W 0 (fun _ => true) true f' 42 [c0] = some y0 from g0)
   obtain ⟨k, e1, _⟩ := DataW.trod_bool Tryd.underlying4 (show DataW.trod enc Tryd.prog W 0 (fun _ => true) true f' 4 [c1] = some y1 from g1)
   simp only [List.cons.injEq, and_true] at e0 e1
   subst e0 e1
   exact ⟨⟨n, k⟩, rfl⟩
set_option maxRecDepth 100000 in
theorem Kn.open_cols {a0 : Option Addr} {len cap : Nat} {d : DataW H} {ps : List MemPlace} (h : DataW.Trod enc Tryd.prog W 0 (fun _ => true) true 27 (.slice a0 len cap) d ps) :
 ∃ l : List Kn.C, Kn.Cols W (.slice a0 len cap) l := by
 obtain ⟨fuel, hf⟩ := h
 have hC : Tryd.prog.cellsOf 44 = 2 := by kernel_rfl
 rcases open_slice Tryd.underlying27 hf with ⟨hcs, hx⟩ | ⟨a, len', cap', m, n, D, Pl, hcs, _, hl, hm, hmm, hx, hi⟩
 ·have hv : Value.slice a0 len cap = .slice none 0 0 := by simpa [Value.cells] using hcs
  exact ⟨[], ⟨none, 0, hv, .inl rfl⟩⟩
 ·have hv : Value.slice a0 len cap = .slice (some a) len' cap' := by simpa [Value.cells] using hcs
  simp only [Value.slice.injEq] at hv
  obtain ⟨rfl, rfl, rfl⟩ := hv
  simp only [if_true] at hmm
  by_cases hz : len = 0
  ·subst hz
   exact ⟨[], ⟨some a, cap, rfl, .inl rfl⟩⟩
  ·rw [hC] at hi
   have hone : ∀ i, i < len → ∃ x : Kn.C, W.cell? (a.add (i * 2)) = some (.int .i64 x.k) ∧ W.cell? (a.add (i * 2 + 1)) = some (.bool x.null) := fun i hil => by
    obtain ⟨cs', hc, ht⟩ := hi i (by omega)
    obtain ⟨x, rfl⟩ := Kn.open_col_cells ht
    obtain ⟨_, _, hat⟩ := World.cells?_some hc
    have a0 := hat 0 (by omega)
    have a1 := hat 1 (by omega)
    rw [add_add] at a0 a1
    exact ⟨x, a0, a1⟩
   obtain ⟨b, off, spot⟩ := a
   have hspot : spot = none := by
    obtain ⟨x, h0, _⟩ := hone 0 (by omega)
    simpa [Addr.add] using World.cell?_spot h0
   subst hspot
   have hlt : b < W.heap.size := by
    obtain ⟨x, h0, _⟩ := hone 0 (by omega)
    have := World.block_lt_of_cell? W _ h0
    simpa [Addr.add] using this
   have hch : ∃ f : Nat → Kn.C, ∀ i, i < len → W.cell? ⟨b, off + i * 2, none⟩ = some (.int .i64 (f i).k) ∧ W.cell? ⟨b, off + i * 2 + 1, none⟩ = some (.bool (f i).null) := by
    have hone' : ∀ i, i < len → ∃ x : Kn.C, W.cell? ⟨b, off + i * 2, none⟩ = some (.int .i64 x.k) ∧ W.cell? ⟨b, off + i * 2 + 1, none⟩ = some (.bool x.null) := fun i hil => by
     obtain ⟨x, h0, h1⟩ := hone i hil
     rw [add_plain] at h0 h1
     rw [← Nat.add_assoc] at h1
     exact ⟨x, h0, h1⟩
    refine ⟨fun i => if hil : i < len then (hone' i hil).choose else ⟨0, false⟩, fun i hil => ?_⟩
    have hs := (hone' i hil).choose_spec
    simp only [dif_pos hil]
    exact hs
   obtain ⟨f, hf'⟩ := hch
   refine ⟨(List.range len).map f, ⟨some ⟨b, off, none⟩, cap, by simp, .inr ⟨b, off, rfl, hlt, by unfold maxLen at hm; simp; omega, fun i x hix => ?_⟩⟩⟩
   rw [List.getElem?_map, Option.map_eq_some_iff] at hix
   obtain ⟨i', hi', rfl⟩ := hix
   obtain ⟨hil, rfl⟩ := List.getElem?_eq_some_iff.1 hi'
   rw [List.getElem_range]
   rw [List.length_range] at hil
   exact hf' i hil
end
end
section
open Go.RowKit Go.ChangeShapes Go.WideShapes Go.ChangeAt Go.Deep
section
variable {H : Type} {enc : TypeId × Value → H} {W : World}
set_option maxRecDepth 100000 in
theorem Dd.cap_cols {a0 : Option Addr} {len cap : Nat} {d : DataW H} {ps : List MemPlace} (h : DataW.Trod enc Tryd.prog W 0 (fun _ => true) true 27 (.slice a0 len cap) d ps) : len ≤ cap := by
 obtain ⟨fuel, hf⟩ := h
 rcases open_slice Tryd.underlying27 hf with ⟨hcs, hx⟩ | ⟨a, len', cap', m, n, D, Pl, hcs, _, hl, hm, hmm, hx, hi⟩
 ·have hv : Value.slice a0 len cap = .slice none 0 0 := by simpa [Value.cells] using hcs
  simp only [Value.slice.injEq] at hv
  omega
 ·have hv : Value.slice a0 len cap = .slice (some a) len' cap' := by simpa [Value.cells] using hcs
  simp only [Value.slice.injEq] at hv
  omega
end
end
section
open Go.RowKit Go.ChangeShapes Go.WideShapes Go.ChangeAt Go.Deep
def Bk.In (x : Kn.V) : Prop := Kn.Z x ∧ Ty.I64 x.n
section
variable {H : Type} {enc : TypeId × Value → H} {W : World}
theorem Bk.wa {P : Program} {e : TypeId} {d : DataW H} {n : Nat} : ∀ {l : List (DataW H)}, d ∈ l → n ∈ d.weights P e → n ∈ DataW.weightsAll P e l
 | x :: l, hd, hn => by
   rw [DataW.weightsAll, List.mem_append]
   rcases List.mem_cons.1 hd with rfl | hd
   ·exact .inl hn
   ·exact .inr (Bk.wa hd hn)
set_option maxRecDepth 100000 in
theorem Bk.open_row {fuel : Nat} {c1 : Value} {z : DataW H × List MemPlace} (h : DataW.trod enc Tryd.prog W 0 (fun _ => true) true fuel 34 [c1] = some z)
 (hs : ∀ n ∈ z.1.weights Tryd.prog 34, n ≤ reachBytes) : ∃ l : List Kn.V, Kn.Vals W c1 l ∧ ∀ x ∈ l, Bk.In x := by
 have hC : Tryd.prog.cellsOf 46 = 3 := by kernel_rfl
 have hB : Tryd.prog.bytesOf 46 = 32 := by kernel_rfl
 rcases open_slice Tryd.underlying34 h with ⟨hcs, hx⟩ | ⟨a, len, cap, m, n, D, Pl, hcs, _, hl, hm, hmm, hx, hi⟩
 ·obtain rfl : c1 = .slice none 0 0 := by simpa using hcs
  exact ⟨[], ⟨none, 0, rfl, .inl rfl⟩, fun x hx => by cases hx⟩
 ·obtain rfl : c1 = .slice (some a) len cap := by simpa using hcs
  simp only [if_true] at hmm
  by_cases hz : len = 0
  ·subst hz
   exact ⟨[], ⟨some a, cap, rfl, .inl rfl⟩, fun x hx => by cases hx⟩
  ·have hz1 : z.1 = .slice ((List.range len).map D) ((List.range (m - len)).map fun j => D (len + j)) := by rw [hx]
   rw [hz1] at hs
   simp only [DataW.weights, Tryd.underlying34, List.mem_cons, List.mem_append] at hs
   have hcap := hs _ (.inl rfl)
   simp only [List.length_map, List.length_range, hB, reachBytes] at hcap
   have hstr : ∀ i, i < len → ∀ q, q ∈ (D i).weights Tryd.prog 46 → q ≤ reachBytes := fun i hil q hq =>
    hs q (.inr (.inl (Bk.wa (List.mem_map.2 ⟨i, List.mem_range.2 hil, rfl⟩) hq)))
   rw [hC] at hi
   have hone : ∀ i, i < len → ∃ x : Kn.V, (W.cell? (a.add (i * 3)) = some (.bool x.null) ∧ W.cell? (a.add (i * 3 + 1)) = some (.int .i64 x.n) ∧ W.cell? (a.add (i * 3 + 2)) = some (.string x.s)) ∧ Bk.In x := fun i hil => by
    obtain ⟨cs', hc, ht⟩ := hi i (by omega)
    obtain ⟨x, hxc, hd⟩ := Kn.open_cells ht
    obtain ⟨y, hyc, hy64⟩ := Cl.open_cells ht
    have hxy : Ty.I64 x.n := by
     rw [hxc] at hyc
     simp only [List.cons.injEq, Value.int.injEq, true_and] at hyc
     rw [hyc.2.1]
     exact hy64
    subst hxc
    clear hyc
    obtain ⟨_, _, hat⟩ := World.cells?_some hc
    have a0 := hat 0 (by omega)
    have a1 := hat 1 (by omega)
    have a2 := hat 2 (by omega)
    rw [add_add] at a0 a1 a2
    refine ⟨x, ⟨a0, a1, a2⟩, ?_, hxy⟩
    have h1 := hstr i hil x.s.size (by
     rw [show D i = Kn.rd x from hd]
     unfold Kn.rd
     simp only [DataW.weights, Tryd.underlying46]
     show x.s.size ∈ DataW.weightsEach Tryd.prog [4, 2, 9] [.lit (.bool x.null), .lit (.int .i64 x.n), .lit (.string x.s.data.toList)]
     simp [DataW.weightsEach, DataW.weights])
    unfold reachBytes at h1
    unfold Kn.Z
    omega
   obtain ⟨b, off, spot⟩ := a
   have hspot : spot = none := by
    obtain ⟨x, ⟨h0, _⟩, _⟩ := hone 0 (by omega)
    simpa [Addr.add] using World.cell?_spot h0
   subst hspot
   have hlt : b < W.heap.size := by
    obtain ⟨x, ⟨h0, _⟩, _⟩ := hone 0 (by omega)
    have := World.block_lt_of_cell? W _ h0
    simpa [Addr.add] using this
   have hch : ∃ f : Nat → Kn.V, ∀ i, i < len → Kn.At W b (off + i * 3) (f i) ∧ Bk.In (f i) := by
    have hone' : ∀ i, i < len → ∃ x : Kn.V, Kn.At W b (off + i * 3) x ∧ Bk.In x := fun i hil => by
     obtain ⟨x, ⟨h0, h1, h2⟩, h3⟩ := hone i hil
     rw [add_plain] at h0 h1 h2
     rw [← Nat.add_assoc] at h1 h2
     exact ⟨x, ⟨h0, h1, h2⟩, h3⟩
    refine ⟨fun i => if hil : i < len then (hone' i hil).choose else ⟨false, 0, ⟨#[]⟩⟩, fun i hil => ?_⟩
    have hs := (hone' i hil).choose_spec
    simp only [dif_pos hil]
    exact hs
   obtain ⟨f, hf'⟩ := hch
   have hlen : ((List.range len).map f).length = len := by simp
   refine ⟨(List.range len).map f, ⟨some ⟨b, off, none⟩, cap, by rw [hlen], .inr ⟨b, off, rfl, hlt, by rw [hlen]; omega, fun i x hix => ?_⟩⟩, fun x hx => ?_⟩
   ·rw [List.getElem?_map, Option.map_eq_some_iff] at hix
    obtain ⟨i', hi', rfl⟩ := hix
    obtain ⟨hil, rfl⟩ := List.getElem?_eq_some_iff.1 hi'
    rw [List.getElem_range]
    rw [List.length_range] at hil
    exact (hf' i hil).1
   ·obtain ⟨i, hi, rfl⟩ := List.mem_map.1 hx
    exact (hf' i (List.mem_range.1 hi)).2
set_option maxRecDepth 100000 in
theorem Bk.open_deed_cells {fuel : Nat} {cs : List Value} {z : DataW H × List MemPlace} (h : DataW.trod enc Tryd.prog W 0 (fun _ => true) true fuel 36 cs = some z)
 (hs : ∀ n ∈ z.1.weights Tryd.prog 36, n ≤ reachBytes) : ∃ (x : Dd.D) (u : Value), cs = [.bool x.gone, u] ∧ Kn.Vals W u x.row ∧ ∀ y ∈ x.row, Bk.In y := by
 obtain ⟨xs, f', _, hx, hcl, hxl, hg⟩ := DataW.trod_struct Tryd.underlying36 h
 have hC : Tryd.prog.cellsOf 36 = 2 := by kernel_rfl
 have i3 : Tryd.prog.cellsOf 4 = 1 := by kernel_rfl
 have ir : Tryd.prog.cellsOf 34 = 1 := by kernel_rfl
 rw [hC] at hcl
 match cs, hcl, xs, hxl with
 | [c0, c1], _, [y0, y1], _ =>
   have g0 : DataW.trod enc Tryd.prog W 0 (fun _ => true) true f' 4 ((List.drop 0 [c0, c1]).take (Tryd.prog.cellsOf 4)) = some y0 := hg 0 _ rfl
   have g1 : DataW.trod enc Tryd.prog W 0 (fun _ => true) true f' 34 ((List.drop 1 [c0, c1]).take (Tryd.prog.cellsOf 34)) = some y1 := hg 1 _ rfl
   rw [i3] at g0
   rw [ir] at g1
   obtain ⟨k, e0, r0⟩ := DataW.trod_bool Tryd.underlying4 (show DataW.trod enc Tryd.prog W 0 (fun _ => true) true f' 4 [c0] = some y0 from g0)
   have g1 : DataW.trod enc Tryd.prog W 0 (fun _ => true) true f' 34 [c1] = some y1 := g1
   simp only [List.cons.injEq, and_true] at e0
   subst e0
   obtain ⟨l, hl, hin⟩ := Bk.open_row g1 fun n hn => hs n (by
    have hz : z.1 = .agg [y0.1, y1.1] := by rw [hx]; rfl
    rw [hz]
    simp only [DataW.weights, Tryd.underlying36]
    show n ∈ DataW.weightsEach Tryd.prog [4, 34] [y0.1, y1.1]
    simp only [DataW.weightsEach, List.append_nil, List.mem_append]
    exact .inr hn)
   exact ⟨⟨k, l⟩, c1, rfl, hl, hin⟩
theorem Bk.fits {ts : List TypeId} {ds : List (DataW H)} (h : (DataW.weightsEach Tryd.prog ts ds).all (· ≤ reachBytes) = true) {j : Nat} {t : TypeId} {d : DataW H} (ht : ts[j]? = some t) (hd : ds[j]? = some d) : ∀ n ∈ d.weights Tryd.prog t, n ≤ reachBytes :=
 fun n hn => of_decide_eq_true (List.all_eq_true.1 h n (DataW.weights_mem_each ht hd _ hn))
set_option maxRecDepth 100000 in
theorem Bk.open_deeds {ts : List TypeId} {ds : List (DataW H)} (hsz : (DataW.weightsEach Tryd.prog ts ds).all (· ≤ reachBytes) = true) {j : Nat} {v : Value} {d : DataW H} {ps : List MemPlace} {r : Reach} {b0 : Nat}
 (ht : ts[j]? = some 28) (hd : ds[j]? = some d) (hv : Value.okWide Tryd.prog W r b0 28 v) (h : DataW.Trod enc Tryd.prog W 0 (fun _ => true) true 28 v d ps) :
 ∃ L : List Dd.D, Bk.Ds W v L ∧ Bk.Zs L ∧ ∀ d ∈ L, ∀ x ∈ d.row, Ty.I64 x.n := by
 obtain ⟨a0, len0, cap0, rfl⟩ := okWide_slice Tryd.underlying28 hv
 obtain ⟨fuel, hf⟩ := h
 have hs := Bk.fits hsz ht hd
 have hC : Tryd.prog.cellsOf 36 = 2 := by kernel_rfl
 rcases open_slice Tryd.underlying28 hf with ⟨hcs, hx⟩ | ⟨a, len, cap, m, n, D, Pl, hcs, _, hl, hm, hmm, hx, hi⟩
 ·have hv : Value.slice a0 len0 cap0 = .slice none 0 0 := by simpa [Value.cells] using hcs
  exact ⟨[], ⟨none, 0, hv, Nat.le_refl _, by decide, .inl rfl⟩, (fun x hx => by cases hx), fun x hx => by cases hx⟩
 ·have hv : Value.slice a0 len0 cap0 = .slice (some a) len cap := by simpa [Value.cells] using hcs
  rw [hv]
  simp only [if_true] at hmm
  have hm' : cap ≤ 9223372036854775807 := by unfold maxLen at hm; omega
  by_cases hz : len = 0
  ·subst hz
   exact ⟨[], ⟨some a, cap, rfl, Nat.zero_le _, hm', .inl rfl⟩, (fun x hx => by cases hx), fun x hx => by cases hx⟩
  ·have hz1 : d = .slice ((List.range len).map D) ((List.range (m - len)).map fun j => D (len + j)) := by
    have := congrArg Prod.fst hx
    exact this
   rw [hz1] at hs
   simp only [DataW.weights, Tryd.underlying28, List.mem_cons, List.mem_append] at hs
   have hstr : ∀ i, i < len → ∀ q, q ∈ (D i).weights Tryd.prog 36 → q ≤ reachBytes := fun i hil q hq =>
    hs q (.inr (.inl (Bk.wa (List.mem_map.2 ⟨i, List.mem_range.2 hil, rfl⟩) hq)))
   rw [hC] at hi
   have hone : ∀ i, i < len → ∃ (x : Dd.D) (u : Value), (W.cell? (a.add (i * 2)) = some (.bool x.gone) ∧ W.cell? (a.add (i * 2 + 1)) = some u) ∧ Kn.Vals W u x.row ∧ ∀ y ∈ x.row, Bk.In y := fun i hil => by
    obtain ⟨cs', hc, ht⟩ := hi i (by omega)
    obtain ⟨x, u, rfl, hg⟩ := Bk.open_deed_cells ht (hstr i hil)
    obtain ⟨_, _, hat⟩ := World.cells?_some hc
    have a0 := hat 0 (by omega)
    have a1 := hat 1 (by omega)
    rw [add_add] at a0 a1
    exact ⟨x, u, ⟨a0, a1⟩, hg⟩
   obtain ⟨b, off, spot⟩ := a
   have hspot : spot = none := by
    obtain ⟨x, u, ⟨h0, _⟩, _⟩ := hone 0 (by omega)
    simpa [Addr.add] using World.cell?_spot h0
   subst hspot
   have hlt : b < W.heap.size := by
    obtain ⟨x, u, ⟨h0, _⟩, _⟩ := hone 0 (by omega)
    have := World.block_lt_of_cell? W _ h0
    simpa [Addr.add] using this
   have hch : ∃ f : Nat → Dd.D, ∀ i, i < len → ∃ u, (W.cell? ⟨b, off + i * 2, none⟩ = some (.bool (f i).gone) ∧ W.cell? ⟨b, off + i * 2 + 1, none⟩ = some u) ∧ Kn.Vals W u (f i).row ∧ ∀ y ∈ (f i).row, Bk.In y := by
    have hone' : ∀ i, i < len → ∃ x : Dd.D, ∃ u, (W.cell? ⟨b, off + i * 2, none⟩ = some (.bool x.gone) ∧ W.cell? ⟨b, off + i * 2 + 1, none⟩ = some u) ∧ Kn.Vals W u x.row ∧ ∀ y ∈ x.row, Bk.In y := fun i hil => by
     obtain ⟨x, u, ⟨h0, h1⟩, h3⟩ := hone i hil
     rw [add_plain] at h0 h1
     rw [← Nat.add_assoc] at h1
     exact ⟨x, u, ⟨h0, h1⟩, h3⟩
    refine ⟨fun i => if hil : i < len then (hone' i hil).choose else ⟨false, []⟩, fun i hil => ?_⟩
    have hs := (hone' i hil).choose_spec
    simp only [dif_pos hil]
    exact hs
   obtain ⟨f, hf'⟩ := hch
   have hlen : ((List.range len).map f).length = len := by simp
   have hall : ∀ d ∈ (List.range len).map f, ∀ y ∈ d.row, Bk.In y := fun d hd => by
    obtain ⟨i, hi, rfl⟩ := List.mem_map.1 hd
    obtain ⟨_, _, _, h⟩ := hf' i (List.mem_range.1 hi)
    exact h
   refine ⟨(List.range len).map f, ⟨some ⟨b, off, none⟩, cap, by rw [hlen], by rw [hlen]; exact hl, hm', .inr ⟨b, off, rfl, hlt, fun i x hix => ?_⟩⟩, fun d hd y hy => (hall d hd y hy).1, fun d hd y hy => (hall d hd y hy).2⟩
   rw [List.getElem?_map, Option.map_eq_some_iff] at hix
   obtain ⟨i', hi', rfl⟩ := hix
   obtain ⟨hil, rfl⟩ := List.getElem?_eq_some_iff.1 hi'
   rw [List.getElem_range]
   rw [List.length_range] at hil
   obtain ⟨u, ⟨h0, h1⟩, h2, _⟩ := hf' i hil
   exact ⟨u, h0, h1, h2⟩
end
end
end Go.Proofs.YtkhiemkekmdhgaaDoor
