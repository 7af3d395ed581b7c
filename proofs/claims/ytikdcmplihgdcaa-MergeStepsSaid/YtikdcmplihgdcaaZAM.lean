import Derived.Test.YtikdcmplihgdcaaZAI
import Derived.Test.YtikdcmplihgdcaaZAL
import Derived.Test.YtikdcmplihgdcaaZAH
import Derived.Test.YtikdcmplihgdcaaZAK
import Derived.Test.YtikdcmplihgdcaaZAA
import Derived.Lib.QuietBelow
import Derived.BigQuiet
import Derived.Test.YtikdcmplihgdcaaZAJ
namespace Go.Proofs.Ytikdcmplihgdcaa
section
open Go.RowKit
def Mg.sz (LL : List (List Dd.D)) : Nat := (LL.map List.length).sum
theorem Mg.puts_len : ∀ (l M : List Dd.D), (Mg.puts M l).length ≤ M.length + l.length
 | [], M => Nat.le_refl _
 | x :: l, M => by
   have h1 := Mg.puts_len l (Sk.put Bk.key M x)
   have h2 := Sk.put_len (key := Bk.key) M x
   show (Mg.puts (Sk.put Bk.key M x) l).length ≤ _
   rw [List.length_cons]
   omega
theorem Mg.nw_len : ∀ LL : List (List Dd.D), (Mg.nw LL).length ≤ Mg.sz LL
 | [] => Nat.le_refl _
 | l :: LL => by
   have h1 := Mg.puts_len l (Mg.nw LL)
   have h2 := Mg.nw_len LL
   show (Mg.puts (Mg.nw LL) l).length ≤ _
   unfold Mg.sz at h2 ⊢
   rw [List.map_cons, List.sum_cons]
   omega
theorem Mg.sz_drop {LL : List (List Dd.D)} {i : Nat} {L : List Dd.D} (h : LL[i]? = some L) : Mg.sz (LL.drop i) = L.length + Mg.sz (LL.drop (i + 1)) := by
 obtain ⟨hi, rfl⟩ := List.getElem?_eq_some_iff.1 h
 rw [List.drop_eq_getElem_cons hi]
 unfold Mg.sz
 rw [List.map_cons, List.sum_cons]
theorem Mg.sz_le : ∀ (LL : List (List Dd.D)) (i : Nat), Mg.sz (LL.drop i) ≤ Mg.sz LL
 | [], i => by rw [List.drop_nil]; exact Nat.le_refl _
 | l :: LL, 0 => Nat.le_refl _
 | l :: LL, i + 1 => by
   have := Mg.sz_le LL i
   rw [List.drop_succ_cons]
   unfold Mg.sz at this ⊢
   rw [List.map_cons, List.sum_cons]
   omega
theorem Mg.nw_drop {LL : List (List Dd.D)} {i : Nat} {L : List Dd.D} (h : LL[i]? = some L) : Mg.nw (LL.drop i) = Mg.puts (Mg.nw (LL.drop (i + 1))) L := by
 obtain ⟨hi, rfl⟩ := List.getElem?_eq_some_iff.1 h
 rw [List.drop_eq_getElem_cons hi]
 rfl
theorem Mg.puts_next {M L : List Dd.D} {k : Nat} {d : Dd.D} (h : L[k]? = some d) : Mg.puts M (L.take (k + 1)) = Sk.put Bk.key (Mg.puts M (L.take k)) d := by
 obtain ⟨hk, rfl⟩ := List.getElem?_eq_some_iff.1 h
 rw [List.take_succ_eq_append_getElem hk]
 unfold Mg.puts
 rw [List.foldl_append]
 rfl
theorem Mg.not_all {LL : List (List Dd.D)} {i : Nat} {L : List Dd.D} (h : LL[i]? = some L) (hs : Bk.sorted L = false) : Mg.all LL = false := by
 unfold Mg.all
 rw [List.all_eq_false]
 exact ⟨L, List.mem_of_getElem? h, by rw [hs]; decide⟩
theorem Mg.yes_all {LL : List (List Dd.D)} (h : ∀ i L, i < LL.length → LL[i]? = some L → Bk.sorted L = true) : Mg.all LL = true := by
 unfold Mg.all
 rw [List.all_eq_true]
 intro L hL
 obtain ⟨i, hi, e⟩ := List.getElem_of_mem hL
 exact h i L hi (by rw [List.getElem?_eq_getElem hi, e])
theorem Mg.rl_ds {S : Nat → Prop} {B : Nat} {w : World} {p : Nat} {v : Value} {M : List Sk.E} (h : Sk.RL S B w p v M) : Bk.Ds w v (M.map Sk.E.d) := by
 rcases h.own.form with ⟨rfl, rfl⟩ | ⟨g, c, rfl, h1, h2, _, h4⟩
 ·exact ⟨none, 0, rfl, Nat.le_refl _, by omega, .inl rfl⟩
 ·refine ⟨_, c, by rw [List.length_map], by rw [List.length_map]; exact h1, by unfold maxLen at h2; omega, .inr ⟨g, 0, rfl, h4, fun i x hx => ?_⟩⟩
  rw [List.getElem?_map] at hx
  cases hy : M[i]? with
  | none => rw [hy] at hx; cases hx
  | some y =>
    rw [hy] at hx
    obtain rfl : y.d = x := by simpa using hx
    have c0 := h.own.cell Sk.enc_len rfl hy (j := 0) (by decide)
    have c1 := h.own.cell Sk.enc_len rfl hy (j := 1) (by decide)
    rw [Nat.add_zero] at c0
    rw [Nat.zero_add]
    exact ⟨y.rv, c0, c1, (h.rows y (List.mem_of_getElem? hy)).1.vals⟩
theorem Mg.row_of {w : World} {u : Value} {l : List Kn.V} (h : Kn.Vals w u l) (hz : ∀ x ∈ l, Kn.Z x) (hl : l.length ≤ 9223372036854775807) : Sk.Row w.heap.size w u l := by
 obtain ⟨a, c, hv, h⟩ := h
 refine ⟨a, c, hv, hl, hz, ?_⟩
 rcases h with h | ⟨b, o, ha, hb, _, h⟩
 ·exact .inl h
 ·exact .inr ⟨b, o, ha, hb, hb, h⟩
theorem Mg.vals_len {w : World} {u : Value} {l : List Kn.V} (h : Kn.Vals w u l) : l.length ≤ 9223372036854775807 := by
 obtain ⟨a, c, hv, h⟩ := h
 rcases h with rfl | ⟨b, o, ha, hb, hm, h⟩
 ·simp
 ·exact hm
def Mg.NwD (w : World) (LL : List (List Dd.D)) (e : Ending) (w' : World) : Prop := ∃ u, e = .returned (.tuple #[u, .int .i64 (Mg.err LL)]) ∧ Bk.Ds w' u (Mg.res LL) ∧ Below w.heap.size w w'
theorem Mg.nw_bad {w w' : World} {LL : List (List Dd.D)} (h : Mg.all LL = false) (g : Below w.heap.size w w') : Mg.NwD w LL (.returned (.tuple #[.slice none 0 0, .int .i64 1])) w' := by
 refine ⟨_, by unfold Mg.err; rw [h]; rfl, ?_, g⟩
 unfold Mg.res
 rw [h]
 exact ⟨none, 0, rfl, Nat.le_refl _, by omega, .inl rfl⟩
theorem Mg.nw_good {w w' : World} {LL : List (List Dd.D)} {u : Value} (h : Mg.all LL = true) (hu : Bk.Ds w' u (Mg.nw LL)) (g : Below w.heap.size w w') : Mg.NwD w LL (.returned (.tuple #[u, .int .i64 0])) w' := by
 refine ⟨_, by unfold Mg.err; rw [if_pos h], ?_, g⟩
 unfold Mg.res
 rw [if_pos h]
 exact hu
def Mg.Lst (w : World) (p : Nat) (X : List Dd.D) (W : World) : Prop := ∃ (S : Nat → Prop) (v : Value) (M : List Sk.E), Sk.RL S w.heap.size W p v M ∧ M.map Sk.E.d = X ∧ Below w.heap.size w W
theorem Mg.put_c {w W : World} {q : Nat} {X : List Dd.D} (h : Mg.Lst w q X W) (hX : X.length ≤ 100000) {d : Dd.D} {u : Value} (hu : Kn.Vals w u d.row) (hz : ∀ x ∈ d.row, Kn.Z x) (hne : d.row ≠ []) :
 Calls Try.prog 26 #[.pointer (some ⟨q, 0, none⟩), .agg #[.bool d.gone, u]] W fun e W' => e = .returned (.bool true) ∧ Mg.Lst w q (Sk.put Bk.key X d) W' := by
 obtain ⟨S, v, M, h1, rfl, hb⟩ := h
 rw [List.length_map] at hX
 refine (Sk.rput_c h1 ⟨d.gone, u, d.row⟩ ((Mg.row_of hu hz (Mg.vals_len hu)).below hb) hne hX).mono ?_
 rintro e W' ⟨rfl, ⟨v', h2⟩, h3⟩
 exact ⟨rfl, _, v', _, h2, (Sk.map_put (key := Sk.ke) Sk.E.d Sk.kd (fun _ => rfl) M ⟨d.gone, u, d.row⟩).symm, hb.trans (h3.below h1.le h1.from_)⟩
set_option maxHeartbeats 8000000 in
set_option maxRecDepth 100000 in
theorem Mg.rnewest_c (v : Value) (LL : List (List Dd.D)) (w : World) (hv : Mg.Ls w v LL) (hz : ∀ L ∈ LL, Bk.Zs L) (hl : Mg.sz LL ≤ 100000) :
 Calls Try.prog 12 #[v] w (Mg.NwD w LL) := by
 obtain ⟨R, hr, hrv⟩ := hv.lr
 have HRV := Lib.hid hrv
 have HZ := Lib.hid hz
 have HSZ := Lib.hid hl
 obtain ⟨a, c, rfl, hlc, hcm, h⟩ := hr
 have HH := Lib.hid h
 have HCC := Lib.hid (And.intro hlc hcm)
 have HBAD := Lib.hid fun (i : Nat) (L : List Dd.D) (h : LL[i]? = some L) (hs : Bk.sorted L = false) (W : World) (g : Below w.heap.size w W) => Mg.nw_bad (Mg.not_all h hs) g
 have HGOOD := Lib.hid fun (h : ∀ i L, i < LL.length → LL[i]? = some L → Bk.sorted L = true) (W : World) (u : Value) (hu : Bk.Ds W u (Mg.nw LL)) (g : Below w.heap.size w W) => Mg.nw_good (Mg.yes_all h) hu g
 obtain ⟨q, hq⟩ : ∃ q, q = w.heap.size := ⟨_, rfl⟩
 have hst : Mg.Lst w q [] (w.alloc (.cells #[.slice none 0 0] 52)) := by
  refine ⟨fun b => b = q, .slice none 0 0, [], ⟨?_, Dk.Own.nil _ _, fun b hb => by simp [Value.ownBlock] at hb, rfl, fun b hb => by rw [World.size_alloc, hb, hq]; omega, fun b hb => by rw [hb, hq]; exact Nat.le_refl _, fun x hx => by cases hx⟩, rfl, (Below.refl _ _).alloc (Nat.le_refl _) _⟩
  rw [hq]; exact heap_alloc_new w _
 have hsz : (w.alloc (.cells #[.slice none 0 0] 52)).heap.size = q + 1 := by rw [World.size_alloc, hq]
 have HST := Lib.hid hst
 have HQ := Lib.hid hq
 have HS1 := Lib.hid hsz
 clear hv hrv hz hl h hlc hcm hst hsz
 go_enter Try.func12, Try.ntmps12
 go_wp2_with fail
 rw [← hq]
 generalize w.alloc _ = w1 at HST HS1 ⊢
 clear hq
 have HB1 : Hid (Below w.heap.size w w1) := Lib.hid (by obtain ⟨_, _, _, _, _, g⟩ := HST.out; exact g)
 go_loopw [5] (fun i wr => ∃ k : Nat, k ≤ LL.length ∧ i = .int .i64 k ∧ Hid (∀ i L, i < k → LL[i]? = some L → Bk.sorted L = true) ∧ Below w1.heap.size w1 wr) (fun i _ => LL.length - (intOf i).toNat)
 case atStart => exact ⟨0, Nat.zero_le _, rfl, Lib.hid (fun i L hi => by omega), Below.refl _ _⟩
 case round =>
  obtain ⟨k, hk, rfl, HS, hB⟩ := hrel
  have HB := Lib.hid hB
  have hk0 : (0 : Int) ≤ (k : Int) := by omega
  have hbw := HB1.out.trans (hB.mono HB1.out.size)
  by_cases hkl : k < LL.length
  ·rcases HH.out with rfl | ⟨b, o, rfl, hlt, hc⟩
   ·simp at hkl
   ·have hx := List.getElem?_eq_getElem hkl
    generalize LL[k] = L at hx
    have c0 := (hbw.cell (p := ⟨b, o + k, none⟩) hlt).trans (hc k L hx)
    have CS := Lib.hid (Bk.rsorted_c _ L wr ((HRV.out k L hx).later hbw) (HZ.out L (List.mem_of_getElem? hx)))
    have HBADL := Lib.hid (HBAD.out k L hx)
    have HNXT : Hid (Bk.sorted L = true → ∀ i L, i < k + 1 → LL[i]? = some L → Bk.sorted L = true) := Lib.hid fun hs i M hi hM => by
     rcases Nat.lt_or_ge i k with h1 | h1
     ·exact HS.out i M h1 hM
     ·obtain rfl : i = k := by omega
      rw [hx] at hM
      obtain rfl : L = M := by simpa using hM
      exact hs
    generalize R k = rk at c0 CS
    obtain ⟨ra, rn, rc⟩ := rk
    simp only [Bk.sv] at c0 CS
    generalize Bk.sorted L = sl at CS HBADL HNXT
    have dk : (k : Int) < (LL.length : Int) := by omega
    have HK := Lib.hid hkl
    have HKM : Hid ((k : Int) ≤ 9223372036854775806) := Lib.hid (by have := HCC.out; omega)
    have hkm := HKM.out
    clear hc hx hkl hk hlt hB hbw
    go_wp2_with fail
    refine (CS.out).mono ?_
    rintro e w5 ⟨rfl, g5⟩
    have HB5 := Lib.hid (HB.out.trans (g5.mono HB.out.size))
    clear g5 c0
    cases sl
    ·have HFIN := Lib.hid (HBADL.out rfl w5 (HB1.out.trans (HB5.out.mono HB1.out.size)))
     go_wp2
     go_ret2
     exact HFIN.out
    ·have HN := Lib.hid (HNXT.out rfl)
     go_wp2
     go_roundw
     case rel => exact ⟨k + 1, HK.out, by simp, HN, HB5.out⟩
     case measure => (have := HK.out; simp [intOf]; omega)
  ·obtain rfl : k = LL.length := by omega
   have dk : ¬ (LL.length : Int) < (LL.length : Int) := by omega
   have HGD := Lib.hid (HGOOD.out fun i L hi hL => HS.out i L hi hL)
   have HALL := HS
   have HLST : Hid (Mg.Lst w q [] wr) := Lib.hid (by
    obtain ⟨S, v, M, h1, h2, h3⟩ := HST.out
    exact ⟨S, v, M, h1.kept hB, h2, hbw⟩)
   clear hk hkl hB hbw
   have hNm : (LL.length : Int) ≤ 9223372036854775807 := by have := HCC.out; omega
   have hN0 : (0 : Int) ≤ (LL.length : Int) := by omega
   clear dk hk0
   go_upto_region 8 with (fail)
   go_loopw [6] (fun i wr => ∃ m : Nat, m ≤ LL.length ∧ i = .int .i64 ((m : Int) - 1) ∧ Mg.Lst w q (Mg.nw (LL.drop m)) wr) (fun i _ => (intOf i + 1).toNat)
   case atStart => exact ⟨LL.length, Nat.le_refl _, rfl, by rw [List.drop_length]; exact HLST.out⟩
   case round =>
    obtain ⟨m, hm, rfl, hL⟩ := hrel
    have HL := Lib.hid hL
    cases m with
    | zero =>
      have hbw : Below w.heap.size w wr := by obtain ⟨_, _, _, _, _, g⟩ := hL; exact g
      have HFIN : Hid (∃ v, wr.cell? ⟨q, 0, none⟩ = some v ∧ Mg.NwD w LL (.returned (.tuple #[v, .int .i64 0])) wr) := Lib.hid (by
       obtain ⟨S, v, M, h1, h2, h3⟩ := hL
       refine ⟨v, by rw [cell_of_row wr q _ _ _ _ h1.blk]; rfl, HGD.out wr v ?_ h3⟩
       rw [List.drop_zero] at h2
       rw [← h2]
       exact Mg.rl_ds h1)
      obtain ⟨v, c0, hf⟩ := HFIN.out
      have HF := Lib.hid hf
      clear hL hm hbw hf
      simp only [Int.cast_ofNat_Int, Int.zero_sub]
      go_wp2
      go_ret2
      exact HF.out
    | succ j =>
      have e0 : (((j + 1 : Nat) : Int) - 1) = (j : Int) := by omega
      rw [e0]
      have hj0 : (0 : Int) ≤ (j : Int) := by omega
      have hx := List.getElem?_eq_getElem (show j < LL.length by omega)
      generalize LL[j] = L at hx
      have HSRT := HALL.out j L (by omega) hx
      have HZL := Lib.hid (HZ.out L (List.mem_of_getElem? hx))
      have HNWD := Lib.hid (Mg.nw_drop hx)
      have HLEN : Hid (Mg.sz (LL.drop (j + 1)) + L.length ≤ 100000) := Lib.hid (by
       have h1 := Mg.sz_drop hx
       have h2 := Mg.sz_le LL j
       have := HSZ.out
       omega)
      have HNWL := Lib.hid (Mg.nw_len (LL.drop (j + 1)))
      have HRNE := Lib.hid (Mg.sorted_iff.1 HSRT).1
      rcases HH.out with h9 | ⟨b, o, rfl, hlt, hc⟩
      ·rw [h9] at hm; simp at hm
      have hcj := hc j L hx
      have hds := HRV.out j L hx
      generalize R j = rk at hcj hds
      obtain ⟨ra, rn, rc⟩ := rk
      simp only [Bk.sv] at hcj hds
      obtain ⟨R2, ⟨a2, c2, e2, h2⟩, hrv2⟩ := hds.dr
      simp only [Value.slice.injEq] at e2
      obtain ⟨rfl, rfl, rfl⟩ := e2
      have HCJ := Lib.hid hcj
      have HLT := Lib.hid hlt
      have H2 := Lib.hid h2
      have HRV2 := Lib.hid hrv2
      have HM := Lib.hid hm
      generalize Mg.nw (LL.drop (j + 1)) = X0 at HL HNWL HNWD
      have hjl : (j : Int) < (LL.length : Int) := by omega
      clear hL hx HSRT hc hcj hds h2 hrv2 hm hlt e0
      go_wp2_with fail
      go_loopw [7] (fun i wr => ∃ t : Nat, t ≤ L.length ∧ i = .int .i64 t ∧ Mg.Lst w q (Mg.puts X0 (L.take t)) wr) (fun i _ => L.length - (intOf i).toNat)
      case atStart => exact ⟨0, Nat.zero_le _, rfl, HL.out⟩
      case round =>
       obtain ⟨t, ht, rfl, hL⟩ := hrel
       have HL2 := Lib.hid hL
       have hbw : Below w.heap.size w wr := by obtain ⟨_, _, _, _, _, g⟩ := hL; exact g
       have c0 := (hbw.cell (p := ⟨b, o + j, none⟩) HLT.out).trans HCJ.out
       have ht0 : (0 : Int) ≤ (t : Int) := by omega
       by_cases htl : t < L.length
       ·rcases H2.out with rfl | ⟨b2, o2, rfl, hlt2, hc2⟩
        ·simp at htl
        have hy := List.getElem?_eq_getElem htl
        generalize L[t] = d at hy
        have CP := Lib.hid (Mg.put_c hL (by
         have h1 := Mg.puts_len (L.take t) X0
         rw [List.length_take] at h1
         have := HNWL.out
         have := HLEN.out
         omega) (HRV2.out t d hy) (HZL.out d (List.mem_of_getElem? hy)) (HRNE.out d (List.mem_of_getElem? hy)))
        have HNX := Lib.hid (Mg.puts_next (M := X0) hy)
        obtain ⟨d0, d1⟩ := hc2 t d hy
        have d0 := (hbw.cell (p := ⟨b2, o2 + t * 2, none⟩) hlt2).trans d0
        have d1 := (hbw.cell (p := ⟨b2, o2 + t * 2 + 1, none⟩) hlt2).trans d1
        generalize R2 t = rk at d1 CP
        obtain ⟨ua, un, uc⟩ := rk
        simp only [Bk.sv] at d1 CP
        have dt : (t : Int) < (L.length : Int) := by omega
        have htm : (t : Int) ≤ 100000 := by have := HLEN.out; omega
        have HT := Lib.hid htl
        clear hL hbw hy hc2 htl ht hlt2
        go_wp2_with fail
        refine (CP.out).mono ?_
        rintro e w7 ⟨rfl, h7⟩
        have H7 := Lib.hid h7
        clear h7 c0 d0 d1
        go_wp2
        go_roundw
        case rel => exact ⟨t + 1, HT.out, by simp, by rw [HNX.out]; exact H7.out⟩
        case measure => (have := HT.out; simp [intOf]; omega)
       ·obtain rfl : t = L.length := by omega
        have dt : ¬ (L.length : Int) < (L.length : Int) := by omega
        rw [List.take_length] at HL2
        clear hL hbw ht htl
        go_wp2
        go_roundw
        case rel => exact ⟨j, by have := HM.out; omega, by simp, by rw [HNWD.out]; exact HL2.out⟩
        case measure => simp [intOf]
end
section
open Go Go.RowKit
structure Mg.Lk (LL : List (List Dd.D)) (k : Nat) (H : List Mg.It) : Prop where
 is : ∀ x ∈ H, LL[x.age]? = some x.L ∧ x.L ≠ [] ∧ x.age < k
 has : ∀ (i : Nat) (l : List Dd.D), i < k → LL[i]? = some l → l ≠ [] → ∃ x ∈ H, x.age = i
 one : (H.map Mg.It.age).Nodup
 len : H.length ≤ Mg.sz (LL.take k)
theorem Mg.sz_next {LL : List (List Dd.D)} {k : Nat} {L : List Dd.D} (h : LL[k]? = some L) : Mg.sz (LL.take (k + 1)) = Mg.sz (LL.take k) + L.length := by
 obtain ⟨hk, rfl⟩ := List.getElem?_eq_some_iff.1 h
 rw [List.take_succ_eq_append_getElem hk]
 unfold Mg.sz
 rw [List.map_append, List.sum_append]
 simp
theorem Mg.sz_take (LL : List (List Dd.D)) (k : Nat) : Mg.sz (LL.take k) ≤ Mg.sz LL := by
 have : LL = LL.take k ++ LL.drop k := (List.take_append_drop k LL).symm
 have h : Mg.sz (LL.take k ++ LL.drop k) = Mg.sz (LL.take k) + Mg.sz (LL.drop k) := by
  unfold Mg.sz
  rw [List.map_append, List.sum_append]
 rw [← this] at h
 omega
theorem Mg.Lk.skip {LL : List (List Dd.D)} {k : Nat} {H : List Mg.It} (h : Mg.Lk LL k H) (hl : LL[k]? = some []) : Mg.Lk LL (k + 1) H :=
 ⟨fun x hx => ⟨(h.is x hx).1, (h.is x hx).2.1, Nat.lt_succ_of_lt (h.is x hx).2.2⟩, fun i l hi hil hne => by
  rcases Nat.lt_or_ge i k with h1 | h1
  ·exact h.has i l h1 hil hne
  ·obtain rfl : i = k := by omega
   rw [hl] at hil
   exact absurd (by simpa using hil.symm) hne, h.one, by rw [Mg.sz_next hl]; exact Nat.le_trans h.len (Nat.le_add_right _ _)⟩
theorem Mg.Lk.more {LL : List (List Dd.D)} {k : Nat} {H : List Mg.It} {x : Mg.It} (h : Mg.Lk LL k H) (hl : LL[k]? = some x.L) (hne : x.L ≠ []) (hk : x.age = k) : Mg.Lk LL (k + 1) (H ++ [x]) := by
 refine ⟨fun y hy => ?_, fun i l hi hil h0 => ?_, ?_, ?_⟩
 ·rcases List.mem_append.1 hy with h1 | h1
  ·exact ⟨(h.is y h1).1, (h.is y h1).2.1, Nat.lt_succ_of_lt (h.is y h1).2.2⟩
  ·obtain rfl : y = x := by simpa using h1
   exact ⟨by rw [hk]; exact hl, hne, by omega⟩
 ·rcases Nat.lt_or_ge i k with h1 | h1
  ·obtain ⟨y, hy, e⟩ := h.has i l h1 hil h0
   exact ⟨y, List.mem_append_left _ hy, e⟩
  ·exact ⟨x, by simp, by omega⟩
 ·rw [List.map_append, List.nodup_append]
  refine ⟨h.one, by simp, fun a ha b hb e => ?_⟩
  obtain ⟨y, hy, rfl⟩ := List.mem_map.1 ha
  obtain rfl : b = x.age := by simpa using hb
  have := (h.is y hy).2.2
  omega
 ·rw [Mg.sz_next hl, List.length_append, List.length_singleton]
  have := h.len
  have := List.length_pos_iff.2 hne
  omega
theorem Mg.Lk.lnk {LL : List (List Dd.D)} {H : List Mg.It} (h : Mg.Lk LL LL.length H) : Mg.Lnk LL H :=
 ⟨fun x hx => ⟨(h.is x hx).1, (h.is x hx).2.1⟩, fun i l hi hne => h.has i l (List.getElem?_eq_some_iff.1 hi).1 hi hne, h.one⟩
def Mg.Qd (w : World) (LL : List (List Dd.D)) (e : Ending) (w' : World) : Prop :=
 ∃ q v H, e = .returned (.pointer (some ⟨q, 0, none⟩)) ∧ Mg.Hq w w' q v H ∧ Mh.Hp Mg.lt H.length 0 H ∧ Mg.Lnk LL H ∧ H.length ≤ Mg.sz LL
set_option maxHeartbeats 8000000 in
set_option maxRecDepth 100000 in
theorem Mg.queueOf_c (v : Value) (LL : List (List Dd.D)) (w : World) (hv : Mg.Ls w v LL) (hs : Mg.all LL = true) (hz : Mg.sz LL ≤ 8796093022208) :
 Calls Try.prog 22 #[v] w (Mg.Qd w LL) := by
 obtain ⟨R, hr, hrv⟩ := hv.lr
 have HRV := Lib.hid hrv
 have HS := Lib.hid hs
 have HSZ := Lib.hid hz
 obtain ⟨a, c, rfl, hlc, hcm, h⟩ := hr
 have HH := Lib.hid h
 have HCC := Lib.hid (And.intro hlc hcm)
 obtain ⟨q, hq⟩ : ∃ q, q = w.heap.size + 1 := ⟨_, rfl⟩
 obtain ⟨w1, hw1⟩ : ∃ w1, w1 = (w.alloc (.cells #[] 62)).alloc (.cells #[.slice (some ⟨w.heap.size, 0, none⟩) 0 0] 61) := ⟨_, rfl⟩
 have b1 : Below w.heap.size w (w.alloc (.cells #[] 62)) := (Below.refl _ w).alloc (Nat.le_refl _) _
 have hst : Mg.Hq w w1 q (.slice (some ⟨w.heap.size, 0, none⟩) 0 0) [] := by
  refine ⟨?_, ?_, fun x hx => by (cases hx), fun x hx => by (cases hx), List.nodup_nil, by omega, ?_⟩
  ·have := heap_alloc_new (w.alloc (.cells #[] 62)) (.cells #[.slice (some ⟨w.heap.size, 0, none⟩) 0 0] 61)
   rw [World.size_alloc] at this
   rw [hw1, hq]
   exact this
  ·have h1 : Dk.Own 62 1 Mg.ep w.heap.size (w.alloc (.cells #[] 62)) (.slice (some ⟨w.heap.size, 0, none⟩) 0 0) [] :=
    ⟨rfl, .inr ⟨w.heap.size, 0, #[], rfl, Nat.le_refl _, heap_alloc_new w _, Nat.le_refl _, by decide, rfl, rfl⟩⟩
   rw [hw1]
   exact World.ownsRow.alloc h1 _
  ·rw [hw1]
   exact b1.alloc (by rw [World.size_alloc]; omega) _
 have HST := Lib.hid hst
 clear hv hrv hs hz h hlc hcm b1 hst
 go_enter Try.func22, Try.ntmps22
 go_wp2_with fail
 rw [← hw1, ← hq]
 clear hw1 hq
 go_loopw [10] (fun iv wr => ∃ (k : Nat) (H : List Mg.It) (u : Value), k ≤ LL.length ∧ iv = .int .i64 k ∧ Mg.Hq w wr q u H ∧ Mg.Lk LL k H) (fun iv _ => LL.length - (intOf iv).toNat)
 case atStart => exact ⟨0, [], _, Nat.zero_le _, rfl, HST.out, ⟨fun x hx => by (cases hx), fun i l hi => by omega, List.nodup_nil, Nat.zero_le _⟩⟩
 case round =>
  obtain ⟨k, H, u, hk, rfl, hq, hlk⟩ := hrel
  obtain ⟨ua, un, uc, rfl⟩ := Mg.own_sl hq.own
  have HQ := Lib.hid hq
  have HK := Lib.hid (And.intro hk hlk)
  have dk0 : (0 : Int) ≤ (k : Int) := by omega
  by_cases hkl : k < LL.length
  ·have dk : (k : Int) < (LL.length : Int) := by omega
   have dkm : (LL.length : Int) ≤ 9223372036854775807 := by have := HCC.out; omega
   rcases HH.out with rfl | ⟨b, o, rfl, hlt, hc⟩
   ·simp at hkl
   have hx := List.getElem?_eq_getElem hkl
   generalize LL[k] = L at hx
   have c0 := (hq.bw.cell (p := ⟨b, o + k, none⟩) hlt).trans (hc k L hx)
   have hds := HRV.out k L hx
   obtain ⟨x9, e9, hl9, _, _⟩ := Mg.ds_parts hds
   have HX := Lib.hid hx
   have HKL := Lib.hid hkl
   have hsrt := Mg.all_mem HS.out (List.mem_of_getElem? hx)
   generalize R k = rk at c0 hds e9
   have e10 : rk = x9 := by
    obtain ⟨x1, x2, x3⟩ := x9
    obtain ⟨y1, y2, y3⟩ := rk
    simp only [Bk.sv, Value.slice.injEq] at e9
    rw [e9.1, e9.2.1, e9.2.2]
   rw [← e10] at hl9
   clear e9 e10
   obtain ⟨ra, rn, rc⟩ := rk
   simp only [Bk.sv] at c0 hds hl9
   subst hl9
   have HDS := Lib.hid (And.intro hds hsrt)
   clear hc hlt hx hk hlk hq hds hsrt hkl
   by_cases hL : L = []
   ·have hl0 : ¬ (0 : Int) < (L.length : Int) := by rw [hL]; simp
    have HL0 := Lib.hid hL
    clear hL
    go_wp2
    go_roundw
    case rel => exact ⟨k + 1, H, _, HKL.out, by simp, HQ.out, HK.out.2.skip (by rw [HX.out, HL0.out])⟩
    case measure => (have := HKL.out; simp [intOf]; omega)
   ·have hl0 : (0 : Int) < (L.length : Int) := by have := List.length_pos_iff.2 hL; omega
    have HL0 := Lib.hid hL
    obtain ⟨w2, hw2⟩ : ∃ w2, w2 = wr.alloc (.cells #[.slice ra L.length rc, .int .i64 (k : Int)] 64) := ⟨_, rfl⟩
    have g2 : Below wr.heap.size wr w2 := by rw [hw2]; exact (Below.refl _ wr).alloc (Nat.le_refl _) _
    obtain ⟨s, hs⟩ : ∃ s, s = wr.heap.size := ⟨_, rfl⟩
    have HQ2 := Lib.hid (HQ.out.kept g2)
    have HOK : Hid (Mg.Ok w ⟨s, (ra, L.length, rc), k, L⟩) := Lib.hid ⟨HDS.out.1, HL0.out, (Mg.sorted_iff.1 HDS.out.2).1⟩
    have HSR : Hid (w2.heap[s]? = some (.cells (Mg.sc ⟨s, (ra, L.length, rc), k, L⟩) 64) ∧ w.heap.size ≤ s) := Lib.hid ⟨by rw [hw2, hs]; exact heap_alloc_new wr _, by rw [hs]; exact HQ.out.bw.size⟩
    have HNM : Hid (s ∉ H.map Mg.It.b) := Lib.hid fun hx => by
     obtain ⟨y, hy, e⟩ := List.mem_map.1 hx
     have := (Array.getElem?_eq_some_iff.1 (HQ.out.src y hy).1).1
     omega
    have HLN : Hid (H.length + 1 ≤ 8796093022209) := Lib.hid (by
     have := HK.out.2.len
     have := Mg.sz_take LL k
     have := HSZ.out
     omega)
    have hcq := HQ.out.cell
    clear hL g2
    go_upto_region 6 with (fail)
    go_wp2_with (
     at_builtin
     rw [← hw2]
     refine Dk.wpList_append1 (enc := Mg.ep) 61 _ 8 Try.underlying61 Mg.infoP rfl (by decide) Mg.ep_len Mg.ep_one (⟨s, (ra, L.length, rc), k, L⟩ : Mg.It) HQ2.out.own HQ2.out.bw.size (by have := HLN.out; omega) (by have := HLN.out; omega) (wr.heap.size + 1) (by rw [hw2, World.size_alloc]) _ (by rw [hs]; rfl) (.tmp 21) (.tmp 26) (by rfl) (by rfl) (by rfl) (by rfl) ?_
     intro v6 w6 h6 g6
     obtain ⟨cq, fq⟩ := HQ2.out.cell_grew g6
     have H6 := Lib.hid (And.intro h6 g6)
     obtain ⟨a6, n6, c6, rfl⟩ := Mg.own_sl h6
     clear h6 g6)
    have HF := Lib.hid (Mg.hq_push HQ2.out HSR.out HOK.out HNM.out H6.out.1 H6.out.2 rfl)
    go_wp2
    go_roundw
    case rel => exact ⟨k + 1, H ++ [⟨s, (ra, L.length, rc), k, L⟩], _, HKL.out, by simp, HF.out.1, HK.out.2.more HX.out HL0.out rfl⟩
    case measure => (have := HKL.out; simp [intOf]; omega)
  ·have hke : k = LL.length := by omega
   have dk : ¬ (k : Int) < (LL.length : Int) := by omega
   have HKE : Hid (Mg.Lk LL LL.length H) := Lib.hid (by rw [hke] at hlk; exact hlk)
   have HLN : Hid (H.length ≤ 17592186044416) := Lib.hid (by
    have := HKE.out.len
    have := Mg.sz_take LL LL.length
    have := HSZ.out
    omega)
   clear hk hlk hq hke hkl
   go_wp2_with fail
   refine (Mg.init_c HQ.out HLN.out).mono ?_
   rintro e w2 ⟨⟨r, rfl⟩, G, p2, hp2, hq2, _⟩
   have HG : Hid (Mg.Qd w LL (.returned (.pointer (some ⟨q, 0, none⟩))) w2) := Lib.hid ⟨q, _, G, rfl, hq2, by rw [p2.length_eq]; exact hp2, HKE.out.lnk.perm p2, by
    rw [p2.length_eq]
    have := HKE.out.len
    have := Mg.sz_take LL LL.length
    omega⟩
   clear p2 hp2 hq2
   go_wp2
   go_ret
   exact HG.out
end
section
open Go.RowKit
set_option maxHeartbeats 4000000 in
set_option maxRecDepth 100000 in
theorem Bk.psorted_c (v : Value) (L : List Dd.D) (w : World) (hv : Bk.Ds w v L) (hz : Bk.Zs L) : Calls Try.prog 21 #[v] w fun e w' => e = .returned (.bool (Bk.sorted L)) ∧ Below w.heap.size w w' := by
 obtain ⟨a, c, rfl, hlc, hcm, h⟩ := hv
 have HH := Lib.hid h
 have HZ := Lib.hid hz
 clear h hz
 generalize hB : Bk.sorted L = B
 have HB := Lib.hid hB
 clear hB
 go_enter Try.func21, Try.ntmps21
 go_wp2_with fail
 go_loopw [7] (fun i wr => ∃ k : Nat, k ≤ L.length ∧ i = .int .i64 k ∧ (∀ j, j < k → Bk.step L j = true) ∧ Below w.heap.size w wr) (fun i _ => L.length - (intOf i).toNat)
 case atStart => exact ⟨0, Nat.zero_le _, rfl, (fun j hj => by omega), Below.refl _ _⟩
 case round =>
  obtain ⟨k, hk, rfl, hs, hg⟩ := hrel
  have HS := Lib.hid hs
  have HG := Lib.hid hg
  clear hs
  by_cases hkl : k < L.length
  ·rcases HH.out with rfl | ⟨b, o, rfl, hlt, hc⟩
   ·simp at hkl
   ·have hx := List.getElem?_eq_getElem hkl
    have hm := List.getElem_mem hkl
    generalize L[k] = d at hx hm
    obtain ⟨u, c0, c1, hu⟩ := hc k d hx
    have hu := hu.later hg
    have c0 := (hg.cell (p := ⟨b, o + k * 2, none⟩) hlt).trans c0
    have c1 := (hg.cell (p := ⟨b, o + k * 2 + 1, none⟩) hlt).trans c1
    have dk : (k : Int) < (L.length : Int) := by omega
    have dk0 : (0 : Int) ≤ (k : Int) := by omega
    have HK := Lib.hid hkl
    have HX := Lib.hid hx
    have HC := Lib.hid hc
    have HU := Lib.hid hu
    have hlw : b < wr.heap.size := Nat.lt_of_lt_of_le hlt hg.size
    have HLW := Lib.hid hlw
    obtain ⟨ua, uc, rfl, huc⟩ := hu
    have HUC := Lib.hid huc
    clear hc hx hkl hk huc hlw
    go_upto_region 4 with (fail)
    have HB1 : Hid (Below wr.heap.size wr (wr.alloc (.cells #[.bool d.gone, .slice ua d.row.length uc] 41))) := Lib.hid ((Below.refl _ _).alloc (Nat.le_refl _) _)
    have x1 := Kn.cell_new wr #[.bool d.gone, .slice ua d.row.length uc] 41 1 _ rfl
    simp only [List.getElem_toArray, List.getElem_cons_zero, List.getElem_cons_succ] at x1
    obtain ⟨q, hq⟩ : ∃ q, q = wr.heap.size := ⟨_, rfl⟩
    rw [← hq] at x1 ⊢
    clear hq c0 c1
    generalize wr.alloc _ = w1 at HB1 x1 ⊢
    have HG1 := Lib.hid (HG.out.trans (HB1.out.mono HG.out.size))
    by_cases he : d.row = []
    ·have HE := Lib.hid (Bk.sorted_no HK.out (Bk.step_empty HX.out he))
     obtain rfl : B = false := HB.out.symm.trans HE.out
     rw [he] at x1
     simp only [List.length_nil] at x1
     clear he hm
     go_wp2
     go_ret
     exact ⟨rfl, HG1.out⟩
    ·have hz0 : ((d.row.length : Int) == 0) = false := by
      rw [beq_eq_false_iff_ne]
      have := List.length_pos_iff.2 he
      omega
     rcases HUC.out with h0 | ⟨b2, o2, rfl, hlt2, hm2, hcc⟩
     ·exact absurd h0 he
     ·have hp0 : 0 < d.row.length := List.length_pos_iff.2 he
      have hx0 := List.getElem?_eq_getElem hp0
      have hzx := HZ.out d hm _ (List.getElem_mem hp0)
      generalize d.row[0] = x at hx0 hzx
      obtain ⟨e0, e1, e2⟩ := hcc 0 x hx0
      simp only [Nat.zero_mul, Nat.add_zero] at e0 e1 e2
      have e0 := (HB1.out.cell (p := ⟨b2, o2, none⟩) hlt2).trans e0
      have e1 := (HB1.out.cell (p := ⟨b2, o2 + 1, none⟩) hlt2).trans e1
      have e2 := (HB1.out.cell (p := ⟨b2, o2 + 2, none⟩) hlt2).trans e2
      have HE := Lib.hid he
      have hp1 : (0 : Int) < (d.row.length : Int) := by omega
      go_upto_region 6 with (fail)
      have X1 := fun d os => cell_regrown x1 d os
      have E0 := fun d os => cell_regrown e0 d os
      have E1 := fun d os => cell_regrown e1 d os
      have E2 := fun d os => cell_regrown e2 d os
      clear x1
      cases k with
      | zero =>
        have HF := Lib.hid (Bk.step_first HX.out he)
        clear hcc e0 e1 e2 hm hzx hp0 he
        refine wp_region_quiet_below (by kernel_rfl) (by kernel_rfl) ?_
        repeat (go_big_quiet_step (fail))
        refine wpQuiet_nil ?_
        intro _ hw'
        have HG2 := Lib.hid (HG1.out.trans ((Bk.below_reg hw').mono HG1.out.size))
        go_wp2
        go_roundw
        case rel => exact ⟨1, HK.out, by simp, (fun j hj => by obtain rfl : j = 0 := (by omega); exact HF.out), HG2.out⟩
        case measure => (have := HK.out; simp [intOf]; omega)
      | succ j =>
        have hjl : j < L.length := by have := HK.out; omega
        have hy := List.getElem?_eq_getElem hjl
        have hmy := List.getElem_mem hjl
        generalize L[j] = p at hy hmy
        obtain ⟨u2, d0, d1, hu2⟩ := HC.out j p hy
        have hu2 := hu2.later HG1.out
        have d1 := (HG1.out.cell (p := ⟨b, o + j * 2 + 1, none⟩) hlt).trans d1
        have hpe := Bk.step_row hy (HS.out j (by omega))
        obtain ⟨ua2, uc2, rfl, huc2⟩ := hu2
        rcases huc2 with h0 | ⟨b3, o3, rfl, hlt3, hm3, hcc3⟩
        ·exact absurd h0 hpe
        ·have hq0 : 0 < p.row.length := List.length_pos_iff.2 hpe
         have hy0 := List.getElem?_eq_getElem hq0
         have hzy := HZ.out p hmy _ (List.getElem_mem hq0)
         generalize p.row[0] = y at hy0 hzy
         obtain ⟨g0, g1, g2⟩ := hcc3 0 y hy0
         simp only [Nat.zero_mul, Nat.add_zero] at g0 g1 g2
         have G0 := fun d os => cell_regrown g0 d os
         have G1 := fun d os => cell_regrown g1 d os
         have G2 := fun d os => cell_regrown g2 d os
         have D1 := fun d os => cell_regrown d1 d os
         have HF := Lib.hid (Bk.step_next HX.out hy hx0 hy0)
         have cA := Kn.compare_c y x
         generalize Kn.cmp y x = z at HF cA
         unfold Kn.V.val at cA
         have CA : Hid (∀ p : Regrown, _) := Lib.hid fun p : Regrown => Calls.regrown_of (d := p.d) (os := p.os) (w := w1) (cA _)
         have hq1 : (0 : Int) < (p.row.length : Int) := by omega
         have hwr : IntKind.i64.wrap ((j : Int) + 1 - 1) = (j : Int) := by rw [IntKind.wrap_i64]; omega
         have hwr2 : IntKind.i64.wrap (j : Int) = (j : Int) := by rw [IntKind.wrap_i64]; omega
         have dj : (j : Int) < (L.length : Int) := by omega
         have dj0 : (0 : Int) ≤ (j : Int) := by omega
         have dj1 : (0 : Int) < (j : Int) + 1 := by omega
         simp only [Int.natCast_add, Int.natCast_one] at dk dk0
         have HJ := Lib.hid hjl
         clear hcc hcc3 e0 e1 e2 g0 g1 g2 d0 d1 hm hmy hzx hzy hp0 hq0 he hpe hy hx0 hy0 cA hjl
         by_cases hz9 : (0 : Int) ≤ z
         ·have hzf : decide (z < 0) = false := decide_eq_false (by omega)
          have hzb : decide ((0 : Int) ≤ z) = true := decide_eq_true hz9
          obtain rfl : B = false := HB.out.symm.trans (Bk.sorted_no HK.out (HF.out.trans hzf))
          clear hzf
          refine wp_region_quiet_below (by kernel_rfl) (by kernel_rfl) ?_
          repeat (go_big_quiet_step (first | with_reducible exact CA.out _))
          refine wpQuiet_nil ?_
          intro _ hw'
          have HG2 := Lib.hid (HG1.out.trans ((Bk.below_reg hw').mono HG1.out.size))
          go_wp2
          go_ret
          exact ⟨rfl, HG2.out⟩
         ·have hzt := Lib.hid (HF.out.trans (decide_eq_true (show z < 0 by omega)))
          have hzb : decide ((0 : Int) ≤ z) = false := decide_eq_false hz9
          refine wp_region_quiet_below (by kernel_rfl) (by kernel_rfl) ?_
          repeat (go_big_quiet_step (first | with_reducible exact CA.out _))
          refine wpQuiet_nil ?_
          intro _ hw'
          have HG2 := Lib.hid (HG1.out.trans ((Bk.below_reg hw').mono HG1.out.size))
          go_wp2
          go_roundw
          case rel => exact ⟨j + 2, HK.out, by simp; omega, (fun i hi => by
           rcases Nat.lt_or_ge i (j + 1) with h | h
           ·exact HS.out i h
           ·obtain rfl : i = j + 1 := by omega
            exact hzt.out), HG2.out⟩
          case measure => (have := HK.out; simp [intOf]; omega)
  ·obtain rfl : k = L.length := by omega
   have dk : ¬ (L.length : Int) < (L.length : Int) := by omega
   have HY := Lib.hid (Bk.sorted_yes HS.out)
   obtain rfl : B = true := HB.out.symm.trans HY.out
   clear hkl hk
   go_wp2
   go_ret
   exact ⟨rfl, HG.out⟩
end
section
open Go Go.RowKit
def Mg.wl (w : World) (b : Nat) : Nat := match w.cell? ⟨b, 0, none⟩ with
 | some (.slice _ n _) => n
 | _ => 0
def Mg.wp (w : World) (g i : Nat) : Nat := match w.cell? ⟨g, i, none⟩ with
 | some (.pointer (some ⟨b, _, _⟩)) => Mg.wl w b
 | _ => 0
def Mg.weigh (w : World) (q : Nat) : Nat := match w.cell? ⟨q, 0, none⟩ with
 | some (.slice (some ⟨g, _, _⟩) n _) => ((List.range n).map (Mg.wp w g)).sum
 | _ => 0
def Mg.wt (H : List Mg.It) : Nat := (H.map fun x => x.L.length).sum
theorem Mg.wt_perm {H G : List Mg.It} (p : H.Perm G) : Mg.wt H = Mg.wt G := (p.map _).sum_nat
theorem Mg.wt_app (H G : List Mg.It) : Mg.wt (H ++ G) = Mg.wt H + Mg.wt G := by unfold Mg.wt; rw [List.map_append, List.sum_append]
theorem Mg.Hq.weighs {w0 w : World} {q : Nat} {v : Value} {H : List Mg.It} (h : Mg.Hq w0 w q v H) : Mg.weigh w q = Mg.wt H := by
 unfold Mg.weigh
 rw [h.cell]
 rcases h.own.form with ⟨rfl, rfl⟩ | ⟨g, c, rfl, _⟩
 ·rfl
 ·show ((List.range H.length).map (Mg.wp w g)).sum = _
  unfold Mg.wt
  congr 1
  refine List.ext_getElem? fun i => ?_
  rw [List.getElem?_map, List.getElem?_map]
  by_cases hi : i < H.length
  ·rw [List.getElem?_range hi, List.getElem?_eq_getElem hi]
   have hx := List.getElem?_eq_getElem hi
   have c0 := h.own.cell Mg.ep_len (g := g) rfl hx (j := 0) (by decide)
   rw [Nat.mul_one, Nat.add_zero] at c0
   have c0 : w.cell? ⟨g, i, none⟩ = some (.pointer (some ⟨H[i].b, 0, none⟩)) := c0
   have hm := List.getElem_mem hi
   obtain ⟨f0, _⟩ := Mg.src_cells (h.src _ hm).1
   obtain ⟨a, c9, e9, _⟩ := (h.ok _ hm).ds
   simp only [Option.map_some, Option.some.injEq]
   unfold Mg.wp
   rw [c0]
   show Mg.wl w H[i].b = _
   unfold Mg.wl
   rw [f0, e9]
  ·rw [List.getElem?_eq_none (by simpa using hi), List.getElem?_eq_none (by simpa using hi)]
   rfl
structure Mg.Mid (LL : List (List Dd.D)) (w0 w : World) (q : Nat) (m : Value) (H : List Mg.It) (RL : List (List Dd.D)) (M : List Dd.D) (Es : List Mg.Y) : Prop where
 own : Dk.Own 41 2 Rn.e2 w0.heap.size w m Es
 rd : Mg.Rd w0 Es M
 far : Mg.Far LL RL M
 lnk : Mg.Lnk RL H
 hp : Mh.Hp Mg.lt H.length 0 H
 len : H.length ≤ 8796093022208
 q : ∃ v, Mg.Hq w0 w q v H
theorem Mg.Mid.rows {LL : List (List Dd.D)} {w0 w : World} {q : Nat} {m : Value} {H : List Mg.It} {RL : List (List Dd.D)} {M : List Dd.D} {Es : List Mg.Y} (h : Mg.Mid LL w0 w q m H RL M Es) (hs : Mg.all LL = true) {d : Dd.D} (hd : d ∈ M) : d.row ≠ [] := by
 obtain ⟨l, hl, hx⟩ := List.mem_flatten.1 (h.far.mem d hd)
 exact (Mg.sorted_iff.1 (Mg.all_mem hs hl)).1 d hx
theorem Mg.Mid.next {LL : List (List Dd.D)} {w0 w : World} {q : Nat} {m : Value} {H : List Mg.It} {RL : List (List Dd.D)} {M : List Dd.D} {Es : List Mg.Y} (h : Mg.Mid LL w0 w q m H RL M Es) (hs : Mg.all LL = true) {x : Mg.It} {d : Dd.D} {t : List Dd.D} {T H' : List Mg.It}
 (hx : x ∈ H) (hl : ∀ y ∈ H, Mg.lt y x = false) (hL : x.L = d :: t) (p : (T ++ [x]).Perm H) (hH : (t = [] ∧ H' = T) ∨ (t ≠ [] ∧ ∃ x', x'.age = x.age ∧ x'.L = t ∧ H'.Perm (T ++ [x']))) :
 Mg.Far LL (RL.set x.age t) (Mg.add M d) ∧ Mg.Lnk (RL.set x.age t) H' ∧ H'.length ≤ 8796093022208 ∧ Mg.wt H' < Mg.wt H := by
 refine ⟨Mg.Lnk.far hs h.far h.lnk hx hl hL, (h.lnk.perm p).take hL hH, ?_, ?_⟩
 ·have h1 := p.length_eq
  have := h.len
  rw [List.length_append, List.length_singleton] at h1
  rcases hH with ⟨_, rfl⟩ | ⟨_, x', _, _, p2⟩
  ·omega
  ·rw [p2.length_eq, List.length_append, List.length_singleton]; omega
 ·rw [← Mg.wt_perm p, Mg.wt_app]
  have e1 : Mg.wt [x] = t.length + 1 := by unfold Mg.wt; rw [List.map_cons, hL]; simp
  rcases hH with ⟨_, rfl⟩ | ⟨_, x', _, e2, p2⟩
  ·omega
  ·rw [Mg.wt_perm p2, Mg.wt_app]
   have e3 : Mg.wt [x'] = t.length := by unfold Mg.wt; rw [List.map_cons, e2]; simp
   omega
set_option maxHeartbeats 8000000 in
set_option maxRecDepth 100000 in
theorem Mg.newestU_c (v : Value) (LL : List (List Dd.D)) (w : World) (hv : Mg.Ls w v LL) (hz : ∀ L ∈ LL, Bk.Zs L) (hl : Mg.sz LL ≤ 8796093022208 ∧ (Mg.all LL = true → (Mg.nw LL).length ≤ 4398046511104)) :
 Calls Try.prog 11 #[v] w (Mg.NwD w LL) := by
 obtain ⟨R, hr, hrv⟩ := hv.lr
 have HV := Lib.hid hv
 have HRV := Lib.hid hrv
 have HZ := Lib.hid hz
 have HSZ := Lib.hid hl
 obtain ⟨a, c, rfl, hlc, hcm, h⟩ := hr
 have HH := Lib.hid h
 have HCC := Lib.hid (And.intro hlc hcm)
 have HBAD := Lib.hid fun (i : Nat) (L : List Dd.D) (h : LL[i]? = some L) (hs : Bk.sorted L = false) (W : World) (g : Below w.heap.size w W) => Mg.nw_bad (Mg.not_all h hs) g
 have HGOOD := Lib.hid fun (h : ∀ i L, i < LL.length → LL[i]? = some L → Bk.sorted L = true) => Mg.yes_all h
 clear hv hrv hz hl h hlc hcm
 go_enter Try.func11, Try.ntmps11
 go_wp2_with fail
 go_loopw [12] (fun i wr => ∃ k : Nat, k ≤ LL.length ∧ i = .int .i64 k ∧ Hid (∀ i L, i < k → LL[i]? = some L → Bk.sorted L = true) ∧ Below w.heap.size w wr) (fun i _ => LL.length - (intOf i).toNat)
 case atStart => exact ⟨0, Nat.zero_le _, rfl, Lib.hid fun i L hi => by omega, Below.refl _ _⟩
 case round =>
  obtain ⟨k, hk, rfl, HS, hB⟩ := hrel
  have HB := Lib.hid hB
  have hk0 : (0 : Int) ≤ (k : Int) := by omega
  by_cases hkl : k < LL.length
  ·rcases HH.out with rfl | ⟨b, o, rfl, hlt, hc⟩
   ·simp at hkl
   ·have hx := List.getElem?_eq_getElem hkl
    generalize LL[k] = L at hx
    have c0 := (hB.cell (p := ⟨b, o + k, none⟩) hlt).trans (hc k L hx)
    have CS := Lib.hid (Bk.psorted_c _ L wr ((HRV.out k L hx).later hB) (HZ.out L (List.mem_of_getElem? hx)))
    have HBADL := Lib.hid (HBAD.out k L hx)
    have HNXT : Hid (Bk.sorted L = true → ∀ i L, i < k + 1 → LL[i]? = some L → Bk.sorted L = true) := Lib.hid fun hs i M hi hM => by
     rcases Nat.lt_or_ge i k with h1 | h1
     ·exact HS.out i M h1 hM
     ·obtain rfl : i = k := by omega
      rw [hx] at hM
      obtain rfl : L = M := by simpa using hM
      exact hs
    generalize R k = rk at c0 CS
    obtain ⟨ra, rn, rc⟩ := rk
    simp only [Bk.sv] at c0 CS
    generalize Bk.sorted L = sl at CS HBADL HNXT
    have dk : (k : Int) < (LL.length : Int) := by omega
    have HK := Lib.hid hkl
    have HKM : Hid ((k : Int) ≤ 9223372036854775806) := Lib.hid (by have := HCC.out; omega)
    have hkm := HKM.out
    clear hc hx hkl hk hlt hB
    go_wp2_with fail
    refine (CS.out).mono ?_
    rintro e w5 ⟨rfl, g5⟩
    have HB5 := Lib.hid (HB.out.trans (g5.mono HB.out.size))
    clear g5 c0
    cases sl
    ·have HFIN := Lib.hid (HBADL.out rfl w5 HB5.out)
     go_wp2
     go_ret2
     exact HFIN.out
    ·have HN := Lib.hid (HNXT.out rfl)
     go_wp2
     go_roundw
     case rel => exact ⟨k + 1, HK.out, by simp, HN, HB5.out⟩
     case measure => (have := HK.out; simp [intOf]; omega)
  ·obtain rfl : k = LL.length := by omega
   have dk : ¬ (LL.length : Int) < (LL.length : Int) := by omega
   have HALL : Hid (Mg.all LL = true) := Lib.hid (HGOOD.out fun i L hi hL => HS.out i L hi hL)
   have HLV := Lib.hid (HV.out.later hB)
   clear hkl hk hB
   go_wp2_with fail
   refine (Mg.queueOf_c _ LL wr HLV.out HALL.out HSZ.out.1).mono ?_
   rintro e w2 ⟨q, v2, H2, rfl, hq2, hp2, lk2, ln2⟩
   have HST : Hid (Mg.Mid LL wr w2 q (.slice none 0 0) H2 LL [] []) := Lib.hid ⟨Dk.Own.nil _ _, ⟨rfl, fun i x hx => by simp at hx⟩, Mg.Far.start HALL.out, lk2, hp2, by have := HSZ.out.1; omega, v2, hq2⟩
   clear hq2 hp2 lk2 ln2
   generalize hwq : wr = wq at *
   clear hwq
   have HBQ := HB
   clear HB dk hk0
   go_upto_region 9 with (fail)
   go_loopw [6] (fun m wr => ∃ H RL M Es, Mg.Mid LL wq wr q m H RL M Es) (fun _ W => Mg.weigh W q)
   case atStart => exact ⟨H2, LL, [], [], HST.out⟩
   case round =>
    obtain ⟨H, RL, M, Es, hmid⟩ := hrel
    have HM := Lib.hid hmid
    have hform : ∃ ma mc, u6 = .slice ma M.length mc := by
     rw [← hmid.rd.1]
     rcases hmid.own.form with ⟨e1, e2⟩ | ⟨g, c, e1, _⟩
     ·exact ⟨none, 0, by rw [e1, e2]; rfl⟩
     ·exact ⟨_, _, e1⟩
    obtain ⟨ma, mc, rfl⟩ := hform
    obtain ⟨v, hq⟩ := hmid.q
    have HWT := Lib.hid hq.weighs
    obtain ⟨va, vc, rfl⟩ := hq.slice
    have HQ := Lib.hid hq
    have hc := hq.cell
    clear hq hmid HST
    by_cases hH : H = []
    ·have hl0 : ¬ (0 : Int) < (H.length : Int) := by rw [hH]; simp
     have HFIN : Hid (Mg.NwD w LL (.returned (.tuple #[.slice ma M.length mc, .int .i64 0])) wr) := Lib.hid (by
      have h1 := HM.out.lnk
      rw [hH] at h1
      have h2 := HM.out.far.eq HALL.out h1.empty
      exact Mg.nw_good HALL.out (by rw [h2]; exact Mg.own_rd HM.out.own HM.out.rd HQ.out.bw) (HBQ.out.trans (HQ.out.bw.mono HBQ.out.size)))
     clear hH
     go_wp2_with fail
     refine (Mg.len_c _ _ _ _).mono ?_
     rintro e w3 ⟨rfl, h9⟩
     subst w3
     go_wp2
     go_ret2
     exact HFIN.out
    ·have hl0 : (0 : Int) < (H.length : Int) := by have := List.length_pos_iff.2 hH; omega
     have CN := Lib.hid (Mg.next_c HQ.out HM.out.hp hH (by have := HM.out.len; omega))
     clear hH
     go_wp2_with fail
     refine (Mg.len_c _ _ _ _).mono ?_
     rintro e w3 ⟨rfl, h9⟩
     subst w3
     go_wp2_with fail
     refine (CN.out).mono ?_
     rintro e w3 ⟨x, d, t, T, H3, v3, ⟨ua, un, uc⟩, rfl, hvd, hdn, hx, hle, hL, hperm, hH3, hp3, hq3, t3⟩
     have HN := Lib.hid (HM.out.next HALL.out hx hle hL hperm hH3)
     have HVD := Lib.hid (And.intro hvd hdn)
     have HP3 := Lib.hid hp3
     obtain ⟨w4, hw4⟩ : ∃ w4, w4 = w3.alloc (.cells #[.bool d.gone, .slice ua un uc] 41) := ⟨_, rfl⟩
     obtain ⟨db, hdb⟩ : ∃ db, db = w3.heap.size := ⟨_, rfl⟩
     have g4 : Below w3.heap.size w3 w4 := by rw [hw4]; exact (Below.refl _ w3).alloc (Nat.le_refl _) _
     have hd4 : w4.heap[db]? = some (.cells #[.bool d.gone, .slice ua un uc] 41) := by rw [hw4, hdb]; exact heap_alloc_new w3 _
     have HQ4 := Lib.hid (hq3.kept g4)
     have HO4 := Lib.hid ((Mg.Tf.own HM.out.own t3 (by decide) (by decide) (by decide)).kept g4)
     obtain ⟨x0, x1, _, _⟩ := Mg.dcells hd4
     have HX := Lib.hid (And.intro x0 x1)
     simp only [Bk.sv] at hvd
     obtain ⟨hun9, b2, o2, rfl, hb2, hat⟩ := Rn.row_at hvd (Rn.key_at hdn)
     rw [Nat.zero_mul, Nat.add_zero] at hat
     obtain ⟨a0, a1, a2⟩ := hat.later HQ4.out.bw
     have hun : (0 : Int) < (un : Int) := by have := List.length_pos_iff.2 hdn; omega
     have hmm : (M.length : Int) ≤ 4398046511104 := by
      have := HM.out.far.nw
      have := HSZ.out.2 HALL.out
      omega
     clear hvd hdn hx hle hL hperm hH3 hp3 hq3 t3 g4 hd4 hb2 hat hc hun9
     simp only [Bk.sv]
     go_upto_region 11 with (fail)
     rw [← hw4, ← hdb]
     clear hw4 hdb
     by_cases hM : M = []
     ·have h0 : ((M.length : Int) == 0) = true := by rw [hM]; rfl
      have HADD : Hid (Mg.add M d = M ++ [d]) := Lib.hid (by unfold Mg.add; rw [if_pos (.inl hM)])
      have HO := HO4
      clear hM
      go_wp2_with fail
      go_quiet (fail)
      have HG8 : Hid (Below w4.heap.size w4 (w4.drewN nq)) := Lib.hid (Bt.drewN_below _ _)
      have HO8 := Lib.hid (HO.out.kept HG8.out)
      have HQ8 := Lib.hid (HQ4.out.kept HG8.out)
      have x1 := (HG8.out.cell (p := ⟨db, 1, none⟩) (World.block_lt_of_cell? w4 _ x1)).trans x1
      have x0 := (HG8.out.cell (p := ⟨db, 0, none⟩) (World.block_lt_of_cell? w4 _ x0)).trans x0
      generalize w4.drewN nq = w8 at HO8 HQ8 x0 x1 ⊢
      clear HG8 a0 a1 a2 h0
      have HLN : Hid (Es.length + 1 ≤ 4398046511104) := Lib.hid (by
       have h1 := HN.out.1.nw
       rw [HADD.out, List.length_append, List.length_singleton, ← HM.out.rd.1] at h1
       have := HSZ.out.2 HALL.out
       omega)
      have hO8 := HO8.out
      have hb8 := HQ8.out.bw.size
      have hln := HLN.out
      go_wp2_with (at_builtin; refine Dk.wpList_append1 25 _ 32 Try.underlying25 Rn.infoD rfl (by decide) Rn.e2_len Rn.e2_one (d.gone, (some ⟨b2, o2, none⟩, un, uc)) hO8 hb8 (by omega) (by omega) _ rfl _ rfl (.tmp 49) (.tmp 51) (by rfl) (by rfl) (by rfl) (by rfl) ?_; intro v6 w6 h6 g6)
      have H6 : Hid (Mg.Mid LL wq w6 q v6 H3 (RL.set x.age t) (Mg.add M d) (Es ++ [(d.gone, (some ⟨b2, o2, none⟩, un, uc))])) := Lib.hid ⟨h6, by rw [HADD.out]; exact HM.out.rd.snoc rfl HVD.out.1, HN.out.1, HN.out.2.1, HP3.out, HN.out.2.2.1, v3, HQ8.out.grew g6 (fun b hb => ⟨hO8.base_le b hb, hO8.typed b hb⟩) (by decide) (by decide) (by decide)⟩
      clear h6 g6 hO8 hb8 hln
      go_roundw
      case rel => exact ⟨H3, _, _, _, H6.out⟩
      case measure => (
       obtain ⟨z6, h6⟩ := H6.out.q
       rw [h6.weighs, HWT.out]
       exact HN.out.2.2.2)
     ·have h0 : ((M.length : Int) == 0) = false := by
       rw [beq_eq_false_iff_ne]
       have := List.length_pos_iff.2 hM
       omega
      obtain ⟨A, y, hMA, hy⟩ := Mg.last_of hM
      obtain ⟨k, hk⟩ : ∃ k, M.length = k + 1 := ⟨M.length - 1, by have := List.length_pos_iff.2 hM; omega⟩
      have hky : M[k]? = some y := by
       have hAl : A.length = k := by rw [hMA, List.length_append, List.length_singleton] at hk; omega
       rw [hMA, ← hAl, List.getElem?_append_right (Nat.le_refl _), Nat.sub_self]
       rfl
      have hyn : y.row ≠ [] := HM.out.rows HALL.out (List.mem_of_getElem? hky)
      obtain ⟨⟨yg, ⟨ra, rn, rc⟩⟩, hes, _, hyv⟩ := HM.out.rd.2 k y hky
      simp only [Bk.sv] at hyv
      obtain ⟨hrn9, b3, o3, rfl, hb3, hat3⟩ := Rn.row_at hyv (Rn.key_at hyn)
      rw [Nat.zero_mul, Nat.add_zero] at hat3
      obtain ⟨z0, z1, z2⟩ := hat3.later HQ4.out.bw
      have hrn : (0 : Int) < (rn : Int) := by have := List.length_pos_iff.2 hyn; omega
      have hmf : ∃ g, ma = some ⟨g, 0, none⟩ := by
       rcases HO4.out.form with ⟨e1, e2⟩ | ⟨g, c, e1, _⟩
       ·rw [e2] at hes; simp at hes
       ·simp only [Value.slice.injEq] at e1
        exact ⟨g, e1.1⟩
      obtain ⟨g, rfl⟩ := hmf
      have y1 : w4.cell? ⟨g, k * 2 + 1, none⟩ = some (.slice (some ⟨b3, o3, none⟩) rn rc) := HO4.out.cell Rn.e2_len (g := g) rfl hes (j := 1) (by decide)
      have hki : (M.length : Int) - 1 = (k : Int) := by omega
      have hk0 : (0 : Int) ≤ (k : Int) := by omega
      have hkm : (k : Int) < (M.length : Int) := by omega
      obtain ⟨cc, hcc⟩ : ∃ cc, cc = Kn.cmp (Bk.key y) (Bk.key d) := ⟨_, rfl⟩
      have HADD1 : Hid (cc ≠ 0 → Mg.add M d = M ++ [d]) := Lib.hid fun e => by unfold Mg.add; rw [if_pos (.inr (by rw [hy, ← hcc]; exact e))]
      have HADD0 : Hid (cc = 0 → Mg.add M d = M) := Lib.hid fun e => by unfold Mg.add; rw [if_neg (by rw [hy, ← hcc]; exact fun h => h.elim hM fun h2 => h2 e)]
      have hcmp := fun (W : World) => Kn.compare_c (Bk.key y) (Bk.key d) W
      rw [← hcc] at hcmp
      generalize Bk.key y = ky at z0 z1 z2 hcmp
      generalize Bk.key d = kd at a0 a1 a2 hcmp
      obtain ⟨yn, yi, ys⟩ := ky
      obtain ⟨dn, di, ds⟩ := kd
      unfold Kn.V.val at hcmp
      simp only at z0 z1 z2 a0 a1 a2 hcmp
      have CQ : Hid (∀ p : Regrown, _) := Lib.hid fun p : Regrown => Calls.regrown_of (d := p.d) (os := p.os) (w := w4) (hcmp _)
      have X1 := fun d os => cell_regrown x1 d os
      have Y1 := fun d os => cell_regrown y1 d os
      have A0 := fun d os => cell_regrown a0 d os
      have A1 := fun d os => cell_regrown a1 d os
      have A2 := fun d os => cell_regrown a2 d os
      have Z0 := fun d os => cell_regrown z0 d os
      have Z1 := fun d os => cell_regrown z1 d os
      have Z2 := fun d os => cell_regrown z2 d os
      clear hM hMA hy hk hky hyn hes hyv hb3 hat3 hrn9 hcc hcmp x0 x1 y1 a0 a1 a2 z0 z1 z2
      go_upto_region 12 with (fail)
      refine wp_region_quiet_below (by kernel_rfl) (by kernel_rfl) ?_
      repeat (go_big_quiet_step (first | with_reducible exact CQ.out _))
      refine wpQuiet_nil ?_
      intro w8 hw8
      have hg8 := Bk.below_reg hw8
      have HO8 := Lib.hid (HO4.out.kept hg8)
      have HQ8 := Lib.hid (HQ4.out.kept hg8)
      have x0 := (hg8.cell (p := ⟨db, 0, none⟩) (World.block_lt_of_cell? w4 _ HX.out.1)).trans HX.out.1
      have x1 := (hg8.cell (p := ⟨db, 1, none⟩) (World.block_lt_of_cell? w4 _ HX.out.2)).trans HX.out.2
      clear hw8 hg8 X1 Y1 A0 A1 A2 Z0 Z1 Z2 h0
      by_cases hc0 : cc = 0
      ·have hcb : (cc == 0) = true := by rw [hc0]; rfl
       have HADD := Lib.hid (HADD0.out hc0)
       have H6 : Hid (Mg.Mid LL wq w8 q (.slice (some ⟨g, 0, none⟩) M.length mc) H3 (RL.set x.age t) (Mg.add M d) Es) := Lib.hid ⟨HO8.out, by rw [HADD.out]; exact HM.out.rd, HN.out.1, HN.out.2.1, HP3.out, HN.out.2.2.1, v3, HQ8.out⟩
       clear hc0
       go_wp2
       go_roundw
       case rel => exact ⟨H3, _, _, _, H6.out⟩
       case measure => (
        obtain ⟨z6, h6⟩ := H6.out.q
        rw [h6.weighs, HWT.out]
        exact HN.out.2.2.2)
      ·have hcb : (cc == 0) = false := by rw [beq_eq_false_iff_ne]; exact hc0
       have HADD := Lib.hid (HADD1.out hc0)
       clear hc0
       have HLN : Hid (Es.length + 1 ≤ 4398046511104) := Lib.hid (by
        have h1 := HN.out.1.nw
        rw [HADD.out, List.length_append, List.length_singleton, ← HM.out.rd.1] at h1
        have := HSZ.out.2 HALL.out
        omega)
       have hO8 := HO8.out
       have hb8 := HQ8.out.bw.size
       have hln := HLN.out
       go_wp2_with (at_builtin; refine Dk.wpList_append1 25 _ 32 Try.underlying25 Rn.infoD rfl (by decide) Rn.e2_len Rn.e2_one (d.gone, (some ⟨b2, o2, none⟩, un, uc)) hO8 hb8 (by omega) (by omega) _ rfl _ rfl (.tmp 49) (.tmp 51) (by rfl) (by rfl) (by rfl) (by rfl) ?_; intro v6 w6 h6 g6)
       have H6 : Hid (Mg.Mid LL wq w6 q v6 H3 (RL.set x.age t) (Mg.add M d) (Es ++ [(d.gone, (some ⟨b2, o2, none⟩, un, uc))])) := Lib.hid ⟨h6, by rw [HADD.out]; exact HM.out.rd.snoc rfl HVD.out.1, HN.out.1, HN.out.2.1, HP3.out, HN.out.2.2.1, v3, HQ8.out.grew g6 (fun b hb => ⟨hO8.base_le b hb, hO8.typed b hb⟩) (by decide) (by decide) (by decide)⟩
       clear h6 g6 hO8 hb8 hln
       go_roundw
       case rel => exact ⟨H3, _, _, _, H6.out⟩
       case measure => (
        obtain ⟨z6, h6⟩ := H6.out.q
        rw [h6.weighs, HWT.out]
        exact HN.out.2.2.2)
end
section
open Go Go.RowKit
def Mg.Rl (L : List Dd.D) : Prop := ∀ d ∈ L, d.row.length ≤ 4398046511104
def Mg.Rb (base : Nat) (W : World) (Es : List Mg.Y) (L : List Dd.D) : Prop := Es.length = L.length ∧ ∀ (i : Nat) (x : Dd.D), L[i]? = some x → ∃ y, Es[i]? = some y ∧ y.1 = x.gone ∧ Dk.Own 37 3 Sk.ve base W (Bk.sv y.2) x.row
theorem Mg.ve_vals {base : Nat} {w : World} {v : Value} {l : List Kn.V} (h : Dk.Own 37 3 Sk.ve base w v l) : Kn.Vals w v l := by
 rcases h.form with ⟨rfl, rfl⟩ | ⟨g, c, rfl, h1, h2, _, hg⟩
 ·exact ⟨_, 0, rfl, .inl rfl⟩
 ·refine ⟨_, c, rfl, .inr ⟨g, 0, rfl, hg, by unfold maxLen at h2; omega, fun i x hx => ?_⟩⟩
  rw [Nat.zero_add]
  exact ⟨h.cell Sk.ve_len (g := g) rfl hx (j := 0) (by decide), h.cell Sk.ve_len (g := g) rfl hx (j := 1) (by decide), h.cell Sk.ve_len (g := g) rfl hx (j := 2) (by decide)⟩
theorem Mg.Rb.rd {base : Nat} {W : World} {Es : List Mg.Y} {L : List Dd.D} (h : Mg.Rb base W Es L) : Mg.Rd W Es L :=
 ⟨h.1, fun i x hx => by
  obtain ⟨y, e1, e2, e3⟩ := h.2 i x hx
  exact ⟨y, e1, e2, Mg.ve_vals e3⟩⟩
theorem Mg.Rb.kept {base : Nat} {W W' : World} {Es : List Mg.Y} {L : List Dd.D} (h : Mg.Rb base W Es L) (g : Below W.heap.size W W') : Mg.Rb base W' Es L :=
 ⟨h.1, fun i x hx => by
  obtain ⟨y, e1, e2, e3⟩ := h.2 i x hx
  exact ⟨y, e1, e2, e3.kept g⟩⟩
theorem Mg.Rb.grew {α : Type} {e : TypeId} {k : Nat} {enc : α → List Value} {B base : Nat} {W W' : World} {u u' : Value} {K : List α} {Es : List Mg.Y} {L : List Dd.D} (h : Mg.Rb base W Es L) (o : Dk.Own e k enc B W u K) (g : Ty.Grew W W' u u') (he : 37 ≠ e) : Mg.Rb base W' Es L :=
 ⟨h.1, fun i x hx => by
  obtain ⟨y, e1, e2, e3⟩ := h.2 i x hx
  refine ⟨y, e1, e2, e3.same fun b hb => g.by_.block b (e3.lt b hb) fun e' => ?_⟩
  obtain ⟨cs, h1⟩ := e3.typed b hb
  obtain ⟨cs2, h2⟩ := o.typed b e'.symm
  rw [h1] at h2
  simp only [Option.some.injEq, Obj.cells.injEq] at h2
  exact he h2.2.1⟩
theorem Mg.Rb.snoc {base : Nat} {W : World} {Es : List Mg.Y} {L : List Dd.D} (h : Mg.Rb base W Es L) {y : Mg.Y} {d : Dd.D} (h1 : y.1 = d.gone) (h2 : Dk.Own 37 3 Sk.ve base W (Bk.sv y.2) d.row) : Mg.Rb base W (Es ++ [y]) (L ++ [d]) := by
 refine ⟨by rw [List.length_append, List.length_append, h.1]; rfl, fun i x hx => ?_⟩
 rcases Nat.lt_or_ge i L.length with hi | hi
 ·rw [List.getElem?_append_left hi] at hx
  obtain ⟨z, e1, e2⟩ := h.2 i x hx
  exact ⟨z, by rw [List.getElem?_append_left (by rw [h.1]; exact hi)]; exact e1, e2⟩
 ·rw [List.getElem?_append_right hi] at hx
  cases hq : i - L.length with
  | zero =>
    rw [hq] at hx
    obtain rfl : d = x := by simpa using hx
    refine ⟨y, ?_, h1, h2⟩
    rw [List.getElem?_append_right (by rw [h.1]; exact hi), h.1, hq]
    rfl
  | succ q => rw [hq] at hx; simp at hx
theorem Mg.live_next {L : List Dd.D} {k : Nat} {d : Dd.D} (h : L[k]? = some d) : Mg.live (L.take (k + 1)) = if d.gone = true then Mg.live (L.take k) else Mg.live (L.take k) ++ [d] := by
 obtain ⟨hk, rfl⟩ := List.getElem?_eq_some_iff.1 h
 rw [List.take_succ_eq_append_getElem hk]
 unfold Mg.live
 rw [List.filter_append]
 cases hg : (L[k]).gone
 ·rw [if_neg (by decide)]; simp [hg]
 ·rw [if_pos rfl]; simp [hg]
set_option maxHeartbeats 1000000 in
set_option maxRecDepth 100000 in
theorem Mg.clone_c {w : World} {v : Value} {l : List Kn.V} (h : Kn.Vals w v l) (hl : l.length ≤ 4398046511104) :
 Calls Try.prog 30 #[v] w fun e w' => ∃ u : Option Addr × Nat × Nat, e = .returned (Bk.sv u) ∧ Dk.Own 37 3 Sk.ve w.heap.size w' (Bk.sv u) l ∧ Below w.heap.size w w' := by
 obtain ⟨a, c, rfl, h⟩ := h
 obtain ⟨w1, hw1⟩ : ∃ w1, w1 = w.alloc (.cells #[] 37) := ⟨_, rfl⟩
 have hb1 : Below w.heap.size w w1 := by rw [hw1]; exact (Below.refl _ w).alloc (Nat.le_refl _) _
 have ho : Sk.Rw w.heap.size w1 (.slice (some ⟨w.heap.size, 0, none⟩) 0 0) [] :=
  ⟨rfl, .inr ⟨w.heap.size, 0, #[], rfl, Nat.le_refl _, by rw [hw1]; exact heap_alloc_new w _, Nat.le_refl _, by decide, rfl, rfl⟩⟩
 have HO := Lib.hid ho
 have HL : Hid (w.heap.size ≤ w1.heap.size ∧ l.length ≤ 4398046511104) := Lib.hid ⟨hb1.size, hl⟩
 have HF : Hid (∀ v' w', Ty.Grew w1 w' (.slice (some ⟨w.heap.size, 0, none⟩) 0 0) v' → Below w.heap.size w w') := Lib.hid fun v' w' g => hb1.trans (g.below hb1.size ho.base_le)
 cases a with
 | none =>
   have hl0 : l = [] := by
    rcases h with h | ⟨b, o, ha, _⟩
    ·exact h
    ·cases ha
   subst hl0
   have he : ∀ w : World, (binOp .eql 39 (.slice none 0 c) (.slice none 0 0)).run Try.prog w = .ok (.bool true) w := fun _ => rfl
   simp only [List.length_nil]
   clear h ho hb1 hl
   go_enter Try.func30, Try.ntmps30
   go_wp2
   go_ret
   exact ⟨(none, 0, 0), rfl, Dk.Own.nil _ _, Below.refl _ _⟩
 | some ad =>
   have hsrc : Dk.Src Sk.ve w1 (.slice (some ad) l.length c) l := by
    rcases h with rfl | ⟨b, o, ha, hb, _, h⟩
    ·exact .inr ⟨ad, c, rfl, fun j y hj => by simp at hj⟩
    ·obtain rfl := Option.some.inj ha
     exact .inr ⟨_, c, rfl, Dk.src_cells Sk.ve_len (by decide) fun i j x hx hj => by
      have hc := (h i x hx).later hb1
      rcases (by omega : j = 0 ∨ j = 1 ∨ j = 2) with rfl | rfl | rfl
      ·exact hc.c0
      ·exact hc.c1
      ·exact hc.c2⟩
   have HS := Lib.hid hsrc
   have he : ∀ w : World, (binOp .eql 39 (.slice (some ad) l.length c) (.slice none 0 0)).run Try.prog w = .ok (.bool false) w := fun _ => rfl
   clear h hsrc ho hl hb1
   go_enter Try.func30, Try.ntmps30
   go_wp2_with (
    at_builtin
    rw [← hw1]
    refine Dk.wpList_append 39 _ 32 Try.underlying39 Cl.infoV rfl (by decide) Sk.ve_len Sk.ve_one l HO.out HL.out.1 (by have := HL.out.2; simp; omega) (by have := HL.out.2; simp; omega) HS.out _ _ rfl rfl rfl rfl ?_
    intro v' w' h1 h2
    obtain ⟨av, nv, cv, hv⟩ : ∃ a n c, v' = .slice a n c := by
     rcases h1.form with ⟨e, _⟩ | ⟨g, c, e, _⟩
     ·exact ⟨none, 0, 0, e⟩
     ·exact ⟨_, _, c, e⟩
    have H1 := Lib.hid h1
    have H2 := Lib.hid h2
    clear h1 h2
    subst hv)
   go_ret
   exact ⟨(av, nv, cv), rfl, H1.out, HF.out _ _ H2.out⟩
def Mg.LvD (w : World) (L : List Dd.D) (e : Ending) (w' : World) : Prop := ∃ (u : Option Addr × Nat × Nat) (Es : List Mg.Y), e = .returned (Bk.sv u) ∧ Dk.Own 41 2 Rn.e2 w.heap.size w' (Bk.sv u) Es ∧ Mg.Rb w.heap.size w' Es (Mg.live L) ∧ Below w.heap.size w w'
set_option maxHeartbeats 4000000 in
set_option maxRecDepth 100000 in
theorem Mg.liveN_c (v : Value) (L : List Dd.D) (w : World) (hv : Bk.Ds w v L) (hr : Mg.Rl L) (hl : L.length ≤ 4398046511104) :
 Calls Try.prog 16 #[v] w (Mg.LvD w L) := by
 obtain ⟨R, hr9, hrv⟩ := hv.dr
 have HRV := Lib.hid hrv
 have H2 := Lib.hid hl
 have HRL := Lib.hid hr
 obtain ⟨a, c, rfl, h⟩ := hr9
 have HH := Lib.hid h
 clear hv hrv hl h hr
 go_enter Try.func16, Try.ntmps16
 go_wp2_with fail
 go_loopw [3, 8] (fun out i wr => ∃ (k : Nat) (Es : List Mg.Y), k ≤ L.length ∧ i = .int .i64 k ∧ Dk.Own 41 2 Rn.e2 w.heap.size wr out Es ∧ Mg.Rb w.heap.size wr Es (Mg.live (L.take k)) ∧ Below w.heap.size w wr) (fun _ i _ => L.length - (intOf i).toNat)
 case atStart => exact ⟨0, [], Nat.zero_le _, rfl, Dk.Own.nil _ _, ⟨rfl, fun i x hx => by simp [Mg.live] at hx⟩, Below.refl _ _⟩
 case round =>
  obtain ⟨k, Es, hk, rfl, hO, hB2, hB⟩ := hrel
  have HB := Lib.hid hB
  have HO := Lib.hid hO
  have HRB := Lib.hid hB2
  obtain ⟨oa, on, oc, rfl⟩ : ∃ a n c, u3 = .slice a n c := by
   rcases hO.form with ⟨e, _⟩ | ⟨g, c, e, _⟩
   ·exact ⟨none, 0, 0, e⟩
   ·exact ⟨_, _, c, e⟩
  by_cases hkl : k < L.length
  ·rcases HH.out with rfl | ⟨b, o, rfl, hlt, hc⟩
   ·simp at hkl
   ·have hx := List.getElem?_eq_getElem hkl
    generalize L[k] = d at hx
    obtain ⟨c0, c1⟩ := hc k d hx
    have c0 := (hB.cell (p := ⟨b, o + k * 2, none⟩) hlt).trans c0
    have c1 := (hB.cell (p := ⟨b, o + k * 2 + 1, none⟩) hlt).trans c1
    have HT := Lib.hid (Mg.live_next hx)
    have HML : Hid (Es.length + 1 ≤ 4398046511104) := Lib.hid (by
     rw [hB2.1]
     have h1 : (Mg.live (L.take k)).length ≤ (L.take k).length := List.length_filter_le ..
     rw [List.length_take] at h1
     have := H2.out
     omega)
    have hvr := (HRV.out k d hx).later hB
    have hrl := HRL.out d (List.mem_of_getElem? hx)
    generalize Mg.live (L.take k) = M at HRB HT
    generalize R k = rk at c1 hvr
    obtain ⟨ra, rn, rc⟩ := rk
    simp only [Bk.sv] at c1 hvr
    have dk : (k : Int) < (L.length : Int) := by omega
    have dk0 : (0 : Int) ≤ (k : Int) := by omega
    have dk7 : (k : Int) ≤ 4398046511104 := by have := H2.out; omega
    have HK := Lib.hid hkl
    obtain ⟨w3, hw3⟩ : ∃ w3, w3 = wr.alloc (.cells #[.bool d.gone, .slice ra rn rc] 41) := ⟨_, rfl⟩
    obtain ⟨db, hdb⟩ : ∃ db, db = wr.heap.size := ⟨_, rfl⟩
    have g3 : Below wr.heap.size wr w3 := by rw [hw3]; exact (Below.refl _ wr).alloc (Nat.le_refl _) _
    have x0 : w3.cell? ⟨db, 0, none⟩ = some (.bool d.gone) := by rw [hw3, hdb]; exact Kn.cell_new wr _ _ 0 _ rfl
    have x1 : w3.cell? ⟨db, 1, none⟩ = some (.slice ra rn rc) := by rw [hw3, hdb]; exact Kn.cell_new wr _ _ 1 _ rfl
    have HB3 := Lib.hid (HB.out.trans (g3.mono HB.out.size))
    have HO3 := Lib.hid (HO.out.kept g3)
    have HRB3 := Lib.hid (HRB.out.kept g3)
    have CC := Lib.hid (Mg.clone_c (hvr.later g3) hrl)
    clear hc hx hkl hk hlt hB hO hB2 hvr hrl g3
    go_upto_region 5 with (fail)
    rw [← hw3, ← hdb]
    clear hw3 hdb c0 c1
    generalize hgd : d.gone = gd at x0 HT
    cases gd
    ·have HT2 := Lib.hid (HT.out.trans (if_neg (by decide)))
     have HGD := Lib.hid hgd
     clear hgd
     go_wp2_with fail
     refine (CC.out).mono ?_
     rintro e w4 ⟨⟨ua, un, uc⟩, rfl, ho4, g4⟩
     simp only [Bk.sv] at ho4
     have HB4 := Lib.hid (HB3.out.trans (g4.mono HB3.out.size))
     have HO4 := Lib.hid (HO3.out.kept g4)
     have HRB4 := Lib.hid ((HRB3.out.kept g4).snoc (y := (false, (ua, un, uc))) HGD.out.symm (Mg.own_mono ho4 HB3.out.size))
     have ho := HO4.out
     have hb := HB4.out.size
     have hm := HML.out
     simp only [Bk.sv]
     clear ho4 g4 x0 x1
     go_wp2_with (at_builtin; refine Dk.wpList_append1 25 _ 32 Try.underlying25 Rn.infoD rfl (by decide) Rn.e2_len Rn.e2_one (false, (ua, un, uc)) ho hb (by omega) (by omega) _ rfl _ rfl (.tmp 15) (.tmp 20) (by rfl) (by rfl) (by rfl) (by rfl) ?_; intro v6 w6 h6 g6)
     have H6 := Lib.hid h6
     have HB6 := Lib.hid (Dk.own_below HB4.out ho g6)
     have HR6 := Lib.hid (HRB4.out.grew ho g6 (by decide))
     clear h6 g6 ho hb hm
     go_roundw
     case rel => exact ⟨k + 1, _, HK.out, by simp, H6.out, by rw [HT2.out]; exact HR6.out, HB6.out⟩
     case measure => (have := HK.out; simp [intOf]; omega)
    ·have HT2 := Lib.hid (HT.out.trans (if_pos rfl))
     clear hgd
     go_wp2
     go_roundw
     case rel => exact ⟨k + 1, Es, HK.out, by simp, HO3.out, by rw [HT2.out]; exact HRB3.out, HB3.out⟩
     case measure => (have := HK.out; simp [intOf]; omega)
  ·obtain rfl : k = L.length := by omega
   have dk : ¬ (L.length : Int) < (L.length : Int) := by omega
   have HRB2 : Hid (Mg.Rb w.heap.size wr Es (Mg.live L)) := Lib.hid (by have := HRB.out; rw [List.take_length] at this; exact this)
   clear hk hkl hO hB hB2
   go_wp2
   go_ret
   exact ⟨(oa, on, oc), Es, rfl, HO.out, HRB2.out, HB.out⟩
end
end Go.Proofs.Ytikdcmplihgdcaa
