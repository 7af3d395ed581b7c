import Derived.Test.YtbelkhkllneifaaGreatDoorWEAT
import Derived.Test.YtbelkhkllneifaaGreatDoorWEAG
import Derived.Test.YtbelkhkllneifaaGreatDoorWEAH
import Derived.Sort.Walk0
import Derived.Lib.Walk
import Derived.Maps.OwnOps
import Derived.Maps.OwnSet
import Derived.Sort.KeysCollected
import Derived.Test.YtbelkhkllneifaaGreatDoorLay
import Derived.Test.YtbelkhkllneifaaGreatDoorWEAQ
import Derived.Test.YtbelkhkllneifaaGreatDoorWEAF
namespace Go.Proofs.YtbelkhkllneifaaGreatDoor
section
open Go.RowKit
theorem Cl.all_no {c : Kn.C} {l : List Kn.V} {k : Nat} {x : Kn.V} (h : l[k]? = some x) (hx : Cl.is c x = false) : l.all (Cl.is c) = false := by
 rw [Bool.eq_false_iff]
 intro ha
 have := List.all_eq_true.1 ha x (List.mem_of_getElem? h)
 rw [hx] at this
 cases this
def Cl.rowF (X : Kn.V) (i : Nat) : Kn.V := if i = 0 then Cl.ofN 0 else X
theorem Cl.rowF_vals {w : World} {g cap : Nat} {X : Kn.V} (h : Cl.Row w g 2 (Cl.rowF X)) : Kn.Vals w (.slice (some ⟨g, 0, none⟩) 2 cap) [Cl.ofN 0, X] :=
 Cl.Row.vals (n := 2) h rfl (fun i x hx => by
  have hi2 : i = 0 ∨ i = 1 := by
   have := (List.getElem?_eq_some_iff.1 hx).1
   simp at this
   omega
  rcases hi2 with rfl | rfl
  ·simpa [Cl.rowF] using hx
  ·simpa [Cl.rowF] using hx) (by omega)
set_option maxHeartbeats 2000000 in
set_option maxRecDepth 100000 in
theorem Cl.fit_c (c : Kn.C) (v u : Value) (l : List Kn.V) (w : World) (hg : c.good = true) (hs : Kn.Cols w v (Cl.sch c)) (hu : Kn.Vals w u l) (hl : l.length ≤ 65536) :
 Calls Tryz.prog 125 #[v, u] w fun e w' => e = .returned (.bool (l.all (Cl.is c))) ∧ Below w.heap.size w w' := by
 have CF : Hid (∀ (row : Value) (x : Kn.V) (wz : World), Kn.Cols wz v (Cl.sch c) → Kn.Vals wz row [Cl.ofN 0, x] → Calls Tryz.prog 63 #[v, row] wz fun e w' => e = .returned (.int .i64 (if Cl.is c x = true then 0 else 6)) ∧ Below wz.heap.size wz w') := Lib.hid fun row x wz h1 h2 => by
  have := Kn.fits_c v row (Cl.sch c) [Cl.ofN 0, x] wz h1 h2
  rwa [Cl.sch_fits hg] at this
 have HNO : Hid (∀ (k : Nat) (x : Kn.V), l[k]? = some x → Cl.is c x = false → l.all (Cl.is c) = false) := Lib.hid fun k x h h2 => Cl.all_no h h2
 have HYES : Hid ((∀ (i : Nat) (x : Kn.V), l[i]? = some x → Cl.is c x = true) → l.all (Cl.is c) = true) := Lib.hid fun h => Cl.all_of h
 generalize l.all (Cl.is c) = B at HNO HYES ⊢
 have HS := Lib.hid hs
 obtain ⟨a, cp, rfl, h⟩ := hu
 have HH := Lib.hid h
 have hl6 : (l.length : Int) ≤ 65536 := by omega
 clear hs h hg hl
 go_enter Tryz.func125, Tryz.ntmps125
 go_wp2_with fail
 have hR : Cl.Row (w.alloc (.cells #[.bool false, .int .i64 0, .string ⟨#[]⟩, .bool false, .int .i64 0, .string ⟨#[]⟩] 33)) w.heap.size 2 (Cl.rowF (Cl.ofN 0)) := World.rowIs_alloc w #[.bool false, .int .i64 0, .string ⟨#[]⟩, .bool false, .int .i64 0, .string ⟨#[]⟩] 33 _ (fun i hi => by
  have hi6 : i < 6 := hi
  have e : Cl.rowF (Cl.ofN 0) = fun _ => Cl.ofN 0 := by funext j; unfold Cl.rowF; split <;> rfl
  rw [e]
  rcases (by omega : i = 0 ∨ i = 1 ∨ i = 2 ∨ i = 3 ∨ i = 4 ∨ i = 5) with rfl | rfl | rfl | rfl | rfl | rfl <;> rfl)
 have hB : Below w.heap.size w (w.alloc (.cells #[.bool false, .int .i64 0, .string ⟨#[]⟩, .bool false, .int .i64 0, .string ⟨#[]⟩] 33)) := (Below.refl _ _).alloc (Nat.le_refl _) _
 generalize w.alloc _ = w2 at hR hB ⊢
 obtain ⟨g, hg⟩ : ∃ g, g = w.heap.size := ⟨_, rfl⟩
 rw [← hg] at hR hB ⊢
 have HGE := Lib.hid hg
 clear hg
 go_loopw [13] (fun i wr => ∃ (k : Nat) (X : Kn.V), k ≤ l.length ∧ i = .int .i64 k ∧ Cl.Row wr g 2 (Cl.rowF X) ∧ Below g w wr ∧ ∀ j x, j < k → l[j]? = some x → Cl.is c x = true) (fun i _ => l.length - (intOf i).toNat)
 case atStart => exact ⟨0, _, by omega, rfl, hR, hB, fun j x hj => by omega⟩
 case round =>
  obtain ⟨k, X, hk, rfl, hRk, hBk, hall⟩ := hrel
  have HR := Lib.hid hRk
  have HB := Lib.hid hBk
  have HALL := Lib.hid hall
  have hgl : g < wr.heap.size := hRk.lt
  clear hR hB hRk hBk hall
  by_cases hlk : k < l.length
  ·rcases HH.out with h | ⟨b, o, rfl, hbl, hm, h⟩
   ·exact absurd hlk (by rw [h]; simp)
   ·obtain ⟨x, hx⟩ : ∃ x, l[k]? = some x := ⟨_, List.getElem?_eq_getElem hlk⟩
    have hblg : b < g := by rw [HGE.out]; exact hbl
    have hA := h k x hx
    have a0 := (HB.out.cell (p := ⟨b, o + k * 3, none⟩) hblg).trans hA.c0
    have a1 := (HB.out.cell (p := ⟨b, o + k * 3 + 1, none⟩) hblg).trans hA.c1
    have a2 := (HB.out.cell (p := ⟨b, o + k * 3 + 2, none⟩) hblg).trans hA.c2
    have hkl : (k : Int) < (l.length : Int) := by omega
    have hk0 : (0 : Int) ≤ (k : Int) := by omega
    have r0 := HR.out.c0 (show 1 < 2 by omega)
    have r1 := HR.out.c1 (show 1 < 2 by omega)
    have r2 := HR.out.c2 (show 1 < 2 by omega)
    have f0 := World.rowIs.frozen HR.out 3
    have f1 := World.rowIs.frozen HR.out 4
    have f2 := World.rowIs.frozen HR.out 5
    rw [Nat.one_mul] at r0 r1 r2
    have HX := Lib.hid hx
    clear h hx hA hm
    go_wp2_with fail
    have hR3 : Cl.Row (((wr.setCell ⟨g, 3, none⟩ (.bool x.null)).setCell ⟨g, 4, none⟩ (.int .i64 x.n)).setCell ⟨g, 5, none⟩ (.string x.s)) g 2 (Cl.rowF x) := Cl.Row.congr (HR.out.setV 1 x) fun i hi => by
     unfold Cl.rowF
     by_cases e : i = 1
     ·rw [if_pos e, if_neg (by omega)]
     ·rw [if_neg e, if_pos (by omega), if_pos (by omega)]
    have hB3 : Below g w (((wr.setCell ⟨g, 3, none⟩ (.bool x.null)).setCell ⟨g, 4, none⟩ (.int .i64 x.n)).setCell ⟨g, 5, none⟩ (.string x.s)) := Cl.below_cell (Cl.below_cell (Cl.below_cell HB.out (Nat.le_refl _) _) (Nat.le_refl _) _) (Nat.le_refl _) _
    have hRn := World.rowIs.alloc hR3 (.cells #[.bool x.null, .int .i64 x.n, .string x.s] 33)
    have hBn := hB3.alloc (Nat.le_of_lt hR3.lt) (.cells #[.bool x.null, .int .i64 x.n, .string x.s] 33)
    generalize World.alloc _ _ = wn at hRn hBn ⊢
    have hbb := hBn
    rw [HGE.out] at hbb
    have cf := CF.out _ x wn (HS.out.later hbb) (Cl.rowF_vals (cap := 2) hRn)
    have HRN := Lib.hid hRn
    have HBN := Lib.hid hBn
    have hgn : g < wn.heap.size := World.rowIs.lt hRn
    clear hR3 hB3 hRn hBn hbb a0 a1 a2 r0 r1 r2 f0 f1 f2
    cases hT : Cl.is c x
    ·have HF := Lib.hid (HNO.out k x HX.out hT)
     rw [hT] at cf
     simp only [Bool.false_eq_true, if_false] at cf
     clear hT
     refine cf.mono ?_
     rintro e w3 ⟨rfl, g3⟩
     have HB3 := Lib.hid (HBN.out.trans (g3.mono (Nat.le_of_lt hgn)))
     clear cf g3
     go_wp2
     go_ret
     exact ⟨by rw [HF.out]; rfl, by have := HB3.out; rwa [HGE.out] at this⟩
    ·have HT := Lib.hid hT
     rw [hT] at cf
     simp only [if_true] at cf
     clear hT
     refine cf.mono ?_
     rintro e w3 ⟨rfl, g3⟩
     have HB3 := Lib.hid (HBN.out.trans (g3.mono (Nat.le_of_lt hgn)))
     have HR3 := Lib.hid (Cl.Row.below HRN.out g3)
     clear cf g3
     go_wp2
     go_roundw
     case rel => exact ⟨k + 1, x, by omega, by simp, HR3.out, HB3.out, fun j y hj hy => by
      by_cases e : j = k
      ·subst e
       rw [HX.out] at hy
       obtain rfl := Option.some.inj hy
       exact HT.out
      ·exact HALL.out j y (by omega) hy⟩
     case measure => simp [intOf]; omega
  ·obtain rfl : k = l.length := by omega
   have hkl : ¬ (l.length : Int) < (l.length : Int) := by omega
   have HY := Lib.hid (HYES.out fun i x hx => HALL.out i x (by
    rcases Nat.lt_or_ge i l.length with h | h
    ·exact h
    ·rw [List.getElem?_eq_none h] at hx; cases hx) hx)
   go_wp2
   go_ret
   exact ⟨by rw [HY.out]; rfl, by have := HB.out; rwa [HGE.out] at this⟩
set_option maxHeartbeats 2000000 in
set_option maxRecDepth 100000 in
theorem Cl.split_c (u : Value) (l : List Kn.V) (w : World) (hu : Kn.Vals w u l) (hl : l.length ≤ 65536) :
 Calls Tryz.prog 126 #[u] w fun e w' => ∃ v p, e = .returned (.tuple #[v, p]) ∧ Bt.Sl w' v l.length (Bt.bv (Cl.nulls l)) ∧ Kn.Vals w' p (Cl.live l) ∧ Below w.heap.size w w' := by
 obtain ⟨a, cp, rfl, h⟩ := hu
 have HH := Lib.hid h
 have HL := Lib.hid hl
 have hmk := run_make_row' (P := Tryz.prog) 132 4 (.bool false) 1 Tryz.underlying132 Bt.infoB rfl .i64 .i64 l.length (by omega) (by omega)
 have hsz1 : (w.alloc (.cells (madeCells #[.bool false] l.length) 4)).heap.size = w.heap.size + 1 := World.size_alloc ..
 obtain ⟨i0, hi0, hz0, hz1, hz2⟩ := info_parts Cl.infoV
 obtain ⟨w2, hm2, hO2, hg2⟩ := run_make_own (P := Tryz.prog) (w.alloc (.cells (madeCells #[.bool false] l.length) 4)) (w.heap.size + 1) 38 33 i0 _ 3 Tryz.underlying38 hi0 hz0 hz1 .i64 .i64 l.length (by rw [hz2]; omega) (by unfold maxLen; omega) (by omega)
 have hR := (World.rowIs_made w (.bool false) l.length 4).congr (g := Bt.upTo 0 (Bt.bv (Cl.nulls l)) (.bool false)) fun i _ => by unfold Bt.upTo; rw [if_neg (by omega)]
 have hR2 := hR.of_block (w' := w2) (hg2.block _ (by omega) (by simp))
 have hB2 : Below w.heap.size w w2 := ((Below.refl _ w).alloc (Nat.le_refl _) (.cells (madeCells #[.bool false] l.length) 4)).trans ⟨hg2.os, hg2.tape, hg2.output, hg2.size, fun k hk => hg2.block k (by omega) (by simp)⟩
 have hO3 : Cl.Own (w.heap.size + 1) w2 (.slice (some ⟨w.heap.size + 1, 0, none⟩) 0 l.length) [] := by rw [hsz1] at hO2; exact hO2
 rw [hsz1] at hm2
 have hs2 : w.heap.size + 1 ≤ w2.heap.size := by have := hg2.size; omega
 have HR2 := Lib.hid hR2
 have HB2 := Lib.hid hB2
 have HO3 := Lib.hid hO3
 clear h hl hi0 hz0 hz1 hz2 hR hR2 hB2 hO2 hO3 hg2 hsz1
 go_enter Tryz.func126, Tryz.ntmps126
 go_wp2_with fail
 clear hmk hm2
 obtain ⟨g, hg⟩ : ∃ g, g = w.heap.size := ⟨_, rfl⟩
 rw [← hg] at HR2 HB2 HO3 hs2 ⊢
 have HGE := Lib.hid hg
 clear hg
 go_loopw [5, 16] (fun pv i wr => ∃ k : Nat, k ≤ l.length ∧ i = .int .i64 k ∧ wr.rowIs g 4 l.length (Bt.upTo k (Bt.bv (Cl.nulls l)) (.bool false)) ∧ Cl.Own (g + 1) wr pv (Cl.live (l.take k)) ∧ Below g w wr ∧ g + 1 ≤ wr.heap.size) (fun _ i _ => l.length - (intOf i).toNat)
 case atStart => exact ⟨0, by omega, rfl, HR2.out, HO3.out, HB2.out, hs2⟩
 case round =>
  obtain ⟨k, hk, rfl, hRk, hOk, hBk, hgs⟩ := hrel
  have HR := Lib.hid hRk
  have HO := Lib.hid hOk
  have HB := Lib.hid hBk
  clear hRk hOk hBk HR2 HB2 HO3 hs2
  have hl6 : (l.length : Int) ≤ 65536 := by have := HL.out; omega
  by_cases hlk : k < l.length
  ·rcases HH.out with h | ⟨b, o, rfl, hbl, hm, h⟩
   ·exact absurd hlk (by rw [h]; simp)
   ·obtain ⟨x, hx⟩ : ∃ x, l[k]? = some x := ⟨_, List.getElem?_eq_getElem hlk⟩
    have hblg : b < g := by rw [HGE.out]; exact hbl
    have hA := h k x hx
    have a0 := (HB.out.cell (p := ⟨b, o + k * 3, none⟩) hblg).trans hA.c0
    have a1 := (HB.out.cell (p := ⟨b, o + k * 3 + 1, none⟩) hblg).trans hA.c1
    have a2 := (HB.out.cell (p := ⟨b, o + k * 3 + 2, none⟩) hblg).trans hA.c2
    have hkl : (k : Int) < (l.length : Int) := by omega
    have hk0 : (0 : Int) ≤ (k : Int) := by omega
    have hcl := HR.out.cell hlk
    have hf := HR.out.frozen k
    have hgl : g < wr.heap.size := by omega
    have HU : Hid (Value.bool x.null = Bt.bv (Cl.nulls l) k) := Lib.hid (by unfold Bt.bv; rw [Cl.nulls_at hx])
    have HLS := Lib.hid (Cl.live_step l k x hx)
    have hlen : (Cl.live (l.take k)).length ≤ k := Nat.le_trans (Cl.live_len _) (List.length_take_le _ _)
    have HRN := Lib.hid (World.rowIs.alloc (Bt.upTo_next HR.out HU.out) (.cells #[.bool x.null, .int .i64 x.n, .string x.s] 33))
    have hbn := (HB.out.trans (Bt.below_set (w := wr) (g := g) (i := k) (Nat.le_refl _) (.bool x.null))).alloc (Nat.le_of_lt (World.rowIs.lt (Bt.upTo_next HR.out HU.out))) (.cells #[.bool x.null, .int .i64 x.n, .string x.s] 33)
    have HBN := Lib.hid hbn
    have hOn := (HO.out.setOther (g := g) (i := k) (by omega) (.bool x.null)).kept ((Below.refl _ _).alloc (Nat.le_refl _) (.cells #[.bool x.null, .int .i64 x.n, .string x.s] 33))
    have HON := Lib.hid hOn
    have hbs : g + 1 ≤ ((wr.setCell ⟨g, k, none⟩ (.bool x.null)).alloc (.cells #[.bool x.null, .int .i64 x.n, .string x.s] 33)).heap.size := by simp [World.setCell]; omega
    have HBS := Lib.hid hbs
    clear h hx hA hm hbn hOn hbs
    cases hn : x.null
    ·rw [hn] at a0 HLS HRN HBN HON HBS
     have e3 : (if false = true then ([] : List Kn.V) else [x]) = [x] := rfl
     rw [e3] at HLS
     have hO := HON.out
     have HNF := Lib.hid hn
     clear hn e3
     go_wp2_with (at_builtin; refine Cl.wpList_append_val_at x hO HBS.out (by omega) (.tmp 29) (.tmp 31) _ (by simp [World.setCell]) _ (by rw [HNF.out]) rfl rfl rfl rfl ?_; intro v5 w5 h5 g5)
     have H5 := Lib.hid h5
     have hb5 := Cl.own_grown HBS.out hO g5
     have HR5 := Lib.hid (HRN.out.of_block (hb5.block g (by omega)))
     have HB5 := Lib.hid (HBN.out.trans (hb5.mono (by omega)))
     have hs5 : g + 1 ≤ w5.heap.size := Nat.le_trans HBS.out hb5.size
     clear h5 g5 hO hb5
     go_wp2
     go_roundw
     case rel => exact ⟨k + 1, by omega, by simp, HR5.out, by rw [HLS.out]; exact H5.out, HB5.out, hs5⟩
     case measure => simp [intOf]; omega
    ·rw [hn] at a0 HLS HRN HBN HON HBS
     have e3 : (if true = true then ([] : List Kn.V) else [x]) = [] := rfl
     rw [e3, List.append_nil] at HLS
     clear hn e3
     go_wp2
     go_roundw
     case rel => exact ⟨k + 1, by omega, by simp, HRN.out, by rw [HLS.out]; exact HON.out, HBN.out, HBS.out⟩
     case measure => simp [intOf]; omega
  ·obtain rfl : k = l.length := by omega
   have hkl : ¬ (l.length : Int) < (l.length : Int) := by omega
   have HV := Lib.hid HO.out.vals
   have HSl : Hid (Bt.Sl wr (.slice (some ⟨g, 0, none⟩) l.length l.length) l.length (Bt.bv (Cl.nulls l))) := Lib.hid (Bt.Sl.row (HR.out.congr fun i hi => by unfold Bt.upTo; rw [if_pos hi]))
   go_wp2
   go_ret2
   refine ⟨_, _, rfl, HSl.out, ?_, by have := HB.out; rwa [HGE.out] at this⟩
   have := HV.out
   rwa [List.take_length] at this
end
section
open Go.RowKit
set_option maxRecDepth 100000 in
set_option maxHeartbeats 1000000 in
theorem Tx.less_c (a b : ByteArray) (w : World) : Calls Tryz.prog 210 #[.string a, .string b] w fun e w' => e = .returned (.bool (Op.bytesLess a.toList b.toList)) ∧ w' = w := by
 generalize hx : Op.bytesLess a.toList b.toList = x
 go_enter Tryz.func210, Tryz.ntmps210
 go_wp2_with fail
 refine (Kn.isNaNs_c _ _).mono ?_
 rintro e w1 ⟨rfl, rfl⟩
 go_wp2
 go_ret
 exact ⟨rfl, rfl⟩
set_option maxRecDepth 100000 in
theorem Tx.tooLongF_c (s : ByteArray) (w : World) : Calls Tryz.prog 194 #[.string s] w fun e w' => e = .returned (.bool (decide ((64 : Int) < (s.size : Int)))) ∧ w' = w := by
 go_enter Tryz.func194, Tryz.ntmps194
 go_wp2
 go_ret
 exact ⟨rfl, rfl⟩
def Tx.fv : Value := .func (.func 194) #[] #[]
set_option maxRecDepth 100000 in
set_option maxHeartbeats 1000000 in
theorem Tx.indexFunc_c (v : Value) (L : List Tx.Str) (w : World) (hv : Tx.At w.heap.size w v L) (hn : L.length ≤ 65536) :
 Calls Tryz.prog 206 #[v, .func (.func 194) #[] #[]] w fun e w' => ∃ z : Int, e = .returned (.int .i64 z) ∧ w' = w ∧ ((z = -1 ∧ ∀ j, j < L.length → (L.getD j []).length ≤ 64) ∨ (0 ≤ z ∧ ∃ j, j < L.length ∧ 64 < (L.getD j []).length)) := by
 obtain ⟨a, c, rfl, hc, _, h⟩ := hv
 have HH := Lib.hid h
 obtain ⟨n, hnn⟩ : ∃ n, n = L.length := ⟨_, rfl⟩
 rw [← hnn] at hn hc ⊢
 have HN := Lib.hid hnn
 clear h hnn
 go_enter Tryz.func206, Tryz.ntmps206
 go_wp2
 go_loopw [8] (fun i wr => ∃ k : Nat, k ≤ n ∧ i = .int .i64 k ∧ (∀ j, j < k → (L.getD j []).length ≤ 64) ∧ wr = w) (fun i _ => n - (intOf i).toNat)
 case atStart => exact ⟨0, by omega, rfl, fun j hj => by omega, rfl⟩
 case round =>
  obtain ⟨k, hk, rfl, hp, rfl⟩ := hrel
  have HP := Lib.hid hp
  clear hp
  by_cases hl : k < n
  ·rcases HH.out with ⟨h, _⟩ | ⟨b, o, rfl, hlt, h⟩
   ·rw [HN.out, h] at hl; simp at hl
   ·have hcell := h k (by rw [← HN.out]; exact hl)
    unfold Tx.sv at hcell
    have hs := Tx.S_size (L.getD k [])
    have HX : Hid ((64 : Int) < ((Ty.S (L.getD k [])).size : Int) ↔ 64 < (L.getD k []).length) := Lib.hid (by rw [hs]; omega)
    have cc := Tx.tooLongF_c (Ty.S (L.getD k [])) wr
    generalize Ty.S (L.getD k []) = s at hcell HX cc
    have hkl : (k : Int) < (n : Int) := by omega
    have hk0 : (0 : Int) ≤ (k : Int) := by omega
    clear h hs
    by_cases h64 : (64 : Int) < (s.size : Int)
    ·rw [decide_eq_true h64] at cc
     have HB := Lib.hid (HX.out.1 h64)
     clear h64 HX
     go_wp2_with fail
     refine cc.mono ?_
     rintro e w1 ⟨rfl, rfl⟩
     go_wp2
     go_ret
     exact ⟨k, rfl, rfl, .inr ⟨by omega, k, hl, HB.out⟩⟩
    ·rw [decide_eq_false h64] at cc
     have HB : Hid ((L.getD k []).length ≤ 64) := Lib.hid (by
      have := HX.out
      omega)
     clear h64 HX
     go_wp2_with fail
     refine cc.mono ?_
     rintro e w1 ⟨rfl, rfl⟩
     go_wp2
     go_roundw
     case rel => exact ⟨k + 1, by omega, by simp, (fun j hj => by
      by_cases e : j = k
      ·rw [e]; exact HB.out
      ·exact HP.out j (by omega)), by trivial⟩
     case measure => simp [intOf]; omega
  ·obtain rfl : k = n := by omega
   have hkl : ¬ (k : Int) < (k : Int) := by omega
   go_wp2
   go_ret
   exact ⟨-1, rfl, rfl, .inl ⟨rfl, HP.out⟩⟩
set_option maxRecDepth 100000 in
theorem Tx.containsFunc_c (v : Value) (L : List Tx.Str) (w : World) (hv : Tx.At w.heap.size w v L) (hn : L.length ≤ 65536) :
 Calls Tryz.prog 193 #[v, .func (.func 194) #[] #[]] w fun e w' => e = .returned (.bool (!Tx.fit L)) ∧ w' = w := by
 have ci := Tx.indexFunc_c v L w hv hn
 have HN := Lib.hid hn
 clear hv hn
 go_enter Tryz.func193, Tryz.ntmps193
 go_wp2_with fail
 refine ci.mono ?_
 rintro e w1 ⟨z, rfl, rfl, hz⟩
 have HZ := Lib.hid hz
 clear ci hz
 go_wp2
 go_ret
 refine ⟨?_, rfl⟩
 congr 2
 rcases HZ.out with ⟨rfl, h⟩ | ⟨h0, j, hj, h⟩
 ·cases hf : Tx.fit L with
  | true => rfl
  | false => exact absurd (Tx.fit_no hf HN.out h) id
 ·cases hf : Tx.fit L with
  | true =>
    have := (Tx.fit_yes hf).2 (L.getD j []) (by rw [List.getD, List.getElem?_eq_getElem hj]; exact List.getElem_mem hj)
    omega
  | false => simpa using h0
set_option maxRecDepth 100000 in
set_option maxHeartbeats 1000000 in
theorem Tx.tooLong_c (v : Value) (L : List Tx.Str) (w : World) (hv : Tx.At w.heap.size w v L) (hn : L.length ≤ 140737488355328) :
 Calls Tryz.prog 175 #[v] w fun e w' => e = .returned (.bool (!Tx.fit L)) ∧ w' = w := by
 by_cases hl : L.length ≤ 65536
 ·have cc := Tx.containsFunc_c v L w hv hl
  obtain ⟨a, c, rfl, hc, _, h⟩ := hv
  have hli : ¬ (65536 : Int) < (L.length : Int) := by omega
  generalize Tx.fit L = x at cc ⊢
  clear h hn
  go_enter Tryz.func175, Tryz.ntmps175
  go_wp2_with fail
  refine cc.mono ?_
  rintro e w1 ⟨rfl, rfl⟩
  go_wp2
  go_ret
  exact ⟨rfl, rfl⟩
 ·have hf : Tx.fit L = false := by
   cases hf : Tx.fit L with
   | false => rfl
   | true => exact absurd (Tx.fit_yes hf).1 hl
  rw [hf]
  obtain ⟨a, c, rfl, hc, _, h⟩ := hv
  have hli : (65536 : Int) < (L.length : Int) := by omega
  clear h hn hf
  go_enter Tryz.func175, Tryz.ntmps175
  go_wp2
  go_ret
  exact ⟨rfl, rfl⟩
theorem Tx.asc_at : ∀ (d : List Tx.Str) (p : Option Tx.Str), Tx.Asc p d → ∀ i j, i < j → j < d.length → Tx.lt (d.getD i []) (d.getD j []) = true
 | [], _, _, i, j, _, hj => by simp at hj
 | a :: d, p, h, 0, j + 1, _, hj => by
   have hj' : j < d.length := by simpa using hj
   have := Tx.asc_all d (some a) h.2 a rfl (d.getD j []) (by rw [List.getD, List.getElem?_eq_getElem hj']; exact List.getElem_mem hj')
   simpa using this
 | a :: d, p, h, i + 1, j + 1, hij, hj => by
   have := Tx.asc_at d (some a) h.2 i j (by omega) (by simpa using hj)
   simpa using this
theorem Tx.search_end {d : List Tx.Str} {p : Option Tx.Str} (ha : Tx.Asc p d) {t : Tx.Str} (ht : t ∈ d) {i : Nat} (h1 : ∀ k, k < i → Tx.lt (d.getD k []) t = true) (h2 : ∀ k, i ≤ k → k < d.length → Tx.lt (d.getD k []) t = false) : i = Tx.pos d t ∧ i < d.length ∧ d.getD i [] = t := by
 have hp := Tx.pos_lt ht
 have hg : d.getD (Tx.pos d t) [] = t := by rw [List.getD, Tx.pos_get ht]; rfl
 have hle : i ≤ Tx.pos d t := by
  rcases Nat.lt_or_ge (Tx.pos d t) i with h | h
  ·have := h1 _ h
   rw [hg] at this
   have k : Tx.lt t t = false := Kn.bl_irrefl t
   rw [k] at this
   cases this
  ·exact h
 have heq : i = Tx.pos d t := by
  rcases Nat.lt_or_ge i (Tx.pos d t) with h | h
  ·have h3 := Tx.asc_at d p ha i (Tx.pos d t) h hp
   rw [hg, h2 i (Nat.le_refl _) (by omega)] at h3
   cases h3
  ·omega
 exact ⟨heq, by omega, by rw [heq]; exact hg⟩
end
section
open Go.RowKit
set_option maxHeartbeats 2000000 in
set_option maxRecDepth 100000 in
theorem Tx.search_c (v : Value) (d : List Tx.Str) (t : Tx.Str) (w : World) (hv : Tx.At w.heap.size w v d) (hn : d.length ≤ 65536) (ha : Tx.Asc none d) (ht : t ∈ d) :
 Calls Tryz.prog 198 #[v, .string (Ty.S t)] w fun e w' => e = .returned (.tuple #[.int .i64 ((Tx.pos d t : Nat) : Int), .bool true]) ∧ w' = w := by
 have HE := Lib.hid (fun (i : Nat) h1 h2 => Tx.search_end ha ht (i := i) h1 h2)
 have HA := Lib.hid ha
 obtain ⟨a, c, rfl, hc, _, h⟩ := hv
 have HH := Lib.hid h
 obtain ⟨n, hnn⟩ : ∃ n, n = d.length := ⟨_, rfl⟩
 rw [← hnn] at hn hc HE ⊢
 have HN := Lib.hid hnn
 have HL : Hid (∀ q : Tx.Str, Op.bytesLess (Ty.S q).toList (Ty.S t).toList = Tx.lt q t) := Lib.hid fun q => by rw [Tx.S_toList, Tx.S_toList]; rfl
 obtain ⟨ts, hts⟩ : ∃ ts, ts = Ty.S t := ⟨_, rfl⟩
 rw [← hts] at HL ⊢
 have HTS := Lib.hid hts
 clear h hnn hts ha ht
 go_enter Tryz.func198, Tryz.ntmps198
 go_wp2
 go_loopw [7, 8] (fun x y wr => ∃ i j : Nat, i ≤ j ∧ j ≤ n ∧ x = .int .i64 i ∧ y = .int .i64 j ∧ (∀ k, k < i → Tx.lt (d.getD k []) t = true) ∧ (∀ k, j ≤ k → k < n → Tx.lt (d.getD k []) t = false) ∧ wr = w) (fun x y _ => (intOf y).toNat - (intOf x).toNat)
 case atStart => exact ⟨0, n, by omega, by omega, rfl, rfl, (fun k hk => by omega), (fun k h1 h2 => by omega), rfl⟩
 case round =>
  obtain ⟨i, j, hij, hjn, rfl, rfl, hlo, hhi, rfl⟩ := hrel
  have HLO := Lib.hid hlo
  have HHI := Lib.hid hhi
  clear hlo hhi
  have hi0 : (0 : Int) ≤ (i : Int) := by omega
  by_cases hl : i < j
  ·have hil : (i : Int) < (j : Int) := by omega
   obtain ⟨m, hm⟩ : ∃ m, m = (i + j) / 2 := ⟨_, rfl⟩
   have hm1 : i ≤ m := by omega
   have hm2 : m < j := by omega
   rcases HH.out with ⟨h, _⟩ | ⟨b, o, rfl, hlt, h⟩
   ·rw [HN.out, h] at hjn; simp at hjn; omega
   ·have hcell := h m (by rw [← HN.out]; omega)
    unfold Tx.sv at hcell
    have cl := fun w => Tx.less_c (Ty.S (d.getD m [])) ts w
    rw [HL.out] at cl
    generalize Ty.S (d.getD m []) = s at hcell cl
    rw [hm] at hcell
    have HM := Lib.hid hm
    have HM1 := Lib.hid hm1
    have HM2 := Lib.hid hm2
    clear h hm hm1 hm2
    cases hx : Tx.lt (d.getD m []) t
    ·rw [hx] at cl
     have HX := Lib.hid hx
     clear hx
     go_wp2_with fail
     refine (cl _).mono ?_
     rintro e w1 ⟨rfl, rfl⟩
     go_wp2
     go_roundw
     case rel => exact ⟨i, m, HM1.out, by have := HM2.out; omega, rfl, by rw [HM.out]; simp, HLO.out, (fun k h1 h2 => by
      by_cases e : k = m
      ·rw [e]; exact HX.out
      ·have h3 := Tx.asc_at d none HA.out m k (by omega) (by rw [← HN.out]; exact h2)
       cases h4 : Tx.lt (d.getD k []) t with
       | false => rfl
       | true =>
         have h5 := Kn.bl_trans _ _ _ h3 h4
         have h6 : Tx.lt (d.getD m []) t = true := h5
         rw [HX.out] at h6
         cases h6), by trivial⟩
     case measure => have h1 := HM.out; have h2 := HM1.out; have h3 := HM2.out; simp [intOf]; omega
    ·rw [hx] at cl
     have HX := Lib.hid hx
     clear hx
     go_wp2_with fail
     refine (cl _).mono ?_
     rintro e w1 ⟨rfl, rfl⟩
     go_wp2
     go_roundw
     case rel => exact ⟨m + 1, j, by have := HM2.out; omega, by omega, by rw [HM.out]; simp, rfl, (fun k h1 => by
      by_cases e : k = m
      ·rw [e]; exact HX.out
      ·have h3 := Tx.asc_at d none HA.out k m (by omega) (by rw [← HN.out]; have := HM2.out; omega)
       exact Kn.bl_trans _ _ _ h3 HX.out), HHI.out, by trivial⟩
     case measure => have h1 := HM.out; have h2 := HM1.out; have h3 := HM2.out; simp [intOf]; omega
  ·obtain rfl : i = j := by omega
   have hil : ¬ (i : Int) < (i : Int) := by omega
   obtain ⟨e1, e2, e3⟩ := HE.out i HLO.out HHI.out
   have hin : (i : Int) < (n : Int) := by omega
   rcases HH.out with ⟨h, _⟩ | ⟨b, o, rfl, hlt, h⟩
   ·rw [HN.out, h] at e2; simp at e2
   ·have hcell := h i (by rw [← HN.out]; omega)
    unfold Tx.sv at hcell
    rw [e3, ← HTS.out] at hcell
    have heq : (ts.toList == ts.toList) = true := by rw [beq_iff_eq]
    have HP := Lib.hid e1
    clear e1 e2 e3 h
    go_wp2
    go_ret2
    exact ⟨by rw [HP.out]; rfl, rfl⟩
end
section
open Go.RowKit Go.Maps
theorem Tx.keyed : Keyed Tryz.prog 9 := string_keyed Tryz.underlying9
theorem Tx.zeroI (w : World) : (zeroValue 3).run Tryz.prog w = .ok (.int .i64 0) w := by kernel_rfl
def Tx.Has (D : DataW Unit) (L : List Tx.Str) : Prop := ∀ x, has D (.string x) = true ↔ x ∈ L
theorem Tx.isKey (x : Tx.Str) : WideAt.IsKeyLit (.string x) := trivial
theorem Tx.Has.next {D : DataW Unit} {L : List Tx.Str} {k : Nat} {d : DataW Unit} (hD : IsMap D) (h : Tx.Has D (L.take k)) (hk : k < L.length) : Tx.Has (D.put (.string (L.getD k [])) d) (L.take (k + 1)) := fun x => by
 have e : L.take (k + 1) = L.take k ++ [L.getD k []] := by
  rw [List.take_add_one, List.getElem?_eq_getElem hk, List.getD, List.getElem?_eq_getElem hk]
  rfl
 rw [e, List.mem_append, List.mem_singleton]
 by_cases hx : x = L.getD k []
 ·rw [hx, has_put_same hD (Tx.isKey _)]
  simp
 ·have hne : (Lit.string x) ≠ .string (L.getD k []) := fun e => hx (by simpa using e)
  rw [has_put_other hne, h x]
  constructor
  ·exact .inl
  ·rintro (h | h)
   ·exact h
   ·exact absurd h hx
def Tx.Counts (b n : Nat) (w : World) (L : List Tx.Str) : Prop := ∃ D : DataW Unit, w.ownsMap Tryz.prog 9 (plainElem Tryz.prog 3) b n D ∧ Tx.Has D L
theorem Tx.dict_nodup (L : List Tx.Str) : (Tx.dict L).Nodup := by
 refine List.pairwise_iff_getElem.2 fun i j hi hj hij => ?_
 have h := Tx.asc_at (Tx.dict L) none (Tx.dict_asc L) i j hij hj
 rw [List.getD, List.getElem?_eq_getElem hi, List.getD, List.getElem?_eq_getElem hj] at h
 intro e
 rw [Option.getD_some, Option.getD_some, e] at h
 have k : Tx.lt ((Tx.dict L)[j]) ((Tx.dict L)[j]) = false := Kn.bl_irrefl _
 rw [k] at h
 cases h
theorem Tx.Counts.keys {b n : Nat} {w : World} {L : List Tx.Str} (h : Tx.Counts b n w L) : ∃ D : DataW Unit, w.ownsMap Tryz.prog 9 (plainElem Tryz.prog 3) b n D ∧ (Tx.dict L).Perm (strKeys D) ∧ Maps.size D = (Tx.dict L).length := by
 obtain ⟨D, hown, hh⟩ := h
 obtain ⟨es, hD, hpw, _⟩ := hown.entries Tx.keyed
 obtain ⟨es', hD', hko⟩ := hown.keysOf
 obtain rfl : es = es' := by rw [hD] at hD'; simpa using hD'
 subst hD
 have hp := perm_strKeys hpw (fun p hp => by obtain ⟨v, hv⟩ := hko p hp; obtain ⟨x, _, hx, _⟩ := Maps.keyOf_str Tryz.underlying9 hv; exact ⟨x, hx⟩) (Tx.dict_nodup L) (fun x => by rw [Tx.dict_mem]; exact (hh x).symm)
 refine ⟨_, hown, hp, ?_⟩
 rw [hp.length_eq]
 show es.length = (es.map fun p => strOf p.1).length
 rw [List.length_map]
set_option maxHeartbeats 1000000 in
set_option maxRecDepth 100000 in
theorem Tx.uses_c (v : Value) (L : List Tx.Str) (w : World) (hv : Tx.At w.heap.size w v L) (hn : L.length ≤ 65536) (h64 : ∀ t ∈ L, t.length ≤ 64) :
 Calls Tryz.prog 197 #[v] w fun e w' => e = .returned (.map (some w.heap.size)) ∧ Tx.Counts w.heap.size L.length w' L ∧ Below w.heap.size w w' := by
 obtain ⟨a, c, rfl, hc, _, h⟩ := hv
 have HH := Lib.hid h
 have H64 := Lib.hid h64
 obtain ⟨n, hnn⟩ : ∃ n, n = L.length := ⟨_, rfl⟩
 rw [← hnn] at hn hc ⊢
 have HN := Lib.hid hnn
 have hmm := @run_makeMap Tryz.prog
 clear h hnn h64
 go_enter Tryz.func197, Tryz.ntmps197
 go_wp2
 go_loopw [9] (fun i wr => ∃ (k : Nat) (D : DataW Unit), k ≤ n ∧ i = .int .i64 k ∧ wr.ownsMap Tryz.prog 9 (plainElem Tryz.prog 3) w.heap.size k D ∧ Tx.Has D (L.take k) ∧ Below w.heap.size w wr) (fun i _ => n - (intOf i).toNat)
 case atStart => exact ⟨0, _, Nat.zero_le _, rfl, World.ownsMap_made _ _ _ _, (fun x => by simp [has]), (Below.refl _ _).alloc (Nat.le_refl _) _⟩
 case round =>
  obtain ⟨k, D, hk, rfl, hown, hhas, hnx⟩ := hrel
  have HHA := Lib.hid hhas
  have HB := Lib.hid hnx
  have hk0 : (0 : Int) ≤ (k : Int) := by omega
  by_cases hl : k < n
  ·rcases HH.out with ⟨h, _⟩ | ⟨b, o, rfl, hlt, h⟩
   ·rw [HN.out, h] at hl; simp at hl
   ·have hcell : wr.cell? ⟨b, o + k, none⟩ = some (Tx.sv L k) := (hnx.cell (p := ⟨b, o + k, none⟩) hlt).trans (h k (by rw [← HN.out]; exact hl))
    unfold Tx.sv at hcell
    have hsz : (Ty.S (L.getD k [])).size ≤ maxLen := by
     have := H64.out (L.getD k []) (by rw [List.getD, List.getElem?_eq_getElem (by rw [← HN.out]; exact hl)]; exact List.getElem_mem _)
     rw [Tx.S_size]
     unfold maxLen; omega
    have hkey : keyOf Tryz.prog 9 (.string (Ty.S (L.getD k []))) = some (.string (L.getD k [])) := Go.WideMaps.keyOf_string_mk Tryz.underlying9 hsz
    have HNX := Lib.hid (fun d => Tx.Has.next (d := d) hown.isMap HHA.out (by rw [← HN.out]; exact hl))
    obtain ⟨q, hrun, hat, _⟩ := hown.lookup_int Tx.keyed Tryz.underlying247 Tryz.underlying3 (Tx.zeroI _) hkey
    have hkl : (k : Int) < (n : Int) := by omega
    generalize Ty.S (L.getD k []) = s at hcell hkey hrun
    generalize (Lit.string (L.getD k [])) = kl at hkey HNX
    clear h hat hsz hhas hnx
    go_wp2_with (at_mapUpdate; refine wpList_mapUpdate_own _ rfl _ _ _ 247 rfl 9 3 Tx.keyed Tryz.underlying247 _ w.heap.size k _ rfl hown (by unfold maxLen; omega) _ _ _ rfl rfl hkey _ [] (plainElem_int Tryz.underlying3 (wrap64_wf _)) ?_; intro w1 hown1 hgrow1)
    have HO1 := Lib.hid hown1
    have HB1 := Lib.hid (HB.out.grown hgrow1 HB.out.size (fun j hj => by cases hj; exact Nat.le_refl _))
    clear hown1 hgrow1 hown hrun
    go_wp2
    go_roundw
    case rel => exact ⟨k + 1, _, by omega, by simp, HO1.out, HNX.out _, HB1.out⟩
    case measure => simp [intOf]; omega
  ·obtain rfl : k = n := by omega
   have hkl : ¬ (k : Int) < (k : Int) := by omega
   have HF : Hid (L.take k = L) := Lib.hid (by rw [HN.out, List.take_length])
   have HO := Lib.hid hown
   clear hown hnx hhas
   go_wp2
   go_ret
   exact ⟨rfl, ⟨D, HO.out, by rw [← HF.out]; exact HHA.out⟩, HB.out⟩
end
section
open Go.RowKit Go.Maps Go.Sort Go.Shelf
theorem Tx.keysOf_c (mb : Option Nat) (w : World) :
 Calls Tryz.prog 196 #[.map mb] w fun e w' => e = .returned (.func (.func 209) #[] #[.pointer (some ⟨w.heap.size, 0, none⟩)]) ∧ w' = w.alloc (.cells #[.map mb] 247) :=
 callsIn_wide.1 (AnyZ.keys_in Tryz.keysL Fence.wide 5 trivial rfl mb w)
theorem Tx.sorts (m : Nat) : AnyZ.SortsIn Tryz.prog Tryz.sortedL_ren Fence.wide m :=
 ⟨fun blk off cap ss w hH hblk hsz => callsIn_wide.2 (AnyM.slices_Sort_string Tryz.sortL blk off cap ss w hH hblk hsz), fun p cap w => callsIn_wide.2 (AnyM.slices_Sort_string_none Tryz.sortL p cap w)⟩
theorem Tx.dict_sorted (L : List Tx.Str) {ss : List Tx.Str} (h : (Tx.dict L).Perm ss) : ss.mergeSort (fun x y => decide (x ≤ y)) = Tx.dict L := by
 rw [mergeSort_of_perm h.symm]
 refine List.mergeSort_of_pairwise (List.pairwise_iff_getElem.2 fun i j hi hj hij => ?_)
 have h1 := Tx.asc_at (Tx.dict L) none (Tx.dict_asc L) i j hij hj
 rw [List.getD, List.getElem?_eq_getElem hi, List.getD, List.getElem?_eq_getElem hj] at h1
 have h2 : Op.bytesLess (Tx.dict L)[i] (Tx.dict L)[j] = true := h1
 rw [bytesLess_eq, decide_eq_true_eq] at h2
 exact decide_eq_true (List.le_of_lt h2)
theorem Tx.enc_sv (L : List Tx.Str) : L.map encStr = (List.range L.length).map (Tx.sv L) := by
 refine List.ext_getElem (by simp) fun i h1 h2 => ?_
 have hi : i < L.length := by simpa using h1
 rw [List.getElem_map, List.getElem_map, List.getElem_range]
 unfold Tx.sv
 rw [List.getD, List.getElem?_eq_getElem hi]
 rfl
set_option maxHeartbeats 1000000 in
theorem Tx.sorted_c {b n : Nat} {L : List Tx.Str} {w : World} (hc : Tx.Counts b n w L) (hn : L.length ≤ 65536) :
 Calls Tryz.prog 195 #[.func (.func 209) #[] #[.pointer (some ⟨w.heap.size, 0, none⟩)]] (w.alloc (.cells #[.map (some b)] 247)) fun e w' => ∃ v, e = .returned v ∧ Tx.Own w.heap.size w' v (Tx.dict L) ∧ Below w.heap.size w w' := by
 obtain ⟨D, hown, hp, hs⟩ := hc.keys
 have hbl := hown.lt
 have hdl := Tx.dict_len L
 have hseq : SeqGives Fence.wide 2 Tryz.prog 209 #[.pointer (some ⟨w.heap.size, 0, none⟩)] encStr (fun ss => ss.Perm (strKeys D)) (Maps.size D) (w.alloc (.cells #[.map (some b)] 247)) :=
  AnyZ.keys_gives (ρ := Tryz.keysL_ren) { Tryz.keysL with } Fence.wide _ trivial rfl (by omega) w.heap.size b n D _ (by simp) (by simp) (hown.alloc _)
 have hc := callsIn_wide.1 (AnyZ.sorted_in Tryz.sortedL Fence.wide 5 trivial trivial trivial trivial rfl (by omega) (Tx.sorts _) (enters_of Tryz.func208 (by kernel_rfl) rfl) 209 #[.pointer (some ⟨w.heap.size, 0, none⟩)] trivial (enters_of Tryz.func209 (by kernel_rfl) rfl) _ _ (by rw [hs]; unfold maxLen; omega) (by rw [hs]; omega) _ hseq)
 refine hc.mono ?_
 rintro e w' ⟨v, ss, rfl, hS, hrow, hnil, hb⟩
 have hd := Tx.dict_sorted L (hp.trans hS.symm)
 have hlen : ss.length = (Tx.dict L).length := (hp.trans hS.symm).length_eq.symm
 refine ⟨v, rfl, ?_, ?_⟩
 ·have e1 : (ss.mergeSort (fun x y => decide (x ≤ y))).map encStr = (List.range (Tx.dict L).length).map (Tx.sv (Tx.dict L)) := by rw [hd, Tx.enc_sv]
  have h2 := hrow
  rw [e1, hlen] at h2
  exact Tx.Own.mono (B := (w.alloc (.cells #[.map (some b)] 247)).heap.size) h2 (by simp)
 ·exact ((Below.refl _ w).alloc (Nat.le_refl _) _).trans (hb.mono (by simp))
end
section
open Go.RowKit
open Ty (encU)
theorem Tx.At.string {B n c : Nat} {w : World} {a : Option Addr} {L : List Tx.Str} (h : Tx.At B w (.slice a n c) L) {k : Nat} (hk : k < L.length) : ∃ b o, a = some ⟨b, o, none⟩ ∧ w.cell? ⟨b, o + k, none⟩ = some (.string (Ty.S (L.getD k []))) := by
 obtain ⟨a', c', e, _, _, h⟩ := h
 simp only [Value.slice.injEq] at e
 rcases h with ⟨h, _⟩ | ⟨b, o, ea, _, h⟩
 ·rw [h] at hk; simp at hk
 ·exact ⟨b, o, e.1.trans ea, h k hk⟩
set_option maxHeartbeats 1000000 in
set_option maxRecDepth 100000 in
theorem Tx.writeStrings_c (base : Nat) (v : Value) (bs : List UInt8) (u : Value) (L : List Tx.Str) (w : World) (hw : Ty.Tabs w) (hown : Ty.Buf base w v bs) (hb : base ≤ w.heap.size) (hG : Ty.G ≤ base)
 (hst : ∀ x w', Ty.Grew w w' v x → Tx.At w'.heap.size w' u L) (h64 : ∀ t ∈ L, t.length ≤ 64) (hlen : bs.length ≤ 100) (hl : L.length ≤ 65536) :
 Calls Tryz.prog 177 #[v, u] w (Ty.Written base w v (bs ++ L.flatMap Tx.encT)) := by
 obtain ⟨a, c, rfl, hc, _, _⟩ := hst _ _ (Ty.Grew.refl w v)
 have HST := Lib.hid hst
 have H64 := Lib.hid h64
 have H0 := Lib.hid hown.base
 obtain ⟨n, hnn⟩ : ∃ n, n = L.length := ⟨_, rfl⟩
 rw [← hnn] at hl hc HST ⊢
 have HN := Lib.hid hnn
 clear hst h64 hnn
 go_enter Tryz.func177, Tryz.ntmps177
 go_wp2
 go_loopw [0, 9] (fun x i wr => ∃ k : Nat, k ≤ n ∧ i = .int .i64 k ∧ Ty.Buf base wr x (bs ++ (L.take k).flatMap Tx.encT) ∧ Ty.Grew w wr v x) (fun _ i _ => n - (intOf i).toNat)
 case atStart => exact ⟨0, by omega, rfl, by simpa using hown, Ty.Grew.refl _ _⟩
 case round =>
  obtain ⟨k, hk, rfl, hB, hg⟩ := hrel
  have hb1 := hg.below hb H0.out
  have hT := hw.below hb1 hG
  have hs := hb1.size
  have hat := HST.out _ _ hg
  have HB := Lib.hid hB
  have HG := Lib.hid hg
  have hk0 : (0 : Int) ≤ (k : Int) := by omega
  clear hB hg
  by_cases hl2 : k < n
  ·have hkL : k < L.length := by rw [← HN.out]; exact hl2
   obtain ⟨b, o, rfl, hcell⟩ := hat.string hkL
   have hx : (L.getD k []).length ≤ 64 := H64.out _ (by rw [List.getD, List.getElem?_eq_getElem hkL]; exact List.getElem_mem _)
   have HN2 := Lib.hid (Tx.flat_next hkL)
   have hln := Tx.len_flat (L.take k) (fun t ht => H64.out t (List.mem_of_mem_take ht))
   rw [List.length_take] at hln
   have c1 := Ty.text_c base _ _ (Ty.S (L.getD k [])) wr hT HB.out (by omega) (by rw [List.length_append, Tx.S_size]; omega)
   have HE : Hid (encU (Ty.S (L.getD k [])).size ++ (Ty.S (L.getD k [])).data.toList = Tx.encT (L.getD k [])) := Lib.hid rfl
   rw [← HE.out] at HN2
   have hkl : (k : Int) < (n : Int) := by omega
   generalize Ty.S (L.getD k []) = s at hcell c1 HN2
   clear hx hln hT hb1 HE hat
   go_wp2_with fail
   refine c1.mono ?_
   rintro e w1 ⟨v1, rfl, hB1, hG1⟩
   have HB1 := Lib.hid hB1
   have HG1 := Lib.hid hG1
   clear hB1 hG1 c1
   go_wp2
   go_roundw
   case rel => exact ⟨k + 1, by omega, by simp, by rw [HN2.out, ← List.append_assoc, ← List.append_assoc]; exact HB1.out, HG.out.trans HG1.out⟩
   case measure => simp [intOf]; omega
  ·obtain rfl : k = n := by omega
   have hkl : ¬ (k : Int) < (k : Int) := by omega
   have HF : Hid (L.take k = L) := Lib.hid (by rw [HN.out, List.take_length])
   clear hat
   go_wp2
   go_ret
   exact ⟨_, rfl, by have := HB.out; rwa [HF.out] at this, HG.out⟩
theorem Tx.encX_is (d L : List Tx.Str) : Tx.encX d L = Pk.enc L.length (Tx.ix d L) := rfl
set_option maxHeartbeats 2000000 in
set_option maxRecDepth 100000 in
theorem Tx.writeDictionary_c (base : Nat) (v : Value) (bs : List UInt8) (u : Value) (L : List Tx.Str) (w : World) (hw : Ty.Tabs w) (hown : Ty.Buf base w v bs) (hb : base ≤ w.heap.size) (hG : Ty.G ≤ base)
 (hL : Tx.At base w u L) (h64 : ∀ t ∈ L, t.length ≤ 64) (hlen : bs.length ≤ 80) (hl : L.length ≤ 65536) :
 Calls Tryz.prog 176 #[v, u] w (Ty.Written base w v (bs ++ Tx.body 1 L)) := by
 have hdl : (Tx.dict L).length ≤ 65536 := Nat.le_trans (Tx.dict_len L) hl
 have hd64 : ∀ t ∈ Tx.dict L, t.length ≤ 64 := fun t ht => h64 t ((Tx.dict_mem L t).1 ht)
 have HE : Hid (Tx.body 1 L = encU (Tx.dict L).length ++ (Tx.dict L).flatMap Tx.encT ++ Pk.enc L.length (Tx.ix (Tx.dict L) L)) := Lib.hid (by unfold Tx.body; rw [if_neg (by decide), Tx.encX_is, List.append_assoc])
 have HX : Hid (∀ k, k < L.length → Tx.ix (Tx.dict L) L k < (Tx.dict L).length) := Lib.hid fun k hk => Tx.ix_lt _ _ (fun t ht => (Tx.dict_mem L t).2 ht) k hk
 have HS : Hid (∀ a c k w, k < L.length → Tx.At w.heap.size w (.slice a (Tx.dict L).length c) (Tx.dict L) → Calls Tryz.prog 198 #[.slice a (Tx.dict L).length c, .string (Ty.S (L.getD k []))] w fun e w' => e = .returned (.tuple #[.int .i64 ((Tx.ix (Tx.dict L) L k : Nat) : Int), .bool true]) ∧ w' = w) := Lib.hid fun a c k w hk ha =>
  Tx.search_c _ (Tx.dict L) (L.getD k []) w ha hdl (Tx.dict_asc L) ((Tx.dict_mem L _).2 (by rw [List.getD, List.getElem?_eq_getElem hk]; exact List.getElem_mem _))
 have CU := Lib.hid (Tx.uses_c u L w (hL.mono hb (Nat.le_refl _)) hl h64)
 have CS := Lib.hid (fun (w : World) b n (hc : Tx.Counts b n w L) => Tx.sorted_c hc hl)
 have CW := Lib.hid (fun v bs u w h1 h2 h3 h4 h5 => Tx.writeStrings_c base v bs u (Tx.dict L) w h1 h2 h3 hG h4 hd64 h5 hdl)
 have HX64 : Hid (∀ i, Tx.ix (Tx.dict L) L i < 2 ^ 64) := Lib.hid fun i => by
  have : Tx.ix (Tx.dict L) L i ≤ (Tx.dict L).length := List.idxOf_le_length
  omega
 have HFL := Lib.hid (Tx.len_flat (Tx.dict L) hd64)
 have hmk := run_make_row' (P := Tryz.prog) 212 88 (.int .u64 0) 8 Tryz.underlying212 Bt.infoU rfl .i64 .i64 L.length (by omega) (by omega)
 have H0 := Lib.hid hown
 generalize Tx.ix (Tx.dict L) L = X at HE HX HS HX64
 rw [HE.out]
 generalize Tx.dict L = d at HE HX HS CS CW HFL hdl hd64 ⊢
 obtain ⟨a, c, rfl, hc, _, h⟩ := hL
 have HH := Lib.hid h
 obtain ⟨n, hnn⟩ : ∃ n, n = L.length := ⟨_, rfl⟩
 have HN := Lib.hid hnn
 rw [← hnn] at hl hc hmk HX HS CU ⊢
 have hu : Ty.U64 ((d.length : Int)).toNat := by unfold Ty.U64; omega
 have h9 := Ty.encU_len9 d.length
 have HU := Lib.hid hu
 have H9 := Lib.hid h9
 clear h h64 hnn hown hd64 HE hu h9
 go_enter Tryz.func176, Tryz.ntmps176
 go_wp2_with fail
 refine CU.out.mono ?_
 rintro e w1 ⟨rfl, hC, hb1⟩
 have HC := Lib.hid hC
 have HB1 := Lib.hid hb1
 clear hC hb1 CU
 go_wp2_with fail
 refine (Tx.keysOf_c _ _).mono ?_
 rintro e w2 ⟨rfl, rfl⟩
 go_wp2_with fail
 refine (CS.out _ _ _ HC.out).mono ?_
 rintro e w3 ⟨vd, rfl, hO, hb3⟩
 have HO := Lib.hid hO
 have HB3 := Lib.hid (HB1.out.trans (hb3.mono HB1.out.size))
 have hAt := hO.at
 clear hO hb3 CS HC
 obtain ⟨ad, cd, rfl, hcd, _, hd⟩ := hAt
 clear hd
 have hs3 := HB3.out.size
 go_wp2_with fail
 have hR : (w3.alloc (.cells (madeCells #[.int .u64 0] n) 88)).rowIs w3.heap.size 88 n (Bt.upTo 0 (Bt.nv X) (.int .u64 0)) := (World.rowIs_made w3 (.int .u64 0) n 88).congr fun i _ => by unfold Bt.upTo; rw [if_neg (by omega)]
 have hB : Below w3.heap.size w3 (w3.alloc (.cells (madeCells #[.int .u64 0] n) 88)) := (Below.refl _ _).alloc (Nat.le_refl _) _
 generalize w3.alloc (.cells (madeCells #[.int .u64 0] n) 88) = w4 at hR hB ⊢
 clear hmk
 generalize hg : w3.heap.size = g at hR hB
 have HGE := Lib.hid hg
 clear hg
 go_loopw [20] (fun i wr => ∃ k : Nat, k ≤ n ∧ i = .int .i64 k ∧ wr.rowIs g 88 n (Bt.upTo k (Bt.nv X) (.int .u64 0)) ∧ Below g w3 wr) (fun i _ => n - (intOf i).toNat)
 case atStart => exact ⟨0, by omega, rfl, hR, hB⟩
 case round =>
  obtain ⟨k, hk, rfl, hRk, hBk⟩ := hrel
  have HR := Lib.hid hRk
  have HBK := Lib.hid hBk
  clear hR hB hRk hBk
  have hge := HGE.out
  have hbw : Below w3.heap.size w3 wr := by rw [hge]; exact HBK.out
  have hO2 : Tx.Own w1.heap.size wr _ d := Bt.Buf.kept HO.out hbw
  have hA2 := hO2.at
  have hball := HB3.out.trans (hbw.mono hs3)
  have HBA := Lib.hid hball
  have hws := hball.size
  by_cases hl2 : k < n
  ·rcases HH.out with ⟨h, _⟩ | ⟨b, o, rfl, hlt, h⟩
   ·rw [HN.out, h] at hl2; simp at hl2
   ·have hcell : wr.cell? ⟨b, o + k, none⟩ = some (Tx.sv L k) := (hball.cell (p := ⟨b, o + k, none⟩) (show b < w.heap.size by omega)).trans (h k (by rw [← HN.out]; exact hl2))
    unfold Tx.sv at hcell
    have cs := HS.out ad cd k wr hl2 hA2
    have hxl := HX.out k hl2
    have HXK : Hid (X k = X k) := Lib.hid rfl
    have hkl : (k : Int) < (n : Int) := by omega
    have hk0 : (0 : Int) ≤ (k : Int) := by omega
    have hf := HR.out.frozen k
    have hcl := HR.out.cell hl2
    generalize Ty.S (L.getD k []) = s at hcell cs
    obtain ⟨x, hx⟩ : ∃ x, x = X k := ⟨_, rfl⟩
    rw [← hx] at cs hxl
    have HXE := Lib.hid hx
    clear h hx hball hbw hA2 hO2 hge HXK
    go_wp2_with fail
    refine cs.mono ?_
    rintro e w5 ⟨rfl, rfl⟩
    clear cs
    go_wp2
    go_roundw
    case rel => exact ⟨k + 1, by omega, by simp, Bt.upTo_next HR.out (by unfold Bt.nv; rw [← HXE.out]), HBK.out.trans (Bt.below_set (Nat.le_refl _) _)⟩
    case measure => simp [intOf]; omega
  ·obtain rfl : k = n := by omega
   have hkl : ¬ (k : Int) < (k : Int) := by omega
   have hown2 := H0.out.later hball
   have hT2 := hw.below hball (by omega)
   have HSL : Hid (Bt.Sl wr (.slice (some ⟨g, 0, none⟩) k k) k (Bt.nv X)) := Lib.hid (Bt.Sl.row (HR.out.congr fun i hi => by unfold Bt.upTo; rw [if_pos hi]))
   have HT := Lib.hid hT2
   have HO2 := Lib.hid hO2
   have cu := Ty.uint_c base v bs (d.length : Int) (by omega) HU.out wr hT2 hown2 (by omega) (by omega)
   clear hball hbw hA2 hO2 hge hown2 hT2
   go_wp2_with fail
   refine cu.mono ?_
   rintro e w5 ⟨v5, rfl, hB5, hG5⟩
   have hbs5 := hG5.by_.size
   have hb5 : Below base wr w5 := hG5.below (by omega) H0.out.base
   have HB5 := Lib.hid hB5
   have HG5 := Lib.hid hG5
   have HT5 := Lib.hid (HT.out.below hb5 hG)
   have hgw := HR.out.lt
   have e1 : ((d.length : Int)).toNat = d.length := Int.toNat_natCast _
   have hgv : some g ≠ v.ownBlock := fun e => by have := (H0.out.lt g e.symm).2; have := HGE.out; omega
   have hne : (Value.slice ad d.length cd).ownBlock = none ∨ (Value.slice ad d.length cd).ownBlock ≠ v.ownBlock := by
    cases hv : (Value.slice ad d.length cd).ownBlock with
    | none => exact .inl rfl
    | some q =>
      refine .inr fun e => ?_
      have h1 := Bt.Buf.base_le HO2.out q hv
      have h2 := (H0.out.lt q e.symm).2
      have h3 := HB1.out.size
      omega
   have cw := CW.out v5 _ (.slice ad d.length cd) w5 HT5.out HB5.out (by omega) (fun x w' hg => by
    have : Tx.Own w1.heap.size w' (.slice ad d.length cd) d := World.ownsRow.kept HO2.out (HG5.out.trans hg).by_ hne
    exact this.at) (by rw [e1, List.length_append]; have := H9.out; omega)
   clear cu hB5 hG5 hb5 hne
   go_wp2_with fail
   refine cw.mono ?_
   rintro e w6 ⟨v6, rfl, hB6, hG6⟩
   have hs6 := hG6.by_.size
   have hall := HG5.out.trans hG6
   have hsl6 := Pk.sl_kept HSL.out (hall.by_.block g hgw hgv) hall.by_.size
   have ca := Pk.append_c base v6 _ _ k X w6 hB6 (by omega) hsl6 HX64.out hl (by
    rw [e1]
    simp only [List.length_append]
    have h1 := H9.out
    have h2 := HFL.out
    omega)
   have HALL := Lib.hid hall
   clear cw hB6 hG6 hall hsl6 hgv hgw
   go_wp2_with fail
   refine ca.mono ?_
   rintro e w7 ⟨v7, rfl, hB7, hG7⟩
   have HB7 := Lib.hid hB7
   have HG7 := Lib.hid (Pk.grew_below (Ty.Grew.refl w v) HBA.out |>.trans (HALL.out.trans hG7))
   clear ca hB7 hG7
   go_wp2
   go_ret
   exact ⟨_, rfl, by have := HB7.out; rw [e1] at this; simpa [List.append_assoc] using this, HG7.out⟩
end
section
open Go.RowKit
open Ty (encU)
theorem Tx.At.stays {w : World} {v u : Value} {L : List Tx.Str} {base : Nat} (h : Tx.At base w u L) (hb : base ≤ w.heap.size) (hv : ∀ k, v.ownBlock = some k → base ≤ k) : ∀ x w', Ty.Grew w w' v x → Tx.At w'.heap.size w' u L := fun _ _ hg => by
 have g := hg.below hb hv
 exact (h.below g).mono (Nat.le_trans hb g.size) (Nat.le_refl _)
set_option maxHeartbeats 2000000 in
set_option maxRecDepth 100000 in
theorem Tx.with_good (u : Value) (L : List Tx.Str) (k : Nat) (hk : k ≤ 1) (w : World) (hw : Ty.Tabs w) (hL : Tx.At w.heap.size w u L) (hf : Tx.fit L = true) :
 Calls Tryz.prog 154 #[u, .int .i64 k] w fun e w' => e = .returned (.tuple #[.string (Ty.S (Tx.enc k L)), .int .i64 0]) ∧ Below w.heap.size w w' := by
 obtain ⟨hl, h64⟩ := Tx.fit_yes hf
 have ct := Tx.tooLong_c u L w hL (by omega)
 rw [hf] at ct
 have hG := hw.two
 have HE : Hid (Tx.enc k L = [UInt8.ofNat k] ++ encU L.length ++ Tx.body k L) := Lib.hid (by unfold Tx.enc; simp)
 have HL := Lib.hid hL
 have H64 := Lib.hid h64
 have hu : Ty.U64 ((L.length : Int)).toNat := by unfold Ty.U64; omega
 have h9 := Ty.encU_len9 L.length
 have H9 := Lib.hid h9
 obtain ⟨a, c, rfl, hc, _, h⟩ := hL
 clear h h9 hf h64
 rw [HE.out]
 rcases (by omega : k = 0 ∨ k = 1) with rfl | rfl
 all_goals
  go_enter Tryz.func154, Tryz.ntmps154
  go_wp2_with fail
  refine ct.mono ?_
  rintro e w1 ⟨rfl, rfl⟩
  have cU := fun wz X h1 h2 h3 => Ty.uint_c w1.heap.size (.slice (some ⟨w1.heap.size, 0, none⟩) 1 1) [X] (L.length : Int) (by omega) hu wz h1 h2 h3 (by simp)
  have hT2 : ∀ o, Ty.Tabs (w1.alloc o) := fun o => hw.alloc o
  have hBf : ∀ K : Nat, K < 256 → Ty.Buf w1.heap.size (w1.alloc (.cells #[.int .u8 (K : Int)] 5)) (.slice (some ⟨w1.heap.size, 0, none⟩) 1 1) [UInt8.ofNat K] := fun K hK => Tx.buf_one K hK (Nat.le_refl _)
  have HT2 := Lib.hid hT2
  have HBf := Lib.hid hBf
  have hab : ∀ o, Below w1.heap.size w1 (w1.alloc o) := fun o => (Below.refl _ _).alloc (Nat.le_refl _) o
  have HAB := Lib.hid hab
  have CU := Lib.hid cU
  clear cU hT2 hBf hab hu ct
  go_wp2_with fail
  first
   | refine (CU.out _ _ (HT2.out _) (HBf.out 0 (by decide)) (by simp)).mono ?_
   | refine (CU.out _ _ (HT2.out _) (HBf.out 1 (by decide)) (by simp)).mono ?_
  rintro e w2 ⟨v2, rfl, hB2, hG2⟩
  have hb2 := (HAB.out _).trans (hG2.below (B := w1.heap.size) (by simp) (by intro j hj; have : w1.heap.size = j := (by simpa [Value.ownBlock] using hj); omega))
  have hs2 := hb2.size
  have hT2 := hw.below hb2 hG
  have HB2 := Lib.hid hB2
  have hL2 := HL.out.below hb2
  have hln : ∀ K : UInt8, ([K] ++ encU ((L.length : Int)).toNat).length ≤ 80 := fun K => by
   have h1 := H9.out
   have e1 : ((L.length : Int)).toNat = L.length := Int.toNat_natCast _
   rw [e1, List.length_append, List.length_singleton]
   omega
  have HLN := Lib.hid hln
  have HB := Lib.hid hb2
  clear hB2 hG2 CU HT2 HBf HAB hb2 hln
  go_wp2_with fail
  first
   | refine (Tx.writeStrings_c w1.heap.size v2 _ _ L w2 hT2 HB2.out hs2 hG (hL2.stays hs2 HB2.out.base) H64.out (Nat.le_trans (HLN.out _) (by decide)) hl).mono ?_
   | refine (Tx.writeDictionary_c w1.heap.size v2 _ _ L w2 hT2 HB2.out hs2 hG hL2 H64.out (HLN.out _) hl).mono ?_
  rintro e w4 ⟨v4, rfl, hB4, hG4⟩
  have hb4 := HB.out.trans (hG4.below hs2 HB2.out.base)
  have hcv := hB4.str
  clear hB4 hG4 hL2 hT2
  go_wp2
  go_ret2
  exact ⟨by first | rfl | simp [Tx.body], hb4⟩
set_option maxHeartbeats 1000000 in
set_option maxRecDepth 100000 in
theorem Tx.with_c (u : Value) (L : List Tx.Str) (z : Int) (w : World) (hw : Ty.Tabs w) (hL : Tx.At w.heap.size w u L) (hl : L.length ≤ 140737488355328) :
 Calls Tryz.prog 154 #[u, .int .i64 z] w fun e w' => e = .returned (Tx.withV L z) ∧ Below w.heap.size w w' := by
 by_cases hz : 0 ≤ z ∧ z ≤ 1
 ·cases hf : Tx.fit L
  ·rw [Tx.withV_long hz hf]
   have ct := Tx.tooLong_c u L w hL hl
   rw [hf] at ct
   obtain ⟨h0, h1⟩ := hz
   have h2 : ¬ z < 0 := by omega
   have h3 : ¬ (2 : Int) ≤ z := by omega
   obtain ⟨a, c, rfl, hc, _, h⟩ := hL
   clear h hf
   go_enter Tryz.func154, Tryz.ntmps154
   go_wp2_with fail
   refine ct.mono ?_
   rintro e w1 ⟨rfl, rfl⟩
   go_wp2
   go_ret2
   exact ⟨rfl, Below.refl _ _⟩
  ·obtain ⟨k, rfl⟩ := Int.eq_ofNat_of_zero_le hz.1
   rw [Tx.withV_good (by omega) hf]
   exact Tx.with_good u L k (by omega) w hw hL hf
 ·rw [Tx.withV_bad hz]
  obtain ⟨a, c, rfl, hc, _, h⟩ := hL
  clear h
  by_cases h0 : z < 0
  ·clear hz
   go_enter Tryz.func154, Tryz.ntmps154
   go_wp2
   go_ret2
   exact ⟨rfl, Below.refl _ _⟩
  ·have h4 : (2 : Int) ≤ z := by omega
   clear hz
   go_enter Tryz.func154, Tryz.ntmps154
   go_wp2
   go_ret2
   exact ⟨rfl, Below.refl _ _⟩
set_option maxHeartbeats 1000000 in
set_option maxRecDepth 100000 in
theorem Tx.best_c (u : Value) (L : List Tx.Str) (w : World) (hw : Ty.Tabs w) (hL : Tx.At w.heap.size w u L) (hl : L.length ≤ 140737488355328) :
 Calls Tryz.prog 143 #[u] w fun e w' => e = .returned (Tx.bestV L) ∧ Below w.heap.size w w' := by
 have hG := hw.two
 have c0 := Tx.with_c u L 0 w hw hL hl
 have c1 : ∀ wz, Below w.heap.size w wz → Calls Tryz.prog 154 #[u, .int .i64 1] wz fun e w' => e = .returned (Tx.withV L 1) ∧ Below w.heap.size w w' := fun wz g =>
  (Tx.with_c u L 1 wz (hw.below g hG) ((hL.below g).mono g.size (Nat.le_refl _)) hl).mono fun e w' ⟨he, hg⟩ => ⟨he, g.trans (hg.mono g.size)⟩
 cases hf : Tx.fit L
 ·rw [Tx.withV_long (by omega) hf] at c0
  have HV : Hid (Tx.bestV L = .tuple #[.string (Ty.S []), .int .i64 3]) := Lib.hid (by unfold Tx.bestV; rw [hf]; rfl)
  rw [HV.out]
  clear hf c1 hL hl
  go_enter Tryz.func143, Tryz.ntmps143
  go_wp2_with fail
  refine c0.mono ?_
  rintro e w1 ⟨rfl, g1⟩
  clear c0
  go_wp2
  go_ret2
  exact ⟨rfl, g1⟩
 ·have v0 : Tx.withV L 0 = .tuple #[.string (Ty.S (Tx.enc 0 L)), .int .i64 0] := Tx.withV_good (k := 0) (by omega) hf
  have v1 : Tx.withV L 1 = .tuple #[.string (Ty.S (Tx.enc 1 L)), .int .i64 0] := Tx.withV_good (k := 1) (by omega) hf
  rw [v0] at c0
  rw [v1] at c1
  have HV : Hid (Tx.bestV L = .tuple #[.string (Ty.S (Tx.enc (Tx.bestK L) L)), .int .i64 0]) := Lib.hid (by unfold Tx.bestV; rw [if_pos hf])
  rw [HV.out]
  clear hf v0 v1 hL hl
  have hb : (Tx.bestK L = 1 ∧ ((Ty.S (Tx.enc 1 L)).size : Int) < ((Ty.S (Tx.enc 0 L)).size : Int)) ∨ (Tx.bestK L = 0 ∧ ¬ ((Ty.S (Tx.enc 1 L)).size : Int) < ((Ty.S (Tx.enc 0 L)).size : Int)) := by
   unfold Tx.bestK
   rw [Ty.size_S, Ty.size_S]
   by_cases h : (Tx.enc 1 L).length < (Tx.enc 0 L).length
   ·exact .inl ⟨by rw [if_pos h], by omega⟩
   ·exact .inr ⟨by rw [if_neg h], by omega⟩
  rcases hb with ⟨hk, hlt⟩ | ⟨hk, hlt⟩
  all_goals
   rw [hk]
   generalize Ty.S (Tx.enc 0 L) = s0 at c0 hlt ⊢
   generalize Ty.S (Tx.enc 1 L) = s1 at c1 hlt ⊢
   clear hk
   go_enter Tryz.func143, Tryz.ntmps143
   go_wp2_with fail
   refine c0.mono ?_
   rintro e w1 ⟨rfl, g1⟩
   have c2 := c1 w1 g1
   clear c0 c1 g1
   go_wp2_with fail
   refine c2.mono ?_
   rintro e w2 ⟨rfl, g2⟩
   clear c2
   go_wp2
   go_ret2
   exact ⟨rfl, g2⟩
end
section
open Go.RowKit
theorem Cl.iv_at {w : World} {g n : Nat} {L : List Int} (h : w.rowIs g 2 n (Bt.upTo n (Ig.iv L) (.int .i64 0))) (hL : L.length = n) : Ig.At w.heap.size w (.slice (some ⟨g, 0, none⟩) (n : Nat) n) L := by
 subst hL
 refine ⟨_, L.length, rfl, Nat.le_refl _, Nat.le_refl _, .inr ⟨g, 0, rfl, World.rowIs.lt h, fun i hi => ?_⟩⟩
 rw [Nat.zero_add, World.rowIs.cell h hi]
 unfold Bt.upTo
 rw [if_pos hi]
 rfl
theorem Cl.sv_at {w : World} {g n : Nat} {L : List Tx.Str} (h : w.rowIs g 9 n (Bt.upTo n (Tx.sv L) (.string ⟨#[]⟩))) (hL : L.length = n) : Tx.At w.heap.size w (.slice (some ⟨g, 0, none⟩) (n : Nat) n) L := by
 subst hL
 refine ⟨_, L.length, rfl, Nat.le_refl _, Nat.le_refl _, .inr ⟨g, 0, rfl, World.rowIs.lt h, fun i hi => ?_⟩⟩
 rw [Nat.zero_add, World.rowIs.cell h hi]
 unfold Bt.upTo
 rw [if_pos hi]
theorem Cl.n_at {M : List Kn.V} {k : Nat} {x : Kn.V} (h : M[k]? = some x) : Ig.iv (M.map fun v => v.n) k = .int .i64 x.n := by
 unfold Ig.iv Ig.nth
 rw [List.getD, List.getElem?_map, h]
 rfl
theorem Cl.s_at {M : List Kn.V} {k : Nat} {x : Kn.V} (h : M[k]? = some x) : Tx.sv (M.map fun v => v.s.data.toList) k = .string x.s := by
 unfold Tx.sv
 rw [List.getD, List.getElem?_map, h]
 show Value.string (Ty.S x.s.data.toList) = _
 rw [Ty.S_data]
set_option maxHeartbeats 2000000 in
set_option maxRecDepth 100000 in
theorem Cl.writePresent_n (u : Value) (M : List Kn.V) (w : World) (hw : Ty.Tabs w) (hu : Kn.Vals w u M) (hl : M.length ≤ 65536) (hi : ∀ v ∈ M, Ty.I64 v.n) :
 Calls Tryz.prog 127 #[.int .i64 1, u] w fun e w' => e = .returned (.string (Ty.S (Cl.pv 1 M))) ∧ Below w.heap.size w w' := by
 have hmk := run_make_row' (P := Tryz.prog) 187 2 (.int .i64 0) 8 Tryz.underlying187 Ig.infoI rfl .i64 .i64 M.length (by omega) (by omega)
 have CB : Hid (∀ (v : Value) (wz : World), Ty.Tabs wz → Ig.At wz.heap.size wz v (M.map fun v => v.n) → Calls Tryz.prog 144 #[v] wz fun e w' => e = .returned (.tuple #[.string (Ty.S (Cl.pv 1 M)), .int .i64 0]) ∧ Below wz.heap.size wz w') := Lib.hid fun v wz hT hA => by
  have := Ig.best_c v _ wz hT hA (fun x hx => by obtain ⟨y, hy, rfl⟩ := List.mem_map.1 hx; exact hi y hy) (by rw [List.length_map]; omega)
  rwa [Ig.bestV_good (by rw [List.length_map]; omega)] at this
 have HT := Lib.hid hw
 obtain ⟨a, cp, rfl, h⟩ := hu
 have HH := Lib.hid h
 have HFV := Lib.hid fun (k : Nat) (x : Kn.V) (h : M[k]? = some x) => Cl.n_at (M := M) h
 have HLM : Hid ((M.map fun v => v.n).length = M.length) := Lib.hid (List.length_map _)
 generalize Ty.S (Cl.pv 1 M) = S at CB ⊢
 generalize (M.map fun v => v.n) = L at CB HFV HLM
 clear h hw hi
 have hl3 : (M.length : Int) ≤ 65536 := by omega
 clear hl
 go_enter Tryz.func127, Tryz.ntmps127
 go_wp2_with fail
 have hR : (w.alloc (.cells (madeCells #[.int .i64 0] M.length) 2)).rowIs w.heap.size 2 M.length (Bt.upTo 0 (Ig.iv L) (.int .i64 0)) := (World.rowIs_made w (.int .i64 0) M.length 2).congr fun i _ => by unfold Bt.upTo; rw [if_neg (by omega)]
 have hB : Below w.heap.size w (w.alloc (.cells (madeCells #[.int .i64 0] M.length) 2)) := (Below.refl _ _).alloc (Nat.le_refl _) _
 generalize w.alloc (.cells (madeCells #[.int .i64 0] M.length) 2) = w2 at hR hB ⊢
 clear hmk
 obtain ⟨g, hg⟩ : ∃ g, g = w.heap.size := ⟨_, rfl⟩
 rw [← hg] at hR hB ⊢
 have HGE := Lib.hid hg
 clear hg
 go_loopw [44] (fun i wr => ∃ k : Nat, k ≤ M.length ∧ i = .int .i64 k ∧ wr.rowIs g 2 M.length (Bt.upTo k (Ig.iv L) (.int .i64 0)) ∧ Below g w wr) (fun i _ => M.length - (intOf i).toNat)
 case atStart => exact ⟨0, by omega, rfl, hR, hB⟩
 case round =>
  obtain ⟨k, hk, rfl, hRk, hBk⟩ := hrel
  have HR := Lib.hid hRk
  have HB := Lib.hid hBk
  clear hR hB hRk hBk
  by_cases hlk : k < M.length
  ·rcases HH.out with h | ⟨b, o, rfl, hbl, hm, h⟩
   ·exact absurd hlk (by rw [h]; simp)
   ·obtain ⟨x, hx⟩ : ∃ x, M[k]? = some x := ⟨_, List.getElem?_eq_getElem hlk⟩
    have hblg : b < g := by rw [HGE.out]; exact hbl
    have hA := h k x hx
    have HU := Lib.hid (HFV.out k x hx).symm
    have a0 := (HB.out.cell (p := ⟨b, o + k * 3, none⟩) hblg).trans hA.c0
    have a1 := (HB.out.cell (p := ⟨b, o + k * 3 + 1, none⟩) hblg).trans hA.c1
    have a2 := (HB.out.cell (p := ⟨b, o + k * 3 + 2, none⟩) hblg).trans hA.c2
    have hkl : (k : Int) < (M.length : Int) := by omega
    have hk0 : (0 : Int) ≤ (k : Int) := by omega
    have hcl := HR.out.cell hlk
    have hf := HR.out.frozen k
    have hgl : g < wr.heap.size := HR.out.lt
    clear h hx hA hm
    go_wp2
    go_roundw
    case rel => exact ⟨k + 1, by omega, by simp, World.rowIs.alloc (Bt.upTo_next HR.out HU.out) _, (HB.out.trans (Bt.below_set (Nat.le_refl _) _)).alloc (Nat.le_of_lt (World.rowIs.lt (Bt.upTo_next HR.out HU.out))) _⟩
    case measure => simp [intOf]; omega
  ·obtain rfl : k = M.length := by omega
   have hkl : ¬ (M.length : Int) < (M.length : Int) := by omega
   have hbb := HB.out
   rw [HGE.out] at hbb
   have cb := CB.out _ wr (HT.out.below hbb HT.out.two) (Cl.iv_at HR.out HLM.out)
   have HBB := Lib.hid hbb
   clear hbb
   go_wp2_with fail
   refine cb.mono ?_
   rintro e w3 ⟨rfl, g3⟩
   have HB3 := Lib.hid (HBB.out.trans (g3.mono HBB.out.size))
   clear cb g3
   go_wp2
   go_ret
   exact ⟨rfl, HB3.out⟩
set_option maxHeartbeats 2000000 in
set_option maxRecDepth 100000 in
theorem Cl.writePresent_s (u : Value) (M : List Kn.V) (w : World) (hw : Ty.Tabs w) (hu : Kn.Vals w u M) (hl : M.length ≤ 65536) (hf : Tx.fit (M.map fun v => v.s.data.toList) = true) :
 Calls Tryz.prog 127 #[.int .i64 2, u] w fun e w' => e = .returned (.string (Ty.S (Cl.pv 2 M))) ∧ Below w.heap.size w w' := by
 have hmk := run_make_row' (P := Tryz.prog) 111 9 (.string ⟨#[]⟩) 16 Tryz.underlying111 Tx.infoS rfl .i64 .i64 M.length (by omega) (by omega)
 have CB : Hid (∀ (v : Value) (wz : World), Ty.Tabs wz → Tx.At wz.heap.size wz v (M.map fun v => v.s.data.toList) → Calls Tryz.prog 143 #[v] wz fun e w' => e = .returned (.tuple #[.string (Ty.S (Cl.pv 2 M)), .int .i64 0]) ∧ Below wz.heap.size wz w') := Lib.hid fun v wz hT hA => by
  have := Tx.best_c v _ wz hT hA (by rw [List.length_map]; omega)
  unfold Tx.bestV at this
  rwa [if_pos hf] at this
 have HT := Lib.hid hw
 obtain ⟨a, cp, rfl, h⟩ := hu
 have HH := Lib.hid h
 have HFV := Lib.hid fun (k : Nat) (x : Kn.V) (h : M[k]? = some x) => Cl.s_at (M := M) h
 have HLM : Hid ((M.map fun v => v.s.data.toList).length = M.length) := Lib.hid (List.length_map _)
 generalize Ty.S (Cl.pv 2 M) = S at CB ⊢
 generalize (M.map fun v => v.s.data.toList) = L at CB HFV HLM
 clear h hw hf
 have hl3 : (M.length : Int) ≤ 65536 := by omega
 clear hl
 go_enter Tryz.func127, Tryz.ntmps127
 go_wp2_with fail
 have hR : (w.alloc (.cells (madeCells #[.string ⟨#[]⟩] M.length) 9)).rowIs w.heap.size 9 M.length (Bt.upTo 0 (Tx.sv L) (.string ⟨#[]⟩)) := (World.rowIs_made w (.string ⟨#[]⟩) M.length 9).congr fun i _ => by unfold Bt.upTo; rw [if_neg (by omega)]
 have hB : Below w.heap.size w (w.alloc (.cells (madeCells #[.string ⟨#[]⟩] M.length) 9)) := (Below.refl _ _).alloc (Nat.le_refl _) _
 generalize w.alloc (.cells (madeCells #[.string ⟨#[]⟩] M.length) 9) = w2 at hR hB ⊢
 clear hmk
 obtain ⟨g, hg⟩ : ∃ g, g = w.heap.size := ⟨_, rfl⟩
 rw [← hg] at hR hB ⊢
 have HGE := Lib.hid hg
 clear hg
 go_loopw [22] (fun i wr => ∃ k : Nat, k ≤ M.length ∧ i = .int .i64 k ∧ wr.rowIs g 9 M.length (Bt.upTo k (Tx.sv L) (.string ⟨#[]⟩)) ∧ Below g w wr) (fun i _ => M.length - (intOf i).toNat)
 case atStart => exact ⟨0, by omega, rfl, hR, hB⟩
 case round =>
  obtain ⟨k, hk, rfl, hRk, hBk⟩ := hrel
  have HR := Lib.hid hRk
  have HB := Lib.hid hBk
  clear hR hB hRk hBk
  by_cases hlk : k < M.length
  ·rcases HH.out with h | ⟨b, o, rfl, hbl, hm, h⟩
   ·exact absurd hlk (by rw [h]; simp)
   ·obtain ⟨x, hx⟩ : ∃ x, M[k]? = some x := ⟨_, List.getElem?_eq_getElem hlk⟩
    have hblg : b < g := by rw [HGE.out]; exact hbl
    have hA := h k x hx
    have HU := Lib.hid (HFV.out k x hx).symm
    have a0 := (HB.out.cell (p := ⟨b, o + k * 3, none⟩) hblg).trans hA.c0
    have a1 := (HB.out.cell (p := ⟨b, o + k * 3 + 1, none⟩) hblg).trans hA.c1
    have a2 := (HB.out.cell (p := ⟨b, o + k * 3 + 2, none⟩) hblg).trans hA.c2
    have hkl : (k : Int) < (M.length : Int) := by omega
    have hk0 : (0 : Int) ≤ (k : Int) := by omega
    have hcl := HR.out.cell hlk
    have hf := HR.out.frozen k
    have hgl : g < wr.heap.size := HR.out.lt
    clear h hx hA hm
    go_wp2
    go_roundw
    case rel => exact ⟨k + 1, by omega, by simp, World.rowIs.alloc (Bt.upTo_next HR.out HU.out) _, (HB.out.trans (Bt.below_set (Nat.le_refl _) _)).alloc (Nat.le_of_lt (World.rowIs.lt (Bt.upTo_next HR.out HU.out))) _⟩
    case measure => simp [intOf]; omega
  ·obtain rfl : k = M.length := by omega
   have hkl : ¬ (M.length : Int) < (M.length : Int) := by omega
   have hbb := HB.out
   rw [HGE.out] at hbb
   have cb := CB.out _ wr (HT.out.below hbb HT.out.two) (Cl.sv_at HR.out HLM.out)
   have HBB := Lib.hid hbb
   clear hbb
   go_wp2_with fail
   refine cb.mono ?_
   rintro e w3 ⟨rfl, g3⟩
   have HB3 := Lib.hid (HBB.out.trans (g3.mono HBB.out.size))
   clear cb g3
   go_wp2
   go_ret
   exact ⟨rfl, HB3.out⟩
theorem Cl.writePresent_c (k : Int) (u : Value) (M : List Kn.V) (w : World) (hw : Ty.Tabs w) (hu : Kn.Vals w u M) (hl : M.length ≤ 65536) (hi : ∀ v ∈ M, Ty.I64 v.n) (hk : k = 1 ∨ k = 2) (hf : k = 2 → Tx.fit (M.map fun v => v.s.data.toList) = true) :
 Calls Tryz.prog 127 #[.int .i64 k, u] w fun e w' => e = .returned (.string (Ty.S (Cl.pv k M))) ∧ Below w.heap.size w w' := by
 rcases hk with rfl | rfl
 ·exact Cl.writePresent_n u M w hw hu hl hi
 ·exact Cl.writePresent_s u M w hw hu hl (hf rfl)
end
end Go.Proofs.YtbelkhkllneifaaGreatDoor
