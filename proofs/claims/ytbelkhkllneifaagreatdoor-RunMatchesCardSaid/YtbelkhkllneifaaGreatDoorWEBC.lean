import Derived.Test.YtbelkhkllneifaaGreatDoorWEBB
import Derived.Test.YtbelkhkllneifaaGreatDoorWEAD
import Derived.StillTailTactics
import Derived.Test.YtbelkhkllneifaaGreatDoorWEAZ
import Derived.Test.YtbelkhkllneifaaGreatDoorWEAX
import Derived.Test.YtbelkhkllneifaaGreatDoorWEAP
import Derived.Test.YtbelkhkllneifaaGreatDoorWEAW
import Derived.Test.YtbelkhkllneifaaGreatDoorWEBA
namespace Go.Proofs.YtbelkhkllneifaaGreatDoor
section
open Go.RowKit
open Ty (I64)
theorem Dd.Cols.kn {w : World} {v : Value} {l : List Kn.C} (h : Dd.Cols w v l) : Kn.Cols w v l := h.1
theorem Dd.cols_at {s : List Kn.C} {g : Bool} {k : Nat} {c : Kn.C} (h : (Dd.cols s g)[k]? = some c) : s[k]? = some c := by
 unfold Dd.cols at h
 cases g
 ·exact h
 ·rw [if_pos rfl, List.getElem?_take] at h
  split at h
  ·exact h
  ·cases h
set_option maxHeartbeats 2000000 in
set_option maxRecDepth 100000 in
theorem Dd.write_c (v u : Value) (s : List Kn.C) (d : Dd.D) (w : World) (hw : Dd.T w) (hs : Dd.Cols w v s) (hu : Kn.Vals w u d.row) (hi : ∀ x ∈ d.row, I64 x.n) :
 Calls Tryz.prog 34 #[v, .agg #[.bool d.gone, u]] w fun e w' => e = .returned (Dd.wV s d) ∧ Below w.heap.size w w' := by
 have HS := Lib.hid hs
 have HU := Lib.hid hu
 have HI := Lib.hid hi
 have HW := Lib.hid hw
 have HB0 : Hid (Below w.heap.size w (w.alloc (.cells #[.bool d.gone, u] 41))) := Lib.hid ((Below.refl _ _).alloc (Nat.le_refl _) _)
 have HX0 := Lib.hid (Kn.cell_new w #[.bool d.gone, u] 41 0 _ rfl)
 have HX1 := Lib.hid (Kn.cell_new w #[.bool d.gone, u] 41 1 _ rfl)
 simp only [List.getElem_toArray, List.getElem_cons_zero, List.getElem_cons_succ] at HX0 HX1
 have hsz : (w.alloc (.cells #[.bool d.gone, u] 41)).heap.size = w.heap.size + 1 := World.size_alloc ..
 obtain ⟨V, hV⟩ : ∃ V, V = Dd.wV s d := ⟨_, rfl⟩
 rw [← hV]
 have HV := Lib.hid hV
 have CR := Lib.hid fun wz (h : Kn.Cols wz v s) => Kn.right_c v s wz h
 clear hV hs hu hi hw
 cases hrt : Kn.right s
 ·have HE := Lib.hid (HV.out.trans (Dd.wV_bad (by rw [Dd.fitE_not hrt]; decide)))
  have HE4 := Lib.hid (Dd.fitE_not hrt d)
  rw [hrt] at CR
  clear hrt
  go_enter Tryz.func34, Tryz.ntmps34
  go_wp2_with fail
  generalize hwo : w.alloc _ = wo at hsz HX0 HX1 HB0 ⊢
  clear hwo
  with_reducible refine (CR.out wo (HS.out.later HB0.out).kn).mono ?_
  rintro e w1 ⟨rfl, g1⟩
  have HB1 := Lib.hid (HB0.out.trans (g1.mono HB0.out.size))
  clear g1
  go_wp2
  go_ret2
  exact ⟨by rw [HE.out, HE4.out]; rfl, HB1.out⟩
 ·rw [hrt] at CR
  have hl := Kn.right_len hrt
  have CC := Lib.hid fun wz (h : Dd.Cols wz v s) => Dd.columnsOf_c v s d.gone wz h hl.1
  have HFE : Hid (Kn.fitsE (Dd.cols s d.gone) d.row = Dd.fitE s d) := Lib.hid (Dd.fitE_cols hrt d)
  have HGOOD : Hid (∀ (k : Nat) (c : Kn.C), (Dd.cols s d.gone)[k]? = some c → c.good = true) := Lib.hid fun k c h => Dd.cols_good hrt h
  have HAT : Hid (∀ (k : Nat) (c : Kn.C), (Dd.cols s d.gone)[k]? = some c → s[k]? = some c) := Lib.hid fun k c h => Dd.cols_at h
  have HLN : Hid (Dd.fitE s d = 0 → d.row.length = (Dd.cols s d.gone).length ∧ Kn.fitsAll (Dd.cols s d.gone) d.row = true) := Lib.hid fun h => (Dd.fitE_0 h).2
  have hcl := Dd.cols_len hrt d.gone
  have HCL := Lib.hid hcl
  generalize Dd.cols s d.gone = cs at CC HFE HGOOD HAT HLN HCL
  clear hrt hl hcl
  go_enter Tryz.func34, Tryz.ntmps34
  go_wp2_with fail
  generalize hwo : w.alloc _ = wo at hsz HX0 HX1 HB0 ⊢
  clear hwo
  with_reducible refine (CR.out wo (HS.out.later HB0.out).kn).mono ?_
  rintro e w1 ⟨rfl, g1⟩
  have HB1 := Lib.hid (HB0.out.trans (g1.mono HB0.out.size))
  have x0 := (g1.cell (p := ⟨w.heap.size, 0, none⟩) (by simp [hsz])).trans HX0.out
  have x1 := (g1.cell (p := ⟨w.heap.size, 1, none⟩) (by simp [hsz])).trans HX1.out
  have hs1 : w.heap.size < w1.heap.size := by have := g1.size; omega
  clear g1 CR HX0 HX1 hsz
  go_wp2_with fail
  with_reducible refine (CC.out w1 (HS.out.later HB1.out)).mono ?_
  rintro e w2 ⟨⟨uc, rfl, hC⟩, h2⟩
  subst w2
  have HC : Hid (∀ W, Below w.heap.size w W → Kn.Cols W uc cs) := Lib.hid fun W h => (hC W (HS.out.later h)).1
  clear hC CC
  go_wp2_with fail
  have cf := Kn.fits_c uc u cs d.row w1 (HC.out _ HB1.out) (HU.out.later HB1.out)
  rw [HFE.out] at cf
  by_cases hE : Dd.fitE s d = 0
  ·have HE := Lib.hid (HV.out.trans (Dd.wV_ok hE))
   obtain ⟨hln, hfa⟩ := HLN.out hE
   have HFT : Hid (∀ (k : Nat) (c : Kn.C) (x : Kn.V), cs[k]? = some c → d.row[k]? = some x → Kn.fits c x = true) := Lib.hid fun k c x h1 h2 => Dd.fitsAll_at cs d.row k c x hfa h1 h2
   have HPL : Hid (∀ k, k ≤ d.row.length → (Dd.pre s d.gone d.row k).length ≤ 500) := Lib.hid fun k hk => Dd.pre_len hE hk
   have HPA := Lib.hid (Dd.pre_all hE)
   have HPS : Hid (∀ (k : Nat) (c : Kn.C) (x : Kn.V), cs[k]? = some c → d.row[k]? = some x → Dd.pre s d.gone d.row (k + 1) = Dd.pre s d.gone d.row k ++ Dd.encV c x) := Lib.hid fun k c x h1 h2 => Dd.pre_step (HAT.out k c h1) h2
   have hr6 : d.row.length ≤ 6 := by have := HCL.out; omega
   have HLEN := Lib.hid hln
   rw [hE] at cf
   obtain ⟨ac, cc, rfl, -⟩ := (HC.out _ HB1.out).is
   obtain ⟨au, cu, rfl, hUH⟩ := HU.out.is
   have HUH := Lib.hid hUH
   have HCC : Hid (∀ W, Below w.heap.size w W → cs = [] ∨ ∃ b2 o2, ac = some ⟨b2, o2, none⟩ ∧ b2 < W.heap.size ∧ ∀ i x, cs[i]? = some x → W.cell? ⟨b2, o2 + i * 2, none⟩ = some (.int .i64 x.k) ∧ W.cell? ⟨b2, o2 + i * 2 + 1, none⟩ = some (.bool x.null)) := Lib.hid fun W hW => by
    obtain ⟨a', c', e, h⟩ := (HC.out W hW).is
    simp only [Value.slice.injEq, true_and] at e
    obtain ⟨rfl, _⟩ := e
    rcases h with h | ⟨b2, o2, h1, h2, _, h3⟩
    ·exact .inl h
    ·exact .inr ⟨b2, o2, h1, h2, h3⟩
   clear hE hfa hUH HC
   with_reducible refine cf.mono ?_
   rintro e w2 ⟨rfl, g2⟩
   have HB2 := Lib.hid (HB1.out.trans (g2.mono HB1.out.size))
   have HX1 := Lib.hid ((g2.cell (p := ⟨w.heap.size, 1, none⟩) hs1).trans x1)
   have y0 := (g2.cell (p := ⟨w.heap.size, 0, none⟩) hs1).trans x0
   have hs2 : w.heap.size < w2.heap.size := by have := g2.size; omega
   have HT2 := Lib.hid (HW.out.below HB2.out)
   clear g2 cf x0 x1 hs1
   go_wp2_with fail
   with_reducible refine (Dd.appendFlag_c w2.heap.size _ [] d.gone w2 (Ty.Buf.nil _ _) (Nat.le_refl _) (by simp)).mono ?_
   rintro e w3 ⟨v3, rfl, hB3, hG3⟩
   have HG3 := Lib.hid (hG3.below (Nat.le_refl _) (fun k hk => by cases hk))
   have HB3 := Lib.hid hB3
   clear hB3 hG3 y0
   go_wp2_with fail
   rw [← hln]
   clear hln
   go_loopw [8, 30] (fun sv i wr => ∃ (k : Nat) (bv : Value), k ≤ d.row.length ∧ i = .int .i64 k ∧ bv = sv ∧ Ty.Buf w2.heap.size wr bv (Dd.pre s d.gone d.row k) ∧ Below w2.heap.size w2 wr) (fun _ i _ => d.row.length - (intOf i).toNat)
   case atStart => exact ⟨0, _, Nat.zero_le _, rfl, rfl, HB3.out, HG3.out⟩
   case round =>
    obtain ⟨k, bv, hk, rfl, rfl, hBk, hGk⟩ := hrel
    have HBK := Lib.hid hBk
    have HGK := Lib.hid hGk
    have HBW := Lib.hid (HB2.out.trans (hGk.mono HB2.out.size))
    have hws := hGk.size
    have x1 := (hGk.cell (p := ⟨w.heap.size, 1, none⟩) hs2).trans HX1.out
    have hk0 : (0 : Int) ≤ (k : Int) := by omega
    have HPK := Lib.hid (HPL.out k hk)
    clear hBk hGk HB3 HG3
    by_cases hlk : k < d.row.length
    ·rcases HCC.out wr HBW.out with h | ⟨b2, o2, rfl, hbl, hc2⟩
     ·exact absurd hlk (by have := HLEN.out; rw [h, List.length_nil] at this; omega)
     ·rcases HUH.out with h | ⟨b3, o3, rfl, hbl3, hm3, hx3⟩
      ·exact absurd hlk (by rw [h]; simp)
      ·obtain ⟨⟨ck, cn⟩, hc⟩ : ∃ c, cs[k]? = some c := ⟨_, List.getElem?_eq_getElem (by have := HLEN.out; omega)⟩
       obtain ⟨⟨xn, xi, xs⟩, hx⟩ : ∃ x, d.row[k]? = some x := ⟨_, List.getElem?_eq_getElem hlk⟩
       obtain ⟨e0, e1⟩ := hc2 k _ hc
       obtain ⟨a0, a1, a2⟩ := (hx3 k _ hx).later HBW.out
       have HST := Lib.hid (HPS.out k _ _ hc hx)
       have HFX := Lib.hid (HFT.out k _ _ hc hx)
       have HGX := Lib.hid (HGOOD.out k _ hc)
       have HIX := Lib.hid (HI.out _ (List.mem_of_getElem? hx))
       have hkl : (k : Int) < (d.row.length : Int) := by omega
       have hbl3r : b3 < wr.heap.size := by have := HBW.out.size; omega
       have hn0 := Kn.cell_new wr #[.int .i64 ck, .bool cn] 76 0 _ rfl
       have hn1 := Kn.cell_new wr #[.int .i64 ck, .bool cn] 76 1 _ rfl
       have gN : Below wr.heap.size wr (wr.alloc (.cells #[.int .i64 ck, .bool cn] 76)) := (Below.refl _ _).alloc (Nat.le_refl _) _
       simp only [List.getElem_toArray, List.getElem_cons_zero, List.getElem_cons_succ] at hn0 hn1
       simp only at e0 e1 a0 a1 a2 HIX
       have n1 := (gN.cell (p := ⟨w.heap.size, 1, none⟩) (by show w.heap.size < wr.heap.size; omega)).trans x1
       have m0 := (gN.cell (p := ⟨b3, o3 + k * 3, none⟩) hbl3r).trans a0
       have m1 := (gN.cell (p := ⟨b3, o3 + k * 3 + 1, none⟩) hbl3r).trans a1
       have m2 := (gN.cell (p := ⟨b3, o3 + k * 3 + 2, none⟩) hbl3r).trans a2
       have HGN := Lib.hid (HGK.out.trans (gN.mono hws))
       have HBN : Hid (Ty.Buf w2.heap.size (wr.alloc (.cells #[.int .i64 ck, .bool cn] 76)) bv (Dd.pre s d.gone d.row k)) := Lib.hid (HBK.out.later gN)
       clear hc hx hc2 hx3 hm3 hbl
       go_wp2_with fail
       generalize hwn : wr.alloc _ = wn at hn0 hn1 n1 m0 m1 m2 HGN HBN ⊢
       clear hwn gN x1 e0 e1 a0 a1 a2
       refine wp_region_still_tail 7 (by kernel_rfl) (by kernel_rfl) ?_
       simp only [List.take_succ_cons, List.take_zero, List.drop_succ_cons, List.drop_zero]
       change wpStill _ _ (World.drew _) (fun a' => wpList _ _ _ _ a' (World.drew _)) _ _
       still_step
       still_step
       still_step
       still_step
       still_step
       still_step
       still_step
       refine wpStill_nil ?_
       have HTN := Lib.hid (HT2.out.below HGN.out.drew)
       have ca := Dd.appendValue_c w2.heap.size bv (Dd.pre s d.gone d.row k) ⟨ck, cn⟩ ⟨xn, xi, xs⟩ wn.drew HTN.out (Ty.Tabs.two HT2.out) HBN.out HGN.out.size (by have := HPK.out; omega) HFX.out HGX.out HIX.out
       unfold Kn.C.val Kn.V.val at ca
       simp only at ca
       go_wp2_with fail
       with_reducible refine ca.mono ?_
       rintro e w5 ⟨v5, rfl, hB5, hG5⟩
       have HB5 := Lib.hid hB5
       have HG5 := Lib.hid ((hG5.drawn).below HGN.out.size HBN.out.base)
       clear ca hB5 hG5 hn0 hn1 n1 m0 m1 m2
       go_wp2
       go_roundw
       case rel => exact ⟨k + 1, _, by omega, by simp, rfl, by rw [HST.out]; exact HB5.out, HGN.out.trans HG5.out⟩
       case measure => simp [intOf]; omega
    ·obtain rfl : k = d.row.length := by omega
     have hkl : ¬ (d.row.length : Int) < (d.row.length : Int) := by omega
     have hstr := HBK.out.str
     rw [HPA.out] at hstr
     go_wp2
     go_ret2
     exact ⟨by rw [HE.out]; rfl, HBW.out⟩
  ·have HE := Lib.hid (HV.out.trans (Dd.wV_bad hE))
   have hEb : (Dd.fitE s d != 0) = true := by rw [bne_iff_ne]; exact hE
   generalize Dd.fitE s d = E at cf HE hEb
   clear hE
   with_reducible refine cf.mono ?_
   rintro e w2 ⟨rfl, g2⟩
   have HB2 := Lib.hid (HB1.out.trans (g2.mono HB1.out.size))
   clear g2 cf x0 x1
   go_wp2
   go_ret2
   exact ⟨by rw [HE.out]; rfl, HB2.out⟩
end
section
open Go.RowKit
open Tx (encT)
theorem Bk.first_at {s : List Kn.C} : ∀ {L : List Dd.D} {k : Nat} {d : Dd.D}, L[k]? = some d → (∀ j x, j < k → L[j]? = some x → Dd.fitE s x = 0) → Dd.fitE s d ≠ 0 → Bk.firstE s L = Dd.fitE s d
 | [], _, _, h, _, _ => by simp at h
 | x :: L, 0, d, h, _, hd => by
   obtain rfl : x = d := by simpa using h
   unfold Bk.firstE
   rw [if_neg hd]
 | x :: L, k + 1, d, h, hj, hd => by
   unfold Bk.firstE
   rw [if_pos (hj 0 x (by omega) rfl)]
   exact Bk.first_at (by simpa using h) (fun j y h1 h2 => hj (j + 1) y (by omega) (by simpa using h2)) hd
theorem Bk.wE_k {s : List Kn.C} {L : List Dd.D} (h : Kn.right s = false) : Bk.wE s L = 4 := by unfold Bk.wE; rw [if_neg (by rw [h]; decide)]
theorem Bk.wE_l {s : List Kn.C} {L : List Dd.D} (h : Kn.right s = true) (h1 : L.length < 1 ∨ 8 < L.length) : Bk.wE s L = 1 := by unfold Bk.wE; rw [if_pos h, if_pos h1]
theorem Bk.wE_f {s : List Kn.C} {L : List Dd.D} (h : Kn.right s = true) (h1 : ¬ (L.length < 1 ∨ 8 < L.length)) {q : Int} (h2 : Bk.firstE s L = q) (h3 : q ≠ 0) : Bk.wE s L = q := by
 unfold Bk.wE Bk.fitsE
 rw [if_pos h, if_neg h1, h2, if_neg h3]
theorem Bk.wE_s {s : List Kn.C} {L : List Dd.D} (h : Kn.right s = true) (h1 : ¬ (L.length < 1 ∨ 8 < L.length)) (h2 : Bk.firstE s L = 0) (h3 : Bk.sorted L = false) : Bk.wE s L = 1 := by
 unfold Bk.wE Bk.fitsE
 rw [if_pos h, if_neg h1, if_pos h2, if_neg (by rw [h3]; decide)]
theorem Bk.wE_g {s : List Kn.C} {L : List Dd.D} (h : Kn.right s = true) (h1 : ¬ (L.length < 1 ∨ 8 < L.length)) (h2 : Bk.firstE s L = 0) (h3 : Bk.sorted L = true) : Bk.wE s L = 0 := by
 unfold Bk.wE Bk.fitsE
 rw [if_pos h, if_neg h1, if_pos h2, if_pos h3]
theorem Bk.pre_start (s : List Kn.C) (L : List Dd.D) : Bk.pre s L 0 = Ty.encU L.length ++ Bk.bools L := by
 unfold Bk.pre
 rw [List.take_zero, show Bk.encC 0 [] L = [] from rfl, List.append_nil]
set_option maxHeartbeats 8000000 in
set_option maxRecDepth 100000 in
theorem Bk.pwrite_c (vs v : Value) (s : List Kn.C) (L : List Dd.D) (w : World) (hT : Ty.Tabs w) (hs : Dd.Cols w vs s) (hv : Bk.Ds w v L) (hz : Bk.Zs L) (hi : ∀ d ∈ L, ∀ x ∈ d.row, Ty.I64 x.n) :
 Calls Tryz.prog 68 #[vs, v] w fun e w' => e = .returned (Bk.wV s L) ∧ Below w.heap.size w w' := by
 obtain ⟨V, hV⟩ : ∃ V, V = Bk.wV s L := ⟨_, rfl⟩
 rw [← hV]
 have HV9 := Lib.hid hV
 have HT := Lib.hid hT
 have HS := Lib.hid hs
 have HV := Lib.hid hv
 have HZ := Lib.hid hz
 have HI := Lib.hid hi
 have cR := Kn.right_c vs s w hs.1
 have CD := Lib.hid fun (u : Value) (d : Dd.D) (wz : World) (h1 : Ty.Tabs wz) (h2 : Dd.Cols wz vs s) (h3 : Kn.Vals wz u d.row) (h4 : ∀ x ∈ d.row, Ty.I64 x.n) => Dd.write_c vs u s d wz h1 h2 h3 h4
 have CS := Lib.hid fun (wz : World) (h : Bk.Ds wz v L) => Bk.psorted_c v L wz h HZ.out
 obtain ⟨a, c, rfl, hlc, hcm, h⟩ := hv
 obtain ⟨⟨sa, sc, rfl, hsa⟩, -⟩ := hs
 have HH := Lib.hid h
 have HSA := Lib.hid hsa
 clear hV hT hz hi h hsa
 cases hr : Kn.right s
 ·rw [hr] at cR
  have HE := Lib.hid (HV9.out.trans (Bk.wV_bad (Bk.wE_k (L := L) hr) (by decide)))
  clear hr
  go_enter Tryz.func68, Tryz.ntmps68
  go_wp2_with fail
  with_reducible refine cR.mono ?_
  rintro e w1 ⟨rfl, g1⟩
  have HG := Lib.hid g1
  clear g1
  go_wp2
  go_ret2
  exact ⟨by rw [HE.out]; rfl, HG.out⟩
 rw [hr] at cR
 have HR := Lib.hid hr
 clear hr
 by_cases hlen : L.length < 1 ∨ 8 < L.length
 ·have HE := Lib.hid (HV9.out.trans (Bk.wV_bad (Bk.wE_l HR.out hlen) (by decide)))
  by_cases h1 : (L.length : Int) < 1
  ·clear hlen
   go_enter Tryz.func68, Tryz.ntmps68
   go_wp2_with fail
   with_reducible refine cR.mono ?_
   rintro e w1 ⟨rfl, g1⟩
   have HG := Lib.hid g1
   clear g1
   go_wp2
   go_ret2
   exact ⟨by rw [HE.out]; rfl, HG.out⟩
  ·have h2 : (8 : Int) < (L.length : Int) := by omega
   clear hlen
   go_enter Tryz.func68, Tryz.ntmps68
   go_wp2_with fail
   with_reducible refine cR.mono ?_
   rintro e w1 ⟨rfl, g1⟩
   have HG := Lib.hid g1
   clear g1
   go_wp2
   go_ret2
   exact ⟨by rw [HE.out]; rfl, HG.out⟩
 have hi1 : ¬ (L.length : Int) < 1 := by omega
 have hi2 : ¬ (8 : Int) < (L.length : Int) := by omega
 have HLN := Lib.hid hlen
 have H8 : Hid (L.length ≤ 8) := Lib.hid (by omega)
 have H1 : Hid (1 ≤ L.length) := Lib.hid (by omega)
 clear hlen
 go_enter Tryz.func68, Tryz.ntmps68
 go_wp2_with fail
 with_reducible refine cR.mono ?_
 rintro e w1 ⟨rfl, g1⟩
 have HG1 := Lib.hid g1
 clear cR g1
 go_wp2_with fail
 clear hi1 hi2
 go_loopw [28] (fun i wr => ∃ k : Nat, k ≤ L.length ∧ i = .int .i64 k ∧ (∀ j x, j < k → L[j]? = some x → Dd.fitE s x = 0) ∧ Below w.heap.size w wr) (fun i _ => L.length - (intOf i).toNat)
 case atStart => exact ⟨0, Nat.zero_le _, rfl, (fun j x hj => by omega), HG1.out⟩
 case round =>
  obtain ⟨k, hk, rfl, hf, hb⟩ := hrel
  have HF := Lib.hid hf
  have HB := Lib.hid hb
  clear hf hb
  by_cases hl : k < L.length
  ·rcases HH.out with rfl | ⟨b, o, rfl, hlt, hc⟩
   ·simp at hl
   ·have hx := List.getElem?_eq_getElem hl
    generalize L[k] = d at hx
    obtain ⟨u, c0, c1, hu⟩ := hc k d hx
    have hu := hu.later HB.out
    have c0 := (HB.out.cell (p := ⟨b, o + k * 2, none⟩) hlt).trans c0
    have c1 := (HB.out.cell (p := ⟨b, o + k * 2 + 1, none⟩) hlt).trans c1
    have HU := Lib.hid hu
    obtain ⟨ua, uc, rfl, -⟩ := hu
    have hkl : (k : Int) < (L.length : Int) := by omega
    have hk0 : (0 : Int) ≤ (k : Int) := by omega
    have hk7 : (k : Int) ≤ 7 := by have := H8.out; omega
    have HX := Lib.hid hx
    have HK := Lib.hid hl
    clear hc hx hl hk
    go_upto_region 8 with (fail)
    have HB0 : Hid (Below wr.heap.size wr (wr.alloc (.cells #[.bool d.gone, .slice ua d.row.length uc] 41))) := Lib.hid ((Below.refl _ _).alloc (Nat.le_refl _) _)
    have x0 := Kn.cell_new wr #[.bool d.gone, .slice ua d.row.length uc] 41 0 _ rfl
    have x1 := Kn.cell_new wr #[.bool d.gone, .slice ua d.row.length uc] 41 1 _ rfl
    simp only [List.getElem_toArray, List.getElem_cons_zero, List.getElem_cons_succ] at x0 x1
    obtain ⟨q, hq⟩ : ∃ q, q = wr.heap.size := ⟨_, rfl⟩
    rw [← hq] at x0 x1 ⊢
    generalize wr.alloc _ = w3 at HB0 x0 x1 ⊢
    have HB3 := Lib.hid (HB.out.trans (HB0.out.mono HB.out.size))
    have cd := CD.out _ d w3 (HT.out.below HB3.out HT.out.two) (HS.out.later HB3.out) (HU.out.later HB0.out) (HI.out d (List.mem_of_getElem? HX.out))
    unfold Dd.wV at cd
    have HFE : Hid (Dd.fitE s d ≠ 0 → V = .tuple #[.string (Ty.S []), .int .i64 (Dd.fitE s d)]) := Lib.hid fun h => HV9.out.trans (Bk.wV_bad (Bk.wE_f HR.out HLN.out (Bk.first_at HX.out HF.out h) h) h)
    have HFZ : Hid (Dd.fitE s d = 0 → ∀ j x, j < k + 1 → L[j]? = some x → Dd.fitE s x = 0) := Lib.hid fun h j x hj hx => by
     rcases Nat.lt_or_ge j k with h2 | h2
     ·exact HF.out j x h2 hx
     ·obtain rfl : j = k := by omega
      rw [HX.out] at hx
      cases hx
      exact h
    generalize Dd.fitE s d = E at cd HFE HFZ
    generalize Ty.S (Dd.wS s d) = T9 at cd
    clear hq c0 c1
    go_wp2_with fail
    with_reducible refine cd.mono ?_
    rintro e w4 ⟨rfl, g4⟩
    have HB4 := Lib.hid (HB3.out.trans (g4.mono HB3.out.size))
    clear cd g4 x0 x1
    by_cases hE : E = 0
    ·subst hE
     have HFZ2 := Lib.hid (HFZ.out rfl)
     go_wp2
     go_roundw
     case rel => exact ⟨k + 1, HK.out, by simp, HFZ2.out, HB4.out⟩
     case measure => (have := HK.out; simp [intOf]; omega)
    ·have hEb : (E != 0) = true := by rw [bne_iff_ne]; exact hE
     have HX2 := Lib.hid (HFE.out hE)
     clear hE
     go_wp2
     go_ret2
     exact ⟨by rw [HX2.out]; rfl, HB4.out⟩
  ·obtain rfl : k = L.length := by omega
   have hkl : ¬ (L.length : Int) < (L.length : Int) := by omega
   have HFA : Hid (∀ d ∈ L, Dd.fitE s d = 0) := Lib.hid fun d hd => by
    obtain ⟨j, hj, rfl⟩ := List.mem_iff_getElem.1 hd
    exact HF.out j _ hj (List.getElem?_eq_getElem hj)
   have H0 := Lib.hid (Bk.firstE_0.2 HFA.out)
   have cs := CS.out wr (HV.out.later HB.out)
   clear hk hl HF
   cases hso : Bk.sorted L
   ·rw [hso] at cs
    have HE := Lib.hid (HV9.out.trans (Bk.wV_bad (Bk.wE_s HR.out HLN.out H0.out hso) (by decide)))
    clear hso
    go_wp2_with fail
    with_reducible refine cs.mono ?_
    rintro e w2 ⟨rfl, g2⟩
    have HB2 := Lib.hid (HB.out.trans (g2.mono HB.out.size))
    clear cs g2
    go_wp2
    go_ret2
    exact ⟨by rw [HE.out]; rfl, HB2.out⟩
   rw [hso] at cs
   have HE := Lib.hid (HV9.out.trans (Bk.wV_ok (Bk.wE_g HR.out HLN.out H0.out hso)))
   have hcw : ∀ j c, s[j]? = some c → Cl.wE c (Bk.col L j) = 0 := fun j c hc => Bk.col_fit HR.out H8.out HFA.out hc
   have HLE := Lib.hid (Bk.encC_len (s := s) (L := L) fun j c hc => Bk.enc_le (hcw j c hc) (Bk.col_le H8.out j))
   have HCW := Lib.hid hcw
   have HEL : Hid (∀ (j : Nat) (c : Kn.C), s[j]? = some c → (Cl.enc c (Bk.col L j)).length ≤ 1048576) := Lib.hid fun j c hc => Bk.enc_le (HCW.out j c hc) (Bk.col_le H8.out j)
   have H6 := Lib.hid (Kn.right_len HR.out)
   have CK := Lib.hid fun (j : Nat) (c9 : Kn.C) (hc : s[j]? = some c9) (wz : World) (h : Bk.Ds wz (.slice a L.length c) L) => Bk.pvalues_c _ L j H8.out (by have := (List.getElem?_eq_some_iff.1 hc).1; have := H6.out.2; omega) (Bk.col_has HFA.out hc) wz h
   have CW := Lib.hid fun (j : Nat) (c : Kn.C) (hc : s[j]? = some c) (u : Value) (wz : World) (h1 : Ty.Tabs wz) (h : Kn.Vals wz u (Bk.col L j)) => Cl.write_c c u (Bk.col L j) wz h1 h (Bk.col_i64 HFA.out HI.out hc)
   have HBL : Hid ((Bk.bools L).length = 1) := Lib.hid (by rw [Bk.bools_one H1.out H8.out]; rfl)
   have HPN : Hid (∀ (k : Nat) (c : Kn.C), s[k]? = some c → Bk.pre s L (k + 1) = Bk.pre s L k ++ encT (Cl.enc c (Bk.col L k))) := Lib.hid fun k c h => Bk.pre_next h L
   have hwk : IntKind.u64.wrap (L.length : Int) = (L.length : Int) := by rw [IntKind.wrap_u64]; have := H8.out; omega
   have HWK := Lib.hid hwk
   obtain ⟨R, hdr, -⟩ := HV.out.dr
   have HDR := Lib.hid hdr
   clear hso hcw hwk hdr CD CS
   go_wp2_with fail
   with_reducible refine cs.mono ?_
   rintro e w2 ⟨rfl, g2⟩
   have HB2 := Lib.hid (HB.out.trans (g2.mono HB.out.size))
   have hw9 := HWK.out
   have cu := Ty.uintNil (L.length : Int) (by omega) (show Ty.U64 ((L.length : Int)).toNat by rw [Int.toNat_natCast]; unfold Ty.U64; have := H8.out; omega) w2 (HT.out.below HB2.out HT.out.two)
   rw [Int.toNat_natCast] at cu
   clear cs g2 hkl
   go_wp2_with fail
   with_reducible refine cu.mono ?_
   rintro e w3 ⟨v3, rfl, hO3, hT3, g3⟩
   have HB3 := Lib.hid (HB2.out.trans (g3.mono HB2.out.size))
   have HG3 := Lib.hid g3
   have HO3 := Lib.hid hO3
   have cf := Bk.pflags_c _ L R w3 (HDR.out.later HB3.out) H8.out
   clear cu hO3 hT3 g3 hw9
   go_wp2_with fail
   with_reducible refine cf.mono ?_
   rintro e w4 ⟨u4, rfl, hS4, g4⟩
   have HG4 := Lib.hid (HG3.out.trans (g4.mono HG3.out.size))
   have HO4 := Lib.hid (HO3.out.later g4)
   have ct := Bt.truths_c u4 L.length (Bk.gones L) w4 hS4 (Nat.le_trans H8.out (by decide))
   clear cf hS4 g4
   go_wp2_with fail
   with_reducible refine ct.mono ?_
   rintro e w5 ⟨rfl, g5⟩
   have HG5 := Lib.hid (HG4.out.trans (g5.mono HG4.out.size))
   have hO5 := HO4.out.later g5
   have hws5 : w2.heap.size ≤ w5.heap.size := HG5.out.size
   have hroom : (Ty.encU L.length).length + (Bt.bytes (Bt.need L.length) (Bt.tr L.length (Bk.gones L))).size ≤ 140737488355328 := by
    have h1 := Ty.encU_len9 L.length
    have h2 : (Bt.bytes (Bt.need L.length) (Bt.tr L.length (Bk.gones L))).data.toList.length = 1 := HBL.out
    rw [Ty.length_data] at h2
    omega
   have HPS : Hid (Ty.encU L.length ++ (Bt.bytes (Bt.need L.length) (Bt.tr L.length (Bk.gones L))).data.toList = Bk.pre s L 0) := Lib.hid (Bk.pre_start s L).symm
   clear ct g5
   generalize Ty.encU L.length = B1 at hO5 hroom HPS
   generalize Bt.bytes (Bt.need L.length) (Bt.tr L.length (Bk.gones L)) = B2 at hroom HPS ⊢
   go_wp2_with (at_builtin; refine Ty.wpList_append_text hO5 hws5 hroom (.tmp 49) (.tmp 52) rfl rfl rfl rfl ?_; intro v6 w6 h6 g6)
   have HB6 := Lib.hid (HG5.out.trans (g6.below hws5 hO5.base))
   rw [HPS.out] at h6
   have HO6 := Lib.hid h6
   clear h6 g6 hO5 hroom hws5 HO3 HO4
   go_wp2_with fail
   go_loopw [10, 56] (fun out i wr2 => ∃ k : Nat, k ≤ s.length ∧ i = .int .i64 k ∧ Ty.Buf w2.heap.size wr2 out (Bk.pre s L k) ∧ Below w2.heap.size w2 wr2) (fun _ i _ => s.length - (intOf i).toNat)
   case atStart => exact ⟨0, Nat.zero_le _, rfl, HO6.out, HB6.out⟩
   case round =>
    obtain ⟨k, hkl, rfl, hO, hb⟩ := hrel
    have HO7 := Lib.hid hO
    have HB7 := Lib.hid hb
    have hpl : (Ty.S (Bk.pre s L k)).size ≤ 6291520 := Bk.pre_size HBL.out (HLE.out k hkl) (Nat.le_trans hkl H6.out.2)
    have HPL := Lib.hid hpl
    clear hpl hO
    by_cases hlt : k < s.length
    ·rcases HSA.out with rfl | ⟨b, o, rfl, hbl, hm, hc⟩
     ·simp at hlt
     ·have hx := List.getElem?_eq_getElem hlt
      generalize s[k] = cc at hx
      have HB8 := Lib.hid (HB2.out.trans (HB7.out.mono HB2.out.size))
      have c0 := (HB8.out.cell (p := ⟨b, o + k * 2, none⟩) hbl).trans (hc k cc hx).1
      have c1 := (HB8.out.cell (p := ⟨b, o + k * 2 + 1, none⟩) hbl).trans (hc k cc hx).2
      have dk : (k : Int) < (s.length : Int) := by omega
      have dk0 : (0 : Int) ≤ (k : Int) := by omega
      have dk6 : (k : Int) ≤ 6 := by have := H6.out.2; omega
      have HK := Lib.hid hlt
      have CK2 := Lib.hid (CK.out k cc hx)
      have hCW : ∀ u wz, Ty.Tabs wz → Kn.Vals wz u (Bk.col L k) → Calls Tryz.prog 99 #[.agg #[.int .i64 cc.k, .bool cc.null], u] wz fun e w' => e = .returned (.tuple #[.string (Ty.S (Cl.enc cc (Bk.col L k))), .int .i64 0]) ∧ Below wz.heap.size wz w' := fun u wz ht h => by
       have := CW.out k cc hx u wz ht h
       rw [Cl.wV_ok (HCW.out k cc hx)] at this
       exact this
      have HE1 := HEL.out k cc hx
      have HP1 := HPN.out k cc hx
      generalize Cl.enc cc (Bk.col L k) = E at hCW HE1 HP1
      have CW2 := Lib.hid hCW
      have HPR := Lib.hid HP1
      have HE9 : Hid ((Ty.S E).size ≤ 1048576) := Lib.hid (by rw [Ty.size_S]; exact HE1)
      have HEE : Hid (encT E = Ty.encU (Ty.S E).size ++ (Ty.S E).data.toList) := Lib.hid rfl
      generalize cc.k = ck at c0 CW2
      generalize cc.null = cn at c1 CW2
      clear HE1 HP1 hCW hc hx hlt hkl hb hm
      go_upto_region 19 with (fail)
      have HBX : Hid (Below wr.heap.size wr (wr.alloc (.cells #[.int .i64 ck, .bool cn] 76))) := Lib.hid ((Below.refl _ _).alloc (Nat.le_refl _) _)
      have x0 := Kn.cell_new wr #[.int .i64 ck, .bool cn] 76 0 _ rfl
      have x1 := Kn.cell_new wr #[.int .i64 ck, .bool cn] 76 1 _ rfl
      simp only [List.getElem_toArray, List.getElem_cons_zero, List.getElem_cons_succ] at x0 x1
      have hsz : (wr.alloc (.cells #[.int .i64 ck, .bool cn] 76)).heap.size = wr.heap.size + 1 := World.size_alloc ..
      obtain ⟨q, hq⟩ : ∃ q, q = wr.heap.size := ⟨_, rfl⟩
      rw [← hq] at x0 x1 ⊢
      generalize wr.alloc _ = w8 at HBX x0 x1 hsz ⊢
      have hq8 : q < w8.heap.size := by omega
      have HQ8 := Lib.hid hq8
      have HB9 := Lib.hid (HB7.out.trans (HBX.out.mono HB7.out.size))
      have HO9 := Lib.hid (HO7.out.later HBX.out)
      have HHS : Hid (∀ W, Below w8.heap.size w8 W → W.cell? ⟨q, 0, none⟩ = some (.int .i64 ck) ∧ W.cell? ⟨q, 1, none⟩ = some (.bool cn)) := Lib.hid fun W g => ⟨(g.cell (p := ⟨q, 0, none⟩) hq8).trans x0, (g.cell (p := ⟨q, 1, none⟩) hq8).trans x1⟩
      have HDW : Hid (Below w8.heap.size w8 w8.drew) := Lib.hid (Bt.drewN_below w8 1)
      have HW9 := Lib.hid (HB2.out.trans ((HB9.out.trans (HDW.out.mono HB9.out.size)).mono HB2.out.size))
      have HVD := Lib.hid (HV.out.later HW9.out)
      have HTT : Hid (∀ W, Below w8.drew.heap.size w8.drew W → Ty.Tabs W) := Lib.hid fun W g => HT.out.below (HW9.out.trans (g.mono HW9.out.size)) HT.out.two
      clear hq c0 c1 x0 x1 hsz hq8 HB7 HO7
      go_region_held3 (fun W => W.cell? ⟨q, 0, none⟩ = some (.int .i64 ck) ∧ W.cell? ⟨q, 1, none⟩ = some (.bool cn))
       (first
        | exact HHS.out _ HDW.out
        | exact HHS.out _ (HDW.out.trans (g5.mono HDW.out.size))
        | exact HHS.out _ (HDW.out.trans ((g5.trans (g6.mono g5.size)).mono HDW.out.size)))
       (first
        | (go_at_call 100; (with_reducible refine (CK2.out _ HVD.out).mono ?_); rintro e w5 ⟨u, rfl, hu, g5⟩)
        | (go_at_call 99; (with_reducible refine (CW2.out u _ (HTT.out _ g5) hu).mono ?_); rintro e w6 ⟨rfl, g6⟩))
      have hg6 := HDW.out.trans ((g5.trans (g6.mono g5.size)).mono HDW.out.size)
      have HG6 := Lib.hid (HB9.out.trans (hg6.mono HB9.out.size))
      have HO10 := Lib.hid (HO9.out.later hg6)
      have ct := Ty.text_c w2.heap.size _ (Bk.pre s L k) (Ty.S E) _ (HT.out.below (HB2.out.trans (HG6.out.mono HB2.out.size)) HT.out.two) HO10.out HG6.out.size (by have := HPL.out; rw [Ty.size_S] at this; have := HE9.out; omega)
      rw [List.append_assoc, ← HEE.out, ← HPR.out] at ct
      clear hu g5 g6 hg6
      go_wp2_with fail
      with_reducible refine ct.mono ?_
      rintro e w7 ⟨v7, rfl, hO7, g7⟩
      have HO7 := Lib.hid hO7
      have HB7 := Lib.hid (HG6.out.trans (g7.below HG6.out.size HO10.out.base))
      clear ct hO7 g7
      go_wp2
      go_roundw
      case rel => exact ⟨k + 1, HK.out, by simp, HO7.out, HB7.out⟩
      case measure =>
       simp [intOf]
       exact Bk.meas2 HK.out
    ·obtain rfl : k = s.length := by omega
     have dk : ¬ (s.length : Int) < (s.length : Int) := by omega
     rw [Bk.pre_all] at HO7
     have hcv := HO7.out.str
     clear hlt hkl hb HPL
     go_wp2
     go_ret2
     exact ⟨by rw [HE.out]; rfl, HB2.out.trans (HB7.out.mono HB2.out.size)⟩
end
section
open Go Go.RowKit Go.Shelf
attribute [local go_sem] Oper.semAt_some
def Rn.te (t : Fr.Str) : List Value := [.string (Ty.S t)]
theorem Rn.te_len (t : Fr.Str) : (Rn.te t).length = 1 := rfl
theorem Rn.te_one (t : Fr.Str) : ∀ u ∈ Rn.te t, u.oneCell' = true := fun u hu => by
 simp only [Rn.te, List.mem_cons, List.not_mem_nil, or_false] at hu
 subst hu
 rfl
theorem Rn.infoS : (Tryz.prog.info? 9).map (fun i => (i.zero, i.size, i.bytes)) = some (some (.string ⟨#[]⟩), 1, 16) := by kernel_rfl
theorem Rn.own_at {B : Nat} {w : World} {v : Value} {T : List Fr.Str} (h : Dk.Own 9 1 Rn.te B w v T) : Tx.At w.heap.size w v T := by
 rcases h.form with ⟨rfl, rfl⟩ | ⟨g, c, rfl, h1, _, _, h4⟩
 ·exact Tx.At.nil w
 ·refine ⟨_, c, rfl, h1, Nat.le_refl _, .inr ⟨g, 0, rfl, h4, fun i hi => ?_⟩⟩
  have hx := List.getElem?_eq_getElem hi
  have := h.cell Rn.te_len (g := g) rfl hx (j := 0) (by decide)
  rw [Nat.mul_one, Nat.add_zero] at this
  rw [Nat.zero_add, this]
  unfold Tx.sv Rn.te
  rw [List.getD_eq_getElem?_getD, hx]
  rfl
theorem Rn.ck_ds {w : World} {b o c : Nat} {L : List Dd.D} (h : Bk.Ds w (.slice (some ⟨b, o, none⟩) L.length c) L) {i : Nat} (hi : i < Rn.nb L.length) : Bk.Ds w (Bk.sv (Rn.ck b o L.length i)) (Rn.bk L i) := by
 have h9 := Rn.ds_part h hi
 obtain ⟨a', c', e, h1, h2, h⟩ := h9
 simp only [Bk.sv, Rn.part, Value.slice.injEq] at e
 obtain ⟨rfl, hl, _⟩ := e
 refine ⟨_, (Rn.bk L i).length, by unfold Bk.sv Rn.ck; rw [hl], Nat.le_refl _, by have := (Rn.bk_some hi).2; omega, h⟩
def Rn.tb (s : List Kn.C) (L : List Dd.D) (k : Nat) : List Fr.Str := (List.range k).map fun i => Bk.enc s (Rn.bk L i)
theorem Rn.tb_len (s : List Kn.C) (L : List Dd.D) (k : Nat) : (Rn.tb s L k).length = k := by unfold Rn.tb; simp
theorem Rn.tb_next (s : List Kn.C) (L : List Dd.D) (k : Nat) : Rn.tb s L (k + 1) = Rn.tb s L k ++ [Bk.enc s (Rn.bk L k)] := by
 unfold Rn.tb
 rw [List.range_succ, List.map_append]
 rfl
theorem Rn.tb_at {s : List Kn.C} {L : List Dd.D} {i k : Nat} (h : i < k) : (Rn.tb s L k)[i]? = some (Bk.enc s (Rn.bk L i)) := by
 unfold Rn.tb
 rw [List.getElem?_map, List.getElem?_range h]
 rfl
theorem Rn.tb_all (s : List Kn.C) (L : List Dd.D) : Rn.tb s L (Rn.nb L.length) = (Rn.blocks L).map (Bk.enc s) := by
 unfold Rn.tb Rn.blocks
 rw [List.map_map]
 rfl
def Rn.Ir (D : Nat → Prop) (w3 : World) (m bb : Nat) (s : List Kn.C) (L : List Dd.D) (pre : List (Option Addr × Nat × Nat)) (W : World) : Prop :=
 Rn.Kd D w3 W ∧ ∃ v, W.heap[bb]? = some (.cells #[v] 111 (0, 0)) ∧ Dk.Own 9 1 Rn.te m W v (Rn.tb s L pre.length)
theorem Rn.Ir.own {D : Nat → Prop} {w3 : World} {m bb : Nat} {s : List Kn.C} {L : List Dd.D} (hD : ∀ b, D b → b < w3.heap.size) : OwnFrom w3.heap.size (Rn.Ir D w3 m bb s L) := by
 rintro pre A' B' row ⟨h1, v, h2, h3⟩ hg hr
 exact ⟨h1.grew hD hg hr, v, Rn.blk_own h2 hg hr, Rn.own_own w3.heap.size _ _ _ () _ _ row h3 hg hr⟩
set_option maxHeartbeats 8000000 in
set_option maxRecDepth 100000 in
theorem Rn.encoding_c (vs v : Value) (s : List Kn.C) (L : List Dd.D) (w : World) (hT : Ty.Tabs w) (hs : Dd.Cols w vs s) (hv : Bk.Ds w v L) (hr : Kn.right s = true) (hf : ∀ d ∈ L, Dd.fitE s d = 0) (hso : Bk.sorted L = true) (hz : Bk.Zs L) (hi : ∀ d ∈ L, ∀ x ∈ d.row, Ty.I64 x.n) (hl : L.length ≠ 0) (h2 : L.length ≤ 200) :
 Calls Tryz.prog 36 #[vs, v] w fun e w' => e = .returned (.string (Ty.S (Rn.enc s L))) ∧ Below w.heap.size w w' := by
 obtain ⟨a, c, rfl, hlc, _, h⟩ := id hv
 obtain ⟨⟨sa, sc, rfl, -⟩, -⟩ := id hs
 rcases h with h | ⟨b, o, rfl, hb, -⟩
 ·rw [h] at hl; simp at hl
 have CW := Lib.hid fun (i : Nat) (hi9 : i < Rn.nb L.length) (wz : World) (ht : Ty.Tabs wz) (h1 : Dd.Cols wz (.slice sa s.length sc) s) (h : Bk.Ds wz (.slice (some ⟨b, o, none⟩) L.length c) L) =>
  Bk.pwrite_c (.slice sa s.length sc) (Bk.sv (Rn.ck b o L.length i)) s (Rn.bk L i) wz ht h1 (Rn.ck_ds h hi9) (fun d hd => hz d (Rn.bk_mem hd)) (fun d hd => hi d (Rn.bk_mem hd))
 have HT := Lib.hid hT
 have HS := Lib.hid hs
 have HV := Lib.hid hv
 have HWE := Lib.hid fun i (h : i < Rn.nb L.length) => Rn.bk_wE hr hf hso h
 have HN := Lib.hid (And.intro hlc h2)
 obtain ⟨w2, hw2⟩ : ∃ w2, w2 = (w.alloc (.cells #[.slice sa s.length sc] 22)).alloc (.cells #[.slice none 0 0] 111) := ⟨_, rfl⟩
 have HB2 : Hid (Below w.heap.size w w2 ∧ w2.heap.size = w.heap.size + 2 ∧ w2.heap[w.heap.size]? = some (.cells #[.slice sa s.length sc] 22 (0, 0)) ∧ w2.heap[w.heap.size + 1]? = some (.cells #[.slice none 0 0] 111 (0, 0))) := Lib.hid (by
  rw [hw2]
  refine ⟨Kn.box2 _ _ _, by simp, ?_, ?_⟩
  ·exact (((Below.refl _ (w.alloc (.cells #[.slice sa s.length sc] 22))).alloc (Nat.le_refl _) _).block w.heap.size (by simp)).trans (heap_alloc_new w _)
  ·have := heap_alloc_new (w.alloc (.cells #[.slice sa s.length sc] 22)) (.cells #[.slice none 0 0] 111)
   rwa [World.size_alloc] at this)
 obtain ⟨m, hm⟩ : ∃ m, m = w2.heap.size := ⟨_, rfl⟩
 have CC := Lib.hid (Rn.chunk_c (w := w2) (some ⟨b, o, none⟩) L.length c m hm)
 have HM := Lib.hid hm
 have HL0 := Lib.hid hl
 clear hT hs hv hr hf hso hz hi hl h2 hlc hb hm
 rw [← callsIn_wide (n := 9)]
 refine callsIn_of_wp_marks Tryz.func36 rfl trivial ?_ rfl
 simp only [Tryz.ntmps36, List.size_toArray, List.length_cons, List.length_nil, Nat.reduceAdd, Nat.reduceSub, Array.replicate_succ, Array.replicate_zero, List.push_toArray, List.append_toArray, List.nil_append, List.cons_append]
 gi_upto_region 2 with (fail)
 rw [← hw2]
 clear hw2
 gi_wp2_with (refine ⟨trivial, ?_⟩; gi_at_call 67; refine (callsIn_wide.2 CC.out).mono ?_; rintro e w3 ⟨rfl, c1, c2, g3, hz3⟩)
 obtain ⟨q, hq⟩ : ∃ q, q = w.heap.size := ⟨_, rfl⟩
 have HQ := Lib.hid hq
 have HZ3 := Lib.hid hz3
 have HG3 := Lib.hid g3
 obtain ⟨D, hD⟩ : ∃ D : Nat → Prop, D = fun b => b < m + 2 ∧ b ≠ q + 1 := ⟨_, rfl⟩
 have HD := Lib.hid hD
 have hmq : m = q + 2 := by rw [HM.out, HB2.out.2.1, hq]
 have HMQ := Lib.hid hmq
 have HDl : Hid (∀ b, D b → b < w3.heap.size) := Lib.hid fun b hb => by rw [hD] at hb; omega
 have hseq := Rn.chunk1_seq (D := D) c1 c2 (by rw [hD]; omega) (by rw [hD]; omega) HN.out.1 (by have := HN.out.2; omega)
 have HSEQ := Lib.hid hseq
 have h30 : w3.heap[q]? = some (.cells #[.slice sa s.length sc] 22 (0, 0)) := by rw [hq]; exact (g3.block _ (Array.getElem?_eq_some_iff.1 HB2.out.2.2.1).1).trans HB2.out.2.2.1
 have h31 : w3.heap[q + 1]? = some (.cells #[.slice none 0 0] 111 (0, 0)) := by rw [hq]; exact (g3.block _ (Array.getElem?_eq_some_iff.1 HB2.out.2.2.2).1).trans HB2.out.2.2.2
 have H30 := Lib.hid (And.intro h30 h31)
 have HB3 : Hid (Below w.heap.size w w3) := Lib.hid (HB2.out.1.trans (g3.mono HB2.out.1.size))
 rw [← hq]
 clear c1 c2 g3 hz3 hq hD hmq hseq h30 h31 CC
 refine Rn.range_w (gf := 96) rfl (enters_of Tryz.func96 (by kernel_rfl) rfl)
  HSEQ.out (Below.refl _ _) HDl.out (fun x args W he => by rw [he]; rfl)
  (Rn.Ir D w3 (m + 2) (q + 1) s L) (fun _ _ _ => False) (Rn.Ir.own HDl.out) (fun c s A' B' row h => h.elim) ⟨Rn.Kd.below (Below.refl _ _), _, H30.out.2, Dk.Own.nil _ _⟩
  (fun pre x a' W => a' = { tmps := #[.slice sa s.length sc, .slice (some ⟨b, o, none⟩) L.length c, .pointer (some ⟨q, 0, none⟩), undef, .string ⟨#[]⟩, .pointer (some ⟨q + 1, 0, none⟩), Bk.sv x, undef, undef, undef, undef, undef, .slice (some ⟨b, o, none⟩) L.length c, .func (.func 96) #[] #[.pointer (some ⟨m, 0, none⟩), .pointer (some ⟨m + 1, 0, none⟩)], Bk.sv x, undef, undef, undef, undef, undef, undef, undef, undef, undef, undef, undef, undef, undef, undef, undef, undef, undef, undef, undef, undef, undef, undef, undef, undef, undef], defers := [] } ∧ Rn.Ir D w3 (m + 2) (q + 1) s L pre W) ?ownA ?assign ?body ?done ?stop
 case ownA =>
  rintro pre x a' u A' B' row ⟨h0, h1⟩ hg hr
  exact ⟨h0, Rn.Ir.own HDl.out _ _ _ row h1 hg hr⟩
 case assign =>
  rintro l pre x args W hI rfl hpx hbW
  have HI := Lib.hid hI
  clear hI hpx hbW
  gi_wp2
  exact ⟨Below.refl _ _, by first | rfl | trivial, HI.out⟩
 case body =>
  rintro l pre x a' W hl hlr ⟨rfl, hkd, v, hbk, hown⟩ hpx hkw
  obtain ⟨hi, rfl⟩ := Rn.cks_at hpx
  have HPL : Hid (Rn.tb s L (pre.length + 1) = Rn.tb s L pre.length ++ [Bk.enc s (Rn.bk L pre.length)]) := Lib.hid (Rn.tb_next ..)
  have hlow : Below w.heap.size w3 W := hkd.low (fun b hb => by rw [HD.out]; have := HMQ.out; have := HQ.out; omega) HB3.out.size
  have hBW : Below w.heap.size w W := HB3.out.trans hlow
  have cw := CW.out pre.length hi W (HT.out.below hBW HT.out.two) (HS.out.later hBW) (HV.out.later hBW)
  rw [Bk.wV_ok (HWE.out _ hi)] at cw
  have hq3 : W.heap[q]? = some (.cells #[.slice sa s.length sc] 22 (0, 0)) := (hkd.same q (by rw [HD.out]; have := HMQ.out; omega) (Array.getElem?_eq_some_iff.1 H30.out.1).1).trans H30.out.1
  have c0 : W.cell? ⟨q, 0, none⟩ = some (.slice sa s.length sc) := by rw [cell_of_row _ _ _ _ _ _ hq3]; rfl
  have HW3 : Hid (w3.heap.size ≤ W.heap.size) := Lib.hid hkd.size
  have HTL : Hid ((Rn.tb s L pre.length).length ≤ 25) := Lib.hid (by rw [Rn.tb_len]; have := HN.out.2; unfold Rn.nb at hi; omega)
  have HKD := Lib.hid hkd
  have HBK := Lib.hid hbk
  have HOW := Lib.hid hown
  obtain ⟨va, vn, vc, rfl⟩ : ∃ a n c, v = .slice a n c := by
   rcases hown.form with ⟨e, _⟩ | ⟨g, c, e, _⟩
   ·exact ⟨none, 0, 0, e⟩
   ·exact ⟨_, _, c, e⟩
  have HLL : Hid (∀ y : List (Option Addr × Nat × Nat), y.length = pre.length + 1 → Rn.tb s L y.length = Rn.tb s L (pre.length + 1)) := Lib.hid fun y h => by rw [h]
  have HPX : Hid ((pre ++ [Rn.ck b o L.length pre.length]).length = pre.length + 1) := Lib.hid (by simp)
  generalize Rn.ck b o L.length pre.length = x at cw HPX ⊢
  generalize Bk.enc s (Rn.bk L pre.length) = E at cw HPL
  generalize Rn.tb s L pre.length = TB at HPL HTL HOW
  obtain ⟨x1, x2, x3⟩ := x
  unfold Bk.sv at cw ⊢
  have HCW := Lib.hid cw
  clear hl hlr hkd hbk hown hpx hkw hi hlow hBW hq3 cw
  gi_upto_region 5 with (refine ⟨trivial, ?_⟩; gi_at_call 68; refine (CallsIn.inRound l (callsIn_wide.2 HCW.out)).mono ?_; rintro e w4 ⟨rfl, g4⟩)
  have hbk4 := (g4.block _ (Array.getElem?_eq_some_iff.1 HBK.out).1).trans HBK.out
  have hown4 := HOW.out.kept g4
  have b0 : w4.cell? ⟨q + 1, 0, none⟩ = some (.slice va vn vc) := by rw [cell_of_row _ _ _ _ _ _ hbk4]; rfl
  have HBK4 := Lib.hid hbk4
  have HO4 := Lib.hid hown4
  have HG4 := Lib.hid g4
  clear hbk4 hown4 g4 c0
  refine Rn.list_region (by kernel_rfl) ?_
  go_wp2_with (at_builtin; refine Dk.wpList_append1 111 _ 16 Tryz.underlying111 Rn.infoS rfl (by decide) Rn.te_len Rn.te_one E HO4.out (by have := HG4.out.size; have := HW3.out; have := HZ3.out; omega) (by have := HTL.out; omega) (by have := HTL.out; omega) _ rfl _ rfl (.tmp 21) (.tmp 23) (by rfl) (by rfl) (by rfl) (by rfl) ?_; intro v6 w6 h6 g6; have hp6 := (g6.by_.block (q + 1) (Array.getElem?_eq_some_iff.1 HBK4.out).1 (fun e => by obtain ⟨cs, hc⟩ := HO4.out.typed (q + 1) (by first | exact e | exact e.symm); rw [HBK4.out] at hc; simp only [Option.some.injEq, Obj.cells.injEq] at hc; exact absurd hc.2.1 (by decide))).trans HBK4.out; have d0 := cell_of_row _ _ 0 _ _ _ hp6; have k0 := frozen_of_row _ _ 0 _ _ hp6; simp only [List.getElem?_toArray, List.getElem?_cons_zero] at d0; have H6 := Lib.hid (And.intro h6 (And.intro g6 hp6)); obtain ⟨v6a, v6n, v6c, hv6⟩ : ∃ a n c, v6 = .slice a n c := (by rcases h6.form with ⟨e, _⟩ | ⟨g, c, e, _⟩; exact ⟨none, 0, 0, e⟩; exact ⟨_, _, c, e⟩); clear h6 g6 hp6; subst hv6)
  have HE : Hid (KeepsFrom w3.heap.size W (w6.setCell ⟨q + 1, 0, none⟩ (.slice v6a v6n v6c)) ∧ Rn.Kd D W (w6.setCell ⟨q + 1, 0, none⟩ (.slice v6a v6n v6c)) ∧ Rn.Ir D w3 (m + 2) (q + 1) s L (pre ++ [(x1, x2, x3)]) (w6.setCell ⟨q + 1, 0, none⟩ (.slice v6a v6n v6c))) := Lib.hid (by
   have hk : Rn.Kd D W (w6.setCell ⟨q + 1, 0, none⟩ (.slice v6a v6n v6c)) := (Rn.Kd.below HG4.out).trans ((Rn.Kd.grown H6.out.2.1.by_ fun r hr => by
    rw [HD.out]
    have := HO4.out.base_le r (by first | exact hr | exact hr.symm)
    omega).trans (Rn.Kd.set _ (by rw [HD.out]; simp) _))
   refine ⟨(Rn.kf_below HG4.out).trans ((Rn.kf_grew HO4.out H6.out.2.1).trans ((KeepsOthers.setCell _ _ _).from _)), hk, HKD.out.trans hk, _, heap_setCell_same w6 (q + 1) 0 _ _ _ H6.out.2.2, ?_⟩
   rw [HLL.out _ HPX.out, HPL.out]
   refine H6.out.1.same fun b hb => heap_setCell_other w6 ⟨q + 1, 0, none⟩ b _ fun e => ?_
   obtain ⟨cs, hc⟩ := H6.out.1.typed b hb
   have e9 : b = q + 1 := e
   rw [e9, H6.out.2.2] at hc
   simp only [Option.some.injEq, Obj.cells.injEq] at hc
   exact absurd hc.2.1 (by decide))
  clear b0 d0 k0
  refine Sk.Calm.normal ?_
  gi_wp2
  exact HE.out
 case stop =>
  rintro N c pre W hN hpre hne h hK
  exact h.elim
 case done =>
  rintro N W hN ⟨hkd, v, hbk, hown⟩ hK
  rw [Rn.cks_len] at hown
  obtain ⟨nb, hnb⟩ : ∃ nb, nb = Rn.nb L.length := ⟨_, rfl⟩
  have HNB := Lib.hid hnb
  have hlow : Below w.heap.size w3 W := hkd.low (fun b hb => by rw [HD.out]; have := HMQ.out; have := HQ.out; omega) HB3.out.size
  have HBW : Hid (Below w.heap.size w W) := Lib.hid (HB3.out.trans hlow)
  have HTA := Lib.hid (Rn.own_at hown)
  have hlen := Rn.tb_len s L (Rn.nb L.length)
  rw [← hnb] at hlen hown HTA
  have HIX : Hid (Rn.ix (Rn.tb s L nb) nb = Rn.index s L) := Lib.hid (by
   have := Rn.ix_index s L
   rw [← Rn.tb_all, Rn.tb_len, ← hnb] at this
   exact this)
  have HEI : Hid (Rn.enc s L = Rn.pre s L nb ++ Fr.frm (Rn.index s L)) := Lib.hid (by rw [hnb]; exact Rn.enc_is s L)
  have HPF := Lib.hid fun k (h : k ≤ nb) => Rn.pre_few HWE.out k (by rw [← hnb]; exact h)
  have HTE : Hid (∀ k, k < nb → (Rn.tb s L nb)[k]? = some (Bk.enc s (Rn.bk L k))) := Lib.hid fun k h => Rn.tb_at h
  have HFW : Hid (∀ t ∈ Rn.tb s L nb, t.length ≤ 6291520) := Lib.hid fun t ht => by
   obtain ⟨i, hi, rfl⟩ := List.mem_iff_getElem.1 ht
   rw [Rn.tb_len] at hi
   have := HTE.out i hi
   rw [List.getElem?_eq_getElem (by rw [Rn.tb_len]; exact hi), Option.some.injEq] at this
   rw [this]
   exact Rn.enc_few (HWE.out i (by rw [← hnb]; exact hi))
  have HNL : Hid (nb ≤ 25 ∧ 1 ≤ nb) := Lib.hid (by have := HN.out.2; have := HL0.out; rw [hnb]; unfold Rn.nb; omega)
  generalize Rn.tb s L nb = TB at hown HTA HIX HTE HFW hlen
  have HLEN := Lib.hid hlen
  obtain ⟨g, vc, rfl⟩ : ∃ g c, v = .slice (some ⟨g, 0, none⟩) nb c := by
   rcases hown.form with ⟨_, e⟩ | ⟨g, c, e, _⟩
   ·rw [e] at hlen; simp at hlen; have := HNL.out; omega
   ·exact ⟨g, c, by rw [e, hlen]⟩
  have HOW := Lib.hid hown
  have hbd := Rn.bd_new W
  have HAL : Hid (Below W.heap.size W (W.alloc (.cells #[.pointer none, .slice none 0 0] 124))) := Lib.hid ((Below.refl _ _).alloc (Nat.le_refl _) _)
  have b0 : (W.alloc (.cells #[.pointer none, .slice none 0 0] 124)).cell? ⟨q + 1, 0, none⟩ = some (.slice (some ⟨g, 0, none⟩) nb vc) := by rw [cell_of_row _ _ _ _ _ _ ((HAL.out.block _ (Array.getElem?_eq_some_iff.1 hbk).1).trans hbk)]; rfl
  have HBK := Lib.hid hbk
  have HK := Lib.hid (And.intro hN hK)
  have hnb0 : (0 : Int) ≤ (nb : Int) := by omega
  clear hkd hbk hown hN hK hlow hnb hlen CW HSEQ H30
  gi_upto_region 7 with (fail)
  generalize W.alloc _ = w5 at hbd HAL b0 ⊢
  have HBD := Lib.hid hbd
  clear hbd
  obtain ⟨p, hp⟩ : ∃ p, p = W.heap.size := ⟨_, rfl⟩
  rw [← hp] at HBD ⊢
  have HP := Lib.hid hp
  clear hp
  gi_wp2
  gi_loopw [27] (fun i wr => ∃ k : Nat, k ≤ nb ∧ i = .int .i64 k ∧ Rn.Bd p p (Rn.pre s L k) wr ∧ Below p W wr) (fun i _ => nb - (intOf i).toNat)
  case atStart => exact ⟨0, Nat.zero_le _, rfl, HBD.out, by rw [HP.out]; exact HAL.out⟩
  case round =>
   obtain ⟨k, hk, rfl, hd, hB⟩ := hrel
   have HD9 := Lib.hid hd
   have HB9 : Hid (Below W.heap.size W wr) := Lib.hid (by rw [← HP.out]; exact hB)
   have HPS : Hid (p ≤ wr.heap.size) := Lib.hid (by rw [HP.out]; exact HB9.out.size)
   have HPK := Lib.hid (HPF.out k hk).1
   clear hd hB
   by_cases hl : k < nb
   ·have hx := HTE.out k hl
    have c0 := HOW.out.cell Rn.te_len (g := g) rfl hx (j := 0) (by decide)
    have c0 := (HB9.out.cell (p := ⟨g, k * 1 + 0, none⟩) (HOW.out.lt g rfl)).trans c0
    rw [Nat.mul_one, Nat.add_zero] at c0
    simp only [Rn.te, List.getElem?_cons_zero] at c0
    have HPN := Lib.hid (Rn.pre_next s L k)
    have hel := HFW.out _ (List.mem_of_getElem? hx)
    generalize Bk.enc s (Rn.bk L k) = E at c0 HPN hel hx
    have CF := Lib.hid fun wz => Fr.write_c (Ty.S E) (by rw [Ty.size_S]; omega) wz rfl
    rw [Ty.data_S] at CF
    have hfl := Fr.frm_len E
    generalize Fr.frm E = F at CF HPN hfl
    have HFL : Hid (F.length ≤ 6291528) := Lib.hid (by omega)
    have hkl : (k : Int) < (nb : Int) := by omega
    have hk0 : (0 : Int) ≤ (k : Int) := by omega
    have hk25 : (k : Int) ≤ 25 := by have := HNL.out; omega
    have HKL := Lib.hid hl
    obtain ⟨y, hy⟩ : ∃ y, y = Ty.S E := ⟨_, rfl⟩
    rw [← hy] at c0 CF
    clear hx hel hfl hl hk hy
    gi_wp2_with (first
     | (refine ⟨trivial, ?_⟩; gi_at_call 70; refine (callsIn_wide.2 (CF.out _)).mono ?_; rintro e w7 ⟨rfl, g7⟩
        have HB7 := Lib.hid (HB9.out.trans (g7.mono HB9.out.size))
        have hd7 := HD9.out.kept g7)
     | (refine ⟨trivial, ?_⟩; gi_at_call 69; refine (callsIn_wide.2 (Rn.bwrite_c p p (Rn.pre s L k) F w7 hd7 (by have := HFL.out; have := HPK.out; omega) (by rw [HP.out]; exact HB7.out.size))).mono ?_; rintro e w8 ⟨rfl, hd8, g8⟩
        have HD8 := Lib.hid hd8
        have HB8 : Hid (Below p W w8) := Lib.hid ((HB7.out.mono (by rw [HP.out]; exact Nat.le_refl _)).trans g8)
        clear hd7 hd8 g7 g8))
    go_roundw
    case rel => exact ⟨k + 1, HKL.out, by simp, by rw [HPN.out]; exact HD8.out, HB8.out⟩
    case measure => (have := HKL.out; simp [intOf]; omega)
   ·obtain rfl : k = nb := by omega
    have hkl : ¬ (k : Int) < (k : Int) := by omega
    have hb9 := (HB9.out.block _ (Array.getElem?_eq_some_iff.1 HBK.out).1).trans HBK.out
    have b9 : wr.cell? ⟨q + 1, 0, none⟩ = some (.slice (some ⟨g, 0, none⟩) k vc) := by rw [cell_of_row _ _ _ _ _ _ hb9]; rfl
    have HTW := Lib.hid (HBW.out.trans (HB9.out.mono HBW.out.size))
    have ci := Rn.index_c _ TB wr (HT.out.below HTW.out HT.out.two) ((HTA.out.below HB9.out).mono HB9.out.size (Nat.le_refl _)) (by rw [HLEN.out]; have := HNL.out; omega) HFW.out
    rw [HLEN.out, HIX.out] at ci
    have CI := Lib.hid ci
    have hil : (Rn.index s L).length ≤ 250 := by
     rw [← HIX.out]
     have h1 := Rn.ix_len TB k (by rw [HLEN.out]; exact Nat.le_refl _)
     have := HNL.out
     omega
    have CF := Lib.hid fun wz => Fr.write_c (Ty.S (Rn.index s L)) (by rw [Ty.size_S]; omega) wz rfl
    rw [Ty.data_S] at CF
    have hfl := Fr.frm_len (Rn.index s L)
    generalize Fr.frm (Rn.index s L) = F at CF HEI hfl
    have HFL : Hid (F.length ≤ 258) := Lib.hid (by omega)
    generalize Ty.S (Rn.index s L) = y at CI CF
    clear hk hl hb9 ci hil hfl
    gi_wp2_with (first
     | (refine ⟨trivial, ?_⟩; gi_at_call 61; refine (callsIn_wide.2 CI.out).mono ?_; rintro e w6 ⟨rfl, g6⟩
        have HB6 := Lib.hid (HB9.out.trans (g6.mono HB9.out.size))
        have hd6 := HD9.out.kept g6)
     | (refine ⟨trivial, ?_⟩; gi_at_call 70; refine (callsIn_wide.2 (CF.out _)).mono ?_; rintro e w7 ⟨rfl, g7⟩
        have HB7 := Lib.hid (HB6.out.trans (g7.mono HB6.out.size))
        have hd7 := hd6.kept g7)
     | (refine ⟨trivial, ?_⟩; gi_at_call 69; refine (callsIn_wide.2 (Rn.bwrite_c p p (Rn.pre s L k) F w7 hd7 (by have := HFL.out; have := HPK.out; have := HNL.out; omega) (by rw [HP.out]; exact HB7.out.size))).mono ?_; rintro e w8 ⟨rfl, hd8, g8⟩
        have HB8 : Hid (Below p W w8) := Lib.hid ((HB7.out.mono (by rw [HP.out]; exact Nat.le_refl _)).trans g8)
        clear hd6 hd7)
     | (refine ⟨trivial, ?_⟩; gi_at_call 71; refine (callsIn_wide.2 (Rn.bstring_c p p _ w8 hd8 (by have := HB8.out.size; rw [HP.out]; exact this))).mono ?_; rintro e w9 ⟨rfl, g9⟩
        have HB10 : Hid (Below p W w9) := Lib.hid (HB8.out.trans g9)
        clear hd8 g8 g9))
    have HK9 : Hid (w9.heap[N]? = some (.deferred (some [])) ∧ Below w.heap.size w w9) := Lib.hid (by
     have h1 := HB10.out
     rw [HP.out] at h1
     exact ⟨(h1.block N (Array.getElem?_eq_some_iff.1 HK.out.2).1).trans HK.out.2, HBW.out.trans (h1.mono HBW.out.size)⟩)
    refine ⟨by simp, .inl ⟨_, _, rfl, run_takeDeferred HK9.out.1, ?_⟩⟩
    refine ⟨_, results_tmp rfl _ _ _, ?_, HK9.out.2.trans (belowK_b (Nat.le_refl _) w9 N _ _ (by have := HB3.out.size; have := HK.out.1; omega) HK9.out.1 rfl rfl)⟩
    rw [HEI.out]
    rfl
end
section
open Go Go.RowKit
theorem Rn.fitsE_f {s : List Kn.C} {L : List Dd.D} {q : Int} (h : Bk.firstE s L = q) (hq : q ≠ 0) : Bk.fitsE s L = q := by
 unfold Bk.fitsE
 rw [h, if_neg hq]
theorem Rn.fitsE_s {s : List Kn.C} {L : List Dd.D} (h : Bk.firstE s L = 0) (hs : Bk.sorted L = false) : Bk.fitsE s L = 1 := by
 unfold Bk.fitsE
 rw [if_pos h, if_neg (by rw [hs]; decide)]
theorem Rn.fitsE_g {s : List Kn.C} {L : List Dd.D} (h : Bk.firstE s L = 0) (hs : Bk.sorted L = true) : Bk.fitsE s L = 0 := by
 unfold Bk.fitsE
 rw [if_pos h, if_pos hs]
set_option maxHeartbeats 8000000 in
set_option maxRecDepth 100000 in
theorem Rn.pwrite_c (vs v : Value) (s : List Kn.C) (L : List Dd.D) (w : World) (hT : Ty.Tabs w) (hs : Dd.Cols w vs s) (hv : Bk.Ds w v L) (hz : Bk.Zs L) (hi : ∀ d ∈ L, ∀ x ∈ d.row, Ty.I64 x.n) (h2 : L.length ≤ 200) :
 Calls Tryz.prog 11 #[vs, v] w fun e w' => e = .returned (Rn.wV s L) ∧ Below w.heap.size w w' := by
 obtain ⟨V, hV⟩ : ∃ V, V = Rn.wV s L := ⟨_, rfl⟩
 rw [← hV]
 have HV9 := Lib.hid hV
 have HT := Lib.hid hT
 have HS := Lib.hid hs
 have HV := Lib.hid hv
 have HZ := Lib.hid hz
 have HI := Lib.hid hi
 have H2 := Lib.hid h2
 have cR := Kn.right_c vs s w hs.1
 have CD := Lib.hid fun (u : Value) (d : Dd.D) (wz : World) (h1 : Ty.Tabs wz) (h2 : Dd.Cols wz vs s) (h3 : Kn.Vals wz u d.row) (h4 : ∀ x ∈ d.row, Ty.I64 x.n) => Dd.write_c vs u s d wz h1 h2 h3 h4
 have CS := Lib.hid fun (wz : World) (h : Bk.Ds wz v L) => Bk.psorted_c v L wz h HZ.out
 obtain ⟨a, c, rfl, hlc, hcm, h⟩ := hv
 obtain ⟨⟨sa, sc, rfl, hsa⟩, -⟩ := hs
 have HH := Lib.hid h
 clear hV hT hz hi h hsa hlc hcm
 cases hr : Kn.right s
 ·rw [hr] at cR
  have HE := Lib.hid (HV9.out.trans (Rn.wV_bad (Rn.wE_k (L := L) hr) (by decide)))
  clear hr
  go_enter Tryz.func11, Tryz.ntmps11
  go_wp2_with fail
  with_reducible refine cR.mono ?_
  rintro e w1 ⟨rfl, g1⟩
  have HG := Lib.hid g1
  clear g1
  go_wp2
  go_ret2
  exact ⟨by rw [HE.out]; rfl, HG.out⟩
 rw [hr] at cR
 have HR := Lib.hid hr
 clear hr
 by_cases hlen : L.length = 0
 ·have HE := Lib.hid (HV9.out.trans (Rn.wV_bad (Rn.wE_n HR.out hlen) (by decide)))
  rw [hlen]
  clear hlen
  go_enter Tryz.func11, Tryz.ntmps11
  go_wp2_with fail
  with_reducible refine cR.mono ?_
  rintro e w1 ⟨rfl, g1⟩
  have HG := Lib.hid g1
  clear g1
  go_wp2
  go_ret2
  exact ⟨by rw [HE.out]; rfl, HG.out⟩
 have hi1 : ((L.length : Int) == 0) = false := by rw [beq_eq_false_iff_ne]; omega
 have HLN := Lib.hid hlen
 clear hlen
 go_enter Tryz.func11, Tryz.ntmps11
 go_wp2_with fail
 with_reducible refine cR.mono ?_
 rintro e w1 ⟨rfl, g1⟩
 have HG1 := Lib.hid g1
 clear cR g1
 go_wp2_with fail
 clear hi1
 go_loopw [19] (fun i wr => ∃ k : Nat, k ≤ L.length ∧ i = .int .i64 k ∧ (∀ j x, j < k → L[j]? = some x → Dd.fitE s x = 0) ∧ Below w.heap.size w wr) (fun i _ => L.length - (intOf i).toNat)
 case atStart => exact ⟨0, Nat.zero_le _, rfl, (fun j x hj => by omega), HG1.out⟩
 case round =>
  obtain ⟨k, hk, rfl, hf, hb⟩ := hrel
  have HF := Lib.hid hf
  have HB := Lib.hid hb
  clear hf hb
  by_cases hl : k < L.length
  ·rcases HH.out with rfl | ⟨b, o, rfl, hlt, hc⟩
   ·simp at hl
   ·have hx := List.getElem?_eq_getElem hl
    generalize L[k] = d at hx
    obtain ⟨u, c0, c1, hu⟩ := hc k d hx
    have hu := hu.later HB.out
    have c0 := (HB.out.cell (p := ⟨b, o + k * 2, none⟩) hlt).trans c0
    have c1 := (HB.out.cell (p := ⟨b, o + k * 2 + 1, none⟩) hlt).trans c1
    have HU := Lib.hid hu
    obtain ⟨ua, uc, rfl, -⟩ := hu
    have hkl : (k : Int) < (L.length : Int) := by omega
    have hk0 : (0 : Int) ≤ (k : Int) := by omega
    have hk7 : (k : Int) ≤ 200 := by have := H2.out; omega
    have HX := Lib.hid hx
    have HK := Lib.hid hl
    clear hc hx hl hk
    go_upto_region 8 with (fail)
    have HB0 : Hid (Below wr.heap.size wr (wr.alloc (.cells #[.bool d.gone, .slice ua d.row.length uc] 41))) := Lib.hid ((Below.refl _ _).alloc (Nat.le_refl _) _)
    have x0 := Kn.cell_new wr #[.bool d.gone, .slice ua d.row.length uc] 41 0 _ rfl
    have x1 := Kn.cell_new wr #[.bool d.gone, .slice ua d.row.length uc] 41 1 _ rfl
    simp only [List.getElem_toArray, List.getElem_cons_zero, List.getElem_cons_succ] at x0 x1
    obtain ⟨q, hq⟩ : ∃ q, q = wr.heap.size := ⟨_, rfl⟩
    rw [← hq] at x0 x1 ⊢
    generalize wr.alloc _ = w3 at HB0 x0 x1 ⊢
    have HB3 := Lib.hid (HB.out.trans (HB0.out.mono HB.out.size))
    have cd := CD.out _ d w3 (HT.out.below HB3.out HT.out.two) (HS.out.later HB3.out) (HU.out.later HB0.out) (HI.out d (List.mem_of_getElem? HX.out))
    unfold Dd.wV at cd
    have HFE : Hid (Dd.fitE s d ≠ 0 → V = .tuple #[.string (Ty.S []), .int .i64 (Dd.fitE s d)]) := Lib.hid fun h => by
     have h1 := Rn.fitsE_f (Bk.first_at HX.out HF.out h) h
     exact HV9.out.trans (Rn.wV_bad ((Rn.wE_f HR.out HLN.out (by rw [h1]; exact h)).trans h1) h)
    have HFZ : Hid (Dd.fitE s d = 0 → ∀ j x, j < k + 1 → L[j]? = some x → Dd.fitE s x = 0) := Lib.hid fun h j x hj hx => by
     rcases Nat.lt_or_ge j k with h2 | h2
     ·exact HF.out j x h2 hx
     ·obtain rfl : j = k := by omega
      rw [HX.out] at hx
      cases hx
      exact h
    generalize Dd.fitE s d = E at cd HFE HFZ
    generalize Ty.S (Dd.wS s d) = T9 at cd
    clear hq c0 c1
    go_wp2_with fail
    with_reducible refine cd.mono ?_
    rintro e w4 ⟨rfl, g4⟩
    have HB4 := Lib.hid (HB3.out.trans (g4.mono HB3.out.size))
    clear cd g4 x0 x1
    by_cases hE : E = 0
    ·subst hE
     have HFZ2 := Lib.hid (HFZ.out rfl)
     go_wp2
     go_roundw
     case rel => exact ⟨k + 1, HK.out, by simp, HFZ2.out, HB4.out⟩
     case measure => (have := HK.out; simp [intOf]; omega)
    ·have hEb : (E != 0) = true := by rw [bne_iff_ne]; exact hE
     have HX2 := Lib.hid (HFE.out hE)
     clear hE
     go_wp2
     go_ret2
     exact ⟨by rw [HX2.out]; rfl, HB4.out⟩
  ·obtain rfl : k = L.length := by omega
   have hkl : ¬ (L.length : Int) < (L.length : Int) := by omega
   have HFA : Hid (∀ d ∈ L, Dd.fitE s d = 0) := Lib.hid fun d hd => by
    obtain ⟨j, hj, rfl⟩ := List.mem_iff_getElem.1 hd
    exact HF.out j _ hj (List.getElem?_eq_getElem hj)
   have H0 := Lib.hid (Bk.firstE_0.2 HFA.out)
   have cs := CS.out wr (HV.out.later HB.out)
   clear hk hl HF
   cases hso : Bk.sorted L
   ·rw [hso] at cs
    have HE := Lib.hid (HV9.out.trans (Rn.wV_bad ((Rn.wE_f HR.out HLN.out (by rw [Rn.fitsE_s H0.out hso]; decide)).trans (Rn.fitsE_s H0.out hso)) (by decide)))
    clear hso
    go_wp2_with fail
    with_reducible refine cs.mono ?_
    rintro e w2 ⟨rfl, g2⟩
    have HB2 := Lib.hid (HB.out.trans (g2.mono HB.out.size))
    clear cs g2
    go_wp2
    go_ret2
    exact ⟨by rw [HE.out]; rfl, HB2.out⟩
   rw [hso] at cs
   have CE := Lib.hid fun (wz : World) (h1 : Ty.Tabs wz) (h2 : Dd.Cols wz (.slice sa s.length sc) s) (h3 : Bk.Ds wz (.slice a L.length c) L) => Rn.encoding_c _ _ s L wz h1 h2 h3 HR.out HFA.out hso HZ.out HI.out HLN.out H2.out
   have HFG := Lib.hid (Rn.fitsE_g H0.out hso)
   clear hso
   go_wp2_with fail
   with_reducible refine cs.mono ?_
   rintro e w2 ⟨rfl, g2⟩
   have HB2 := Lib.hid (HB.out.trans (g2.mono HB.out.size))
   have ce := CE.out w2 (HT.out.below HB2.out HT.out.two) (HS.out.later HB2.out) (HV.out.later HB2.out)
   have HXS : Hid ((Ty.S (Rn.enc s L)).size = (Rn.enc s L).length) := Lib.hid (Ty.size_S _)
   obtain ⟨x, hx⟩ : ∃ x, x = Ty.S (Rn.enc s L) := ⟨_, rfl⟩
   rw [← hx] at ce HXS
   have HXE := Lib.hid hx
   clear cs g2 hx hkl
   by_cases hbig : 1048576 < (Rn.enc s L).length
   ·have HE := Lib.hid (HV9.out.trans (Rn.wV_bad (Rn.wE_l HR.out HLN.out HFG.out hbig) (by decide)))
    have hb8 : (1048576 : Int) < (x.size : Int) := by have := HXS.out; omega
    clear hbig
    go_wp2_with fail
    with_reducible refine ce.mono ?_
    rintro e w5 ⟨rfl, g5⟩
    have HB5 := Lib.hid (HB2.out.trans (g5.mono HB2.out.size))
    clear g5
    go_wp2
    go_ret2
    exact ⟨by rw [HE.out]; rfl, HB5.out⟩
   ·have HE := Lib.hid (HV9.out.trans (Rn.wV_ok (Rn.wE_g HR.out HLN.out HFG.out hbig)))
    have hb8 : ¬ (1048576 : Int) < (x.size : Int) := by have := HXS.out; omega
    clear hbig
    go_wp2_with fail
    with_reducible refine ce.mono ?_
    rintro e w5 ⟨rfl, g5⟩
    have HB5 := Lib.hid (HB2.out.trans (g5.mono HB2.out.size))
    clear g5
    go_wp2
    go_ret2
    exact ⟨by rw [HE.out, HXE.out]; rfl, HB5.out⟩
end
end Go.Proofs.YtbelkhkllneifaaGreatDoor
