/-
  Contracts of package deeds: Write and Read, in full.
-/
import Derived.Test.YtccjfmjgkkpndaaDoorEA
import Derived.Test.YtccjfmjgkkpndaaDoorEB
import Derived.Test.YtccjfmjgkkpndaaDoorL3
import Derived.StillTailTactics
namespace Go.Proofs.YtccjfmjgkkpndaaDoor
open Go.RowKit
open Ty (I64)
theorem Dd.Cols.kn {w : World} {v : Value} {l : List Kn.C} (h : Dd.Cols w v l) : Kn.Cols w v l := h.1
theorem Dd.cols_at {s : List Kn.C} {g : Bool} {k : Nat} {c : Kn.C} (h : (Dd.cols s g)[k]? = some c) : s[k]? = some c := by
  unfold Dd.cols at h
  cases g
  · exact h
  · rw [if_pos rfl, List.getElem?_take] at h
    split at h
    · exact h
    · cases h
set_option maxHeartbeats 2000000 in
set_option maxRecDepth 100000 in
/-- WRITE. -/
theorem Dd.write_c (v u : Value) (s : List Kn.C) (d : Dd.D) (w : World) (hw : Dd.T w) (hs : Dd.Cols w v s) (hu : Kn.Vals w u d.row) (hi : ∀ x ∈ d.row, I64 x.n) :
    Calls Tryd.prog 10 #[v, .agg #[.bool d.gone, u]] w fun e w' => e = .returned (Dd.wV s d) ∧ Below w.heap.size w w' := by
  have HS := Lib.hid hs
  have HU := Lib.hid hu
  have HI := Lib.hid hi
  have HW := Lib.hid hw
  have HB0 : Hid (Below w.heap.size w (w.alloc (.cells #[.bool d.gone, u] 26))) := Lib.hid ((Below.refl _ _).alloc (Nat.le_refl _) _)
  have HX0 := Lib.hid (Kn.cell_new w #[.bool d.gone, u] 26 0 _ rfl)
  have HX1 := Lib.hid (Kn.cell_new w #[.bool d.gone, u] 26 1 _ rfl)
  simp only [List.getElem_toArray, List.getElem_cons_zero, List.getElem_cons_succ] at HX0 HX1
  have hsz : (w.alloc (.cells #[.bool d.gone, u] 26)).heap.size = w.heap.size + 1 := World.size_alloc ..
  obtain ⟨V, hV⟩ : ∃ V, V = Dd.wV s d := ⟨_, rfl⟩
  rw [← hV]
  have HV := Lib.hid hV
  have CR := Lib.hid fun wz (h : Kn.Cols wz v s) => Kn.right_c v s wz h
  clear hV hs hu hi hw
  cases hrt : Kn.right s
  · have HE := Lib.hid (HV.out.trans (Dd.wV_bad (by rw [Dd.fitE_not hrt]; decide)))
    have HE4 := Lib.hid (Dd.fitE_not hrt d)
    rw [hrt] at CR
    clear hrt
    go_enter Tryd.func10, Tryd.ntmps10
    go_wp2_with fail
    generalize hwo : w.alloc _ = wo at hsz HX0 HX1 HB0 ⊢
    clear hwo
    with_reducible refine (CR.out wo (HS.out.later HB0.out).kn).mono ?_
    rintro e w1 ⟨rfl, g1⟩
    have HB1 := Lib.hid (HB0.out.trans (g1.mono HB0.out.size))
    clear g1
    go_wp2
    go_ret2
    exact ⟨by rw [HE.out, HE4.out]; rfl, HB1.out⟩
  · rw [hrt] at CR
    have hl := Kn.right_len hrt
    have CC := Lib.hid fun wz (h : Dd.Cols wz v s) => Dd.columnsOf_c v s d.gone wz h hl.1
    have HFE : Hid (Kn.fitsE (Dd.cols s d.gone) d.row = Dd.fitE s d) := Lib.hid (Dd.fitE_cols hrt d)
    have HGOOD : Hid (∀ (k : Nat) (c : Kn.C), (Dd.cols s d.gone)[k]? = some c → c.good = true) := Lib.hid fun k c h => Dd.cols_good hrt h
    have HAT : Hid (∀ (k : Nat) (c : Kn.C), (Dd.cols s d.gone)[k]? = some c → s[k]? = some c) := Lib.hid fun k c h => Dd.cols_at h
    have HLN : Hid (Dd.fitE s d = 0 → d.row.length = (Dd.cols s d.gone).length ∧ Kn.fitsAll (Dd.cols s d.gone) d.row = true) := Lib.hid fun h => (Dd.fitE_0 h).2
    have hcl := Dd.cols_len hrt d.gone
    have HCL := Lib.hid hcl
    generalize Dd.cols s d.gone = cs at CC HFE HGOOD HAT HLN HCL
    clear hrt hl hcl
    go_enter Tryd.func10, Tryd.ntmps10
    go_wp2_with fail
    generalize hwo : w.alloc _ = wo at hsz HX0 HX1 HB0 ⊢
    clear hwo
    with_reducible refine (CR.out wo (HS.out.later HB0.out).kn).mono ?_
    rintro e w1 ⟨rfl, g1⟩
    have HB1 := Lib.hid (HB0.out.trans (g1.mono HB0.out.size))
    have x0 := (g1.cell (p := ⟨w.heap.size, 0, none⟩) (by simp [hsz])).trans HX0.out
    have x1 := (g1.cell (p := ⟨w.heap.size, 1, none⟩) (by simp [hsz])).trans HX1.out
    have hs1 : w.heap.size < w1.heap.size := by have := g1.size; omega
    clear g1 CR HX0 HX1 hsz
    go_wp2_with fail
    with_reducible refine (CC.out w1 (HS.out.later HB1.out)).mono ?_
    rintro e w2 ⟨⟨uc, rfl, hC⟩, h2⟩
    subst w2
    have HC : Hid (∀ W, Below w.heap.size w W → Kn.Cols W uc cs) := Lib.hid fun W h => (hC W (HS.out.later h)).1
    clear hC CC
    go_wp2_with fail
    have cf := Kn.fits_c uc u cs d.row w1 (HC.out _ HB1.out) (HU.out.later HB1.out)
    rw [HFE.out] at cf
    by_cases hE : Dd.fitE s d = 0
    · have HE := Lib.hid (HV.out.trans (Dd.wV_ok hE))
      obtain ⟨hln, hfa⟩ := HLN.out hE
      have HFT : Hid (∀ (k : Nat) (c : Kn.C) (x : Kn.V), cs[k]? = some c → d.row[k]? = some x → Kn.fits c x = true) := Lib.hid fun k c x h1 h2 => Dd.fitsAll_at cs d.row k c x hfa h1 h2
      have HPL : Hid (∀ k, k ≤ d.row.length → (Dd.pre s d.gone d.row k).length ≤ 500) := Lib.hid fun k hk => Dd.pre_len hE hk
      have HPA := Lib.hid (Dd.pre_all hE)
      have HPS : Hid (∀ (k : Nat) (c : Kn.C) (x : Kn.V), cs[k]? = some c → d.row[k]? = some x → Dd.pre s d.gone d.row (k + 1) = Dd.pre s d.gone d.row k ++ Dd.encV c x) := Lib.hid fun k c x h1 h2 => Dd.pre_step (HAT.out k c h1) h2
      have hr6 : d.row.length ≤ 6 := by have := HCL.out; omega
      have HLEN := Lib.hid hln
      rw [hE] at cf
      obtain ⟨ac, cc, rfl, -⟩ := (HC.out _ HB1.out).is
      obtain ⟨au, cu, rfl, hUH⟩ := HU.out.is
      have HUH := Lib.hid hUH
      have HCC : Hid (∀ W, Below w.heap.size w W → cs = [] ∨ ∃ b2 o2, ac = some ⟨b2, o2, none⟩ ∧ b2 < W.heap.size ∧ ∀ i x, cs[i]? = some x → W.cell? ⟨b2, o2 + i * 2, none⟩ = some (.int .i64 x.k) ∧ W.cell? ⟨b2, o2 + i * 2 + 1, none⟩ = some (.bool x.null)) := Lib.hid fun W hW => by
        obtain ⟨a', c', e, h⟩ := (HC.out W hW).is
        simp only [Value.slice.injEq, true_and] at e
        obtain ⟨rfl, _⟩ := e
        rcases h with h | ⟨b2, o2, h1, h2, _, h3⟩
        · exact .inl h
        · exact .inr ⟨b2, o2, h1, h2, h3⟩
      clear hE hfa hUH HC
      with_reducible refine cf.mono ?_
      rintro e w2 ⟨rfl, g2⟩
      have HB2 := Lib.hid (HB1.out.trans (g2.mono HB1.out.size))
      have HX1 := Lib.hid ((g2.cell (p := ⟨w.heap.size, 1, none⟩) hs1).trans x1)
      have y0 := (g2.cell (p := ⟨w.heap.size, 0, none⟩) hs1).trans x0
      have hs2 : w.heap.size < w2.heap.size := by have := g2.size; omega
      have HT2 := Lib.hid (HW.out.below HB2.out)
      clear g2 cf x0 x1 hs1
      go_wp2_with fail
      with_reducible refine (Dd.appendFlag_c w2.heap.size _ [] d.gone w2 (Ty.Buf.nil _ _) (Nat.le_refl _) (by simp)).mono ?_
      rintro e w3 ⟨v3, rfl, hB3, hG3⟩
      have HG3 := Lib.hid (hG3.below (Nat.le_refl _) (fun k hk => by cases hk))
      have HB3 := Lib.hid hB3
      clear hB3 hG3 y0
      go_wp2_with fail
      rw [← hln]
      clear hln
      go_loopw [8, 30] (fun sv i wr => ∃ (k : Nat) (bv : Value), k ≤ d.row.length ∧ i = .int .i64 k ∧ bv = sv ∧ Ty.Buf w2.heap.size wr bv (Dd.pre s d.gone d.row k) ∧ Below w2.heap.size w2 wr) (fun _ i _ => d.row.length - (intOf i).toNat)
      case atStart => exact ⟨0, _, Nat.zero_le _, rfl, rfl, HB3.out, HG3.out⟩
      case round =>
        obtain ⟨k, bv, hk, rfl, rfl, hBk, hGk⟩ := hrel
        have HBK := Lib.hid hBk
        have HGK := Lib.hid hGk
        have HBW := Lib.hid (HB2.out.trans (hGk.mono HB2.out.size))
        have hws := hGk.size
        have x1 := (hGk.cell (p := ⟨w.heap.size, 1, none⟩) hs2).trans HX1.out
        have hk0 : (0 : Int) ≤ (k : Int) := by omega
        have HPK := Lib.hid (HPL.out k hk)
        clear hBk hGk HB3 HG3
        by_cases hlk : k < d.row.length
        · rcases HCC.out wr HBW.out with h | ⟨b2, o2, rfl, hbl, hc2⟩
          · exact absurd hlk (by have := HLEN.out; rw [h, List.length_nil] at this; omega)
          · rcases HUH.out with h | ⟨b3, o3, rfl, hbl3, hm3, hx3⟩
            · exact absurd hlk (by rw [h]; simp)
            · obtain ⟨⟨ck, cn⟩, hc⟩ : ∃ c, cs[k]? = some c := ⟨_, List.getElem?_eq_getElem (by have := HLEN.out; omega)⟩
              obtain ⟨⟨xn, xi, xs⟩, hx⟩ : ∃ x, d.row[k]? = some x := ⟨_, List.getElem?_eq_getElem hlk⟩
              obtain ⟨e0, e1⟩ := hc2 k _ hc
              obtain ⟨a0, a1, a2⟩ := (hx3 k _ hx).later HBW.out
              have HST := Lib.hid (HPS.out k _ _ hc hx)
              have HFX := Lib.hid (HFT.out k _ _ hc hx)
              have HGX := Lib.hid (HGOOD.out k _ hc)
              have HIX := Lib.hid (HI.out _ (List.mem_of_getElem? hx))
              have hkl : (k : Int) < (d.row.length : Int) := by omega
              have hbl3r : b3 < wr.heap.size := by have := HBW.out.size; omega
              have hn0 := Kn.cell_new wr #[.int .i64 ck, .bool cn] 39 0 _ rfl
              have hn1 := Kn.cell_new wr #[.int .i64 ck, .bool cn] 39 1 _ rfl
              have gN : Below wr.heap.size wr (wr.alloc (.cells #[.int .i64 ck, .bool cn] 39)) := (Below.refl _ _).alloc (Nat.le_refl _) _
              simp only [List.getElem_toArray, List.getElem_cons_zero, List.getElem_cons_succ] at hn0 hn1
              simp only at e0 e1 a0 a1 a2 HIX
              have n1 := (gN.cell (p := ⟨w.heap.size, 1, none⟩) (by show w.heap.size < wr.heap.size; omega)).trans x1
              have m0 := (gN.cell (p := ⟨b3, o3 + k * 3, none⟩) hbl3r).trans a0
              have m1 := (gN.cell (p := ⟨b3, o3 + k * 3 + 1, none⟩) hbl3r).trans a1
              have m2 := (gN.cell (p := ⟨b3, o3 + k * 3 + 2, none⟩) hbl3r).trans a2
              have HGN := Lib.hid (HGK.out.trans (gN.mono hws))
              have HBN : Hid (Ty.Buf w2.heap.size (wr.alloc (.cells #[.int .i64 ck, .bool cn] 39)) bv (Dd.pre s d.gone d.row k)) := Lib.hid (HBK.out.later gN)
              clear hc hx hc2 hx3 hm3 hbl
              go_wp2_with fail
              generalize hwn : wr.alloc _ = wn at hn0 hn1 n1 m0 m1 m2 HGN HBN ⊢
              clear hwn gN x1 e0 e1 a0 a1 a2
              refine wp_region_still_tail 7 (by kernel_rfl) (by kernel_rfl) ?_
              simp only [List.take_succ_cons, List.take_zero, List.drop_succ_cons, List.drop_zero]
              change wpStill _ _ (World.drew _) (fun a' => wpList _ _ _ _ a' (World.drew _)) _ _
              still_step
              still_step
              still_step
              still_step
              still_step
              still_step
              still_step
              refine wpStill_nil ?_
              have HTN := Lib.hid (HT2.out.below HGN.out.drew)
              have ca := Dd.appendValue_c w2.heap.size bv (Dd.pre s d.gone d.row k) ⟨ck, cn⟩ ⟨xn, xi, xs⟩ wn.drew HTN.out (Ty.Tabs.two HT2.out) HBN.out HGN.out.size (by have := HPK.out; omega) HFX.out HGX.out HIX.out
              unfold Kn.C.val Kn.V.val at ca
              simp only at ca
              go_wp2_with fail
              with_reducible refine ca.mono ?_
              rintro e w5 ⟨v5, rfl, hB5, hG5⟩
              have HB5 := Lib.hid hB5
              have HG5 := Lib.hid ((hG5.drawn).below HGN.out.size HBN.out.base)
              clear ca hB5 hG5 hn0 hn1 n1 m0 m1 m2
              go_wp2
              go_roundw
              case rel => exact ⟨k + 1, _, by omega, by simp, rfl, by rw [HST.out]; exact HB5.out, HGN.out.trans HG5.out⟩
              case measure => simp [intOf]; omega
        · obtain rfl : k = d.row.length := by omega
          have hkl : ¬ (d.row.length : Int) < (d.row.length : Int) := by omega
          have hstr := HBK.out.str
          rw [HPA.out] at hstr
          go_wp2
          go_ret2
          exact ⟨by rw [HE.out]; rfl, HBW.out⟩
    · have HE := Lib.hid (HV.out.trans (Dd.wV_bad hE))
      have hEb : (Dd.fitE s d != 0) = true := by rw [bne_iff_ne]; exact hE
      generalize Dd.fitE s d = E at cf HE hEb
      clear hE
      with_reducible refine cf.mono ?_
      rintro e w2 ⟨rfl, g2⟩
      have HB2 := Lib.hid (HB1.out.trans (g2.mono HB1.out.size))
      clear g2 cf x0 x1
      go_wp2
      go_ret2
      exact ⟨by rw [HE.out]; rfl, HB2.out⟩
set_option maxHeartbeats 2000000 in
set_option maxRecDepth 100000 in
/-- READ. -/
theorem Dd.read_c (v : Value) (s : List Kn.C) (t : ByteArray) (w : World) (hw : Dd.T w) (hs : Dd.Cols w v s) (ht : t.size ≤ 140737488351232) :
    Calls Tryd.prog 12 #[v, .string t] w (Dd.Got w (Dd.rd s t.data.toList)) := by
  have HS := Lib.hid hs
  have HW := Lib.hid hw
  have HB0 : Hid (Below w.heap.size w (w.alloc (.cells #[.bool false, .slice none 0 0] 26))) := Lib.hid ((Below.refl _ _).alloc (Nat.le_refl _) _)
  have HY0 : Hid ((w.alloc (.cells #[.bool false, .slice none 0 0] 26)).heap[w.heap.size]? = some (.cells #[.bool false, .slice none 0 0] 26 (0, 0))) := Lib.hid (heap_alloc_new w _)
  have hsz : (w.alloc (.cells #[.bool false, .slice none 0 0] 26)).heap.size = w.heap.size + 1 := World.size_alloc ..
  have CR := Lib.hid fun wz (h : Kn.Cols wz v s) => Kn.right_c v s wz h
  obtain ⟨R, hR⟩ : ∃ R, R = Dd.rd s t.data.toList := ⟨_, rfl⟩
  rw [← hR]
  have HRR := Lib.hid hR
  have HL : Hid (t.data.toList.length ≤ 140737488351232) := Lib.hid (by rw [Ty.length_data]; exact ht)
  have HTS := Lib.hid (Ty.S_data t)
  clear hR hs hw ht
  cases hrt : Kn.right s
  · rw [hrt] at CR
    have HE := Lib.hid (HRR.out.trans (Dd.rd_k hrt))
    clear hrt
    go_enter Tryd.func12, Tryd.ntmps12
    go_wp2_with fail
    generalize hwo : w.alloc _ = wo at hsz HY0 HB0 ⊢
    clear hwo
    with_reducible refine (CR.out wo (HS.out.later HB0.out).kn).mono ?_
    rintro e w1 ⟨rfl, g1⟩
    have HY1 := Lib.hid ((g1.block w.heap.size (by omega)).trans HY0.out)
    have HB1 := Lib.hid (HB0.out.trans (g1.mono HB0.out.size))
    obtain ⟨y0, y1, z0, z1⟩ := Dd.two HY1.out
    clear g1
    go_wp2
    have HBE := Lib.hid (Dd.below2 (q := w.heap.size) HB1.out (Nat.le_refl _) (.bool false) (.slice none 0 0))
    (try simp only [Exit.inBlock, Exit.then])
    refine bodyPost_ret (v := .tuple #[.agg #[.bool false, .slice none 0 0], .int .i64 4]) ?_ rfl (Dd.Got.bad HE.out rfl HBE.out)
    rw [results_cell_tmp rfl]
    go_simp
  · rw [hrt] at CR
    have HRT := Lib.hid hrt
    have hdd := Dd.rd_st hrt t.data.toList (b := (Dd.stF ⟨t.data.toList, 0, false⟩).1) (s1 := (Dd.stF ⟨t.data.toList, 0, false⟩).2) (s2 := (Dd.stR (Dd.cols s (Dd.stF ⟨t.data.toList, 0, false⟩).1) (Dd.stF ⟨t.data.toList, 0, false⟩).2).2) (M := (Dd.stR (Dd.cols s (Dd.stF ⟨t.data.toList, 0, false⟩).1) (Dd.stF ⟨t.data.toList, 0, false⟩).2).1) rfl rfl
    have HD := Lib.hid (HRR.out.trans hdd)
    have CD : Hid (∀ (r b : Nat) (wz : World), Below w.heap.size w wz → w.heap.size ≤ r → w.heap.size ≤ b → Dd.Rdr r b wz ⟨t.data.toList, 0, false⟩ → Calls Tryd.prog 27 #[.pointer (some ⟨r, 0, none⟩), v] wz (Dd.GotD r b wz (Dd.stF ⟨t.data.toList, 0, false⟩).1 (Dd.stR (Dd.cols s (Dd.stF ⟨t.data.toList, 0, false⟩).1) (Dd.stF ⟨t.data.toList, 0, false⟩).2))) :=
      Lib.hid fun r b wz h1 h2 h3 h4 => Dd.deed_c r b _ v s w wz HS.out h1 h2 h3 HRT.out h4 HL.out
    clear hrt hdd
    have HTL := Lib.hid (Eq.refl t.data.toList)
    go_enter Tryd.func12, Tryd.ntmps12
    go_wp2_with fail
    generalize hwo : w.alloc _ = wo at hsz HY0 HB0 ⊢
    clear hwo
    with_reducible refine (CR.out wo (HS.out.later HB0.out).kn).mono ?_
    rintro e w1 ⟨rfl, g1⟩
    have hs1 := g1.size
    have HY1 := Lib.hid ((g1.block w.heap.size (by omega)).trans HY0.out)
    have HB1 := Lib.hid (HB0.out.trans (g1.mono HB0.out.size))
    clear g1 HY0 HB0
    go_wp2_with fail
    have cfr := Ty.from_c t.data.toList w1
    rw [HTS.out] at cfr
    with_reducible refine cfr.mono ?_
    rintro e w2 ⟨rfl, h2⟩
    have hb2 : w1.heap.size < w2.heap.size := by rw [h2]; simp
    have HC2 : Hid (Ty.Cur w1.heap.size w2 t.data.toList 0) := Lib.hid (by rw [h2]; unfold Ty.Cur; rw [HTS.out]; exact heap_alloc_new w1 _)
    have HB2 : Hid (Below w1.heap.size w1 w2) := Lib.hid (by rw [h2]; exact (Below.refl _ _).alloc (Nat.le_refl _) _)
    clear h2 cfr
    go_wp2_with fail
    have hA : Below w2.heap.size w2 (w2.alloc (.cells #[.pointer (some ⟨w1.heap.size, 0, none⟩), .bool false] 58)) := (Below.refl _ _).alloc (Nat.le_refl _) _
    have hw3 : Below w.heap.size w (w2.alloc (.cells #[.pointer (some ⟨w1.heap.size, 0, none⟩), .bool false] 58)) := (HB1.out.trans (HB2.out.mono HB1.out.size)).trans (hA.mono (by have := HB1.out.size; have := HB2.out.size; omega))
    have hGw : Ty.G ≤ w.heap.size := Ty.Tabs.two HW.out
    have hwl := HB1.out.size
    have HR3 : Hid (Dd.Rdr w2.heap.size w1.heap.size (w2.alloc (.cells #[.pointer (some ⟨w1.heap.size, 0, none⟩), .bool false] 58)) ⟨t.data.toList, 0, false⟩) :=
      Lib.hid ⟨(hA.block _ hb2).trans HC2.out, heap_alloc_new w2 _, by omega, Ty.Tabs.below HW.out hw3 hGw, by omega, by omega, by have := HL.out; show t.data.toList.length ≤ _; omega⟩
    have HY3 := Lib.hid ((hA.block w.heap.size (by omega)).trans ((HB2.out.block w.heap.size (by omega)).trans HY1.out))
    have HB3 := Lib.hid hw3
    have hs3 : (w2.alloc (.cells #[.pointer (some ⟨w1.heap.size, 0, none⟩), .bool false] 58)).heap.size = w2.heap.size + 1 := World.size_alloc ..
    clear hA hw3 hGw HTL
    have cd := CD.out w2.heap.size w1.heap.size _ HB3.out (by omega) (by omega) HR3.out
    generalize (Dd.stF ⟨t.data.toList, 0, false⟩).1 = B at cd HD
    generalize Dd.stR _ _ = P at cd HD
    obtain ⟨M, s2⟩ := P
    generalize hwo : w2.alloc _ = w3 at cd HR3 HY3 HB3 hs3 ⊢
    clear hwo CD
    obtain ⟨b, hb⟩ : ∃ b, b = w1.heap.size := ⟨_, rfl⟩
    obtain ⟨r, hr⟩ : ∃ r, r = w2.heap.size := ⟨_, rfl⟩
    rw [← hb, ← hr] at cd HR3
    rw [← hr]
    have hrb : w.heap.size < b ∧ b < r ∧ r < w3.heap.size := by omega
    unfold Dd.GotD at cd
    simp only at cd HD
    clear HC2 HB2 HY1 HB1 hb2 hs3 hwl hs1 hsz hb hr
    with_reducible refine cd.mono ?_
    rintro e w4 ⟨u4, rfl, hV4, hF4, hR4, hG4⟩
    have hV := hV4.is
    obtain ⟨ua, uc, rfl, -⟩ := hV
    have HY4 := Lib.hid ((hG4.block w.heap.size (by omega) (by omega) (by omega)).trans HY3.out)
    have HB4 : Hid (Below w.heap.size w w4) := Lib.hid (HB3.out.trans (hG4.below (by omega) (by omega) HB3.out.size))
    have HV4 := Lib.hid hV4
    have HF4 := Lib.hid hF4
    have HR4 := Lib.hid hR4
    have hs4 := hG4.size
    clear cd hV4 hF4 hR4 hG4
    go_wp2_with fail
    have hA : Below w4.heap.size w4 (w4.alloc (.cells #[.bool B, .slice ua M.length uc] 26)) := (Below.refl _ _).alloc (Nat.le_refl _) _
    have cdn := Dd.done_c r b s2 _ (HR4.out.kept hA)
    have HN := Lib.hid (heap_alloc_new w4 (.cells #[.bool B, .slice ua M.length uc] 26))
    have HY5 := Lib.hid ((hA.block w.heap.size (by omega)).trans HY4.out)
    have HB5 := Lib.hid (HB4.out.trans (hA.mono HB4.out.size))
    have HV5 := Lib.hid (HV4.out.later hA)
    clear hA
    generalize hwo : w4.alloc _ = w5 at cdn HN HY5 HB5 HV5 ⊢
    clear hwo
    generalize s2.done = q at cdn HD
    with_reducible refine cdn.mono ?_
    rintro e w6 ⟨rfl, h6⟩
    subst w6
    obtain ⟨y0, y1, z0, z1⟩ := Dd.two HY5.out
    clear cdn
    by_cases hq : q = 0
    · subst hq
      have HE : Hid (R = (0, ⟨B, M⟩)) := Lib.hid (by have := HD.out; rwa [if_neg (by decide)] at this)
      obtain ⟨n0, n1, _, _⟩ := Dd.two HN.out
      simp only [Int.natCast_zero]
      go_wp2
      have HBE := Lib.hid (Dd.below2 (q := w.heap.size) HB5.out (Nat.le_refl _) (.bool B) (.slice ua M.length uc))
      have hF5 : Dd.Fresh (w.heap.size + 1) (.slice ua M.length uc) := HF4.out.mono (by omega)
      have HV6 := Lib.hid (Dd.vals_put (i := 1) (Dd.vals_put (i := 0) HV5.out hF5 (Nat.lt_succ_self _) (.bool B)) hF5 (Nat.lt_succ_self _) (.slice ua M.length uc))
      (try simp only [Exit.inBlock, Exit.then])
      refine bodyPost_ret (v := .tuple #[.agg #[.bool B, .slice ua M.length uc], .int .i64 0]) ?_ rfl (Dd.Got.good HE.out HV6.out (hF5.mono (by omega)) HBE.out)
      rw [results_cell_tmp rfl]
      go_simp
    · have HE : Hid (R = (q, ⟨false, []⟩)) := Lib.hid (by have := HD.out; rwa [if_pos hq] at this)
      have hqn : ((q : Int) != 0) = true := by rw [bne_iff_ne]; omega
      clear hq
      go_wp2
      have HBE := Lib.hid (Dd.below2 (q := w.heap.size) HB5.out (Nat.le_refl _) (.bool false) (.slice none 0 0))
      (try simp only [Exit.inBlock, Exit.then])
      refine bodyPost_ret (v := .tuple #[.agg #[.bool false, .slice none 0 0], .int .i64 (q : Int)]) ?_ rfl (Dd.Got.bad HE.out rfl HBE.out)
      rw [results_cell_tmp rfl]
      go_simp
end Go.Proofs.YtccjfmjgkkpndaaDoor
