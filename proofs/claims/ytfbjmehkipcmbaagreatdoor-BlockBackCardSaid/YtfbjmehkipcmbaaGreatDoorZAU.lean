/-
  Contracts of package block: flags, rows, values.
  Contracts of package deeds: the columns of a deed, a flag and a value as bytes; mathematics of its errors.
  Contracts of package deeds: a value as bytes.
  Contracts of package deeds: Same.
  The developers' reader of deeds, as plain functions of its state: what is left of the bytes, the cursor's error, whether a flag was wrong. What it comes to is what is read.
  Contracts of package texts: a string copied. Over a contract of the shelf, laid at this program.
  Contracts of package deeds: the reader's flag, value and Done.
  Contracts of package deeds: the reader's value.
  Contracts of package deeds: the reader's deed.
  Contracts of package deeds: Write and Read, in full.
-/
import Derived.Test.YtfbjmehkipcmbaaGreatDoorZAT
import Derived.Test.YtfbjmehkipcmbaaGreatDoorZAQ
import Derived.Test.YtfbjmehkipcmbaaGreatDoorZAC
import Derived.Test.YtfbjmehkipcmbaaGreatDoorZAJ
import Derived.Test.YtfbjmehkipcmbaaGreatDoorZAD
import Derived.Test.YtfbjmehkipcmbaaGreatDoorRows
import Derived.Test.YtfbjmehkipcmbaaGreatDoorLay
import Derived.WalkKit
import Derived.WalkSpells
import Derived.WalkLawsBesides
import Derived.StillTailTactics
namespace Go.Proofs.YtfbjmehkipcmbaaGreatDoor
open Go.RowKit
theorem Bk.row_at {w : World} {a : Option Addr} {n c : Nat} {vs : List Kn.V} (h : Kn.Vals w (.slice a n c) vs) {i : Nat} {x : Kn.V} (hx : vs[i]? = some x) : n = vs.length ∧ ∃ b o, a = some ⟨b, o, none⟩ ∧ b < w.heap.size ∧ Kn.At w b (o + i * 3) x := by
  obtain ⟨a', c', e, h⟩ := h
  simp only [Value.slice.injEq] at e
  obtain ⟨rfl, rfl, _⟩ := e
  rcases h with rfl | ⟨b, o, rfl, hb, _, h⟩
  · simp at hx
  · exact ⟨rfl, b, o, rfl, hb, h i x hx⟩
set_option maxHeartbeats 2000000 in
set_option maxRecDepth 100000 in
theorem Bk.pflags_c (v : Value) (L : List Dd.D) (R : Nat → Option Addr × Nat × Nat) (w : World) (hv : Bk.Dr w v L R) (h8 : L.length ≤ 8) :
    Calls Tryz.prog 20 #[v] w fun e w' => ∃ u, e = .returned u ∧ Bt.Sl w' u L.length (Bt.bv (Bk.gones L)) ∧ Below w.heap.size w w' := by
  obtain ⟨a, c, rfl, h⟩ := hv
  have HH := Lib.hid h
  have hmk := run_make_row' (P := Tryz.prog) 49 4 (.bool false) 1 Tryz.underlying49 Bt.infoB rfl .i64 .i64 L.length (by omega) (by omega)
  have H8 := Lib.hid h8
  clear h h8
  go_enter Tryz.func20, Tryz.ntmps20
  go_wp2_with fail
  have hR : (w.alloc (.cells (madeCells #[.bool false] L.length) 4)).rowIs w.heap.size 4 L.length (Bt.upTo 0 (Bt.bv (Bk.gones L)) (.bool false)) := (World.rowIs_made w (.bool false) L.length 4).congr fun i _ => by unfold Bt.upTo; rw [if_neg (by omega)]
  have hB : Below w.heap.size w (w.alloc (.cells (madeCells #[.bool false] L.length) 4)) := (Below.refl _ _).alloc (Nat.le_refl _) _
  generalize w.alloc (.cells (madeCells #[.bool false] L.length) 4) = w2 at hR hB ⊢
  clear hmk
  obtain ⟨g, hg⟩ : ∃ g, g = w.heap.size := ⟨_, rfl⟩
  rw [← hg] at hR hB ⊢
  have HGE := Lib.hid hg
  clear hg
  go_loopw [11] (fun i wr => ∃ k : Nat, k ≤ L.length ∧ i = .int .i64 k ∧ wr.rowIs g 4 L.length (Bt.upTo k (Bt.bv (Bk.gones L)) (.bool false)) ∧ Below g w wr) (fun i _ => L.length - (intOf i).toNat)
  case atStart => exact ⟨0, Nat.zero_le _, rfl, hR, hB⟩
  case round =>
    obtain ⟨k, hk, rfl, hRk, hBk⟩ := hrel
    have HR := Lib.hid hRk
    have HB := Lib.hid hBk
    have hgl : g < wr.heap.size := hRk.lt
    clear hR hB hRk hBk
    by_cases hl : k < L.length
    · rcases HH.out with rfl | ⟨b, o, rfl, hlt, hc⟩
      · simp at hl
      · have hx := List.getElem?_eq_getElem hl
        generalize L[k] = d at hx
        obtain ⟨c0, c1⟩ := hc k d hx
        have hbg : b < g := by rw [HGE.out]; exact hlt
        have c0 := (HB.out.cell (p := ⟨b, o + k * 2, none⟩) hbg).trans c0
        have c1 := (HB.out.cell (p := ⟨b, o + k * 2 + 1, none⟩) hbg).trans c1
        generalize R k = rk at c1
        obtain ⟨ra, rn, rc⟩ := rk
        simp only [Bk.sv] at c1
        have hkl : (k : Int) < (L.length : Int) := by omega
        have hk0 : (0 : Int) ≤ (k : Int) := by omega
        have hk7 : (k : Int) ≤ 7 := by have := H8.out; omega
        have HGN : Hid (Bt.bv (Bk.gones L) k = .bool d.gone) := Lib.hid (by unfold Bt.bv Bk.gones; rw [List.getD_eq_getElem?_getD, hx]; rfl)
        generalize d.gone = gd at c0 HGN
        have HK := Lib.hid hl
        clear hc hx hl hk
        go_upto_region 5 with (fail)
        have HR1 := Lib.hid (HR.out.of_block (((Below.refl wr.heap.size wr).alloc (Nat.le_refl _) (.cells #[.bool gd, .slice ra rn rc] 37)).block g hgl))
        have HB1 := Lib.hid (HB.out.alloc (o := .cells #[.bool gd, .slice ra rn rc] 37) (by omega))
        have x0 := Kn.cell_new wr #[.bool gd, .slice ra rn rc] 37 0 _ rfl
        simp only [List.getElem_toArray, List.getElem_cons_zero] at x0
        obtain ⟨q, hq⟩ : ∃ q, q = wr.heap.size := ⟨_, rfl⟩
        rw [← hq] at x0 ⊢
        clear hq c0 c1 HR HB
        generalize wr.alloc _ = w3 at HR1 HB1 x0 ⊢
        have hf := HR1.out.frozen k
        have hcl := HR1.out.cell HK.out
        go_wp2
        go_roundw
        case rel => exact ⟨k + 1, HK.out, by simp, Bt.upTo_next HR1.out HGN.out.symm, HB1.out.trans (Bt.below_set (Nat.le_refl _) _)⟩
        case measure => (have := HK.out; simp [intOf]; omega)
    · obtain rfl : k = L.length := by omega
      have hkl : ¬ (L.length : Int) < (L.length : Int) := by omega
      clear hk hl
      go_wp2
      go_ret
      exact ⟨_, rfl, Bt.Sl.row (HR.out.congr fun i hi => by unfold Bt.upTo; rw [if_pos hi]), by have := HB.out; rwa [HGE.out] at this⟩
set_option maxHeartbeats 2000000 in
set_option maxRecDepth 100000 in
theorem Bk.rows_c (i p : Nat) (v : Value) (L : List Dd.D) (R : Nat → Option Addr × Nat × Nat) (w : World) (hv : Bk.Dr w v L R) (hp : w.cell? ⟨p, 0, none⟩ = some (.int .i64 (i : Int))) (hpl : p < w.heap.size) (h8 : L.length ≤ 8) :
    Calls Tryz.prog 53 #[v, .func (.func 77) #[] #[.pointer (some ⟨p, 0, none⟩)]] w fun e w' => ∃ u, e = .returned u ∧ Dk.Own 35 1 Bk.e1 w.heap.size w' u (Bk.hl i R 0 L) ∧ Below w.heap.size w w' := by
  obtain ⟨a, c, rfl, h⟩ := hv
  have HH := Lib.hid h
  have H8 := Lib.hid h8
  have HP := Lib.hid hp
  have HPL := Lib.hid hpl
  clear h h8 hp hpl
  go_enter Tryz.func53, Tryz.ntmps53
  go_wp2_with fail
  go_loopw [5, 10] (fun hd i9 wr => ∃ k : Nat, k ≤ L.length ∧ i9 = .int .i64 k ∧ Dk.Own 35 1 Bk.e1 w.heap.size wr hd (Bk.hl i R 0 (L.take k)) ∧ Below w.heap.size w wr) (fun _ i9 _ => L.length - (intOf i9).toNat)
  case atStart => exact ⟨0, Nat.zero_le _, rfl, Dk.Own.nil _ _, Below.refl _ _⟩
  case round =>
    obtain ⟨k, hk, rfl, hO, hB⟩ := hrel
    have HO := Lib.hid hO
    have HB := Lib.hid hB
    clear hO hB
    by_cases hl : k < L.length
    · rcases HH.out with rfl | ⟨b, o, rfl, hlt, hc⟩
      · simp at hl
      · have hx := List.getElem?_eq_getElem hl
        generalize L[k] = d at hx
        obtain ⟨c0, c1⟩ := hc k d hx
        have c0 := (HB.out.cell (p := ⟨b, o + k * 2, none⟩) hlt).trans c0
        have c1 := (HB.out.cell (p := ⟨b, o + k * 2 + 1, none⟩) hlt).trans c1
        have HT := Lib.hid (Bk.hl_take (i := i) (R := R) hx)
        have HML : Hid ((Bk.hl i R 0 (L.take k)).length ≤ 8) := Lib.hid (by
          rw [Bk.hl_len]
          refine Nat.le_trans (List.length_filter_le ..) ?_
          rw [List.length_take]
          have := H8.out
          omega)
        generalize Bk.hl i R 0 (L.take k) = M at HO HT HML
        generalize R k = rk at c1 HT
        obtain ⟨ra, rn, rc⟩ := rk
        simp only [Bk.sv] at c1
        have hkl : (k : Int) < (L.length : Int) := by omega
        have hk0 : (0 : Int) ≤ (k : Int) := by omega
        have hk7 : (k : Int) ≤ 7 := by have := H8.out; omega
        have CH : Hid (∀ W, W.cell? ⟨p, 0, none⟩ = some (.int .i64 (i : Int)) → p < W.heap.size → Calls Tryz.prog 77 #[.agg #[.bool d.gone, .slice ra rn rc], .pointer (some ⟨p, 0, none⟩)] W fun e w' => e = .returned (.bool (Bk.has i d)) ∧ Below W.heap.size W w') := Lib.hid fun W h1 h2 => Bk.has_c i p d ra rn rc W h1 h2
        generalize Bk.has i d = hb at CH HT
        generalize d.gone = gd at c0 CH
        have HK := Lib.hid hl
        clear hc hx hl hk
        go_upto_region 5 with (fail)
        have HB0 : Hid (Below wr.heap.size wr (wr.alloc (.cells #[.bool gd, .slice ra rn rc] 37))) := Lib.hid ((Below.refl _ _).alloc (Nat.le_refl _) _)
        have x0 := Kn.cell_new wr #[.bool gd, .slice ra rn rc] 37 0 _ rfl
        have x1 := Kn.cell_new wr #[.bool gd, .slice ra rn rc] 37 1 _ rfl
        simp only [List.getElem_toArray, List.getElem_cons_zero, List.getElem_cons_succ] at x0 x1
        have hsz : (wr.alloc (.cells #[.bool gd, .slice ra rn rc] 37)).heap.size = wr.heap.size + 1 := World.size_alloc ..
        obtain ⟨q, hq⟩ : ∃ q, q = wr.heap.size := ⟨_, rfl⟩
        rw [← hq] at x0 x1 ⊢
        generalize wr.alloc _ = w3 at HB0 x0 x1 hsz ⊢
        have hq3 : q < w3.heap.size := by omega
        have HQ3 := Lib.hid hq3
        have HX1 := Lib.hid x1
        have HB3 := Lib.hid (HB.out.trans (HB0.out.mono HB.out.size))
        have HO3 := Lib.hid (HO.out.kept HB0.out)
        have ch := CH.out w3 ((HB3.out.cell (p := ⟨p, 0, none⟩) HPL.out).trans HP.out) (Nat.lt_of_lt_of_le HPL.out HB3.out.size)
        clear hq c0 c1 HO HB HB0 CH hsz hq3
        go_wp2_with fail
        with_reducible refine ch.mono ?_
        rintro e w4 ⟨rfl, g4⟩
        have HB4 := Lib.hid (HB3.out.trans (g4.mono HB3.out.size))
        have HO4 := HO3.out.kept g4
        have y1 := (g4.cell (p := ⟨q, 1, none⟩) HQ3.out).trans HX1.out
        have hbs : w.heap.size ≤ w4.heap.size := HB4.out.size
        have hml := HML.out
        clear ch g4 x0 x1 HO3
        cases hb
        · have HT2 := Lib.hid (HT.out.trans (by rw [if_neg (by decide), List.append_nil]))
          have HO5 := Lib.hid HO4
          clear HO4 hbs hml
          go_wp2
          go_roundw
          case rel => exact ⟨k + 1, HK.out, by simp, by rw [HT2.out]; exact HO5.out, HB4.out⟩
          case measure => (have := HK.out; simp [intOf]; omega)
        · have HT2 := Lib.hid (HT.out.trans (by rw [if_pos rfl]))
          go_wp2_with (at_builtin; refine Dk.wpList_append1 89 _ 24 Tryz.underlying89 Bk.infoR rfl (by decide) Bk.e1_len Bk.e1_one (ra, rn, rc) HO4 hbs (by omega) (by omega) _ rfl _ rfl (.tmp 17) (.tmp 20) (by rfl) (by rfl) (by rfl) (by rfl) ?_; intro v5 w5 h5 g5)
          have H5 := Lib.hid h5
          have HB5 := Lib.hid (Dk.own_below HB4.out HO4 g5)
          clear h5 g5 HO4 hbs hml
          go_roundw
          case rel => exact ⟨k + 1, HK.out, by simp, by rw [HT2.out]; exact H5.out, HB5.out⟩
          case measure => (have := HK.out; simp [intOf]; omega)
    · obtain rfl : k = L.length := by omega
      have hkl : ¬ (L.length : Int) < (L.length : Int) := by omega
      rw [List.take_length] at HO
      clear hk hl
      go_wp2
      go_ret
      exact ⟨_, rfl, HO.out, HB.out⟩
set_option maxHeartbeats 2000000 in
set_option maxRecDepth 100000 in
theorem Bk.pvalues_c (v : Value) (L : List Dd.D) (i : Nat) (h8 : L.length ≤ 8) (hi6 : i ≤ 6) (hl : ∀ d ∈ L, Bk.has i d = true → i < d.row.length) (w : World) (hv : Bk.Ds w v L) :
    Calls Tryz.prog 22 #[v, .int .i64 (i : Int)] w fun e w' => ∃ u, e = .returned u ∧ Kn.Vals w' u (Bk.col L i) ∧ Below w.heap.size w w' := by
  obtain ⟨R, hr, hrv⟩ := hv.dr
  have HR := Lib.hid hr
  have HRV := Lib.hid hrv
  have H8 := Lib.hid h8
  have HL := Lib.hid hl
  have HI := Lib.hid hi6
  have hi0 : (0 : Int) ≤ (i : Int) := by omega
  obtain ⟨a, c, rfl, -⟩ := hr
  have CH := Lib.hid (Bk.having_c i)
  have CR := Lib.hid fun (p : Nat) (wz : World) (h1 : Bk.Dr wz (.slice a L.length c) L R) (h2 : wz.cell? ⟨p, 0, none⟩ = some (.int .i64 (i : Int))) (h3 : p < wz.heap.size) => Bk.rows_c i p _ L R wz h1 h2 h3 H8.out
  clear hv hrv h8 hl hi6
  unfold Bk.fv at CH
  obtain ⟨K, hKE⟩ : ∃ K, K = Bk.col L i := ⟨_, rfl⟩
  rw [← hKE]
  have HKE := Lib.hid hKE
  clear hKE
  go_enter Tryz.func22, Tryz.ntmps22
  go_wp2_with fail
  with_reducible refine (CH.out _).mono ?_
  rintro e w1 ⟨p, rfl, hp1, hp2, hp3, g1⟩
  have HG1 := Lib.hid g1
  have cr := CR.out p w1 (HR.out.later g1) hp3 hp2
  clear g1 hp1 hp2 hp3 CH CR
  go_wp2_with fail
  with_reducible refine cr.mono ?_
  rintro e w2 ⟨hd, rfl, hO, g2⟩
  have HG2 := Lib.hid (HG1.out.trans (g2.mono HG1.out.size))
  have HO := Lib.hid hO
  have hf := hO.form
  have hlen : (Bk.hl i R 0 L).length = K.length := by rw [HKE.out, Bk.hl_len]; unfold Bk.col; rw [List.length_map]
  have hat0 := Bk.hl_at i R 0 L
  rw [← HKE.out] at hat0
  have HAT := Lib.hid hat0
  have HCL : Hid (K.length ≤ 8) := Lib.hid (by rw [HKE.out]; unfold Bk.col; rw [List.length_map]; exact Nat.le_trans (List.length_filter_le ..) H8.out)
  have HRV2 : Hid (∀ j d, L[j]? = some d → Kn.Vals w2 (Bk.sv (R j)) d.row) := Lib.hid fun j d h => (HRV.out j d h).later HG2.out
  clear cr g2 hO hat0
  generalize Bk.hl i R 0 L = M at hf hlen HAT HO
  have HLN := Lib.hid hlen
  have HFM : Hid ((hd = .slice none 0 0 ∧ M = []) ∨ ∃ g c, hd = .slice (some ⟨g, 0, none⟩) M.length c ∧ g < w2.heap.size) := Lib.hid (hf.imp id fun ⟨g, c, h1, _, _, _, h2⟩ => ⟨g, c, h1, h2⟩)
  obtain ⟨ha, hc, rfl⟩ : ∃ ha hc, hd = .slice ha M.length hc := by
    rcases hf with ⟨rfl, rfl⟩ | ⟨g, c, rfl, _⟩
    · exact ⟨none, 0, rfl⟩
    · exact ⟨_, c, rfl⟩
  clear hf hlen
  go_wp2_with fail
  go_loopw [5, 13] (fun fd i9 wr => ∃ k : Nat, k ≤ M.length ∧ i9 = .int .i64 k ∧ Cl.Own w2.heap.size wr fd (K.take k) ∧ Below w2.heap.size w2 wr) (fun _ i9 _ => M.length - (intOf i9).toNat)
  case atStart => exact ⟨0, Nat.zero_le _, rfl, Cl.Own.nil _ _, Below.refl _ _⟩
  case round =>
    obtain ⟨k, hk, rfl, hO, hB⟩ := hrel
    have HO5 := Lib.hid hO
    have HB := Lib.hid hB
    clear hO hB
    by_cases hl : k < M.length
    · rcases HFM.out with ⟨h1, h2⟩ | ⟨g, c9, h1, hg⟩
      · rw [h2] at hl
        simp at hl
      · simp only [Value.slice.injEq, true_and] at h1
        obtain ⟨rfl, rfl⟩ := h1
        have hx := List.getElem?_eq_getElem hl
        generalize M[k] = rk at hx
        obtain ⟨j, d, hj, hh, hrk, hK⟩ := HAT.out k rk hx
        have c0 := HO.out.cell Bk.e1_len rfl hx (j := 0) (by decide)
        rw [Nat.mul_one, Nat.add_zero] at c0
        have c0 := (HB.out.cell (p := ⟨g, k, none⟩) hg).trans c0
        rw [Nat.zero_add] at hrk
        subst hrk
        have hv9 := HRV2.out j d hj
        have hi9 := HL.out d (List.mem_of_getElem? hj) hh
        have hxi : d.row[i]? = some (d.row.getD i Cl.nul) := by rw [List.getD_eq_getElem?_getD, List.getElem?_eq_getElem hi9]; rfl
        generalize d.row.getD i Cl.nul = x at hxi hK
        generalize R j = rj at c0 hv9
        obtain ⟨ra, rn, rc⟩ := rj
        simp only [Bk.sv, Bk.e1, List.getElem?_cons_zero] at c0 hv9
        obtain ⟨rfl, b2, o2, rfl, hb2, hat⟩ := Bk.row_at hv9 hxi
        have e0 := (HB.out.cell (p := ⟨b2, o2 + i * 3, none⟩) hb2).trans hat.c0
        have e1 := (HB.out.cell (p := ⟨b2, o2 + i * 3 + 1, none⟩) hb2).trans hat.c1
        have e2 := (HB.out.cell (p := ⟨b2, o2 + i * 3 + 2, none⟩) hb2).trans hat.c2
        have hkl : (k : Int) < (M.length : Int) := by omega
        have hk0 : (0 : Int) ≤ (k : Int) := by omega
        have hk7 : (k : Int) ≤ 7 := by have := HCL.out; have := HLN.out; omega
        have hil : (i : Int) < (d.row.length : Int) := by omega
        have HT : Hid (K.take (k + 1) = K.take k ++ [x]) := Lib.hid (by
          obtain ⟨h1, h2⟩ := List.getElem?_eq_some_iff.1 hK
          rw [List.take_succ_eq_append_getElem h1, h2])
        have hkl2 : (K.take k).length + 1 ≤ 1048576 := by
          rw [List.length_take]
          have := HCL.out
          omega
        have hO := HO5.out
        generalize K.take k = KT at hO HT hkl2 HO5
        have hws : w2.heap.size ≤ wr.heap.size := HB.out.size
        have HK := Lib.hid hl
        clear hx hj hh hK hv9 hxi hat hl hk hi9 hb2
        go_wp2_with (at_builtin; refine Cl.wpList_append_val_at x hO hws hkl2 (.tmp 17) (.tmp 22) _ rfl _ rfl rfl rfl rfl rfl ?_; intro v5 w5 h5 g5)
        have H5 := Lib.hid h5
        have HB5 := Lib.hid (HB.out.trans (Cl.own_grown hws hO g5))
        clear h5 g5 hO hkl2 hws
        go_roundw
        case rel => exact ⟨k + 1, HK.out, by simp, by rw [HT.out]; exact H5.out, HB5.out⟩
        case measure => (have := HK.out; simp [intOf]; omega)
    · obtain rfl : k = M.length := by omega
      have hkl : ¬ (M.length : Int) < (M.length : Int) := by omega
      rw [HLN.out, List.take_length] at HO5
      clear hk hl
      go_wp2
      go_ret
      exact ⟨_, rfl, HO5.out.vals, HG2.out.trans (HB.out.mono HG2.out.size)⟩
end Go.Proofs.YtfbjmehkipcmbaaGreatDoor

namespace Go.Proofs.YtfbjmehkipcmbaaGreatDoor
open Go.RowKit
open Ty (I64)
def Dd.Cap (v : Value) : Prop := ∀ a n c, v = .slice a n c → n ≤ c
theorem Dd.Cap.of {a : Option Addr} {n c : Nat} (h : n ≤ c) : Dd.Cap (.slice a n c) := fun a' n' c' e => by
  simp only [Value.slice.injEq] at e
  omega
def Dd.Cols (w : World) (v : Value) (l : List Kn.C) : Prop := Kn.Cols w v l ∧ Dd.Cap v
theorem Dd.Cols.later {w w' : World} {v : Value} {l : List Kn.C} (h : Dd.Cols w v l) (g : Below w.heap.size w w') : Dd.Cols w' v l := ⟨h.1.later g, h.2⟩
theorem Dd.Cols.first {w : World} {a : Option Addr} {n c : Nat} {l : List Kn.C} (h : Dd.Cols w (.slice a n c) l) (hl : 1 ≤ l.length) : Dd.Cols w (.slice a 1 c) (l.take 1) := by
  obtain ⟨⟨a', c', e, h⟩, hc⟩ := h
  simp only [Value.slice.injEq] at e
  obtain ⟨rfl, rfl, rfl⟩ := e
  have hc := hc _ _ _ rfl
  refine ⟨⟨a, c, by rw [List.length_take, Nat.min_eq_left hl], ?_⟩, Dd.Cap.of (by omega)⟩
  rcases h with rfl | ⟨b, o, rfl, hb, hm, h⟩
  · simp at hl
  · refine .inr ⟨b, o, rfl, hb, by rw [List.length_take]; omega, fun i x hx => h i x ?_⟩
    rw [List.getElem?_take] at hx
    split at hx
    · exact hx
    · cases hx
theorem Dd.cols_right {s : List Kn.C} (h : Kn.right s = true) (g : Bool) : Kn.right (Dd.cols s g) = true := by
  unfold Dd.cols
  cases g
  · exact h
  · rw [if_pos rfl]
    obtain ⟨x, t, rfl, hx, hg⟩ := Kn.right_head h
    simp [Kn.right, Kn.headOk, hx, hg]
theorem Dd.cols_good {s : List Kn.C} (h : Kn.right s = true) {g : Bool} {k : Nat} {c : Kn.C} (hc : (Dd.cols s g)[k]? = some c) : c.good = true := by
  have ha := Kn.right_all (Dd.cols_right h g)
  exact (List.all_eq_true.1 ha) c (List.mem_of_getElem? hc)
theorem Dd.cols_len {s : List Kn.C} (h : Kn.right s = true) (g : Bool) : 1 ≤ (Dd.cols s g).length ∧ (Dd.cols s g).length ≤ 6 := Kn.right_len (Dd.cols_right h g)
theorem Dd.fitE_cols {s : List Kn.C} (h : Kn.right s = true) (d : Dd.D) : Kn.fitsE (Dd.cols s d.gone) d.row = Dd.fitE s d := by
  have hr := Dd.cols_right h d.gone
  obtain ⟨g, row⟩ := d
  unfold Dd.fitE
  cases g
  · rfl
  · simp only [if_true] at hr ⊢
    rw [if_pos h]
    obtain ⟨x, t, rfl, hx, hg⟩ := Kn.right_head h
    have e : Dd.cols (x :: t) true = [x] := rfl
    simp only [e] at hr ⊢
    match row with
    | [] => exact Kn.fitsE_len hr (by simp)
    | [k] =>
      simp only
      unfold Kn.fitsE Kn.keyE
      rw [if_pos hr, if_pos h, if_pos (by simp)]
      simp only [Kn.fitsAll, Bool.and_true]
    | _ :: _ :: _ => exact Kn.fitsE_len hr (by simp)
theorem Dd.fitE_not {s : List Kn.C} (h : Kn.right s = false) (d : Dd.D) : Dd.fitE s d = 4 := by
  unfold Dd.fitE
  split
  · rw [h, if_neg (by decide)]
  · exact Kn.fitsE_bad h
set_option maxRecDepth 100000 in
set_option maxHeartbeats 400000 in
theorem Dd.columnsOf_c (v : Value) (s : List Kn.C) (g : Bool) (w : World) (hs : Dd.Cols w v s) (hl : 1 ≤ s.length) :
    Calls Tryz.prog 42 #[v, .bool g] w fun e w' => (∃ u, e = .returned u ∧ ∀ W, Dd.Cols W v s → Dd.Cols W u (Dd.cols s g)) ∧ w' = w := by
  obtain ⟨a, c, rfl, _⟩ := hs.1.is
  have hc := hs.2 _ _ _ rfl
  have hc1 : (1 : Int) ≤ (c : Int) := by omega
  cases g
  · go_enter Tryz.func42, Tryz.ntmps42
    go_wp2
    go_ret
    exact ⟨⟨_, rfl, fun W h => h⟩, rfl⟩
  · have hl2 := Lib.hid hl
    go_enter Tryz.func42, Tryz.ntmps42
    go_wp2
    go_ret
    exact ⟨⟨_, rfl, fun W h => h.first hl2.out⟩, rfl⟩
set_option maxRecDepth 100000 in
set_option maxHeartbeats 400000 in
theorem Dd.appendFlag_c (base : Nat) (v : Value) (bs : List UInt8) (b : Bool) (w : World) (hown : Ty.Buf base w v bs) (hb : base ≤ w.heap.size) (hl : bs.length + 1 ≤ 140737488355328) :
    Calls Tryz.prog 44 #[v, .bool b] w (Ty.Written base w v (bs ++ [Dd.flag b])) := by
  cases b
  · go_enter Tryz.func44, Tryz.ntmps44
    go_wp2_with (at_builtin; refine Ty.wpList_append_byte hown hb hl (.tmp 9) (.tmp 10) _ rfl rfl rfl rfl ?_; intro v1 w1 h1 g1)
    go_ret
    exact ⟨v1, rfl, h1 _ rfl, g1⟩
  · go_enter Tryz.func44, Tryz.ntmps44
    go_wp2_with (at_builtin; refine Ty.wpList_append_byte hown hb hl (.tmp 6) (.tmp 7) _ rfl rfl rfl rfl ?_; intro v1 w1 h1 g1)
    go_ret
    exact ⟨v1, rfl, h1 _ rfl, g1⟩
end Go.Proofs.YtfbjmehkipcmbaaGreatDoor

namespace Go.Proofs.YtfbjmehkipcmbaaGreatDoor
open Go.RowKit
open Ty (I64)
open Ig (encI)
open Tx (encT)
theorem Dd.encV_there {c : Kn.C} {v : Kn.V} (hc : c.null = false) (hv : v.null = false) : Dd.encV c v = Dd.encP c v := by
  unfold Dd.encV
  rw [hc, hv, if_neg (by decide), if_neg (by decide), List.nil_append]
theorem Dd.encV_flag {c : Kn.C} {v : Kn.V} (hc : c.null = true) (hv : v.null = false) : Dd.encV c v = Dd.flag false :: Dd.encP c v := by
  unfold Dd.encV
  rw [hc, hv, if_pos rfl, if_neg (by decide)]
  rfl
theorem Dd.encV_null {c : Kn.C} {v : Kn.V} (hc : c.null = true) (hv : v.null = true) : Dd.encV c v = [Dd.flag true] := by
  unfold Dd.encV
  rw [hc, hv, if_pos rfl, if_pos rfl]
  rfl
theorem Dd.encP_int {c : Kn.C} {v : Kn.V} (hk : c.k = 1) : Dd.encP c v = Ig.encI v.n := by unfold Dd.encP; rw [if_pos hk]
theorem Dd.encP_txt {c : Kn.C} {v : Kn.V} (hk : c.k = 2) : Dd.encP c v = encT v.s.data.toList := by unfold Dd.encP; rw [if_neg (by omega)]
theorem Dd.fits_live {c : Kn.C} {v : Kn.V} (h : Kn.fits c v = true) (hc : c.null = false) : v.null = false := by
  cases hv : v.null
  · rfl
  · have := (Dd.fits_null h hv).2
    rw [hc] at this; cases this
theorem Dd.fits_size {c : Kn.C} {v : Kn.V} (hk : c.k = 2) (h : Kn.fits c v = true) (hv : v.null = false) : v.s.size ≤ 64 := by
  have := (Dd.fits_str (by omega) h hv).2
  rwa [Ty.length_data] at this
theorem Dd.tabs_grew {w w' : World} {v v' : Value} {base : Nat} {bs : List UInt8} (h : Ty.Tabs w) (hg : Ty.Grew w w' v v') (hb : Ty.Buf base w v bs) (hG : Ty.G ≤ base) : Ty.Tabs w' :=
  Ty.Tabs.by h hg.by_ fun k hk => Nat.le_trans hG (World.ownsRow.lt hb k hk).1
set_option maxHeartbeats 2000000 in
set_option maxRecDepth 100000 in
theorem Dd.appendValue_c (base : Nat) (v : Value) (bs : List UInt8) (c : Kn.C) (x : Kn.V) (w : World) (hT : Ty.Tabs w) (hG : Ty.G ≤ base) (hown : Ty.Buf base w v bs) (hb : base ≤ w.heap.size) (hl : bs.length ≤ 1000) (hf : Kn.fits c x = true) (hg : c.good = true) (hi : I64 x.n) :
    Calls Tryz.prog 45 #[v, c.val, x.val] w (Ty.Written base w v (bs ++ Dd.encV c x)) := by
  obtain ⟨ck, cn⟩ := c
  obtain ⟨xn, xi, xs⟩ := x
  have hgr : Below w.heap.size w ((w.alloc (.cells #[.int .i64 ck, .bool cn] 40)).alloc (.cells #[.bool xn, .int .i64 xi, .string xs] 42)) := ((Below.refl _ w).alloc (Nat.le_refl _) _).alloc (by simp) _
  have hown2 : Ty.Buf base ((w.alloc (.cells #[.int .i64 ck, .bool cn] 40)).alloc (.cells #[.bool xn, .int .i64 xi, .string xs] 42)) v bs := World.ownsRow.alloc (World.ownsRow.alloc hown _) _
  have hown3 : Hid (∀ k, v.ownBlock = some k → k < w.heap.size) := Lib.hid fun k hk => (World.ownsRow.lt hown k hk).2
  have hT2 := Lib.hid (Ty.Tabs.below hT hgr (Ty.Tabs.two hT))
  have hBH : Hid (∀ (w' : World) (v' : Value), Ty.Grew ((w.alloc (.cells #[.int .i64 ck, .bool cn] 40)).alloc (.cells #[.bool xn, .int .i64 xi, .string xs] 42)) w' v v' → Ty.Grew w w' v v') := Lib.hid fun w' v' h => (h.behind _).behind _
  have hsz : ((w.alloc (.cells #[.int .i64 ck, .bool cn] 40)).alloc (.cells #[.bool xn, .int .i64 xi, .string xs] 42)).heap.size = w.heap.size + 2 := by simp
  have hb2 := (Below.refl _ (w.alloc (.cells #[.int .i64 ck, .bool cn] 40))).alloc (Nat.le_refl _) (.cells #[.bool xn, .int .i64 xi, .string xs] 42)
  have x0 := (hb2.cell (p := ⟨w.heap.size, 0, none⟩) (by simp)).trans (Kn.cell_new w #[.int .i64 ck, .bool cn] 40 0 _ rfl)
  have x1 := (hb2.cell (p := ⟨w.heap.size, 1, none⟩) (by simp)).trans (Kn.cell_new w #[.int .i64 ck, .bool cn] 40 1 _ rfl)
  have y0 := Kn.cell_new (w.alloc (.cells #[.int .i64 ck, .bool cn] 40)) #[.bool xn, .int .i64 xi, .string xs] 42 0 _ rfl
  have y1 := Kn.cell_new (w.alloc (.cells #[.int .i64 ck, .bool cn] 40)) #[.bool xn, .int .i64 xi, .string xs] 42 1 _ rfl
  have y2 := Kn.cell_new (w.alloc (.cells #[.int .i64 ck, .bool cn] 40)) #[.bool xn, .int .i64 xi, .string xs] 42 2 _ rfl
  rw [World.size_alloc] at y0 y1 y2
  simp only [List.getElem_toArray, List.getElem_cons_zero, List.getElem_cons_succ] at x0 x1 y0 y1 y2
  have HT := hT2
  have HOW := Lib.hid hown2
  have HI := Lib.hid hi
  have HF := Lib.hid hf
  have HGB := Lib.hid hG
  have HBB := Lib.hid hb
  have HL := Lib.hid hl
  clear hgr hown2 hT2 hb2 hi hf hG hT hown
  have HK := Lib.hid ((Dd.good_iff _).1 hg)
  simp only at HI HK
  clear hg
  unfold Kn.C.val Kn.V.val
  cases cn
  · obtain rfl : xn = false := Dd.fits_live HF.out rfl
    rcases HK.out with rfl | rfl
    · have HE := Lib.hid ((Dd.encV_there (c := ⟨1, false⟩) (v := ⟨false, xi, xs⟩) rfl rfl).trans (Dd.encP_int rfl))
      go_enter Tryz.func45, Tryz.ntmps45
      go_wp2_with fail
      generalize hwo : World.alloc _ _ = wo at HOW HT hBH hsz x0 x1 y0 y1 y2 ⊢
      clear hwo
      with_reducible refine (Ty.int_c base v _ xi HI.out wo HT.out HOW.out (by have := HBB.out; omega) (by have := HL.out; omega)).mono ?_
      rintro e w4 ⟨v4, rfl, hB4, hG4⟩
      have HB4 := Lib.hid hB4
      have HG4 := Lib.hid hG4
      clear hB4 hG4
      go_wp2
      go_ret
      refine ⟨v4, rfl, ?_, hBH.out _ _ HG4.out⟩
      rw [HE.out]
      have h := HB4.out
      simpa only [Ig.encI, List.append_assoc, List.singleton_append, List.cons_append, List.nil_append] using h
    · have HE := Lib.hid ((Dd.encV_there (c := ⟨2, false⟩) (v := ⟨false, xi, xs⟩) rfl rfl).trans (Dd.encP_txt rfl))
      have h64 := Dd.fits_size rfl HF.out rfl
      simp only at h64
      go_enter Tryz.func45, Tryz.ntmps45
      go_wp2_with fail
      generalize hwo : World.alloc _ _ = wo at HOW HT hBH hsz x0 x1 y0 y1 y2 ⊢
      clear hwo
      with_reducible refine (Ty.text_c base v _ xs wo HT.out HOW.out (by have := HBB.out; omega) (by have := HL.out; omega)).mono ?_
      rintro e w4 ⟨v4, rfl, hB4, hG4⟩
      have HB4 := Lib.hid hB4
      have HG4 := Lib.hid hG4
      clear hB4 hG4
      go_wp2
      go_ret
      refine ⟨v4, rfl, ?_, hBH.out _ _ HG4.out⟩
      rw [HE.out]
      have h := HB4.out
      simpa only [encT, Ty.length_data, List.append_assoc, List.singleton_append, List.cons_append, List.nil_append] using h
  · cases xn
    · rcases HK.out with rfl | rfl
      · have HE := Lib.hid ((Dd.encV_flag (c := ⟨1, true⟩) (v := ⟨false, xi, xs⟩) rfl rfl).trans (congrArg _ (Dd.encP_int rfl)))
        go_enter Tryz.func45, Tryz.ntmps45
        go_wp2_with fail
        generalize hwo : World.alloc _ _ = wo at HOW HT hBH hsz x0 x1 y0 y1 y2 ⊢
        clear hwo
        with_reducible refine (Dd.appendFlag_c base v bs false wo HOW.out (by have := HBB.out; omega) (by have := HL.out; omega)).mono ?_
        rintro e w3 ⟨v3, rfl, hB3, hG3⟩
        have hs3 := hG3.by_.size
        have hn0 : some w.heap.size ≠ v.ownBlock := fun e => by have := hown3.out _ e.symm; omega
        have hn1 : some (w.heap.size + 1) ≠ v.ownBlock := fun e => by have := hown3.out _ e.symm; omega
        replace x0 := hG3.by_.cell x0 hn0
        replace y0 := hG3.by_.cell y0 hn1
        replace y1 := hG3.by_.cell y1 hn1
        replace y2 := hG3.by_.cell y2 hn1
        have HB3 := Lib.hid hB3
        have HG3 := Lib.hid hG3
        have HT3 := Lib.hid (Dd.tabs_grew HT.out hG3 HOW.out HGB.out)
        clear x1 hn0 hn1 hB3 hG3
        go_wp2_with fail
        with_reducible refine (Ty.int_c base v3 _ xi HI.out w3 HT3.out HB3.out (by have := HBB.out; omega) (by rw [List.length_append]; have := HL.out; simp only [List.length_singleton]; omega)).mono ?_
        rintro e w4 ⟨v4, rfl, hB4, hG4⟩
        have HB4 := Lib.hid hB4
        have HG4 := Lib.hid hG4
        clear hB4 hG4
        go_wp2
        go_ret
        refine ⟨v4, rfl, ?_, hBH.out _ _ (HG3.out.trans HG4.out)⟩
        rw [HE.out]
        have h := HB4.out
        simpa only [Ig.encI, List.append_assoc, List.singleton_append, List.cons_append, List.nil_append] using h
      · have HE := Lib.hid ((Dd.encV_flag (c := ⟨2, true⟩) (v := ⟨false, xi, xs⟩) rfl rfl).trans (congrArg _ (Dd.encP_txt rfl)))
        have h64 := Dd.fits_size rfl HF.out rfl
        simp only at h64
        go_enter Tryz.func45, Tryz.ntmps45
        go_wp2_with fail
        generalize hwo : World.alloc _ _ = wo at HOW HT hBH hsz x0 x1 y0 y1 y2 ⊢
        clear hwo
        with_reducible refine (Dd.appendFlag_c base v bs false wo HOW.out (by have := HBB.out; omega) (by have := HL.out; omega)).mono ?_
        rintro e w3 ⟨v3, rfl, hB3, hG3⟩
        have hs3 := hG3.by_.size
        have hn0 : some w.heap.size ≠ v.ownBlock := fun e => by have := hown3.out _ e.symm; omega
        have hn1 : some (w.heap.size + 1) ≠ v.ownBlock := fun e => by have := hown3.out _ e.symm; omega
        replace x0 := hG3.by_.cell x0 hn0
        replace y0 := hG3.by_.cell y0 hn1
        replace y1 := hG3.by_.cell y1 hn1
        replace y2 := hG3.by_.cell y2 hn1
        have HB3 := Lib.hid hB3
        have HG3 := Lib.hid hG3
        have HT3 := Lib.hid (Dd.tabs_grew HT.out hG3 HOW.out HGB.out)
        clear x1 hn0 hn1 hB3 hG3
        go_wp2_with fail
        with_reducible refine (Ty.text_c base v3 _ xs w3 HT3.out HB3.out (by have := HBB.out; omega) (by rw [List.length_append]; have := HL.out; simp only [List.length_singleton]; omega)).mono ?_
        rintro e w4 ⟨v4, rfl, hB4, hG4⟩
        have HB4 := Lib.hid hB4
        have HG4 := Lib.hid hG4
        clear hB4 hG4
        go_wp2
        go_ret
        refine ⟨v4, rfl, ?_, hBH.out _ _ (HG3.out.trans HG4.out)⟩
        rw [HE.out]
        have h := HB4.out
        simpa only [encT, Ty.length_data, List.append_assoc, List.singleton_append, List.cons_append, List.nil_append] using h
    · have HE := Lib.hid (Dd.encV_null (c := ⟨ck, true⟩) (v := ⟨true, xi, xs⟩) rfl rfl)
      go_enter Tryz.func45, Tryz.ntmps45
      go_wp2_with fail
      generalize hwo : World.alloc _ _ = wo at HOW HT hBH hsz x0 x1 y0 y1 y2 ⊢
      clear hwo
      with_reducible refine (Dd.appendFlag_c base v bs true wo HOW.out (by have := HBB.out; omega) (by have := HL.out; omega)).mono ?_
      rintro e w3 ⟨v3, rfl, hB3, hG3⟩
      have hs3 := hG3.by_.size
      have hn0 : some w.heap.size ≠ v.ownBlock := fun e => by have := hown3.out _ e.symm; omega
      have hn1 : some (w.heap.size + 1) ≠ v.ownBlock := fun e => by have := hown3.out _ e.symm; omega
      replace x0 := hG3.by_.cell x0 hn0
      replace y0 := hG3.by_.cell y0 hn1
      replace y1 := hG3.by_.cell y1 hn1
      replace y2 := hG3.by_.cell y2 hn1
      have HB3 := Lib.hid hB3
      have HG3 := Lib.hid hG3
      have HT3 := Lib.hid (Dd.tabs_grew HT.out hG3 HOW.out HGB.out)
      clear x1 hn0 hn1 hB3 hG3
      go_wp2
      go_ret
      exact ⟨v3, rfl, by rw [HE.out]; exact HB3.out, hBH.out _ _ HG3.out⟩
end Go.Proofs.YtfbjmehkipcmbaaGreatDoor

namespace Go.Proofs.YtfbjmehkipcmbaaGreatDoor
open Go.RowKit
def Dd.T (w : World) : Prop := Ty.Tabs w
theorem Dd.T.below {w w' : World} (h : Dd.T w) (g : Below w.heap.size w w') : Dd.T w' := Ty.Tabs.below h g (Ty.Tabs.two h)
end Go.Proofs.YtfbjmehkipcmbaaGreatDoor

namespace Go.Proofs.YtfbjmehkipcmbaaGreatDoor
open Go.RowKit
open Ty (num txt)
open Ig (rest sg)
open Tx (restT)
structure Dd.St where
  l : List UInt8
  e : Nat
  wr : Bool
def Dd.St.q (s : Dd.St) : Nat := if s.wr = true then 4 else s.e
def Dd.stF (s : Dd.St) : Bool × Dd.St := ((Ty.rdB s.l s.e).1 == 1, ⟨(Ty.rdB s.l s.e).2.1, (Ty.rdB s.l s.e).2.2, s.wr || decide (1 < (Ty.rdB s.l s.e).1)⟩)
def Dd.stP (c : Kn.C) (s : Dd.St) : Kn.V × Dd.St :=
  if c.k = 2 then (Cl.ofS (Ty.rdT 64 s.l s.e).1, ⟨(Ty.rdT 64 s.l s.e).2.1, (Ty.rdT 64 s.l s.e).2.2, s.wr⟩)
  else (Cl.ofN (Ty.zag ((Ty.rdU s.l s.e).1 : Int)), ⟨(Ty.rdU s.l s.e).2.1, (Ty.rdU s.l s.e).2.2, s.wr⟩)
def Dd.stV (c : Kn.C) (s : Dd.St) : Kn.V × Dd.St :=
  if c.null = true then (if (Dd.stF s).1 = true then (Cl.nul, (Dd.stF s).2) else Dd.stP c (Dd.stF s).2) else Dd.stP c s
def Dd.stR : List Kn.C → Dd.St → List Kn.V × Dd.St
  | [], s => ([], s)
  | c :: cs, s => ((Dd.stV c s).1 :: (Dd.stR cs (Dd.stV c s).2).1, (Dd.stR cs (Dd.stV c s).2).2)
def Dd.St.done (s : Dd.St) : Nat := if s.wr = true then 4 else Ty.fin s.l s.e
theorem Dd.St.ne {s : Dd.St} (h : s.q ≠ 0) : s.wr = true ∨ (s.wr = false ∧ s.e ≠ 0) := by
  unfold Dd.St.q at h
  cases hw : s.wr
  · rw [hw, if_neg (by decide)] at h; exact .inr ⟨rfl, h⟩
  · exact .inl rfl
theorem Dd.rdB_ne (l : List UInt8) {e : Nat} (h : e ≠ 0) : Ty.rdB l e = (0, l, e) := by unfold Ty.rdB; rw [if_pos h]
theorem Dd.rdB_le (l : List UInt8) (e : Nat) : (Ty.rdB l e).2.1.length ≤ l.length ∧ (Ty.rdB l e).1 ≤ 255 := by
  unfold Ty.rdB
  split
  · exact ⟨Nat.le_refl _, Nat.zero_le _⟩
  · cases l with
    | nil => exact ⟨Nat.le_refl _, Nat.zero_le _⟩
    | cons b r => exact ⟨by simp, by have := b.toNat_lt; show b.toNat ≤ 255; omega⟩
end Go.Proofs.YtfbjmehkipcmbaaGreatDoor

namespace Go.Proofs.YtfbjmehkipcmbaaGreatDoor
open Go.RowKit Go.Shelf
set_option maxRecDepth 100000 in
theorem Tx.clone_c (s : ByteArray) (w : World) (hs : s.size ≤ 140737488355328) : Calls Tryz.prog 176 #[.string s] w fun e w' => e = .returned (.string s) ∧ Below w.heap.size w w' := by
  have cc := Any.stringslite_Clone Tryz.cloneL s w (by omega)
  go_enter Tryz.func176, Tryz.ntmps176
  go_wp2_with fail
  refine Calls.mono cc ?_
  rintro e w1 ⟨rfl, hb⟩
  go_wp2
  go_ret
  exact ⟨rfl, hb⟩
end Go.Proofs.YtfbjmehkipcmbaaGreatDoor

namespace Go.Proofs.YtfbjmehkipcmbaaGreatDoor
open Go.RowKit
structure Dd.By2 (r b : Nat) (w w' : World) : Prop where
  os : w'.os = w.os
  tape : w'.tape = w.tape
  output : w'.output = w.output
  size : w.heap.size ≤ w'.heap.size
  block : ∀ k, k < w.heap.size → k ≠ r → k ≠ b → w'.heap[k]? = w.heap[k]?
theorem Dd.By2.refl (r b : Nat) (w : World) : Dd.By2 r b w w := ⟨rfl, rfl, rfl, Nat.le_refl _, fun _ _ _ _ => rfl⟩
theorem Dd.By2.trans {r b : Nat} {u v w : World} (h : Dd.By2 r b u v) (k : Dd.By2 r b v w) : Dd.By2 r b u w :=
  ⟨k.os.trans h.os, k.tape.trans h.tape, k.output.trans h.output, Nat.le_trans h.size k.size, fun i hi h1 h2 => (k.block i (Nat.lt_of_lt_of_le hi h.size) h1 h2).trans (h.block i hi h1 h2)⟩
theorem Dd.By2.set {r b : Nat} (w : World) (i : Nat) (u : Value) : Dd.By2 r b w (w.setCell ⟨r, i, none⟩ u) :=
  ⟨rfl, rfl, rfl, by simp [World.setCell], fun k _ h1 _ => Below.heap_setCell _ _ _ _ (by show k ≠ r; exact h1)⟩
theorem Dd.By2.cell {r b : Nat} {w w' : World} (h : Dd.By2 r b w w') {a : Addr} {v : Value} (hv : w.cell? a = some v) (h1 : a.block ≠ r) (h2 : a.block ≠ b) : w'.cell? a = some v :=
  (World.cell?_of_block (h.block a.block (World.block_lt_of_cell? w a hv) h1 h2)).trans hv
theorem Dd.By2.below {r b B : Nat} {w w' : World} (h : Dd.By2 r b w w') (hr : B ≤ r) (hb : B ≤ b) (hB : B ≤ w.heap.size) : Below B w w' :=
  ⟨h.os, h.tape, h.output, h.size, fun k hk => h.block k (by omega) (by omega) (by omega)⟩
end Go.Proofs.YtfbjmehkipcmbaaGreatDoor

namespace Go.Proofs.YtfbjmehkipcmbaaGreatDoor
open Go.RowKit
end Go.Proofs.YtfbjmehkipcmbaaGreatDoor

namespace Go.Proofs.YtfbjmehkipcmbaaGreatDoor
open Go.RowKit
theorem Dd.By2.new {r b q i : Nat} {w w1 : World} (g : Dd.By2 r b w w1) (hq : w.heap.size ≤ q) (u : Value) : Dd.By2 r b w (w1.setCell ⟨q, i, none⟩ u) :=
  ⟨g.os, g.tape, g.output, by have := g.size; simpa [World.setCell] using this, fun k hk h1 h2 => (Below.heap_setCell _ _ _ _ (by show k ≠ q; omega)).trans (g.block k hk h1 h2)⟩
end Go.Proofs.YtfbjmehkipcmbaaGreatDoor

namespace Go.Proofs.YtfbjmehkipcmbaaGreatDoor
open Go.RowKit
open Ty (I64)
theorem Dd.Cols.kn {w : World} {v : Value} {l : List Kn.C} (h : Dd.Cols w v l) : Kn.Cols w v l := h.1
theorem Dd.cols_at {s : List Kn.C} {g : Bool} {k : Nat} {c : Kn.C} (h : (Dd.cols s g)[k]? = some c) : s[k]? = some c := by
  unfold Dd.cols at h
  cases g
  · exact h
  · rw [if_pos rfl, List.getElem?_take] at h
    split at h
    · exact h
    · cases h
set_option maxHeartbeats 2000000 in
set_option maxRecDepth 100000 in
theorem Dd.write_c (v u : Value) (s : List Kn.C) (d : Dd.D) (w : World) (hw : Dd.T w) (hs : Dd.Cols w v s) (hu : Kn.Vals w u d.row) (hi : ∀ x ∈ d.row, I64 x.n) :
    Calls Tryz.prog 17 #[v, .agg #[.bool d.gone, u]] w fun e w' => e = .returned (Dd.wV s d) ∧ Below w.heap.size w w' := by
  have HS := Lib.hid hs
  have HU := Lib.hid hu
  have HI := Lib.hid hi
  have HW := Lib.hid hw
  have HB0 : Hid (Below w.heap.size w (w.alloc (.cells #[.bool d.gone, u] 37))) := Lib.hid ((Below.refl _ _).alloc (Nat.le_refl _) _)
  have HX0 := Lib.hid (Kn.cell_new w #[.bool d.gone, u] 37 0 _ rfl)
  have HX1 := Lib.hid (Kn.cell_new w #[.bool d.gone, u] 37 1 _ rfl)
  simp only [List.getElem_toArray, List.getElem_cons_zero, List.getElem_cons_succ] at HX0 HX1
  have hsz : (w.alloc (.cells #[.bool d.gone, u] 37)).heap.size = w.heap.size + 1 := World.size_alloc ..
  obtain ⟨V, hV⟩ : ∃ V, V = Dd.wV s d := ⟨_, rfl⟩
  rw [← hV]
  have HV := Lib.hid hV
  have CR := Lib.hid fun wz (h : Kn.Cols wz v s) => Kn.right_c v s wz h
  clear hV hs hu hi hw
  cases hrt : Kn.right s
  · have HE := Lib.hid (HV.out.trans (Dd.wV_bad (by rw [Dd.fitE_not hrt]; decide)))
    have HE4 := Lib.hid (Dd.fitE_not hrt d)
    rw [hrt] at CR
    clear hrt
    go_enter Tryz.func17, Tryz.ntmps17
    go_wp2_with fail
    generalize hwo : w.alloc _ = wo at hsz HX0 HX1 HB0 ⊢
    clear hwo
    with_reducible refine (CR.out wo (HS.out.later HB0.out).kn).mono ?_
    rintro e w1 ⟨rfl, g1⟩
    have HB1 := Lib.hid (HB0.out.trans (g1.mono HB0.out.size))
    clear g1
    go_wp2
    go_ret2
    exact ⟨by rw [HE.out, HE4.out]; rfl, HB1.out⟩
  · rw [hrt] at CR
    have hl := Kn.right_len hrt
    have CC := Lib.hid fun wz (h : Dd.Cols wz v s) => Dd.columnsOf_c v s d.gone wz h hl.1
    have HFE : Hid (Kn.fitsE (Dd.cols s d.gone) d.row = Dd.fitE s d) := Lib.hid (Dd.fitE_cols hrt d)
    have HGOOD : Hid (∀ (k : Nat) (c : Kn.C), (Dd.cols s d.gone)[k]? = some c → c.good = true) := Lib.hid fun k c h => Dd.cols_good hrt h
    have HAT : Hid (∀ (k : Nat) (c : Kn.C), (Dd.cols s d.gone)[k]? = some c → s[k]? = some c) := Lib.hid fun k c h => Dd.cols_at h
    have HLN : Hid (Dd.fitE s d = 0 → d.row.length = (Dd.cols s d.gone).length ∧ Kn.fitsAll (Dd.cols s d.gone) d.row = true) := Lib.hid fun h => (Dd.fitE_0 h).2
    have hcl := Dd.cols_len hrt d.gone
    have HCL := Lib.hid hcl
    generalize Dd.cols s d.gone = cs at CC HFE HGOOD HAT HLN HCL
    clear hrt hl hcl
    go_enter Tryz.func17, Tryz.ntmps17
    go_wp2_with fail
    generalize hwo : w.alloc _ = wo at hsz HX0 HX1 HB0 ⊢
    clear hwo
    with_reducible refine (CR.out wo (HS.out.later HB0.out).kn).mono ?_
    rintro e w1 ⟨rfl, g1⟩
    have HB1 := Lib.hid (HB0.out.trans (g1.mono HB0.out.size))
    have x0 := (g1.cell (p := ⟨w.heap.size, 0, none⟩) (by simp [hsz])).trans HX0.out
    have x1 := (g1.cell (p := ⟨w.heap.size, 1, none⟩) (by simp [hsz])).trans HX1.out
    have hs1 : w.heap.size < w1.heap.size := by have := g1.size; omega
    clear g1 CR HX0 HX1 hsz
    go_wp2_with fail
    with_reducible refine (CC.out w1 (HS.out.later HB1.out)).mono ?_
    rintro e w2 ⟨⟨uc, rfl, hC⟩, h2⟩
    subst w2
    have HC : Hid (∀ W, Below w.heap.size w W → Kn.Cols W uc cs) := Lib.hid fun W h => (hC W (HS.out.later h)).1
    clear hC CC
    go_wp2_with fail
    have cf := Kn.fits_c uc u cs d.row w1 (HC.out _ HB1.out) (HU.out.later HB1.out)
    rw [HFE.out] at cf
    by_cases hE : Dd.fitE s d = 0
    · have HE := Lib.hid (HV.out.trans (Dd.wV_ok hE))
      obtain ⟨hln, hfa⟩ := HLN.out hE
      have HFT : Hid (∀ (k : Nat) (c : Kn.C) (x : Kn.V), cs[k]? = some c → d.row[k]? = some x → Kn.fits c x = true) := Lib.hid fun k c x h1 h2 => Dd.fitsAll_at cs d.row k c x hfa h1 h2
      have HPL : Hid (∀ k, k ≤ d.row.length → (Dd.pre s d.gone d.row k).length ≤ 500) := Lib.hid fun k hk => Dd.pre_len hE hk
      have HPA := Lib.hid (Dd.pre_all hE)
      have HPS : Hid (∀ (k : Nat) (c : Kn.C) (x : Kn.V), cs[k]? = some c → d.row[k]? = some x → Dd.pre s d.gone d.row (k + 1) = Dd.pre s d.gone d.row k ++ Dd.encV c x) := Lib.hid fun k c x h1 h2 => Dd.pre_step (HAT.out k c h1) h2
      have hr6 : d.row.length ≤ 6 := by have := HCL.out; omega
      have HLEN := Lib.hid hln
      rw [hE] at cf
      obtain ⟨ac, cc, rfl, -⟩ := (HC.out _ HB1.out).is
      obtain ⟨au, cu, rfl, hUH⟩ := HU.out.is
      have HUH := Lib.hid hUH
      have HCC : Hid (∀ W, Below w.heap.size w W → cs = [] ∨ ∃ b2 o2, ac = some ⟨b2, o2, none⟩ ∧ b2 < W.heap.size ∧ ∀ i x, cs[i]? = some x → W.cell? ⟨b2, o2 + i * 2, none⟩ = some (.int .i64 x.k) ∧ W.cell? ⟨b2, o2 + i * 2 + 1, none⟩ = some (.bool x.null)) := Lib.hid fun W hW => by
        obtain ⟨a', c', e, h⟩ := (HC.out W hW).is
        simp only [Value.slice.injEq, true_and] at e
        obtain ⟨rfl, _⟩ := e
        rcases h with h | ⟨b2, o2, h1, h2, _, h3⟩
        · exact .inl h
        · exact .inr ⟨b2, o2, h1, h2, h3⟩
      clear hE hfa hUH HC
      with_reducible refine cf.mono ?_
      rintro e w2 ⟨rfl, g2⟩
      have HB2 := Lib.hid (HB1.out.trans (g2.mono HB1.out.size))
      have HX1 := Lib.hid ((g2.cell (p := ⟨w.heap.size, 1, none⟩) hs1).trans x1)
      have y0 := (g2.cell (p := ⟨w.heap.size, 0, none⟩) hs1).trans x0
      have hs2 : w.heap.size < w2.heap.size := by have := g2.size; omega
      have HT2 := Lib.hid (HW.out.below HB2.out)
      clear g2 cf x0 x1 hs1
      go_wp2_with fail
      with_reducible refine (Dd.appendFlag_c w2.heap.size _ [] d.gone w2 (Ty.Buf.nil _ _) (Nat.le_refl _) (by simp)).mono ?_
      rintro e w3 ⟨v3, rfl, hB3, hG3⟩
      have HG3 := Lib.hid (hG3.below (Nat.le_refl _) (fun k hk => by cases hk))
      have HB3 := Lib.hid hB3
      clear hB3 hG3 y0
      go_wp2_with fail
      rw [← hln]
      clear hln
      go_loopw [8, 30] (fun sv i wr => ∃ (k : Nat) (bv : Value), k ≤ d.row.length ∧ i = .int .i64 k ∧ bv = sv ∧ Ty.Buf w2.heap.size wr bv (Dd.pre s d.gone d.row k) ∧ Below w2.heap.size w2 wr) (fun _ i _ => d.row.length - (intOf i).toNat)
      case atStart => exact ⟨0, _, Nat.zero_le _, rfl, rfl, HB3.out, HG3.out⟩
      case round =>
        obtain ⟨k, bv, hk, rfl, rfl, hBk, hGk⟩ := hrel
        have HBK := Lib.hid hBk
        have HGK := Lib.hid hGk
        have HBW := Lib.hid (HB2.out.trans (hGk.mono HB2.out.size))
        have hws := hGk.size
        have x1 := (hGk.cell (p := ⟨w.heap.size, 1, none⟩) hs2).trans HX1.out
        have hk0 : (0 : Int) ≤ (k : Int) := by omega
        have HPK := Lib.hid (HPL.out k hk)
        clear hBk hGk HB3 HG3
        by_cases hlk : k < d.row.length
        · rcases HCC.out wr HBW.out with h | ⟨b2, o2, rfl, hbl, hc2⟩
          · exact absurd hlk (by have := HLEN.out; rw [h, List.length_nil] at this; omega)
          · rcases HUH.out with h | ⟨b3, o3, rfl, hbl3, hm3, hx3⟩
            · exact absurd hlk (by rw [h]; simp)
            · obtain ⟨⟨ck, cn⟩, hc⟩ : ∃ c, cs[k]? = some c := ⟨_, List.getElem?_eq_getElem (by have := HLEN.out; omega)⟩
              obtain ⟨⟨xn, xi, xs⟩, hx⟩ : ∃ x, d.row[k]? = some x := ⟨_, List.getElem?_eq_getElem hlk⟩
              obtain ⟨e0, e1⟩ := hc2 k _ hc
              obtain ⟨a0, a1, a2⟩ := (hx3 k _ hx).later HBW.out
              have HST := Lib.hid (HPS.out k _ _ hc hx)
              have HFX := Lib.hid (HFT.out k _ _ hc hx)
              have HGX := Lib.hid (HGOOD.out k _ hc)
              have HIX := Lib.hid (HI.out _ (List.mem_of_getElem? hx))
              have hkl : (k : Int) < (d.row.length : Int) := by omega
              have hbl3r : b3 < wr.heap.size := by have := HBW.out.size; omega
              have hn0 := Kn.cell_new wr #[.int .i64 ck, .bool cn] 40 0 _ rfl
              have hn1 := Kn.cell_new wr #[.int .i64 ck, .bool cn] 40 1 _ rfl
              have gN : Below wr.heap.size wr (wr.alloc (.cells #[.int .i64 ck, .bool cn] 40)) := (Below.refl _ _).alloc (Nat.le_refl _) _
              simp only [List.getElem_toArray, List.getElem_cons_zero, List.getElem_cons_succ] at hn0 hn1
              simp only at e0 e1 a0 a1 a2 HIX
              have n1 := (gN.cell (p := ⟨w.heap.size, 1, none⟩) (by show w.heap.size < wr.heap.size; omega)).trans x1
              have m0 := (gN.cell (p := ⟨b3, o3 + k * 3, none⟩) hbl3r).trans a0
              have m1 := (gN.cell (p := ⟨b3, o3 + k * 3 + 1, none⟩) hbl3r).trans a1
              have m2 := (gN.cell (p := ⟨b3, o3 + k * 3 + 2, none⟩) hbl3r).trans a2
              have HGN := Lib.hid (HGK.out.trans (gN.mono hws))
              have HBN : Hid (Ty.Buf w2.heap.size (wr.alloc (.cells #[.int .i64 ck, .bool cn] 40)) bv (Dd.pre s d.gone d.row k)) := Lib.hid (HBK.out.later gN)
              clear hc hx hc2 hx3 hm3 hbl
              go_wp2_with fail
              generalize hwn : wr.alloc _ = wn at hn0 hn1 n1 m0 m1 m2 HGN HBN ⊢
              clear hwn gN x1 e0 e1 a0 a1 a2
              refine wp_region_still_tail 7 (by kernel_rfl) (by kernel_rfl) ?_
              simp only [List.take_succ_cons, List.take_zero, List.drop_succ_cons, List.drop_zero]
              change wpStill _ _ (World.drew _) (fun a' => wpList _ _ _ _ a' (World.drew _)) _ _
              still_step
              still_step
              still_step
              still_step
              still_step
              still_step
              still_step
              refine wpStill_nil ?_
              have HTN := Lib.hid (HT2.out.below HGN.out.drew)
              have ca := Dd.appendValue_c w2.heap.size bv (Dd.pre s d.gone d.row k) ⟨ck, cn⟩ ⟨xn, xi, xs⟩ wn.drew HTN.out (Ty.Tabs.two HT2.out) HBN.out HGN.out.size (by have := HPK.out; omega) HFX.out HGX.out HIX.out
              unfold Kn.C.val Kn.V.val at ca
              simp only at ca
              go_wp2_with fail
              with_reducible refine ca.mono ?_
              rintro e w5 ⟨v5, rfl, hB5, hG5⟩
              have HB5 := Lib.hid hB5
              have HG5 := Lib.hid ((hG5.drawn).below HGN.out.size HBN.out.base)
              clear ca hB5 hG5 hn0 hn1 n1 m0 m1 m2
              go_wp2
              go_roundw
              case rel => exact ⟨k + 1, _, by omega, by simp, rfl, by rw [HST.out]; exact HB5.out, HGN.out.trans HG5.out⟩
              case measure => simp [intOf]; omega
        · obtain rfl : k = d.row.length := by omega
          have hkl : ¬ (d.row.length : Int) < (d.row.length : Int) := by omega
          have hstr := HBK.out.str
          rw [HPA.out] at hstr
          go_wp2
          go_ret2
          exact ⟨by rw [HE.out]; rfl, HBW.out⟩
    · have HE := Lib.hid (HV.out.trans (Dd.wV_bad hE))
      have hEb : (Dd.fitE s d != 0) = true := by rw [bne_iff_ne]; exact hE
      generalize Dd.fitE s d = E at cf HE hEb
      clear hE
      with_reducible refine cf.mono ?_
      rintro e w2 ⟨rfl, g2⟩
      have HB2 := Lib.hid (HB1.out.trans (g2.mono HB1.out.size))
      clear g2 cf x0 x1
      go_wp2
      go_ret2
      exact ⟨by rw [HE.out]; rfl, HB2.out⟩
end Go.Proofs.YtfbjmehkipcmbaaGreatDoor
