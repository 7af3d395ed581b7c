import Derived.Test.YteaglaijkafphaaDoorWAL
import Derived.Test.YteaglaijkafphaaDoorWAE
import Derived.Test.YteaglaijkafphaaDoorWAK
import Derived.Test.YteaglaijkafphaaDoorWAF
import Derived.Test.YteaglaijkafphaaDoorWAD
import Derived.Deep.CutBlock
import Derived.Deep.RegionHeld3
import Derived.Test.YteaglaijkafphaaDoorRows
import Derived.Below
import Derived.ChangeSame
import Derived.Carry
namespace Go.Proofs.YteaglaijkafphaaDoor
open Go Go.RowKit Go.Maps
theorem Mf.scan_inv : ∀ (n : Nat) (l : List UInt8), l.length ≤ n → 8 * (Fr.scan l).2.1.length ≤ l.length ∧ ∀ x ∈ (Fr.scan l).2.1, x.length ≤ 1048576
 | 0, l, h => by
   obtain rfl : l = [] := List.eq_nil_of_length_eq_zero (by omega)
   rw [Fr.scan_nil]
   exact ⟨Nat.le_refl _, fun x hx => by cases hx⟩
 | n + 1, l, h => by
   rw [Fr.scan_is]
   split
   ·exact ⟨Nat.zero_le _, fun x hx => by cases hx⟩
   ·split
    ·exact ⟨Nat.zero_le _, fun x hx => by cases hx⟩
    ·split
     ·exact ⟨Nat.zero_le _, fun x hx => by cases hx⟩
     ·split
      ·exact ⟨Nat.zero_le _, fun x hx => by cases hx⟩
      ·split
       ·exact ⟨Nat.zero_le _, fun x hx => by cases hx⟩
       ·next h1 h2 h3 _ _ =>
        obtain ⟨i1, i2⟩ := Mf.scan_inv n (l.drop (Fr.val (l.take 4) + 8)) (by rw [List.length_drop]; omega)
        rw [List.length_drop] at i1
        refine ⟨by simp only [List.length_cons]; omega, fun x hx => ?_⟩
        rcases List.mem_cons.1 hx with rfl | hx
        ·rw [List.length_take]; omega
        ·exact i2 x hx
set_option maxHeartbeats 8000000 in
set_option maxRecDepth 100000 in
theorem Mf.read_c (t : ByteArray) (w : World) (hT : Ty.Tabs w) (ht : t.size ≤ 16777216) :
 Calls Tryd.prog 6 #[.string t] w (Mf.GotS w (Mf.rr t.data.toList)) := by
 obtain ⟨l, hl⟩ : ∃ l, l = t.data.toList := ⟨_, rfl⟩
 have hll : l.length = t.size := by rw [hl, Ty.length_data]
 have hinv := Mf.scan_inv _ l (Nat.le_refl _)
 have herr := Fr.scan_err l
 have CSC := Lib.hid fun (W : World) => Fr.scan_c t (by omega) W rfl
 rw [← hl] at CSC ⊢
 obtain ⟨w0, hw0⟩ : ∃ w0, w0 = w.alloc (.cells #[.slice none 0 0, .int .i64 0, .int .i64 0] 25) := ⟨_, rfl⟩
 have g0 : Below w.heap.size w w0 := by rw [hw0]; exact (Below.refl _ _).alloc (Nat.le_refl _) _
 have s0 : w0.heap.size = w.heap.size + 1 := by rw [hw0]; exact World.size_alloc ..
 have hyr : w0.heap[w.heap.size]? = some (.cells #[.slice none 0 0, .int .i64 0, .int .i64 0] 25 (0, 0)) := by
  rw [hw0]
  exact heap_alloc_new w _
 have HT := Lib.hid fun (W : World) (g : Below w.heap.size w W) => Ty.Tabs.below hT g (Ty.Tabs.two hT)
 have HLN : Hid ((Fr.scan l).2.1.length ≤ 2097152 ∧ ∀ x ∈ (Fr.scan l).2.1, x.length ≤ 1048576) := Lib.hid ⟨by have := hinv.1; omega, hinv.2⟩
 have HE8 : Hid ((Fr.scan l).1 = 0 ∨ (Fr.scan l).1 = 8) := Lib.hid (by rcases herr with h | h; exact .inl h; exact .inr (by rw [h]))
 have HRR : Hid (Mf.rr l = if (Fr.scan l).1 = 0 then Mf.rp ⟨[], 0, 0⟩ (Fr.scan l).2.1 else none) := Lib.hid rfl
 have HB0 := Lib.hid g0
 have HYR := Lib.hid hyr
 have HS0 := Lib.hid s0
 generalize Mf.rr l = RES at HRR ⊢
 clear hT ht hl hll hinv herr g0 hyr
 go_enter Tryd.func6, Tryd.ntmps6
 go_wp2_with fail
 rw [← hw0]
 clear hw0
 refine (CSC.out w0).mono ?_
 rintro e w2 ⟨x, rfl, hx, g2⟩
 have hbw := HB0.out.trans (g2.mono HB0.out.size)
 have HB2 := Lib.hid hbw
 have hy2 := (g2.block w.heap.size (by have := HS0.out; omega)).trans HYR.out
 have HY2 := Lib.hid hy2
 obtain ⟨xa, xc, rfl, -, -, hx9⟩ := hx
 have H9 := Lib.hid hx9
 clear g2 CSC hx9 hbw HYR
 generalize (Fr.scan l).2.2 = ct
 generalize (Fr.scan l).1 = er at HE8 HRR ⊢
 generalize (Fr.scan l).2.1 = TS at HLN HRR H9 ⊢
 rcases HE8.out with rfl | rfl
 ·have HRR := Lib.hid (HRR.out.trans (if_pos rfl))
  have CB := Mf.bookOf_c (.slice none 0 0) ⟨[], 0, 0⟩ w2 (Mf.At.nil _) (fun _ h => nomatch h) (Nat.zero_le _)
  unfold Mf.sv at CB
  simp only at CB
  have hl0 : (TS.length : Int) ≤ 2097152 := by have := HLN.out.1; omega
  clear HE8 hy2
  simp only [Int.cast_ofNat_Int]
  go_wp2_with fail
  with_reducible refine CB.mono ?_
  rintro e w3 ⟨q, K0, rfl, hK, hm, hB3⟩
  have HK3 := Lib.hid hK
  have HB3 := Lib.hid hB3
  have HM0 := Lib.hid hm
  clear CB hK hm hB3
  go_wp2_with fail
  go_loopw [26] (fun i wr => ∃ (k : Nat) (K : List (Nat × Mf.P)) (pl : Nat) (f n : Int), k ≤ TS.length ∧ i = .int .i64 k ∧ Mf.Bk w2.heap.size wr q K pl f n ∧ Below w2.heap.size w2 wr ∧ pl ≤ 1000 * k ∧ RES = Mf.rp ⟨K.map (·.2), f, n⟩ (TS.drop k)) (fun i _ => TS.length - (intOf i).toNat)
  case atStart => exact ⟨0, K0, 0, 0, 0, Nat.zero_le _, rfl, HK3.out, HB3.out, Nat.zero_le _, by rw [HM0.out]; exact HRR.out⟩
  case round =>
   obtain ⟨k, K, pl, f, n, hk, rfl, hK, hB, hpl, hres⟩ := hrel
   have hk0 : (0 : Int) ≤ (k : Int) := by omega
   have HK := Lib.hid hK
   have HB := Lib.hid hB
   have HPL := Lib.hid hpl
   have hyr := (hB.block w.heap.size (lt_of_block HY2.out)).trans HY2.out
   by_cases hkl : k < TS.length
   ·rcases H9.out with ⟨h9, -⟩ | ⟨b, o, rfl, hlt, hc⟩
    ·rw [h9] at hkl; simp at hkl
    have c0 := (hB.cell (p := ⟨b, o + k, none⟩) hlt).trans (hc k hkl)
    have hx := List.getElem?_eq_getElem hkl
    rw [Tx.sv, List.getD_eq_getElem?_getD, hx, Option.getD_some] at c0
    generalize TS[k] = t1 at hx c0
    have hst := Mf.rp_step (s := ⟨K.map (·.2), f, n⟩) hx
    rw [← hres] at hst
    have CD := Lib.hid (Mf.decoded_c t1 wr (HT.out wr (HB2.out.trans (hB.mono HB2.out.size))) (by have := HLN.out.2 t1 (List.mem_of_getElem? hx); omega))
    have HST := Lib.hid hst
    have hki : (k : Int) < (TS.length : Int) := by omega
    have HKL := Lib.hid hkl
    clear hx hc hlt hkl hk hK hB hpl hres hst hyr
    go_wp2_with fail
    with_reducible refine CD.out.mono ?_
    rintro e w4 ⟨ok, vd, va, x, rfl, ⟨ad, nd, cd, rfl⟩, ⟨aa, na, ca, rfl⟩, hB4, hrd⟩
    have HB4 := Lib.hid hB4
    have hw24 := HB.out.trans (hB4.mono HB.out.size)
    have HY4 := Lib.hid ((hw24.block w.heap.size (lt_of_block HY2.out)).trans HY2.out)
    have HW24 := Lib.hid hw24
    clear CD c0 hB4 hw24
    rcases hrd with ⟨rfl, hr⟩ | ⟨rfl, hr, hD, hA⟩
    ·have HN : Hid (RES = none) := Lib.hid (by rw [HST.out, hr])
     have hyA := ((Below.refl w4.heap.size w4).alloc (Nat.le_refl _) (.cells #[.slice ad nd cd, .slice aa na ca, .int .i64 x.floor, .int .i64 x.next] 37)).block w.heap.size (lt_of_block HY4.out)
     obtain ⟨⟨y0, y1, y2⟩, z0, z1, z2⟩ := Mf.three (hyA.trans HY4.out)
     have hbA := (HB2.out.trans (HW24.out.mono HB2.out.size)).alloc (HB2.out.trans (HW24.out.mono HB2.out.size)).size (.cells #[.slice ad nd cd, .slice aa na ca, .int .i64 x.floor, .int .i64 x.next] 37)
     have HF := Lib.hid (Mf.GotS.bad (r := RES) HN.out (Mf.below3 (q := w.heap.size) hbA (Nat.le_refl _) (.slice none 0 0) (.int .i64 0) (.int .i64 0)))
     clear hr hyA hbA
     go_wp2
     (try simp only [Exit.inBlock, Exit.then])
     refine bodyPost_ret (v := .tuple #[.agg #[.slice none 0 0, .int .i64 0, .int .i64 0], .int .i64 8]) ?_ rfl HF.out
     rw [results_cell_tmp rfl]
     go_simp
    ·obtain ⟨w5, hw5⟩ : ∃ w5, w5 = w4.alloc (.cells #[.slice ad nd cd, .slice aa na ca, .int .i64 x.floor, .int .i64 x.next] 37) := ⟨_, rfl⟩
     have g5 : Below w4.heap.size w4 w5 := by rw [hw5]; exact (Below.refl _ _).alloc (Nat.le_refl _) _
     have hD5 := hD.kept g5
     have hA5 := hA.kept g5
     have hK5 := (HK.out.kept HB4.out).kept g5
     have hW5 := HW24.out.trans (g5.mono HW24.out.size)
     have CA := Mf.bapply_c (B := w2.heap.size) hK5 hW5.size (.slice ad nd cd) (.slice aa na ca) x (Mf.Oi.is hD5) hA5.ps (fun W g => ⟨Mf.Oi.is (g.own hD5 (by decide) (by decide)), Mf.Ow.ps (g.own hA5 (by decide) (by decide))⟩) (by have := HPL.out; have := HKL.out; have := HLN.out.1; omega)
     unfold Mf.GotB at CA
     have hst := HST.out
     rw [hr] at hst
     simp only at hst
     generalize Mf.ap ⟨K.map (·.2), f, n⟩ x = ra at CA hst
     have HS2 := Lib.hid hst
     have HW5 := Lib.hid hW5
     have HY5 := Lib.hid ((g5.block w.heap.size (lt_of_block HY4.out)).trans HY4.out)
     obtain ⟨e0, e1, e2, e3⟩ := Mf.EA.new w4 (.slice ad nd cd) (.slice aa na ca) x.floor x.next 37
     obtain ⟨XD, XA, XF, XN⟩ := x
     simp only at CA hw5 e0 e1 e2 e3 ⊢
     clear hr hD hA g5 hD5 hA5 hK5 hW5 hst HST
     go_wp2_with fail
     rw [← hw5]
     clear hw5 e0 e1 e2 e3
     with_reducible refine CA.mono ?_
     rintro e w6 ⟨hT6, ⟨hra, rfl⟩ | ⟨t6, K6, pl6, hra, rfl, hK6, hm6, hpl6⟩⟩
     ·have HN : Hid (RES = none) := Lib.hid (by rw [HS2.out, hra])
      have hw26 := HW5.out.trans hT6.below
      obtain ⟨⟨y0, y1, y2⟩, z0, z1, z2⟩ := Mf.three ((hw26.block w.heap.size (lt_of_block HY2.out)).trans HY2.out)
      have HF := Lib.hid (Mf.GotS.bad (r := RES) HN.out (Mf.below3 (q := w.heap.size) (HB2.out.trans (hw26.mono HB2.out.size)) (Nat.le_refl _) (.slice none 0 0) (.int .i64 0) (.int .i64 0)))
      clear hT6 hra hw26 CA
      go_wp2
      (try simp only [Exit.inBlock, Exit.then])
      refine bodyPost_ret (v := .tuple #[.agg #[.slice none 0 0, .int .i64 0, .int .i64 0], .int .i64 8]) ?_ rfl HF.out
      rw [results_cell_tmp rfl]
      go_simp
     ·have HN : Hid (RES = Mf.rp t6 (TS.drop (k + 1))) := Lib.hid (by rw [HS2.out, hra])
      have HK6 := Lib.hid hK6
      have HM6 := Lib.hid hm6
      have HW6 := Lib.hid (HW5.out.trans hT6.below)
      have HP6 : Hid (pl6 ≤ 1000 * (k + 1)) := Lib.hid (by have := HPL.out; omega)
      clear hT6 hra hK6 hm6 hpl6 CA
      go_wp2
      go_roundw
      case rel => exact ⟨k + 1, K6, pl6, t6.floor, t6.next, HKL.out, by simp, HK6.out, HW6.out, HP6.out, by rw [HM6.out]; exact HN.out⟩
      case measure => (have := HKL.out; simp [intOf]; omega)
   ·obtain rfl : k = TS.length := by omega
    have hki : ¬ (TS.length : Int) < (TS.length : Int) := by omega
    have HN : Hid (RES = some ⟨K.map (·.2), f, n⟩) := Lib.hid (by rw [hres, Mf.rp_end (by omega)])
    have CS := Mf.state_c hK (by have := HLN.out.1; omega)
    clear hk hkl hk0 hK hB hpl hres hyr
    go_wp2_with fail
    with_reducible refine CS.mono ?_
    rintro e w5 ⟨u, rfl, hu, hB5⟩
    have hw25 := HB.out.trans (hB5.mono HB.out.size)
    have hy5 := (hw25.block w.heap.size (lt_of_block HY2.out)).trans HY2.out
    obtain ⟨⟨y0, y1, y2⟩, z0, z1, z2⟩ := Mf.three hy5
    have hln := HLN.out.1
    obtain ⟨ua, un, uc, rfl⟩ : ∃ a n c, u = .slice a n c := hu.ps.form3
    have hbw := HB2.out.trans (hw25.mono HB2.out.size)
    have HPF := Lib.hid (World.ownsRow.mono (Mf.at_off hu hy5 (by decide) (Mf.heap3 w5 w.heap.size (.slice ua un uc) (.int .i64 f) (.int .i64 n))) (HB2.out.trans (HB.out.mono HB2.out.size)).size)
    have HBF := Lib.hid (Mf.below3 (q := w.heap.size) hbw (Nat.le_refl _) (.slice ua un uc) (.int .i64 f) (.int .i64 n))
    have HFF := Lib.hid (Mf.GotS.good (r := RES) HN.out HPF.out HBF.out)
    clear hu hB5 hw25 hy5 hbw CS
    unfold Mf.sv
    go_wp2
    (try simp only [Exit.inBlock, Exit.then])
    refine bodyPost_ret (v := .tuple #[.agg #[.slice ua un uc, .int .i64 f, .int .i64 n], .int .i64 0]) ?_ rfl HFF.out
    rw [results_cell_tmp rfl]
    go_simp
 ·have HN : Hid (RES = none) := Lib.hid (HRR.out.trans (if_neg (by decide)))
  obtain ⟨⟨y0, y1, y2⟩, z0, z1, z2⟩ := Mf.three hy2
  have HF := Lib.hid (Mf.GotS.bad (r := RES) HN.out (Mf.below3 (q := w.heap.size) HB2.out (Nat.le_refl _) (.slice none 0 0) (.int .i64 0) (.int .i64 0)))
  clear HE8 hy2
  simp only [Int.cast_ofNat_Int]
  go_wp2
  (try simp only [Exit.inBlock, Exit.then])
  refine bodyPost_ret (v := .tuple #[.agg #[.slice none 0 0, .int .i64 0, .int .i64 0], .int .i64 8]) ?_ rfl HF.out
  rw [results_cell_tmp rfl]
  go_simp
end Go.Proofs.YteaglaijkafphaaDoor
namespace Go.Proofs.YteaglaijkafphaaDoor
open Go Go.RowKit
theorem Mf.rp_len : ∀ (ts : List (List UInt8)) (s u : Mf.S), Mf.rp s ts = some u → u.parts.length ≤ s.parts.length + 1000 * ts.length
 | [], s, u, h => by
   have e : Mf.rp s ([] : List (List UInt8)) = some s := rfl
   rw [e] at h
   obtain rfl := Option.some.inj h
   exact Nat.le_add_right _ _
 | t :: ts, s, u, h => by
   have e := Mf.rp_step (s := s) (ts := t :: ts) (k := 0) (t := t) rfl
   rw [List.drop_zero] at e
   rw [e] at h
   cases hr : Mf.rd t with
   | none => rw [hr] at h; cases h
   | some x =>
     rw [hr] at h
     simp only at h
     cases ha : Mf.ap s x with
     | none => rw [ha] at h; cases h
     | some v =>
       rw [ha] at h
       have h1 := Mf.rp_len ts v u h
       have h2 := Mf.ap_len ha
       rw [List.length_cons]
       omega
theorem Mf.rr_few (l : List UInt8) (hl : l.length ≤ 16777216) : (Mf.st (Mf.rr l)).parts.length ≤ 9223372036854775000 := by
 cases h : Mf.rr l with
 | none => exact Nat.zero_le _
 | some u =>
   have hinv := (Mf.scan_inv _ l (Nat.le_refl _)).1
   unfold Mf.rr at h
   split at h
   ·have := Mf.rp_len _ _ _ h
    show u.parts.length ≤ _
    simp only [List.length_nil] at this
    omega
   ·cases h
end Go.Proofs.YteaglaijkafphaaDoor
namespace Go.Proofs.YteaglaijkafphaaDoor
open Go Go.RowKit
theorem Mf.Bb.endAt {w wr : World} {p : Nat} {u : Value} {f n : Int} {A : List Mf.P} {vE vS : Value} {es : List Mf.E} {T : List Mf.T3} {SS : List Mf.S} (h : Mf.Bb w wr p u f n A vE vS (Mf.ens es) T SS) :
 ∃ ea ec, vE = .slice ea es.length ec ∧ ∀ i, i < es.length → ∃ g, ea = some ⟨g, 0, none⟩ ∧ ∀ W, Below wr.heap.size wr W → W.cell? ⟨g, i, none⟩ = some (.int .i64 ((Mf.en es i : Nat) : Int)) := by
 rcases Dk.Own.form h.ends with ⟨h1, h2⟩ | ⟨g, c9, h1, h2, h3, h4⟩
 ·have h5 : es.length = 0 := by rw [← Mf.ens_len, h2]; rfl
  exact ⟨none, 0, by rw [h1, h5], fun i hi => absurd hi (by omega)⟩
 ·refine ⟨some ⟨g, 0, none⟩, c9, by rw [h1, Mf.ens_len], fun i hi => ⟨g, rfl, fun W gW => ?_⟩⟩
  have hE := Dk.Own.kept h.ends gW
  rw [h1] at hE
  have := Dk.Own.cell Mf.ic_len hE (g := g) rfl (Mf.ens_get hi) (show 0 < 1 by decide)
  simp only [Nat.mul_one, Nat.add_zero] at this
  exact this
theorem Mf.Bb.stAt {w wr : World} {p : Nat} {u : Value} {f n : Int} {A : List Mf.P} {vE vS : Value} {es : List Mf.E} {T : List Mf.T3} {SS : List Mf.S} (h : Mf.Bb w wr p u f n A vE vS (Mf.ens es) T SS) (hl : SS.length = es.length) :
 ∃ sa sc, vS = .slice sa es.length sc ∧ ∀ i, i < es.length → ∃ g, sa = some ⟨g, 0, none⟩ ∧ ∃ (a1 : Option Addr) (l1 c1 : Nat), Mf.Ow (p + 1) wr (.slice a1 l1 c1) (Mf.nth SS (i + 1)).parts ∧ ∀ W, Below wr.heap.size wr W → W.cell? ⟨g, i * 3, none⟩ = some (.slice a1 l1 c1) ∧ W.cell? ⟨g, i * 3 + 1, none⟩ = some (.int .i64 (Mf.nth SS (i + 1)).floor) ∧ W.cell? ⟨g, i * 3 + 2, none⟩ = some (.int .i64 (Mf.nth SS (i + 1)).next) := by
 have hTl : T.length = es.length := by rw [h.rd.1, hl]
 rcases Dk.Own.form h.sts with ⟨h1, h2⟩ | ⟨g, c9, h1, h2, h3, h4⟩
 ·have h5 : es.length = 0 := by rw [← hTl, h2]; rfl
  exact ⟨none, 0, by rw [h1, h5], fun i hi => absurd hi (by omega)⟩
 ·refine ⟨some ⟨g, 0, none⟩, c9, by rw [h1, hTl], fun i hi => ⟨g, rfl, ?_⟩⟩
  have hiT : i < T.length := by omega
  have hiS : i < SS.length := by omega
  have hx : T[i]? = some T[i] := List.getElem?_eq_getElem hiT
  have hs9 : SS[i]? = some SS[i] := List.getElem?_eq_getElem hiS
  obtain ⟨r1, r2⟩ := h.rd.2 i _ _ hx hs9
  have hn : Mf.nth SS (i + 1) = SS[i] := by
   unfold Mf.nth
   rw [if_neg (by omega), Nat.add_sub_cancel, List.getD_eq_getElem?_getD, hs9]
   rfl
  rw [hn]
  generalize T[i] = x at hx r1 r2
  generalize SS[i] = t at r1 r2
  obtain ⟨⟨a1, l1, c1⟩, f1, n1⟩ := x
  simp only [Prod.mk.injEq] at r1
  obtain ⟨rfl, rfl⟩ := r1
  refine ⟨a1, l1, c1, r2, fun W gW => ?_⟩
  have hE := Dk.Own.kept h.sts gW
  rw [h1] at hE
  exact ⟨Dk.Own.cell Mf.sc3_len hE (g := g) rfl hx (show 0 < 3 by decide), Dk.Own.cell Mf.sc3_len hE (g := g) rfl hx (show 1 < 3 by decide), Dk.Own.cell Mf.sc3_len hE (g := g) rfl hx (show 2 < 3 by decide)⟩
theorem Mf.ex_cut (es : List Mf.E) (q : Nat) : ∀ n, n ≤ es.length → ∃ m, m ≤ n ∧ (∀ j, j < m → Mf.en es j ≤ q) ∧ (m = n ∨ q < Mf.en es m)
 | 0, _ => ⟨0, Nat.le_refl _, fun _ h => absurd h (Nat.not_lt_zero _), .inl rfl⟩
 | n + 1, h => by
   obtain ⟨m, h1, h2, h3⟩ := Mf.ex_cut es q n (by omega)
   rcases h3 with rfl | h3
   ·by_cases hq : Mf.en es m ≤ q
    ·refine ⟨m + 1, Nat.le_refl _, fun j hj => ?_, .inl rfl⟩
     rcases Nat.lt_or_ge j m with h4 | h4
     ·exact h2 j h4
     ·obtain rfl : j = m := by omega
      exact hq
    ·exact ⟨m, by omega, h2, .inr (by omega)⟩
   ·exact ⟨m, by omega, h2, .inr h3⟩
theorem Mf.ext_at (s : ByteArray) (q : Nat) : s.extract 0 q = Ty.S (s.data.toList.take q) := by
 apply ByteArray.ext
 rw [ByteArray.data_extract]
 apply Array.toList_inj.1
 rw [Array.toList_extract]
 unfold Ty.S
 simp
set_option maxHeartbeats 16000000 in
set_option maxRecDepth 100000 in
theorem Mf.back_w (v : Value) (L : List Mf.E) (cut : Int) (w : World) (hT : Ty.Tabs w) (hL : Mf.Es w v L) (h9 : ∀ e ∈ L, ∀ p ∈ e.add, Mf.ok9 p) :
 Calls Tryd.prog 4 #[v, .int .i64 cut] w fun e w' => e = .returned (.bool true) ∧ Below w.heap.size w w' := by
 have HES := Lib.hid hL
 have HT := Lib.hid hT
 have HI : Hid (∀ e ∈ L, ∀ p ∈ e.add, p.i64) := Lib.hid fun e he p hp => (h9 e he p hp).1
 obtain ⟨a, c, rfl, -⟩ := hL
 clear hT h9
 go_enter Tryd.func4, Tryd.ntmps4
 go_wp2_with fail
 with_reducible refine (Mf.lives_c w).mono ?_
 rintro e w1 ⟨rfl, g1⟩
 obtain ⟨w2, hw2⟩ : ∃ w2, w2 = w1.alloc (.cells #[.slice none 0 0, .int .i64 0, .int .i64 0] 25) := ⟨_, rfl⟩
 obtain ⟨p, hp⟩ : ∃ p, p = w1.heap.size := ⟨_, rfl⟩
 have hlp : Mf.Bb w w2 p (.slice none 0 0) 0 0 [] (.slice none 0 0) (.slice none 0 0) (Mf.ens []) [] [] := by
  have g2 : Below w1.heap.size w1 w2 := by rw [hw2]; exact (Below.refl _ _).alloc (Nat.le_refl _) _
  have hb := heap_alloc_new w1 (.cells #[.slice none 0 0, .int .i64 0, .int .i64 0] 25)
  rw [← hw2, ← hp] at hb
  exact ⟨hb, Mf.Ow.nil _ _, g1.trans (g2.mono g1.size), by have := g1.size; omega, by rw [hw2, World.size_alloc]; omega, Mf.Oi.nil _ _, Mf.Os.nil _ _, Mf.Rd3.nil _ _⟩
 have HLP := Lib.hid hlp
 clear g1 hlp
 go_upto_block 0 with fail
 rw [← hw2]
 rw [← hp]
 clear hw2 hp
 go_cut [5, 6, 7] from 9 (fun s5 s6 s7 wx => ∃ (es : List Mf.E) (s : Mf.S) (u vE vS : Value) (T : List Mf.T3) (SS : List Mf.S), s5 = .string (Ty.S (Mf.tx es)) ∧ s6 = vE ∧ s7 = vS ∧ es.length ≤ 50 ∧ Mf.Bs es s SS ∧ Mf.Bb w wx p u s.floor s.next s.parts vE vS (Mf.ens es) T SS)
 case first =>
  go_wp2_with fail
  go_loopw [5, 6, 7, 9] (fun s5 s6 s7 i wr => ∃ (k : Nat) (s : Mf.S) (u vE vS : Value) (T : List Mf.T3) (SS : List Mf.S), k ≤ L.length ∧ k ≤ 50 ∧ i = .int .i64 k ∧ s5 = .string (Ty.S (Mf.tx (L.take k))) ∧ s6 = vE ∧ s7 = vS ∧ Mf.Bs (L.take k) s SS ∧ Mf.Bb w wr p u s.floor s.next s.parts vE vS (Mf.ens (L.take k)) T SS) (fun _ _ _ i _ => L.length - (intOf i).toNat)
  case atStart => exact ⟨0, ⟨[], 0, 0⟩, _, _, _, [], [], Nat.zero_le _, Nat.zero_le _, rfl, rfl, rfl, rfl, Mf.Bs.none, HLP.out⟩
  case round =>
   obtain ⟨k, s, u, vE, vS, T, SS, hk, hk50, rfl, rfl, rfl, rfl, hbs, hbb⟩ := hrel
   have hk0 : (0 : Int) ≤ (k : Int) := by omega
   have hk9 : (k : Int) ≤ 50 := by omega
   have hkl9 : (L.take k).length = k := by rw [List.length_take]; omega
   have HP := Lib.hid hbb
   have HBS := Lib.hid hbs
   have HK50 : Hid ((L.take k).length ≤ 50) := Lib.hid (by omega)
   obtain ⟨au, cu, rfl⟩ := hbb.own.ps.len_le
   by_cases hgo : k < L.length ∧ k < 50
   ·obtain ⟨hkl, hk5⟩ := hgo
    have HKL : Hid (k + 1 ≤ L.length ∧ k + 1 ≤ 50) := Lib.hid ⟨hkl, hk5⟩
    have hx := List.getElem?_eq_getElem hkl
    have htk : L.take (k + 1) = L.take k ++ [L[k]] := by rw [List.take_add_one, hx]; rfl
    have hie : ∀ p ∈ L[k].add, p.i64 := HI.out _ (List.getElem_mem hkl)
    generalize L[k] = e at hx htk hie
    have HTK := Lib.hid htk.symm
    have HIE := Lib.hid hie
    obtain ⟨b, o, vd, va, rfl, hEC, hD, hA⟩ := (HES.out.kept hbb.below).at_ hx
    have hki : (k : Int) < (L.length : Int) := by omega
    have hki5 : (k : Int) < 50 := by omega
    have CW := Lib.hid (Mf.write_c vd va e wr (HT.out.below hbb.below (Ty.Tabs.two HT.out)) hD hA hie)
    have HW3 := Lib.hid fun (W : World) (g : Below wr.heap.size wr W) => And.intro (hEC.kept g) (And.intro (hD.kept g) (hA.kept g))
    obtain ⟨c0, c1, c2, c3⟩ := hEC
    obtain ⟨SP, SF, SN⟩ := s
    obtain ⟨ED, EA, EF, EN⟩ := e
    simp only at CW HP HW3 HIE c0 c1 c2 c3 ⊢
    have htn : Mf.tx (L.take (k + 1)) = Mf.tx (L.take k) ++ Fr.frm (Mf.enc ⟨ED, EA, EF, EN⟩) := by rw [htk, Mf.tx_snoc]
    have htl := Mf.tx_len hbs.vs
    clear hx hbb hD hA hie htk
    go_wp2_with fail
    with_reducible refine CW.out.mono ?_
    rintro e9 wr3 ⟨rfl, g9⟩
    have hP3 := HP.out.kept g9
    obtain ⟨hEC, hD, hA⟩ := HW3.out wr3 g9
    clear CW c0 c1 c2 c3 HW3 g9 HP
    have HP := Lib.hid hP3
    clear hP3
    generalize wr3 = wr at *
    have HDR : Hid (Below wr.heap.size wr wr.drew) := Lib.hid (Kn.below_drewN (Below.refl _ _) 1)
    have CA := Lib.hid (Mf.apply_c (.slice au SP.length cu) vd va ⟨SP, SF, SN⟩ ⟨ED, EA, EF, EN⟩ wr.drew (HP.out.own.ps.kept HDR.out) (hD.kept HDR.out) (hA.kept HDR.out) HBS.out.gd.ids (by have h1 := HBS.out.gd.len; have h2 := HK50.out; show SP.length ≤ _; have h3 : SP.length ≤ (L.take k).length * 1000 := h1; omega))
    have HS0 : Hid ((wr.drew.cell? ⟨p, 0, none⟩ = some (.slice au SP.length cu) ∧ wr.drew.cell? ⟨p, 1, none⟩ = some (.int .i64 SF) ∧ wr.drew.cell? ⟨p, 2, none⟩ = some (.int .i64 SN)) ∧ wr.drew.cell? ⟨b, o + k * 4, none⟩ = some vd ∧ wr.drew.cell? ⟨b, o + k * 4 + 1, none⟩ = some va ∧ wr.drew.cell? ⟨b, o + k * 4 + 2, none⟩ = some (.int .i64 EF) ∧ wr.drew.cell? ⟨b, o + k * 4 + 3, none⟩ = some (.int .i64 EN)) := Lib.hid (by
     obtain ⟨c0, c1, c2, c3⟩ := hEC.kept HDR.out
     exact ⟨(Mf.three (HP.out.kept HDR.out).box).1, c0, c1, c2, c3⟩)
    have HS1 : Hid (∀ W, Below wr.drew.heap.size wr.drew W → (W.cell? ⟨p, 0, none⟩ = some (.slice au SP.length cu) ∧ W.cell? ⟨p, 1, none⟩ = some (.int .i64 SF) ∧ W.cell? ⟨p, 2, none⟩ = some (.int .i64 SN)) ∧ W.cell? ⟨b, o + k * 4, none⟩ = some vd ∧ W.cell? ⟨b, o + k * 4 + 1, none⟩ = some va ∧ W.cell? ⟨b, o + k * 4 + 2, none⟩ = some (.int .i64 EF) ∧ W.cell? ⟨b, o + k * 4 + 3, none⟩ = some (.int .i64 EN)) := Lib.hid fun W g => by
     obtain ⟨c0, c1, c2, c3⟩ := (hEC.kept HDR.out).kept g
     exact ⟨(Mf.three ((HP.out.kept HDR.out).kept g).box).1, c0, c1, c2, c3⟩
    have HDA : Hid (Below wr.drew.heap.size wr.drew (wr.alloc (.cells #[.slice none 0 0, .int .i64 0, .int .i64 0] 25)).drew) := Lib.hid ((Below.refl wr.drew.heap.size wr.drew).alloc (Nat.le_refl _) _)
    have CB := Lib.hid (Mf.apply_c (.slice au SP.length cu) vd va ⟨SP, SF, SN⟩ ⟨ED, EA, EF, EN⟩ (wr.alloc (.cells #[.slice none 0 0, .int .i64 0, .int .i64 0] 25)).drew ((HP.out.own.ps.kept HDR.out).kept HDA.out) ((hD.kept HDR.out).kept HDA.out) ((hA.kept HDR.out).kept HDA.out) HBS.out.gd.ids (by have h1 := HBS.out.gd.len; have h2 := HK50.out; show SP.length ≤ _; have h3 : SP.length ≤ (L.take k).length * 1000 := h1; omega))
    have HSP : Hid (p + 1 ≤ wr.heap.size) := Lib.hid HP.out.size
    have HSA : Hid ((wr.alloc (.cells #[.slice none 0 0, .int .i64 0, .int .i64 0] 25)).drew.heap.size = wr.heap.size + 1) := Lib.hid (World.size_alloc ..)
    have HAN : Hid ((wr.alloc (.cells #[.slice none 0 0, .int .i64 0, .int .i64 0] 25)).drew.heap[wr.heap.size]? = some (.cells #[.slice none 0 0, .int .i64 0, .int .i64 0] 25 (0, 0))) := Lib.hid (heap_alloc_new wr _)
    unfold Mf.sv Mf.GotS at CA CB
    unfold Mf.wV
    clear hEC hD hA hbs
    by_cases hr : Mf.right ⟨ED, EA, EF, EN⟩ = true
    ·rw [if_pos hr]
     have HR := Lib.hid hr
     have htz : (Mf.tx (L.take (k + 1))).length ≤ 20000000 := by
      have := Mf.enc_len hr
      rw [htn, List.length_append, Fr.frm_len]
      omega
     have hct : Ty.S (Mf.tx (L.take k)) ++ Ty.S (Fr.frm (Mf.enc ⟨ED, EA, EF, EN⟩)) = Ty.S (Mf.tx (L.take (k + 1))) := by rw [htn]; exact Mf.S_add _ _
     have n1 : ¬ 9223372036854775807 < (Ty.S (Mf.tx (L.take k))).size + (Ty.S (Fr.frm (Mf.enc ⟨ED, EA, EF, EN⟩))).size := by
      rw [Ty.size_S, Ty.size_S]
      rw [htn, List.length_append] at htz
      omega
     obtain ⟨Z, hZ⟩ : ∃ Z, Z = (Mf.tx (L.take (k + 1))).length := ⟨_, rfl⟩
     have hez : (Ty.S (Mf.tx (L.take (k + 1)))).size = Z := by rw [Ty.size_S, hZ]
     have HEN : Hid (Mf.ens (L.take k) ++ [((Z : Nat) : Int)] = Mf.ens (L.take (k + 1))) := Lib.hid (by rw [hZ, ← HTK.out, Mf.ens_snoc])
     obtain ⟨S2, hS2⟩ : ∃ S2, S2 = Ty.S (Mf.tx (L.take (k + 1))) := ⟨_, rfl⟩
     have HTX := Lib.hid hS2
     rw [← hS2] at hct hez
     have hz9 : Z ≤ 20000000 := by omega
     obtain ⟨X, hX⟩ : ∃ X, X = Ty.S (Mf.tx (L.take k)) := ⟨_, rfl⟩
     rw [← hX] at n1 hct ⊢
     have HX := Lib.hid hX
     generalize Ty.S (Fr.frm (Mf.enc ⟨ED, EA, EF, EN⟩)) = Y at n1 hct
     clear hr htz htn htl hZ hS2 hX
     obtain ⟨r, hr9⟩ : ∃ r, r = Mf.ap ⟨SP, SF, SN⟩ ⟨ED, EA, EF, EN⟩ := ⟨_, rfl⟩
     rw [← hr9] at CA CB
     have HRR := Lib.hid hr9.symm
     clear hr9
     simp only at CA CB ⊢
     go_wp2_with fail
     go_region_held3 (fun W => (W.cell? ⟨p, 0, none⟩ = some (.slice au SP.length cu) ∧ W.cell? ⟨p, 1, none⟩ = some (.int .i64 SF) ∧ W.cell? ⟨p, 2, none⟩ = some (.int .i64 SN)) ∧ W.cell? ⟨b, o + k * 4, none⟩ = some vd ∧ W.cell? ⟨b, o + k * 4 + 1, none⟩ = some va ∧ W.cell? ⟨b, o + k * 4 + 2, none⟩ = some (.int .i64 EF) ∧ W.cell? ⟨b, o + k * 4 + 3, none⟩ = some (.int .i64 EN))
      (first
       | exact HS0.out
       | exact HS1.out _ HDA.out
       | exact HS1.out _ G3.out
       | exact HS1.out _ (G3.out.alloc G3.out.size _)
       | exact HS1.out _ (Mf.below3 (G3.out.alloc G3.out.size _) G3.out.size _ _ _)
       | exact HS1.out _ (Mf.below3 G3.out (Nat.le_refl _) _ _ _))
      (first
       | (go_at_call 10; (with_reducible refine CA.out.mono ?_); rintro e w3 ⟨u3, rfl, hu3, g3⟩; obtain ⟨a3, c3, rfl⟩ := hu3.ps.len_le; have HU3 := Lib.hid hu3; have G3 := Lib.hid g3; obtain ⟨⟨y0, y1, y2⟩, z0, z1, z2⟩ := Mf.three (heap_alloc_new w3 (.cells #[.slice none 0 0, .int .i64 0, .int .i64 0] 25)); clear hu3 g3)
       | (go_at_call 10; (with_reducible refine CB.out.mono ?_); rintro e w3 ⟨u3, rfl, hu3, g3⟩; obtain ⟨a3, c3, rfl⟩ := hu3.ps.len_le; have HU3 := Lib.hid hu3; have G4 := Lib.hid g3; have G3 := Lib.hid (HDA.out.trans (g3.mono HDA.out.size)); obtain ⟨⟨y0, y1, y2⟩, z0, z1, z2⟩ := Mf.three ((g3.block wr.heap.size (by rw [HSA.out]; omega)).trans HAN.out); clear hu3 g3))
     ·have NW := Lib.hid (Mf.Nw.a (p := p) (t := Mf.st r) HSP.out HU3.out G3.out)
      clear HU3 G3
      obtain ⟨w5, hw5⟩ : ∃ w5, w5 = w3.alloc (.cells #[.slice a3 (Mf.st r).parts.length c3, .int .i64 (Mf.st r).floor, .int .i64 (Mf.st r).next] 25) := ⟨_, rfl⟩
      obtain ⟨q, hq⟩ : ∃ q, q = w3.heap.size := ⟨_, rfl⟩
      rw [← hw5, ← hq] at NW
      rw [← hw5]
      first
       | rw [← hq]
       | skip
      clear hw5 hq
      clear CA CB HS0 HS1 HDR HDA HSA HAN
      rcases r with _ | ⟨TP, TF, TN⟩
      ·clear HRR
       have HM := Lib.hid (HP.out.kept NW.out.below)
       clear NW
       simp only [Mf.er]
       go_wp2_with fail
       go_meet
       case rel => exact ⟨_, _, _, _, _, _, _, (by first | rfl | exact congrArg Value.string HX.out), rfl, rfl, HK50.out, HBS.out, HM.out⟩
      ·have HAP := Lib.hid HRR.out
       have HBS2 := Lib.hid (HBS.out.step HR.out HIE.out HAP.out)
       have HM := Lib.hid (HP.out.set (f' := TF) (n' := TN) (A' := TP) NW.out.below NW.out.own)
       obtain ⟨⟨b0, b1, b2⟩, f0, f1, f2⟩ := Mf.three (HP.out.kept NW.out.below).box
       obtain ⟨⟨d0, d1, d2⟩, -⟩ := Mf.three NW.out.box
       simp only [Mf.er, Mf.st] at HM b0 b1 b2 f0 f1 f2 d0 d1 d2 ⊢
       obtain ⟨w6, hw6⟩ : ∃ w6, w6 = ((w5.setCell ⟨p, 0, none⟩ (.slice a3 TP.length c3)).setCell ⟨p, 1, none⟩ (.int .i64 TF)).setCell ⟨p, 2, none⟩ (.int .i64 TN) := ⟨_, rfl⟩
       rw [← hw6] at HM
       have HM2 := Lib.hid (HM.out.kept ((Below.refl w6.heap.size w6).alloc (Nat.le_refl _) (.cells #[.int .i64 ((Z : Nat) : Int)] 3)))
       have HSR := Lib.hid (Dk.src_one (enc := Mf.ic) w6 ((Z : Nat) : Int) #[.int .i64 ((Z : Nat) : Int)] rfl 3)
       have HTL : Hid (T.length ≤ 50 ∧ (Mf.ens (L.take k)).length ≤ 50) := Lib.hid ⟨by rw [HP.out.rd.1, HBS.out.len]; exact HK50.out, by rw [Mf.ens_len]; exact HK50.out⟩
       clear NW
       go_upto_region 14 with fail
       rw [← hw6]
       clear hw6 b0 b1 b2 f0 f1 f2 d0 d1 d2
       go_wp2_with (first
        | (at_builtin; refine Mf.wpList_int [((Z : Nat) : Int)] HM2.out.ends HM2.out.size (by have := HTL.out.2; simp only [List.length_singleton]; omega) HSR.out (.tmp 60) (.tmp 63) (by rfl) (by rfl) (by rfl) (by rfl) ?_; intro v7 w7 o7 g7; have B7 := Lib.hid (HM2.out.growE g7 o7); obtain ⟨⟨q0, q1, q2⟩, -⟩ := Mf.three B7.out.box; have B7a := Lib.hid (B7.out.kept ((Below.refl w7.heap.size w7).alloc (Nat.le_refl _) (.cells #[.slice a3 TP.length c3, .int .i64 TF, .int .i64 TN] 25))); have HSR2 := Lib.hid (Dk.src_one (enc := Mf.sc3) w7 ((a3, TP.length, c3), TF, TN) #[.slice a3 TP.length c3, .int .i64 TF, .int .i64 TN] rfl 25); clear o7 g7)
        | (at_builtin; refine Mf.wpList_state [((a3, TP.length, c3), TF, TN)] B7a.out.sts B7a.out.size (by have := HTL.out.1; simp only [List.length_singleton]; omega) HSR2.out (.tmp 65) (.tmp 67) (by rfl) (by rfl) (by rfl) (by rfl) ?_; intro v8 w8 o8 g8; have B8 := Lib.hid (B7a.out.growS g8 o8); clear o8 g8))
       go_wp2
       go_roundw
       case rel => exact ⟨k + 1, ⟨TP, TF, TN⟩, _, _, _, _, _, HKL.out.1, HKL.out.2, by simp, by rw [HTX.out], rfl, rfl, HTK.out ▸ HBS2.out, (by have h9 := B8.out; rw [HEN.out] at h9; exact h9)⟩
       case measure => (have := HKL.out.1; simp [intOf]; omega)
     ·have NW := Lib.hid (Mf.Nw.b (p := p) (t := Mf.st r) HSP.out HU3.out G4.out)
      clear HU3 G3
      obtain ⟨w5, hw5⟩ : ∃ w5, w5 = ((w3.setCell ⟨wr.heap.size, 0, none⟩ (.slice a3 (Mf.st r).parts.length c3)).setCell ⟨wr.heap.size, 1, none⟩ (.int .i64 (Mf.st r).floor)).setCell ⟨wr.heap.size, 2, none⟩ (.int .i64 (Mf.st r).next) := ⟨_, rfl⟩
      obtain ⟨q, hq⟩ : ∃ q, q = wr.heap.size := ⟨_, rfl⟩
      rw [← hw5, ← hq] at NW
      rw [← hw5]
      first
       | rw [← hq]
       | skip
      clear hw5 hq
      clear CA CB HS0 HS1 HDR HDA HSA HAN
      rcases r with _ | ⟨TP, TF, TN⟩
      ·clear HRR
       have HM := Lib.hid (HP.out.kept NW.out.below)
       clear NW
       simp only [Mf.er]
       go_wp2_with fail
       go_meet
       case rel => exact ⟨_, _, _, _, _, _, _, (by first | rfl | exact congrArg Value.string HX.out), rfl, rfl, HK50.out, HBS.out, HM.out⟩
      ·have HAP := Lib.hid HRR.out
       have HBS2 := Lib.hid (HBS.out.step HR.out HIE.out HAP.out)
       have HM := Lib.hid (HP.out.set (f' := TF) (n' := TN) (A' := TP) NW.out.below NW.out.own)
       obtain ⟨⟨b0, b1, b2⟩, f0, f1, f2⟩ := Mf.three (HP.out.kept NW.out.below).box
       obtain ⟨⟨d0, d1, d2⟩, -⟩ := Mf.three NW.out.box
       simp only [Mf.er, Mf.st] at HM b0 b1 b2 f0 f1 f2 d0 d1 d2 ⊢
       obtain ⟨w6, hw6⟩ : ∃ w6, w6 = ((w5.setCell ⟨p, 0, none⟩ (.slice a3 TP.length c3)).setCell ⟨p, 1, none⟩ (.int .i64 TF)).setCell ⟨p, 2, none⟩ (.int .i64 TN) := ⟨_, rfl⟩
       rw [← hw6] at HM
       have HM2 := Lib.hid (HM.out.kept ((Below.refl w6.heap.size w6).alloc (Nat.le_refl _) (.cells #[.int .i64 ((Z : Nat) : Int)] 3)))
       have HSR := Lib.hid (Dk.src_one (enc := Mf.ic) w6 ((Z : Nat) : Int) #[.int .i64 ((Z : Nat) : Int)] rfl 3)
       have HTL : Hid (T.length ≤ 50 ∧ (Mf.ens (L.take k)).length ≤ 50) := Lib.hid ⟨by rw [HP.out.rd.1, HBS.out.len]; exact HK50.out, by rw [Mf.ens_len]; exact HK50.out⟩
       clear NW
       go_upto_region 14 with fail
       rw [← hw6]
       clear hw6 b0 b1 b2 f0 f1 f2 d0 d1 d2
       go_wp2_with (first
        | (at_builtin; refine Mf.wpList_int [((Z : Nat) : Int)] HM2.out.ends HM2.out.size (by have := HTL.out.2; simp only [List.length_singleton]; omega) HSR.out (.tmp 60) (.tmp 63) (by rfl) (by rfl) (by rfl) (by rfl) ?_; intro v7 w7 o7 g7; have B7 := Lib.hid (HM2.out.growE g7 o7); obtain ⟨⟨q0, q1, q2⟩, -⟩ := Mf.three B7.out.box; have B7a := Lib.hid (B7.out.kept ((Below.refl w7.heap.size w7).alloc (Nat.le_refl _) (.cells #[.slice a3 TP.length c3, .int .i64 TF, .int .i64 TN] 25))); have HSR2 := Lib.hid (Dk.src_one (enc := Mf.sc3) w7 ((a3, TP.length, c3), TF, TN) #[.slice a3 TP.length c3, .int .i64 TF, .int .i64 TN] rfl 25); clear o7 g7)
        | (at_builtin; refine Mf.wpList_state [((a3, TP.length, c3), TF, TN)] B7a.out.sts B7a.out.size (by have := HTL.out.1; simp only [List.length_singleton]; omega) HSR2.out (.tmp 65) (.tmp 67) (by rfl) (by rfl) (by rfl) (by rfl) ?_; intro v8 w8 o8 g8; have B8 := Lib.hid (B7a.out.growS g8 o8); clear o8 g8))
       go_wp2
       go_roundw
       case rel => exact ⟨k + 1, ⟨TP, TF, TN⟩, _, _, _, _, _, HKL.out.1, HKL.out.2, by simp, by rw [HTX.out], rfl, rfl, HTK.out ▸ HBS2.out, (by have h9 := B8.out; rw [HEN.out] at h9; exact h9)⟩
       case measure => (have := HKL.out.1; simp [intOf]; omega)
    ·rw [if_neg hr]
     have hrf : Mf.right ⟨ED, EA, EF, EN⟩ = false := by simpa using hr
     rw [Mf.ap_not (.inl hrf)] at CA CB
     obtain ⟨r, hr9⟩ : ∃ r : Option Mf.S, r = none := ⟨_, rfl⟩
     rw [← hr9] at CA CB
     have HRR := Lib.hid hr9
     clear hr htn htl hrf hr9
     simp only at CA CB ⊢
     go_wp2_with fail
     go_region_held3 (fun W => (W.cell? ⟨p, 0, none⟩ = some (.slice au SP.length cu) ∧ W.cell? ⟨p, 1, none⟩ = some (.int .i64 SF) ∧ W.cell? ⟨p, 2, none⟩ = some (.int .i64 SN)) ∧ W.cell? ⟨b, o + k * 4, none⟩ = some vd ∧ W.cell? ⟨b, o + k * 4 + 1, none⟩ = some va ∧ W.cell? ⟨b, o + k * 4 + 2, none⟩ = some (.int .i64 EF) ∧ W.cell? ⟨b, o + k * 4 + 3, none⟩ = some (.int .i64 EN))
      (first
       | exact HS0.out
       | exact HS1.out _ HDA.out
       | exact HS1.out _ G3.out
       | exact HS1.out _ (G3.out.alloc G3.out.size _)
       | exact HS1.out _ (Mf.below3 (G3.out.alloc G3.out.size _) G3.out.size _ _ _)
       | exact HS1.out _ (Mf.below3 G3.out (Nat.le_refl _) _ _ _))
      (first
       | (go_at_call 10; (with_reducible refine CA.out.mono ?_); rintro e w3 ⟨u3, rfl, hu3, g3⟩; obtain ⟨a3, c3, rfl⟩ := hu3.ps.len_le; have HU3 := Lib.hid hu3; have G3 := Lib.hid g3; obtain ⟨⟨y0, y1, y2⟩, z0, z1, z2⟩ := Mf.three (heap_alloc_new w3 (.cells #[.slice none 0 0, .int .i64 0, .int .i64 0] 25)); clear hu3 g3)
       | (go_at_call 10; (with_reducible refine CB.out.mono ?_); rintro e w3 ⟨u3, rfl, hu3, g3⟩; obtain ⟨a3, c3, rfl⟩ := hu3.ps.len_le; have HU3 := Lib.hid hu3; have G4 := Lib.hid g3; have G3 := Lib.hid (HDA.out.trans (g3.mono HDA.out.size)); obtain ⟨⟨y0, y1, y2⟩, z0, z1, z2⟩ := Mf.three ((g3.block wr.heap.size (by rw [HSA.out]; omega)).trans HAN.out); clear hu3 g3))
     ·have NW := Lib.hid (Mf.Nw.a (p := p) (t := Mf.st r) HSP.out HU3.out G3.out)
      clear HU3 G3
      obtain ⟨w5, hw5⟩ : ∃ w5, w5 = w3.alloc (.cells #[.slice a3 (Mf.st r).parts.length c3, .int .i64 (Mf.st r).floor, .int .i64 (Mf.st r).next] 25) := ⟨_, rfl⟩
      obtain ⟨q, hq⟩ : ∃ q, q = w3.heap.size := ⟨_, rfl⟩
      rw [← hw5, ← hq] at NW
      rw [← hw5]
      first
       | rw [← hq]
       | skip
      clear hw5 hq
      clear CA CB HS0 HS1 HDR HDA HSA HAN
      obtain rfl := HRR.out
      clear HRR
      have HM := Lib.hid (HP.out.kept NW.out.below)
      clear NW
      simp only [Mf.er]
      go_wp2_with fail
      go_meet
      case rel => exact ⟨_, _, _, _, _, _, _, (by first | rfl | exact congrArg Value.string HX.out), rfl, rfl, HK50.out, HBS.out, HM.out⟩
     ·have NW := Lib.hid (Mf.Nw.b (p := p) (t := Mf.st r) HSP.out HU3.out G4.out)
      clear HU3 G3
      obtain ⟨w5, hw5⟩ : ∃ w5, w5 = ((w3.setCell ⟨wr.heap.size, 0, none⟩ (.slice a3 (Mf.st r).parts.length c3)).setCell ⟨wr.heap.size, 1, none⟩ (.int .i64 (Mf.st r).floor)).setCell ⟨wr.heap.size, 2, none⟩ (.int .i64 (Mf.st r).next) := ⟨_, rfl⟩
      obtain ⟨q, hq⟩ : ∃ q, q = wr.heap.size := ⟨_, rfl⟩
      rw [← hw5, ← hq] at NW
      rw [← hw5]
      first
       | rw [← hq]
       | skip
      clear hw5 hq
      clear CA CB HS0 HS1 HDR HDA HSA HAN
      obtain rfl := HRR.out
      clear HRR
      have HM := Lib.hid (HP.out.kept NW.out.below)
      clear NW
      simp only [Mf.er]
      go_wp2_with fail
      go_meet
      case rel => exact ⟨_, _, _, _, _, _, _, (by first | rfl | exact congrArg Value.string HX.out), rfl, rfl, HK50.out, HBS.out, HM.out⟩
   ·by_cases hkl : k < L.length
    ·have hki : (k : Int) < (L.length : Int) := by omega
     have hki5 : ¬ (k : Int) < 50 := by omega
     clear hbb hbs hgo hkl hk hk50 hk0 hkl9
     go_wp2_with fail
     go_meet
     case rel => exact ⟨_, _, _, _, _, _, _, rfl, rfl, rfl, HK50.out, HBS.out, HP.out⟩
    ·have hki : ¬ (k : Int) < (L.length : Int) := by omega
     clear hbb hbs hgo hkl hk hk50 hk0 hkl9
     go_wp2_with fail
     go_meet
     case rel => exact ⟨_, _, _, _, _, _, _, rfl, rfl, rfl, HK50.out, HBS.out, HP.out⟩
 case rest =>
  obtain ⟨es, s, u, vE, vS, T, SS, rfl, e6, e7, hl50, hbs, hbb⟩ := hcut
  have e6 := e6.symm
  have e7 := e7.symm
  subst e6
  subst e7
  obtain ⟨au, cu, rfl⟩ := hbb.own.ps.len_le
  have hyz : (Ty.S (Mf.tx es)).size = (Mf.tx es).length := Ty.size_S _
  have htl := Mf.tx_len hbs.vs
  obtain ⟨m, hm1, hm2, hm3⟩ := Mf.ex_cut es ((((IntKind.u64.wrap cut).tmod (((Ty.S (Mf.tx es)).size : Int) + 1))).toNat) es.length (Nat.le_refl _)
  obtain ⟨X, hX⟩ : ∃ X, X = Ty.S (Mf.tx es) := ⟨_, rfl⟩
  rw [← hX] at hyz hm2 hm3 ⊢
  obtain ⟨q, hq, hq2⟩ : ∃ q : Nat, (IntKind.u64.wrap cut).tmod ((X.size : Int) + 1) = (q : Int) ∧ q ≤ X.size := by
   rw [Int.tmod_eq_emod_of_nonneg (by rw [IntKind.wrap_u64]; exact Int.emod_nonneg _ (by decide))]
   have h1 := Int.emod_nonneg (IntKind.u64.wrap cut) (b := (X.size : Int) + 1) (by omega)
   have h2 := Int.emod_lt_of_pos (IntKind.u64.wrap cut) (b := (X.size : Int) + 1) (by omega)
   exact ⟨(IntKind.u64.wrap cut % ((X.size : Int) + 1)).toNat, by omega, by omega⟩
  rw [hq, show ((q : Int)).toNat = q by omega] at hm2 hm3
  have hXs : X.size ≤ 10000400 := by omega
  have hxe : X.extract 0 q = Ty.S ((Mf.tx es).take q) := by rw [Mf.ext_at, hX, Ty.data_S]
  have hxd : X.data.toList = Mf.tx es := by rw [hX, Ty.data_S]
  have hrr := hbs.cut hm1 hm2 hm3
  have CR1 := Mf.read_c (Ty.S ((Mf.tx es).take q)) wc (HT.out.below hbb.below (Ty.Tabs.two HT.out)) (by rw [Ty.size_S, List.length_take]; omega)
  have HCR2 := Lib.hid fun (W : World) (g : Below w.heap.size w W) => Mf.read_c X W (HT.out.below g (Ty.Tabs.two HT.out)) (by omega)
  have hfa := Mf.rr_few ((Mf.tx es).take q) (by rw [List.length_take]; omega)
  have hfs := Mf.rr_few (Mf.tx es) (by omega)
  rw [Ty.data_S, hrr] at CR1
  rw [hxd, hbs.all] at HCR2
  rw [hrr] at hfa
  rw [hbs.all] at hfs
  have HMM : Hid (m ≤ es.length ∧ (∀ j, j < m → Mf.en es j ≤ q) ∧ ∀ j, j < es.length → ¬ j < m → q < Mf.en es j) := Lib.hid ⟨hm1, hm2, fun j h1 h2 => by
   rcases hm3 with h3 | h3
   ·omega
   ·exact Nat.lt_of_lt_of_le h3 (Mf.en_mono (by omega))⟩
  have HFS := Lib.hid (And.intro hfa hfs)
  obtain ⟨A, hA⟩ : ∃ A, A = Mf.nth SS m := ⟨_, rfl⟩
  rw [← hA] at CR1 HFS
  have HA := Lib.hid hA
  obtain ⟨AP, AF, AN⟩ := A
  obtain ⟨SP, SF, SN⟩ := s
  unfold Mf.GotS Mf.sv at CR1 HCR2
  simp only [Mf.st, Mf.er] at CR1 HCR2 HFS
  have HBB := Lib.hid hbb
  have HBL := Lib.hid (And.intro hbs.len hl50)
  have hq0 : (q : Int) ≤ (X.size : Int) := by omega
  have hq1 : (0 : Int) ≤ (q : Int) := by omega
  have hq3 : (q : Int) < 9223372036854775808 := by omega
  clear hbb hbs hm1 hm2 hm3 hrr hfa hfs hA htl hxd hq2 hyz hX hl50
  generalize Ty.S ((Mf.tx es).take q) = X2 at hxe CR1
  go_wp2_with fail
  with_reducible refine CR1.mono ?_
  rintro e w3 ⟨u3, rfl, hu3, g3⟩
  obtain ⟨a3, c3, rfl⟩ := hu3.ps.len_le
  clear CR1
  simp only
  obtain ⟨w4, hw4⟩ : ∃ w4, w4 = w3.alloc (.cells #[.slice a3 AP.length c3, .int .i64 AF, .int .i64 AN] 25) := ⟨_, rfl⟩
  have g4 : Below w3.heap.size w3 w4 := by rw [hw4]; exact (Below.refl _ _).alloc (Nat.le_refl _) _
  have hb4 := (HBB.out.kept g3).kept g4
  have HU3 := Lib.hid (hu3.ps.kept g4)
  have HAB : Hid (Mf.SA w4 w3.heap.size (.slice a3 AP.length c3) AF AN) := Lib.hid (by
   have := Mf.SA.new w3 (.slice a3 AP.length c3) AF AN 25
   rwa [← hw4] at this)
  have HB4 := Lib.hid hb4
  obtain ⟨ea, ec, rfl, hec⟩ := hb4.endAt
  obtain ⟨sa, sc, rfl, hsc⟩ := hb4.stAt HBL.out.1
  have HEC := Lib.hid hec
  have HSC := Lib.hid hsc
  clear hec hsc
  obtain ⟨w5, hw5⟩ : ∃ w5, w5 = w4.alloc (.cells #[.slice none 0 0, .int .i64 0, .int .i64 0] 25) := ⟨_, rfl⟩
  obtain ⟨qw, hqw⟩ : ∃ qw, qw = w3.heap.size + 1 := ⟨_, rfl⟩
  have hqw4 : qw = w4.heap.size := by rw [hqw, hw4]; exact (World.size_alloc ..).symm
  obtain ⟨qa, hqa⟩ : ∃ qa, qa = w3.heap.size := ⟨_, rfl⟩
  have HQW := Lib.hid hqw4
  have H5 : Hid (Below w4.heap.size w4 w5 ∧ w5.heap[qw]? = some (.cells #[.slice none 0 0, .int .i64 0, .int .i64 0] 25 (0, 0))) := Lib.hid ⟨by rw [hw5]; exact (Below.refl _ _).alloc (Nat.le_refl _) _, by rw [hw5, hqw4]; exact heap_alloc_new w4 _⟩
  rw [← hqa] at HAB
  have hl9 : (es.length : Int) ≤ 50 := by have := HBL.out.2; omega
  clear hu3 g3 g4 hb4 hqw4
  go_upto_block 2 with fail
  rw [← hw4]
  rw [← hw5]
  rw [← hqw]
  first
   | rw [← hqa]
   | skip
  clear hw4 hw5 hqw hqa
  go_wp2_with fail
  go_loopw [18] (fun i wr => ∃ (k : Nat) (a1 : Option Addr) (l1 c1 : Nat), k ≤ es.length ∧ i = .int .i64 k ∧ Below w4.heap.size w4 wr ∧ wr.heap[qw]? = some (.cells #[.slice a1 l1 c1, .int .i64 (Mf.nth SS (min k m)).floor, .int .i64 (Mf.nth SS (min k m)).next] 25 (0, 0)) ∧ Mf.Ow (p + 1) w4 (.slice a1 l1 c1) (Mf.nth SS (min k m)).parts) (fun i _ => es.length - (intOf i).toNat)
  case atStart => exact ⟨0, none, 0, 0, Nat.zero_le _, rfl, H5.out.1, by rw [Nat.zero_min]; exact H5.out.2, by rw [Nat.zero_min]; exact Mf.Ow.nil _ _⟩
  case round =>
   obtain ⟨k, a1, l1, c1, hk, rfl, hB, hbox, how⟩ := hrel
   have hk0 : (0 : Int) ≤ (k : Int) := by omega
   have HB := Lib.hid hB
   have HBX := Lib.hid hbox
   have HOW := Lib.hid how
   by_cases hkl : k < es.length
   ·have hki : (k : Int) < (es.length : Int) := by omega
    obtain ⟨g, rfl, hce⟩ := HEC.out k hkl
    have he0 := hce wr hB
    by_cases hkm : k < m
    ·have hzq := HMM.out.2.1 k hkm
     generalize Mf.en es k = Z at he0 hzq
     have hzi : (Z : Int) ≤ (q : Int) := by omega
     obtain ⟨g2, rfl, b1, l2, c2, ho2, hcs⟩ := HSC.out k hkl
     obtain ⟨s0, s1, s2⟩ := hcs wr hB
     have hmin : min (k + 1) m = k + 1 := by omega
     generalize hA1 : (Mf.nth SS (k + 1)).floor = F1 at s1
     generalize hA2 : (Mf.nth SS (k + 1)).next = N1 at s2
     have HKL : Hid (k + 1 ≤ es.length) := Lib.hid hkl
     have hnb : wr.heap[qw]? = some (.cells #[.slice a1 l1 c1, .int .i64 (Mf.nth SS (min k m)).floor, .int .i64 (Mf.nth SS (min k m)).next] 25 (0, 0)) := hbox
     obtain ⟨⟨y0, y1, y2⟩, z0, z1, z2⟩ := Mf.three hnb
     have HNB : Hid ((((wr.setCell ⟨qw, 0, none⟩ (.slice b1 l2 c2)).setCell ⟨qw, 1, none⟩ (.int .i64 F1)).setCell ⟨qw, 2, none⟩ (.int .i64 N1)).heap[qw]? = some (.cells #[.slice b1 l2 c2, .int .i64 (Mf.nth SS (min (k + 1) m)).floor, .int .i64 (Mf.nth SS (min (k + 1) m)).next] 25 (0, 0))) := Lib.hid (by
      rw [hmin, hA1, hA2]
      exact heap_setCell_same _ qw 2 _ _ _ (heap_setCell_same _ qw 1 _ _ _ (heap_setCell_same wr qw 0 _ _ _ hbox)))
     have HNG := Lib.hid (Mf.below3 (q := qw) hB (by rw [HQW.out]; exact Nat.le_refl _) (.slice b1 l2 c2) (.int .i64 F1) (.int .i64 N1))
     have HNO : Hid (Mf.Ow (p + 1) w4 (.slice b1 l2 c2) (Mf.nth SS (min (k + 1) m)).parts) := Lib.hid (by rw [hmin]; exact ho2)
     clear hce hcs hzq hkm hkl hk hB hbox how hnb hmin ho2 hA1 hA2
     go_wp2
     go_roundw
     case rel => exact ⟨k + 1, _, _, _, HKL.out, by simp, HNG.out, HNB.out, HNO.out⟩
     case measure => (have := HKL.out; simp [intOf]; omega)
    ·have hzq := HMM.out.2.2 k hkl hkm
     have hmin : min (k + 1) m = min k m := by omega
     generalize Mf.en es k = Z at he0 hzq
     have hzi : ¬ (Z : Int) ≤ (q : Int) := by omega
     have HKL : Hid (k + 1 ≤ es.length) := Lib.hid hkl
     have HMI := Lib.hid hmin
     clear hce hzq hkm hkl hk hB hbox how hmin
     go_wp2
     go_roundw
     case rel => exact ⟨k + 1, _, _, _, HKL.out, by simp, HB.out, by rw [HMI.out]; exact HBX.out, by rw [HMI.out]; exact HOW.out⟩
     case measure => (have := HKL.out; simp [intOf]; omega)
   ·obtain rfl : k = es.length := by omega
    have hki : ¬ (es.length : Int) < (es.length : Int) := by omega
    have hmin : min es.length m = m := by have := HMM.out.1; omega
    rw [hmin, ← HA.out] at hbox how
    have hb4 := HB4.out.kept hB
    have CR2 := HCR2.out wr hb4.below
    have HBX := Lib.hid hbox
    have HOW := Lib.hid (how.kept hB)
    have HAR := Lib.hid (HAB.out.kept hB)
    have HU := Lib.hid (HU3.out.kept hB)
    have HB5 := Lib.hid hb4
    clear hk hkl hk0 hB hbox how hmin hb4
    go_wp2_with fail
    with_reducible refine CR2.mono ?_
    rintro e w6 ⟨u6, rfl, hu6, g6⟩
    obtain ⟨a6, c6, rfl⟩ := hu6.ps.len_le
    clear CR2
    simp only
    obtain ⟨w7, hw7⟩ : ∃ w7, w7 = w6.alloc (.cells #[.slice a6 SP.length c6, .int .i64 SF, .int .i64 SN] 25) := ⟨_, rfl⟩
    have g7 : Below w6.heap.size w6 w7 := by rw [hw7]; exact (Below.refl _ _).alloc (Nat.le_refl _) _
    have hg : Below wr.heap.size wr w7 := g6.trans (g7.mono g6.size)
    have hS7 : Mf.SA w7 w6.heap.size (.slice a6 SP.length c6) SF SN := by
     have := Mf.SA.new w6 (.slice a6 SP.length c6) SF SN 25
     rwa [← hw7] at this
    have CS1 := Mf.rsame_c (.slice a3 AP.length c3) (.slice a1 l1 c1) ⟨AP, AF, AN⟩ w7 (HU.out.kept hg) (HOW.out.ps.kept hg) HFS.out.1
    have HCS2 := Lib.hid fun (W : World) (g : Below w7.heap.size w7 W) => Mf.rsame_c (.slice a6 SP.length c6) (.slice au SP.length cu) ⟨SP, SF, SN⟩ W ((hu6.ps.kept g7).kept g) ((HB5.out.own.ps.kept hg).kept g) HFS.out.2
    unfold Mf.sv at CS1 HCS2
    simp only at CS1 HCS2
    have HB7 := Lib.hid (HB5.out.kept hg)
    have HS7 := Lib.hid hS7
    obtain ⟨a0, a11, a2⟩ := HAR.out.kept hg
    obtain ⟨⟨x0, x1, x2⟩, -⟩ := Mf.three ((hg.block qw (lt_of_block HBX.out)).trans HBX.out)
    obtain ⟨qs, hqs⟩ : ∃ qs, qs = w6.heap.size := ⟨_, rfl⟩
    rw [← hqs] at HS7 hS7
    clear hu6 g6 g7 hS7 hg HU HOW HAR HBX HCR2
    go_upto_region 26 with fail
    rw [← hw7]
    first
     | rw [← hqs]
     | skip
    clear hw7 hqs
    go_wp2_with fail
    with_reducible refine CS1.mono ?_
    rintro e w8 ⟨rfl, g8⟩
    have CS2 := HCS2.out w8 g8
    have HB8 := Lib.hid (HB7.out.kept g8)
    obtain ⟨t0, t1, t2⟩ := HS7.out.kept g8
    obtain ⟨⟨v0, v1, v2⟩, -⟩ := Mf.three HB8.out.box
    clear g8 CS1 a0 a11 a2 x0 x1 x2
    go_wp2_with fail
    with_reducible refine CS2.mono ?_
    rintro e w9 ⟨rfl, g9⟩
    have HB9 := Lib.hid (HB8.out.kept g9).below
    clear g9 CS2 t0 t1 t2 v0 v1 v2
    go_wp2
    go_ret
    exact ⟨rfl, HB9.out⟩
end Go.Proofs.YteaglaijkafphaaDoor
namespace Go.Proofs.YteaglaijkafphaaDoor
open Go.RowKit Go.ChangeShapes Go.WideShapes Go.ChangeAt Go.Deep
section
variable {H : Type} {enc : TypeId × Value → H} {W : World}
def Mf.e4 (x : Mf.E × Value × Value) : List Value := [x.2.1, x.2.2, .int .i64 x.1.floor, .int .i64 x.1.next]
set_option maxRecDepth 100000 in
theorem Mf.open_edits {v : Value} {d : DataW H} {ps : List MemPlace} {r : Reach} {b0 : Nat} (hv : Value.okWide Tryd.prog W r b0 31 v) (h : DataW.Trod enc Tryd.prog W 0 (fun _ => true) true 31 v d ps) :
 ∃ L : List Mf.E, Mf.Es W v L ∧ ∀ e ∈ L, ∀ p ∈ e.add, Mf.ok9 p := by
 obtain ⟨a0, len0, cap0, rfl⟩ := okWide_slice Tryd.underlying31 hv
 obtain ⟨fuel, hf⟩ := h
 obtain ⟨L, h1, h2, _⟩ := Mf.open_sl (α := Mf.E × Value × Value) (en := Mf.e4) (k := 4) (Q := fun x => Mf.Is W x.2.1 x.1.drop ∧ Mf.Ps W x.2.2 x.1.add ∧ ∀ p ∈ x.1.add, Mf.ok9 p) Tryd.underlying31 (by kernel_rfl) (by decide) (fun _ => rfl) (⟨[], [], 0, 0⟩, .bool false, .bool false)
  (fun h => by
   obtain ⟨e, vd, va, hc, hd, ha, h9⟩ := Mf.open_edit_cells h
   exact ⟨(e, vd, va), hc, hd, ha, h9⟩) (show DataW.trod enc Tryd.prog W 0 (fun _ => true) true fuel 31 [.slice a0 len0 cap0] = some (d, ps) from hf)
 refine ⟨L.map (·.1), ?_, fun e he => ?_⟩
 ·obtain ⟨a, c, e, _, h⟩ := h1
  refine ⟨a, c, by rw [e, List.length_map], ?_⟩
  rcases h with ⟨rfl, _⟩ | ⟨b, o, cs, fr, ha, _, _, h⟩
  ·exact .inl rfl
  ·refine .inr ⟨b, o, ha, fun i x hi => ?_⟩
   rw [List.getElem?_map, Option.map_eq_some_iff] at hi
   obtain ⟨y, hy, rfl⟩ := hi
   obtain ⟨q1, q2, _⟩ := h2 y (List.mem_of_getElem? hy)
   exact ⟨y.2.1, y.2.2, ⟨h i 0 y hy (by decide), h i 1 y hy (by decide), h i 2 y hy (by decide), h i 3 y hy (by decide)⟩, q1, q2⟩
 ·obtain ⟨y, hy, rfl⟩ := List.mem_map.1 he
  exact (h2 y hy).2.2
end
end Go.Proofs.YteaglaijkafphaaDoor
namespace Go.Proofs.YteaglaijkafphaaDoor.Ty
open Go.RowKit Go.WideShapes Go.ChangeShapes
theorem post_below {H : Type} {enc : TypeId × Value → H} {P : Program} {f : Func} {s : ChangeSpec} {apart fresh handsOn again : Bool} {W W' : World} {args : Array Value} {v : Value} {ds gs : List (DataW H)} {before pa pv : List MemPlace}
 (hW : DataW.Whole enc P f.params.toList s.vars apart W args.toList ds gs before)
 (hr : ∀ (b : Nat) (sp : Nat → Bool) (hd : Bool), DataW.TrodAll enc P W' b sp hd f.resultTypes.toList (v.resultList f.resultTypes.size) (s.fn H (ds ++ gs)).results [])
 (ha : ∀ sp : Nat → Bool, (∀ p ∈ before, sp p.block = true) → DataW.TrodAll enc P W' 0 sp true f.params.toList args.toList (s.fn H (ds ++ gs)).args pa)
 (hv : ∀ sp : Nat → Bool, (∀ p ∈ before, sp p.block = true) → DataW.TrodVars enc P W' sp s.vars (s.fn H (ds ++ gs)).vars pv)
 (hp : before = pa ++ pv) (hb : Below W.heap.size W W')
 (hok : ∀ (j : Nat) (t : TypeId) (r : Value), f.resultTypes[j]? = some t → (v.resultList f.resultTypes.size)[j]? = some r → Value.okWide P W' .any 0 t r) :
 s.post enc P f apart fresh handsOn again W args v W' := by
 have hl : ∀ p ∈ before, p.block < W.heap.size := fun p h => hW.lt p h
 have hs : ∀ p ∈ before, (fun b => decide (b < W.heap.size)) p.block = true := fun p h => by simpa using hl p h
 have hW0 := hW
 obtain ⟨_, _, _, _, _, hz, hn⟩ := hW0
 refine ⟨ds, gs, before, [], pa, pv, hW, hr _ _ _, ha _ hs, hv _ hs, World.keptBut_mono (fun p h => ⟨h, by rw [hp] at h; exact .inr (List.mem_append.1 h)⟩) (hb.frame (· ∈ before)), fun _ => ⟨hok, _, _, ([] ++ pa) ++ pv, ⟨[] ++ pa, pv, trodAll_append (ha _ (fun _ _ => rfl)) (hr _ _ _), hv _ (fun _ _ => rfl), rfl, ?_, ?_⟩, ?_⟩⟩
 ·intro b off h
  have hin : MemPlace.cell b off ∈ before := by rw [hp]; simpa using h
  rw [hb.frozen (hl _ hin)]
  exact hz b off hin
 ·intro hap
  have := hn hap
  rw [hp] at this
  simpa using this
 ·intro p h _
  rw [hp]
  simpa using h
end Go.Proofs.YteaglaijkafphaaDoor.Ty
namespace Go.Proofs.YteaglaijkafphaaDoor.Ty
open Go.RowKit Go.WideShapes Go.ChangeShapes
theorem all_stay {H : Type} {enc : TypeId × Value → H} {P : Program} (hl : laidOutB P = true) {W W' : World} {sp : Nat → Bool} : ∀ (ts : List TypeId) (vs : List Value) (ds : List (DataW H)) (ps : List MemPlace),
 (ts.all fun t => P.readableRec t && decide (t < P.types.size)) = true → DataW.TrodAll enc P W 0 (fun _ => true) true ts vs ds ps → (∀ p ∈ ps, W.sameAt W' p) → (∀ p ∈ ps, sp p.block = true) → DataW.TrodAll enc P W' 0 sp true ts vs ds ps
 | [], [], [], _, _, h, _, _ => h
 | [], [], _ :: _, _, _, h, _, _ => h.elim
 | [], _ :: _, [], _, _, h, _, _ => h.elim
 | [], _ :: _, _ :: _, _, _, h, _, _ => h.elim
 | _ :: _, [], [], _, _, h, _, _ => h.elim
 | _ :: _, [], _ :: _, _, _, h, _, _ => h.elim
 | _ :: _, _ :: _, [], _, _, h, _, _ => h.elim
 | t :: ts, v :: vs, d :: ds, ps, ht, h, hs, hsp => by
   obtain ⟨p, q, h1, h2, rfl⟩ := h
   simp only [List.all_cons, Bool.and_eq_true, decide_eq_true_eq] at ht
   exact ⟨p, q, WideElems.Trod_stays hl ht.1.1 ht.1.2 h1 (fun x hx => hs x (List.mem_append_left _ hx)) (fun x hx => hsp x (List.mem_append_left _ hx)),
    all_stay hl ts vs ds q ht.2 h2 (fun x hx => hs x (List.mem_append_right _ hx)) (fun x hx => hsp x (List.mem_append_right _ hx)), rfl⟩
end Go.Proofs.YteaglaijkafphaaDoor.Ty
