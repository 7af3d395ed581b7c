/-
  The laws of disk: the program's disk beside the document's.
-/
import Derived.Test.YtfkdkdkdpenblaaL95
namespace Go.Proofs.Ytfkdkdkdpenblaa
open Go.RowKit
/-- Both disks, side by side. -/
structure Dk.Two (B : Nat) (Sa Sb : Nat → Prop) (w : World) (pa pb : Nat) (d : Dk.D) : Prop where
  a : Dk.PAt Sa w pa d
  b : Dk.RAt Sb w pb d
  apart : ∀ x, Sa x → ¬ Sb x
  fromA : ∀ x, Sa x → B ≤ x
  fromB : ∀ x, Sb x → B ≤ x
theorem Dk.Two.kept {B : Nat} {Sa Sb : Nat → Prop} {w w' : World} {pa pb : Nat} {d : Dk.D} (h : Dk.Two B Sa Sb w pa pb d) (g : Below w.heap.size w w') : Dk.Two B Sa Sb w' pa pb d :=
  ⟨h.a.kept g, h.b.kept g, h.apart, h.fromA, h.fromB⟩
/-- Both did the same. -/
theorem Dk.Two.did {B : Nat} {Sa Sb : Nat → Prop} {w w1 w2 : World} {pa pb : Nat} {d d' : Dk.D} (h : Dk.Two B Sa Sb w pa pb d) (hB : B ≤ w.heap.size) (h1 : Dk.PDid Sa w pa d' w1) (h2 : Dk.Did Sb w1 pb d' w2) :
    Dk.Two B (Dk.More Sa w w1) (Dk.More Sb w1 w2) w2 pa pb d' ∧ Below B w w2 := by
  have ha := h.a.alive
  have hb := h.b.alive
  have hs1 := h1.2.size
  have hs2 := h2.2.size
  refine ⟨⟨h1.1.apart h2.2 fun x hx hs => ?_, h2.1, fun x hx hs => ?_, fun x hx => ?_, fun x hx => ?_⟩, (h1.2.below hB h.fromA).trans (h2.2.below (Nat.le_trans hB hs1) h.fromB)⟩
  · rcases hx with hx | hx
    · exact h.apart x hx hs
    · have := hb x hs; omega
  · rcases hx with hx | hx <;> rcases hs with hs | hs
    · exact h.apart x hx hs
    · have := ha x hx; omega
    · have := hb x hs; omega
    · omega
  · rcases hx with hx | hx
    · exact h.fromA x hx
    · omega
  · rcases hx with hx | hx
    · exact h.fromB x hx
    · omega
set_option maxHeartbeats 8000000 in
set_option maxRecDepth 100000 in
theorem Dk.lawPlays_w (n : Int) (v : Value) (L : List Dk.Step) (s : Dk.Str) (w : World) (hn : Ty.I64 n) (hv : Dk.Ops w.heap.size w v L) (hl : L.length ≤ 1048576) (hok : Dk.Steps L) (hs : s.length ≤ 1048576) :
    Calls Try.prog 3 #[.int .i64 n, v, .string (Ty.S s)] w fun e w' => e = .returned (.bool true) ∧ Below w.heap.size w w' := by
  have cl := Dk.lives_c w
  have CE : Hid (∀ W, Below w.heap.size w W → Calls Try.prog 12 #[v] W fun e w' => ∃ u, e = .returned u ∧ Dk.Ops w.heap.size W u (L.take 300) ∧ w' = W) := Lib.hid fun W g => Dk.early_c (hv.below g) hl
  have HG0 := Lib.hid (Dk.Good.new n hn.2)
  have HNN := Lib.hid hn
  have HM : Hid (Dk.Steps (L.take 300) ∧ (L.take 300).length ≤ 300) := Lib.hid ⟨hok.take 300, List.length_take_le _ _⟩
  have HSL := Lib.hid hs
  have hzs := Tx.S_yes s
  generalize L.take 300 = M at CE HM
  generalize hss : Ty.S s = ss
  have HSS := Lib.hid hss
  clear hv hl hok hn hs hss hzs
  go_enter Try.func3, Try.ntmps3
  go_wp2_with fail
  with_reducible refine cl.mono ?_
  rintro e w1 ⟨rfl, g1⟩
  have ce := CE.out w1 g1
  have HB1 := Lib.hid g1
  clear cl g1 CE
  go_wp2_with fail
  with_reducible refine ce.mono ?_
  rintro e w2 ⟨u, rfl, hu, h2⟩
  subst w2
  have HU := Lib.hid hu
  obtain ⟨aU, cU, hvU, _⟩ := hu.is
  subst hvU
  have cn := Dk.pnew_c n HNN.out w1
  clear ce hu
  go_wp2_with fail
  with_reducible refine cn.mono ?_
  rintro e w3 ⟨pa, rfl, hpa, g3⟩
  have cr := Dk.rnew_c n w3
  clear cn
  go_wp2_with fail
  with_reducible refine cr.mono ?_
  rintro e w4 ⟨rfl, hpb, g4⟩
  have HB4 := Lib.hid (HB1.out.trans ((g3.mono HB1.out.size).trans (g4.mono (Nat.le_trans HB1.out.size g3.size))))
  have HT4 : Hid (Dk.Two w.heap.size (fun b => w1.heap.size ≤ b ∧ b < w3.heap.size) (fun b => b = w3.heap.size) w4 pa w3.heap.size (Dk.new n)) := Lib.hid ⟨hpa.kept g4, hpb, fun x hx hb => by omega, fun x hx => by have := HB1.out.size; omega, fun x hx => by have := HB1.out.size; have := g3.size; omega⟩
  have HU4 := Lib.hid (HU.out.below ((g3.mono HB1.out.size).trans (g4.mono (Nat.le_trans HB1.out.size g3.size))))
  have hml := HM.out.2
  obtain ⟨pb, hpbe⟩ : ∃ pb, pb = w3.heap.size := ⟨_, rfl⟩
  rw [← hpbe] at HT4 ⊢
  clear cr hpa hpb g3 g4 hpbe
  go_wp2_with fail
  go_loopw [9, 10, 11, 12, 13] (fun i _ _ _ _ wr => ∃ (q : Nat) (d : Dk.D) (Sa Sb : Nat → Prop), q ≤ M.length ∧ i = .int .i64 q ∧ Dk.Good q d ∧ Dk.Two w.heap.size Sa Sb wr pa pb d ∧ Below w.heap.size w wr ∧ Dk.Ops w.heap.size wr (.slice aU M.length cU) M) (fun i _ _ _ _ _ => M.length - (intOf i).toNat)
  case atStart => exact ⟨0, Dk.new n, _, _, by omega, rfl, HG0.out, HT4.out, HB4.out, HU4.out⟩
  case round =>
    obtain ⟨q, d, Sa, Sb, hq, rfl, hG, hT, hB, hU⟩ := hrel
    have HG := Lib.hid hG
    have HT := Lib.hid hT
    have HB := Lib.hid hB
    have HUU := Lib.hid hU
    have hq0 : (0 : Int) ≤ (q : Int) := by omega
    by_cases hql : q < M.length
    · obtain ⟨x, hx⟩ : ∃ x, M[q]? = some x := ⟨_, List.getElem?_eq_getElem hql⟩
      have hxo := HM.out.1 x (List.mem_of_getElem? hx)
      obtain ⟨a', c', he, _, hbB, hh2⟩ := hU.is
      simp only [Value.slice.injEq, true_and] at he
      obtain ⟨rfl, rfl⟩ := he
      rcases hh2 with ⟨h0, _⟩ | ⟨b, o, rfl, hbl, hh2⟩
      · rw [h0] at hql; simp at hql
      · obtain ⟨e0, e1, e2, e3, vK, e4, hK⟩ := hh2 q x hx
        obtain ⟨aK, cK, hvK, _⟩ := hK.is
        have hfit := HG.out.fit (show q ≤ 100000 by have := HM.out.2; omega)
        have HGN := Lib.hid (HG.out.op hxo)
        have hfit2 := HGN.out.fit (show q + 1 ≤ 100000 by have := HM.out.2; omega)
        have hDa : Dk.PAt Sa wr.drew pa d := hT.a.same (Nat.le_refl _) fun _ _ => rfl
        have CD : Hid (Calls Try.prog 15 #[.pointer (some ⟨pa, 0, none⟩), .agg #[.int .i64 x.k, .string (Ty.S x.a), .string (Ty.S x.b), .int .i64 x.n, vK]] wr.drew fun e w' => e = .returned (.int .i64 (((Dk.step d x.op).2 : Nat) : Int)) ∧ Dk.PDid Sa wr.drew pa (Dk.step d x.op).1 w') := Lib.hid (Dk.does_c hDa hfit x hxo.1 hxo.2 w.heap.size vK (hK.below (Below.drew (Below.refl _ wr))) hT.fromA)
        have CR : Hid (∀ w1, Dk.PDid Sa wr.drew pa (Dk.step d x.op).1 w1 → Calls Try.prog 16 #[.pointer (some ⟨pb, 0, none⟩), .agg #[.int .i64 x.k, .string (Ty.S x.a), .string (Ty.S x.b), .int .i64 x.n, vK]] w1 fun e w' => e = .returned (.int .i64 (((Dk.step d x.op).2 : Nat) : Int)) ∧ Dk.Did Sb w1 pb (Dk.step d x.op).1 w') := Lib.hid fun w1 h1 => by
          have hRb : Dk.RAt Sb wr.drew pb d := HT.out.b.same (Nat.le_refl _) fun _ _ => rfl
          have hRb1 := hRb.apart h1.2 fun b hb ha => HT.out.apart b ha hb
          exact Dk.doesRef_c hRb1 hfit x hxo.1 w.heap.size vK ((hK.below (Below.drew (Below.refl _ wr))).below (h1.2.below hbB HT.out.fromA)) HT.out.fromB
        have TD : Hid (∀ w1 w2, Dk.PDid Sa wr.drew pa (Dk.step d x.op).1 w1 → Dk.Did Sb w1 pb (Dk.step d x.op).1 w2 → Dk.Two w.heap.size (Dk.More Sa wr.drew w1) (Dk.More Sb w1 w2) w2 pa pb (Dk.step d x.op).1 ∧ Below w.heap.size wr w2) := Lib.hid fun w1 w2 h1 h2 => by
          have hT2 : Dk.Two w.heap.size Sa Sb wr.drew pa pb d := ⟨HT.out.a.same (Nat.le_refl _) fun _ _ => rfl, HT.out.b.same (Nat.le_refl _) fun _ _ => rfl, HT.out.apart, HT.out.fromA, HT.out.fromB⟩
          obtain ⟨t1, t2⟩ := hT2.did hbB h1 h2
          exact ⟨t1, (Below.drew (Below.refl _ wr)).trans t2⟩
        have CHa : Hid (∀ W S, Dk.PAt S W pa (Dk.step d x.op).1 → Calls Try.prog 17 #[.pointer (some ⟨pa, 0, none⟩)] W fun e w' => e = .returned (.int .i64 ((Dk.held (Dk.step d x.op).1 : Nat) : Int)) ∧ Below W.heap.size W w') := Lib.hid fun W S h => Dk.pheld_c h hfit2
        have CHb : Hid (∀ W S, Dk.RAt S W pb (Dk.step d x.op).1 → Calls Try.prog 18 #[.pointer (some ⟨pb, 0, none⟩)] W fun e w' => e = .returned (.int .i64 ((Dk.held (Dk.step d x.op).1 : Nat) : Int)) ∧ Below W.heap.size W w') := Lib.hid fun W S h => by
          obtain ⟨_, _, _, _, h⟩ := h
          refine (Dk.rheld_c h hfit2.inv hfit2.size hfit2.short.len).mono ?_
          rintro e w' ⟨he, m, hw'⟩
          exact ⟨he, by rw [hw']; exact Bt.drewN_below _ _⟩
        have HCE : Hid (∀ W, Below w.heap.size wr W → W.cell? ⟨b, o + q * 5, none⟩ = some (.int .i64 x.k) ∧ W.cell? ⟨b, o + q * 5 + 1, none⟩ = some (.string (Ty.S x.a)) ∧ W.cell? ⟨b, o + q * 5 + 2, none⟩ = some (.string (Ty.S x.b)) ∧ W.cell? ⟨b, o + q * 5 + 3, none⟩ = some (.int .i64 x.n) ∧ W.cell? ⟨b, o + q * 5 + 4, none⟩ = some vK) := Lib.hid fun W g =>
          ⟨(g.cell (p := ⟨b, o + q * 5, none⟩) hbl).trans e0, (g.cell (p := ⟨b, o + q * 5 + 1, none⟩) hbl).trans e1, (g.cell (p := ⟨b, o + q * 5 + 2, none⟩) hbl).trans e2, (g.cell (p := ⟨b, o + q * 5 + 3, none⟩) hbl).trans e3, (g.cell (p := ⟨b, o + q * 5 + 4, none⟩) hbl).trans e4⟩
        have HF2 := Lib.hid hfit2
        have HXO := Lib.hid hxo
        have HBB := Lib.hid hbB
        rw [hvK] at CD CR HCE e4
        generalize hrr : Dk.step d x.op = r at CD CR TD CHa CHb HF2 HGN
        obtain ⟨D, E⟩ := r
        simp only at CD CR TD CHa CHb HF2 HGN
        generalize hxa : Ty.S x.a = xa at CD CR HCE e1
        have HXA := Lib.hid hxa
        generalize Ty.S x.b = xb at CD CR HCE e2
        generalize Dk.held D = hd at CHa CHb
        have hEE : ((E : Int) != (E : Int)) = false := by simp
        have hHH : ((hd : Int) != (hd : Int)) = false := by simp
        have hqi : (q : Int) < (M.length : Int) := by omega
        have HBD : Hid (Below w.heap.size wr wr.drew) := Lib.hid (Below.drew (Below.refl _ wr))
        have BD1 : Hid (∀ w1, Dk.PDid Sa wr.drew pa D w1 → Below w.heap.size wr w1) := Lib.hid fun w1 h1 => HBD.out.trans (h1.2.below hbB HT.out.fromA)
        clear hx hxo hh2 hK hvK hG hT hB hU hfit hfit2 hDa hrr hxa hql hbB e0 e1 e2 e3 e4
        obtain ⟨e0, e1, e2, e3, e4⟩ := HCE.out wr (Below.refl _ _)
        go_wp2_with fail
        go_region_held3 (fun wx => wx.cell? ⟨b, o + q * 5, none⟩ = some (.int .i64 x.k) ∧ wx.cell? ⟨b, o + q * 5 + 1, none⟩ = some (.string xa) ∧ wx.cell? ⟨b, o + q * 5 + 2, none⟩ = some (.string xb) ∧ wx.cell? ⟨b, o + q * 5 + 3, none⟩ = some (.int .i64 x.n) ∧ wx.cell? ⟨b, o + q * 5 + 4, none⟩ = some (.slice aK x.keep.length cK))
          (first
            | exact HCE.out _ HBD.out
            | exact HCE.out _ (BD1.out _ p1)
            | exact HCE.out _ (TD.out _ _ p1 p2).2
            | exact HCE.out _ ((TD.out _ _ p1 p2).2.trans (g5.mono (Nat.le_trans HBB.out (TD.out _ _ p1 p2).2.size)))
            | exact HCE.out _ (((TD.out _ _ p1 p2).2.trans (g5.mono (Nat.le_trans HBB.out (TD.out _ _ p1 p2).2.size))).trans (g6.mono (Nat.le_trans (Nat.le_trans HBB.out (TD.out _ _ p1 p2).2.size) g5.size))))
          (first
            | (go_at_call 15; (with_reducible refine CD.out.mono ?_); rintro e w5 ⟨rfl, p1⟩)
            | (go_at_call 16; (with_reducible refine (CR.out _ p1).mono ?_); rintro e w6 ⟨rfl, p2⟩)
            | (go_at_call 17; (with_reducible refine (CHa.out _ _ (TD.out _ _ p1 p2).1.a).mono ?_); rintro e w7 ⟨rfl, g5⟩)
            | (go_at_call 18; (with_reducible refine (CHb.out _ _ ((TD.out _ _ p1 p2).1.b.kept g5)).mono ?_); rintro e w8 ⟨rfl, g6⟩))
        all_goals
          obtain ⟨tt, bt⟩ := TD.out _ _ p1 p2
          have hb8 := (bt.trans (g5.mono (Nat.le_trans HBB.out bt.size))).trans (g6.mono (Nat.le_trans (Nat.le_trans HBB.out bt.size) g5.size))
          have HB8 := Lib.hid hb8
          have HT8 := Lib.hid ((tt.kept g5).kept g6)
          generalize Dk.More Sa wr.drew w5 = Sa2 at HT8
          generalize Dk.More Sb w5 w6 = Sb2 at HT8
          have cra := Dk.pread_c HT8.out.a HF2.out x.a (by have := HXO.out.1.a; omega)
          have CRB : Hid (∀ W, Below w8.heap.size w8 W → Calls Try.prog 20 #[.pointer (some ⟨pb, 0, none⟩), .string xa] W fun e w' => e = .returned (.tuple #[.string (Ty.S (Dk.read D x.a).1), .int .i64 (((Dk.read D x.a).2 : Nat) : Int)]) ∧ Below W.heap.size W w') := Lib.hid fun W g => by
            obtain ⟨_, _, _, _, h⟩ := HT8.out.b.kept g
            rw [← HXA.out]
            refine (Dk.rread_c h HF2.out.inv HF2.out.short.len x.a).mono ?_
            rintro e w' ⟨he, m, hw'⟩
            exact ⟨he, by rw [hw']; exact Bt.drewN_below _ _⟩
          have CNA : Hid (∀ W, Below w8.heap.size w8 W → Calls Try.prog 22 #[.pointer (some ⟨pa, 0, none⟩)] W fun e w' => ∃ v, e = .returned v ∧ Tx.Own W.heap.size w' v (Dk.names D) ∧ Below W.heap.size W w') := Lib.hid fun W g => Dk.pnames_c (HT8.out.a.kept g) HF2.out
          have CNB : Hid (∀ W, Below w8.heap.size w8 W → Calls Try.prog 23 #[.pointer (some ⟨pb, 0, none⟩)] W fun e w' => ∃ v, e = .returned v ∧ Tx.Own W.heap.size w' v (Dk.names D) ∧ Below W.heap.size W w') := Lib.hid fun W g => by
            obtain ⟨_, _, _, _, h⟩ := HT8.out.b.kept g
            exact Dk.rnames_c h HF2.out.short.len
          have hnl := Dk.names_len HGN.out
          rw [HXA.out] at cra
          have hx := Tx.S_yes (Dk.read D x.a).1
          generalize (Dk.read D x.a).1 = R at cra CRB hx
          generalize (Dk.read D x.a).2 = RE at cra CRB
          generalize Ty.S R = sr at cra CRB hx
          generalize Dk.names D = Nm at CNA CNB hnl
          have hRE : ((RE : Int) != (RE : Int)) = false := by simp
          obtain ⟨_, e1, _⟩ := HCE.out w8 HB8.out
          clear p1 p2 g5 g6 tt bt hb8 CD CR CHa CHb TD BD1 hEE hHH
          go_wp2_with fail
          with_reducible refine cra.mono ?_
          rintro e wa ⟨rfl, ga⟩
          have HBa := Lib.hid ga
          obtain ⟨_, e1, _⟩ := HCE.out wa (HB8.out.trans (ga.mono (Nat.le_trans HBB.out HB8.out.size)))
          have crb := CRB.out wa ga
          clear cra ga
          go_wp2_with fail
          with_reducible refine crb.mono ?_
          rintro e wb ⟨rfl, gb⟩
          have HBb := Lib.hid (HBa.out.trans (gb.mono HBa.out.size))
          have cna := CNA.out wb HBb.out
          clear crb gb
          go_wp2_with fail
          with_reducible refine cna.mono ?_
          rintro e wc ⟨va, rfl, hOa, gc⟩
          have HBc := Lib.hid (HBb.out.trans (gc.mono HBb.out.size))
          have HOa := Lib.hid hOa
          have cnb := CNB.out wc HBc.out
          clear cna gc hOa
          go_wp2_with fail
          with_reducible refine cnb.mono ?_
          rintro e wd ⟨vb, rfl, hOb, gd⟩
          have HBd := Lib.hid (HBc.out.trans (gd.mono HBc.out.size))
          have csm := Tx.same_c va vb Nm wd (Tx.Own.at (Bt.Buf.kept HOa.out gd)) (Tx.Own.at hOb) (by omega)
          clear cnb gd hOb
          go_wp2_with fail
          with_reducible refine csm.mono ?_
          rintro e we ⟨rfl, ge⟩
          have HBe := Lib.hid (HBd.out.trans (ge.mono HBd.out.size))
          have HTe := Lib.hid (HT8.out.kept HBe.out)
          have hble := HB8.out.trans (HBe.out.mono (Nat.le_trans HBB.out HB8.out.size))
          have HBLE := Lib.hid hble
          clear csm ge hnl hble
          go_wp2
          go_roundw
          case rel => exact ⟨q + 1, D, Sa2, Sb2, by omega, by simp, HGN.out, HTe.out, HB.out.trans HBLE.out, HUU.out.below HBLE.out⟩
          case measure => simp [intOf]; omega
    · obtain rfl : q = M.length := by omega
      have hqi : ¬ (M.length : Int) < (M.length : Int) := by omega
      have hfit := HG.out.fit (show M.length ≤ 100000 by have := HM.out.2; omega)
      have cra := Dk.pread_c hT.a hfit s (by have := HSL.out; omega)
      have CRB : Hid (∀ W, Below wr.heap.size wr W → Calls Try.prog 20 #[.pointer (some ⟨pb, 0, none⟩), .string ss] W fun e w' => e = .returned (.tuple #[.string (Ty.S (Dk.read d s).1), .int .i64 (((Dk.read d s).2 : Nat) : Int)]) ∧ Below W.heap.size W w') := Lib.hid fun W g => by
        obtain ⟨_, _, _, _, h⟩ := HT.out.b.kept g
        rw [← HSS.out]
        refine (Dk.rread_c h hfit.inv hfit.short.len s).mono ?_
        rintro e w' ⟨he, m, hw'⟩
        exact ⟨he, by rw [hw']; exact Bt.drewN_below _ _⟩
      rw [HSS.out] at cra
      have hx := Tx.S_yes (Dk.read d s).1
      generalize (Dk.read d s).1 = R at cra CRB hx
      generalize (Dk.read d s).2 = RE at cra CRB
      generalize Ty.S R = sr at cra CRB hx
      have hRE : ((RE : Int) == (RE : Int)) = true := by simp
      clear hG hT hB hU hfit hq
      go_wp2_with fail
      with_reducible refine cra.mono ?_
      rintro e wa ⟨rfl, ga⟩
      have HBa := Lib.hid ga
      have crb := CRB.out wa ga
      clear cra ga
      go_wp2_with fail
      with_reducible refine crb.mono ?_
      rintro e wb ⟨rfl, gb⟩
      have HBb := Lib.hid (HBa.out.trans (gb.mono HBa.out.size))
      clear crb gb
      go_wp2
      go_ret
      exact ⟨rfl, HB.out.trans (HBb.out.mono HB.out.size)⟩
end Go.Proofs.Ytfkdkdkdpenblaa
